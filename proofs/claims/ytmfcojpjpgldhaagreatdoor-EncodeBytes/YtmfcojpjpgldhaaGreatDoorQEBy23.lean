/- Texts that the claim needs. -/
import Derived.Test.YtmfcojpjpgldhaaGreatDoorQEBy16
import Derived.Lib.Overlaps
import Derived.Lib.AppendZerosOnto
import Derived.Laws.IdiomCopy
import Derived.Laws.NewBlocks
import Derived.Laws.Externs
import Derived.Shelf.Spec.SlicesInsertGrow
import Derived.Deep.RegionLaw
import Derived.Test.YtmfcojpjpgldhaaGreatDoorQEBy22
import Derived.Lib.ConvBytes
namespace Go.Proofs.YtmfcojpjpgldhaaGreatDoor
open Go.RowKit aA Enc Go.Lib Go.Proofs.Tryz
set_option linter.unusedVariables false
set_option maxRecDepth 100000
set_option maxHeartbeats 4000000
namespace Enc
theorem BZ (g:Nat) (t:TypeId):∀(vs:List Value) (o:Nat) (w:World) (cur:Array Value),w.heap[g]?=some (.cells cur t (0,0))->o+vs.length<=cur.size ->
  ∃cur',(w.setCells g o vs).heap[g]?=some (.cells cur' t (0,0))/\cur'.toList=cur.toList.take o++vs++cur.toList.drop (o+vs.length)
 | [],o,w,cur,h,_=>⟨cur,h,by simp⟩
 | v :: r,o,w,cur,h,hl=>by
  simp only [bI] at hl;obtain ⟨cur',h1,h2⟩:=BZ g t r (o+1) (w.setCell ⟨g,o,none⟩ v) (cur.setIfInBounds o v) (heap_setCell_same w g o cur t v h) (by rw [Array.size_setIfInBounds];omega);refine ⟨cur',h1,?_⟩;rw [h2,Array.toList_setIfInBounds];have hs:o<cur.toList.length:=by rw [Array.length_toList];omega
  have e1:(cur.toList.set o v).take (o+1)=cur.toList.take o++[v]:=by
   rw [List.take_add_one,List.take_set_of_le (aI o),List.getElem?_set_self hs];rfl
  have e2:(cur.toList.set o v).drop (o+1+r.length)=cur.toList.drop (o+1+r.length):=List.drop_set_of_lt (by omega);rw [e1,e2];simp only [bI,bf,iy,ed];rw [show o+1+r.length=o+(r.length+1) by omega]
theorem FK (g k:Nat) (hk:k≠g):∀(vs:List Value) (o:Nat) (w:World),(w.setCells g o vs).heap[k]?=w.heap[k]?
 | [],_,_=>rfl
 | v :: r,o,w=>by
  rw [World.setCells,FK g k hk r,heap_setCell_other w ⟨g,o,none⟩ k v hk]
theorem FL (g:Nat):∀(vs:List Value) (o:Nat) (w:World),(w.setCells g o vs).heap.size=w.heap.size
 | [],_,_=>rfl
 | v :: r,o,w=>by rw [World.setCells,FL g r];simp
theorem vz (g:Nat):∀(vs:List Value) (o:Nat) (w:World),w.grownBy (w.setCells g o vs) (some g)
 | [],_,w=>⟨rfl,rfl,rfl,aI _,λ_ _ _=>rfl⟩
 | v :: r,o,w=>by
  have h:=vz g r (o+1) (w.setCell ⟨g,o,none⟩ v)
  exact ⟨h.os.trans rfl,h.2.trans rfl,h.3.trans rfl,by rw [World.setCells];have:=h.size;simpa using this,λk hk hn=>by
   rw [World.setCells,h.block k (by simpa using hk) hn,heap_setCell_other w ⟨g,o,none⟩ k v (by intro e;exact hn (by rw [show k=g from e]))]⟩
theorem cells_one (bs:List Int):∀u ∈ cells bs,u.oneCell'=true:=by
 intro u hu;unfold cells at hu;obtain ⟨x,_,rfl⟩:=List.mem_map.1 hu;rfl
theorem B0 (a b:List Int):cells (a++b)=cells a++cells b:=by unfold cells;rw [zA]
theorem JQ (a:List Int) (i:Nat):cells (a.take i)=(cells a).take i:=by unfold cells;rw [List.map_take]
theorem JR (a:List Int) (i:Nat):cells (a.drop i)=(cells a).drop i:=by unfold cells;rw [List.map_drop]
theorem kO (a:List Int):(cells a).length=a.length:=by unfold cells;rw [oI]
theorem Qf {P:Program} (w:World) (tS tR e:TypeId) (ht:P.underlying tS=some (.slice e)) (size:Nat) (hz:∀w,(Go.sizeOf e).run P w=.ok size w)
  (a b:Addr) (la ca lb cb:Nat) (hne:a.block≠b.block) (tA tB:TypeId) (kA kB:Nat)
  (hsa:w.shape? a.block=some (tA,kA)) (hsb:w.shape? b.block=some (tB,kB)) (FM:kA≠0)
  (hfa:w.frozen? a=false) (zi:w.frozen? b=false) (hfe:w.frozen? { block:=b.block,off:=kB }=false) :
  (Extern.SlicesOverlaps.overlaps #[tS,tS] #[tR] #[.slice (some a) la ca,.slice (some b) lb cb]).run P w=.ok (.bool false) w:=by
 have hnb:(a.block != b.block)=true:=by simpa using hne
 have hnb':(a.block==b.block)=false:=by simpa using hne
 change Sem.run P (α:=Value) (do
  let some t := (#[tS, tS] : Array TypeId)[0]? | stuck "slices.overlaps: no parameter types"
  let .slice elem ← underlying t | stuck "slices.overlaps: slice type expected"
  let size <- sizeOf elem
  match (some a:Option Addr),(some b:Option Addr) with
  | some a,some b =>
   if la=0\/lb=0\/size=0 then pure (Value.bool false)
   else if a.block != b.block&&(<- frozen a)&&(<- frozen b) then unsupported .addressObserved
   else do
    if a.block != b.block then do
     noView a;noView b
     if ← mayBeOne a b then return Value.bool ((← choose (.extern "sameAddr.stringBytes" 2)) == 1)
    pure (Value.bool (a.block==b.block&&a.off<b.off+lb*size&&b.off<a.off+la*size))
  | _,_=>pure (Value.bool false)) w=_
 by_cases h0:la=0\/lb=0\/size=0
 ·simp [run_underlying ht,hz,h0]
 cases kA with
 | zero=>exact absurd rfl FM
 | succ kA =>
  cases hq:w.frozen? { block:=a.block,off:=kA+1 }<;>simp [run_underlying ht,hz,h0,hnb,hnb',frozen,noView,viewAt,mayBeOne,stringish,shape,Sem.run,hsa,hsb,hfa,zi,hfe,hq]
end Enc
theorem Qg (b n c i vb m vc:Nat) (cs vs:List Value) (w:World) (hi:i<n) (hm:0<m) (hroom:n+m<=c) (aaP:c<=9223372036854775807) (hvb:vb≠b)
  (hcl:cs.length=n) (hvl:vs.length=m)
  (hcs:∀j v,cs[j]?=some v->w.cell? ⟨b,j,none⟩=some v) (hsp:∀j,j<n+m->(w.cell? ⟨b,j,none⟩).isSome=true) (hfz:∀j,w.frozen? ⟨b,j,none⟩=false)
  (hvs:∀j v,vs[j]?=some v->w.cell? ⟨vb,j,none⟩=some v) (h1c:∀v ∈ cs,v.oneCell'=true) (FN:∀v ∈ vs,v.oneCell'=true)
  (tA tB:TypeId) (kA kB:Nat) (hsa:w.shape? vb=some (tA,kA)) (hsb:w.shape? b=some (tB,kB)) (FM:kA≠0) (hfa:w.frozen? ⟨vb,0,none⟩=false) :
  Calls prog 85 #[.slice (some ⟨b,0,none⟩) n c,.int .i64 i,.slice (some ⟨vb,0,none⟩) m vc] w λe w' =>
   e=.returned (.slice (some ⟨b,0,none⟩) (n+m) c)/\w'=(w.drew.setCells b (i+m) (cs.drop i)).setCells b i vs:=by
 have hz1:¬ ((m:Int)=0):=by omega
 have hz2:¬ ((i:Int)=(n:Int)):=by omega
 have JS:¬ ((c:Int)<(n:Int)+(m:Int)):=by omega
 have hsz:(prog.info? 5).map (·.size)=some 1:=by
  obtain ⟨i0,hi0,h0,h1,h2⟩:=info_parts yf;rw [hi0];simp [h1]
 have hzz:∀w,(Go.sizeOf 5).run prog w=.ok 1 w:=λw=>by kernel_rfl
 have hov:∀lb cb,(callFunc 112 #[.slice (some ⟨vb,0,none⟩) m vc,.slice (some ⟨b,i+m,none⟩) lb cb]).run prog w=.ok (.value (.bool false)) w:=λlb cb=>by
  rw [run_callFunc_extern func112 (by kernel_rfl) (by kernel_rfl) (by kernel_rfl) (e:=Extern.SlicesOverlaps.overlaps #[59,59] #[4]) (by kernel_rfl),
   Qf w 59 4 5 underlying59 1 hzz ⟨vb,0,none⟩ ⟨b,i+m,none⟩ m vc lb cb hvb tA tB kA kB hsa hsb FM hfa (hfz _) (hfz _)]
  rfl
 have hdl:(cs.drop i).length=n-i:=by rw [p7,hcl]
 have hw1:IntKind.i64.wrap ((i:Int)+(m:Int))=(i:Int)+(m:Int):=by rw [IntKind.wrap_i64];omega
 have hw2:IntKind.i64.wrap ((n:Int)+(m:Int))=(n:Int)+(m:Int):=by rw [IntKind.wrap_i64];omega
 have hb1:(0:Int)<=(i:Int)+(m:Int):=by omega
 have hin:i<=n:=by omega
 have htn:((i:Int)+(m:Int)).toNat=i+m:=by omega
 have hb2:¬ (c=i+m):=by omega
 have hb3:(i:Int)<=(n:Int)+(m:Int):=by omega
 have hb4:¬ (c=i):=by omega
 have JU:∀ty dc sc,(Builtin.copy_ #[59,59] ty #[.slice (some ⟨b,i+m,none⟩) (n+m-(i+m)) dc,.slice (some ⟨b,i,none⟩) (n+m-i) sc]).run prog w.drew=.ok (goInt (cs.drop i).length) (w.drew.setCells b (i+m) (cs.drop i)):=λty dc sc =>
  run_copy_cells w.drew _ _ ty 5 b (i+m) (n+m-(i+m)) dc ⟨b,i,none⟩ (n+m-i) sc (cs.drop i) underlying59 hsz (by rw [hdl];simp only [Nat.min_def];split<;>omega)
   (λj v hj=>by rw [Addr.add_lit];exact hcs (i+j) v (by rwa [List.getElem?_drop] at hj))
   (λj hj=>hsp _ (by omega)) (λj hj=>hfz _) (λv hv=>h1c v (List.mem_of_mem_drop hv))
 obtain ⟨W1,hW1⟩:∃W1,W1=w.drew.setCells b (i+m) (cs.drop i):=⟨_,rfl⟩
 have Qh:∀k,k<n+m->(W1.cell? ⟨b,k,none⟩).isSome=true:=λk hk=>by
  rw [hW1];exact isSome_setCells b (cs.drop i) (i+m) w.drew (λj hj=>hsp (i+m+j) (by omega)) k (hsp k hk)
 have Qi:∀(W:World),(∀x,W.cell? x=W1.cell? x)->(∀x,W.frozen? x=W1.frozen? x)->∀ty dc,(Builtin.copy_ #[59,59] ty #[.slice (some ⟨b,i,none⟩) (n+m-i) dc,.slice (some ⟨vb,0,none⟩) m vc]).run prog W=.ok (goInt vs.length) (W.setCells b i vs):=λW yg Ca ty dc =>
  run_copy_cells W _ _ ty 5 b i (n+m-i) dc ⟨vb,0,none⟩ m vc vs underlying59 hsz (by rw [hvl];simp only [Nat.min_def];split<;>omega)
   (λj v hj=>by
    rw [Addr.add_lit,Nat.zero_add,yg,hW1,World.cell?_setCells_out b _ _ _ _ (λh _=>absurd h hvb)];exact hvs j v hj)
   (λj hj=>by rw [yg];exact Qh _ (by omega)) (λj hj=>by rw [Ca,hW1,World.frozen?_setCells];exact hfz _) FN
 rw [<- hW1] at JU;go_enter func85,ntmps85;go_wp2_with (simp only [hov]);go_region_law (refine step_copy_runI rfl _ _ 59 59 rfl _ _ (by simp [Act.eval,Act.put]) (by simp [Act.eval,Act.put]) (JU _ _ _) ?_);go_wp2_with (at_builtin;refine wpList_copy_runI _ rfl _ _ 59 59 rfl _ _ rfl rfl (Qi _ (λ_=>rfl) (λ_=>rfl) _ _) ?_);go_ret
 first|exact ⟨rfl,rfl⟩|exact ⟨rfl,by rw [hW1]⟩
theorem Qj (b n c i vb m vc:Nat) (cs vs:List Value) (w:World) (hi:i<n) (hm:0<m) (hnc:n<=c) (hroom:c<n+m) (hbig:n+m<=140737488355328)
  (hcl:cs.length=n) (hvl:vs.length=m)
  (hcs:∀j v,cs[j]?=some v->w.cell? ⟨b,j,none⟩=some v)
  (hvs:∀j v,vs[j]?=some v->w.cell? ⟨vb,j,none⟩=some v) (h1c:∀v ∈ cs,v.oneCell'=true) (FN:∀v ∈ vs,v.oneCell'=true) :
  Calls prog 85 #[.slice (some ⟨b,0,none⟩) n c,.int .i64 i,.slice (some ⟨vb,0,none⟩) m vc] w λe w' =>
   e=.returned (.slice (some ⟨w.heap.size,0,none⟩) (n+m) (grownCap w (n+m) c 5)) /\
   w'=(((w.alloc (.cells ((cs.take i).toArray++Builtin.zeroCells (Value.int .u8 0).cells (n+m-i)++Builtin.zeroCells (Value.int .u8 0).cells (grownCap w (n+m) c 5-(n+m))) 5)).drew.setCells w.heap.size i vs).drew).setCells w.heap.size (i+m) (cs.drop i):=by
 obtain ⟨i0,hi0,hz0,hzs,hzb⟩:=info_parts yf;have hz1:¬ ((m:Int)=0):=by omega
 have hz2:¬ ((i:Int)=(n:Int)):=by omega
 have JS:(c:Int)<(n:Int)+(m:Int):=by omega
 have hsz:(prog.info? 5).map (·.size)=some 1:=by rw [hi0];simp [hzs]
 have hbw:b<w.heap.size:=block_lt_of_cell (hcs 0 _ (aY (by omega)));have Qk:vb<w.heap.size:=block_lt_of_cell (hvs 0 _ (aY (by omega)));have hkk:(n:Int)+(m:Int)-(i:Int)=((n+m-i:Nat):Int):=by omega
 have hik:i+(n+m-i)=n+m:=by omega
 have hold:(Builtin.firstCells i0.size i (.slice (some ⟨b,0,none⟩) i c)).run prog w.drew=.ok (cs.take i).toArray w.drew:=by
  rw [hzs]
  exact run_firstCells_some w.drew 1 i ⟨b,0,none⟩ i c (cs.take i) (by rw [jY];omega) (λj v hj=>by
   rw [Addr.add_lit,Nat.zero_add];rw [List.getElem?_take] at hj;split at hj
   ·exact hcs j v hj
   cases hj)
 have DW:∀ty,(Builtin.append_ #[59,3] ty #[.slice (some ⟨b,0,none⟩) i c,.int .i64 ((n:Int)+(m:Int)-(i:Int))]).run prog w =
   .ok (.slice (some ⟨w.heap.size,0,none⟩) (n+m) (grownCap w (n+m) c 5)) (w.drew.alloc (.cells ((cs.take i).toArray++Builtin.zeroCells (Value.int .u8 0).cells (n+m-i)++Builtin.zeroCells (Value.int .u8 0).cells (grownCap w (n+m) c 5-(n+m))) 5)):=λty=>by
  have h:=Lib.run_append_grow_zeros w 59 3 ty 5 i0 _ .i64 .i64 underlying59 underlying3 hi0 hz0 (some ⟨b,0,none⟩) i c (cs.take i) hold (n+m-i) (by omega) (by omega) (by omega) (by omega) (by rw [hzb];omega) (by rw [hzb,hik];exact growslice_fits hroom (by omega));rw [hik] at h;rw [hkk];exact h
 obtain ⟨G,hG⟩:∃G,G=grownCap w (n+m) c 5:=⟨_,rfl⟩;obtain ⟨ROW,zC⟩:∃ROW:Array Value,ROW=(cs.take i).toArray++Builtin.zeroCells (Value.int .u8 0).cells (n+m-i)++Builtin.zeroCells (Value.int .u8 0).cells (G-(n+m)):=⟨_,rfl⟩;rw [<- hG] at DW ⊢;rw [<- zC] at DW ⊢
 have JV:n+m<=ROW.size:=by
  rw [zC];simp [Builtin.zeroCells,Value.cells];omega
 obtain ⟨W1,hW1⟩:∃W1,W1=w.drew.alloc (.cells ROW 5):=⟨_,rfl⟩;rw [<- hW1] at DW
 have hN:∀j,j<n+m->(W1.cell? ⟨w.heap.size,j,none⟩).isSome=true:=λj hj=>by
  rw [hW1,World.cell?_alloc_at (w:=w.drew) ROW _ w.heap.size j rfl,uz (by omega)];rfl
 have hNf:∀j,W1.frozen? ⟨w.heap.size,j,none⟩=false:=λj=>by rw [hW1];exact World.frozen?_alloc_at (w:=w.drew) ROW _ w.heap.size j rfl
 have Ql:∀j v,w.cell? ⟨b,j,none⟩=some v->W1.cell? ⟨b,j,none⟩=some v:=λj v h=>by rw [hW1,World.cell?_alloc_past (w:=w.drew) _ b j hbw];exact h
 have Qm:∀j v,w.cell? ⟨vb,j,none⟩=some v->W1.cell? ⟨vb,j,none⟩=some v:=λj v h=>by rw [hW1,World.cell?_alloc_past (w:=w.drew) _ vb j Qk];exact h
 have Qn:∀(W:World),(∀x,W.cell? x=W1.cell? x)->(∀x,W.frozen? x=W1.frozen? x)->∀ty dc,(Builtin.copy_ #[59,59] ty #[.slice (some ⟨w.heap.size,i,none⟩) (n+m-i) dc,.slice (some ⟨vb,0,none⟩) m vc]).run prog W=.ok (goInt vs.length) (W.setCells w.heap.size i vs):=λW yg Ca ty dc =>
  run_copy_cells W _ _ ty 5 w.heap.size i (n+m-i) dc ⟨vb,0,none⟩ m vc vs underlying59 hsz (by rw [hvl];simp only [Nat.min_def];split<;>omega)
   (λj v hj=>by rw [Addr.add_lit,Nat.zero_add,yg];exact Qm _ v (hvs j v hj))
   (λj hj=>by rw [yg];exact hN _ (by omega)) (λj hj=>by rw [Ca];exact hNf _) FN
 have hGn:n+m<=G:=by rw [hG];exact grownCap_ge w _ _ _
 have aaQ:G<=9223372036854775807:=by
  have:=grownCap_le_maxLen w (n+m) c 5 (by unfold maxLen;omega)
  rw [<- hG] at this;unfold maxLen at this;omega
 have hGi:¬ (G=i):=by omega
 have aaR:¬ (G=i+m):=by omega
 have hci:¬ (c=i):=by omega
 have Qo:b≠w.heap.size:=by omega
 have hdl:(cs.drop i).length=n-i:=by rw [p7,hcl]
 have JW:∀(W:World),(∀x,W.cell? x=(W1.setCells w.heap.size i vs).cell? x)->(∀x,W.frozen? x=(W1.setCells w.heap.size i vs).frozen? x)->∀ty dc sc,(Builtin.copy_ #[59,59] ty #[.slice (some ⟨w.heap.size,i+m,none⟩) (n+m-(i+m)) dc,.slice (some ⟨b,i,none⟩) (n-i) sc]).run prog W=.ok (goInt (cs.drop i).length) (W.setCells w.heap.size (i+m) (cs.drop i)):=λW yg Ca ty dc sc =>
  run_copy_cells W _ _ ty 5 w.heap.size (i+m) (n+m-(i+m)) dc ⟨b,i,none⟩ (n-i) sc (cs.drop i) underlying59 hsz (by rw [hdl];simp only [Nat.min_def];split<;>omega)
   (λj v hj=>by
    rw [Addr.add_lit,yg,World.cell?_setCells_out _ _ _ _ _ (λh _=>absurd h Qo)];exact Ql _ v (hcs (i+j) v (by rwa [List.getElem?_drop] at hj)))
   (λj hj=>by rw [yg];exact isSome_setCells _ _ _ _ (λt ht=>hN _ (by omega)) _ (hN _ (by omega)))
   (λj hj=>by rw [Ca,World.frozen?_setCells];exact hNf _) (λv hv=>h1c v (List.mem_of_mem_drop hv))
 subst hW1;have Qp:∀x,((w.alloc (.cells ROW 5)).drew).cell? x=(w.drew.alloc (.cells ROW 5)).cell? x:=λx=>rfl;have Qq:∀x,((w.alloc (.cells ROW 5)).drew).frozen? x=(w.drew.alloc (.cells ROW 5)).frozen? x:=λx=>rfl;have p9:∀x,(((w.alloc (.cells ROW 5)).drew.setCells w.heap.size i vs).drew).cell? x=((w.drew.alloc (.cells ROW 5)).setCells w.heap.size i vs).cell? x:=λx=>rfl;have hF2:∀x,(((w.alloc (.cells ROW 5)).drew.setCells w.heap.size i vs).drew).frozen? x=((w.drew.alloc (.cells ROW 5)).setCells w.heap.size i vs).frozen? x:=λx=>rfl;have hw1:IntKind.i64.wrap ((i:Int)+(m:Int))=(i:Int)+(m:Int):=by rw [IntKind.wrap_i64];omega
 have hb1:(0:Int)<=(i:Int)+(m:Int):=by omega
 have hin:i<=n:=by omega
 have htn:((i:Int)+(m:Int)).toNat=i+m:=by omega
 have hb3:(i:Int)<=(n:Int):=by omega
 clear hkk hik hold zC hG JV;go_enter func85,ntmps85
 go_wp2_with (first
  | (at_builtin;refine Lib.wpList_append_run _ rfl _ _ _ _ rfl _ _ rfl rfl _ _ (DW _) ?_)
  | (at_builtin;refine wpList_copy_runI _ rfl _ _ 59 59 rfl _ _ rfl rfl (Qn _ Qp Qq _ _) ?_)
  | (at_builtin;refine wpList_copy_runI _ rfl _ _ 59 59 rfl _ _ rfl rfl (JW _ (λ_=>rfl) (λ_=>rfl) _ _ _) ?_))
 go_region_law (refine step_copy_runI rfl _ _ 59 59 rfl (.slice (some ⟨w.heap.size,i+m,none⟩) (n+m-(i+m)) (G-(i+m))) (.slice (some ⟨b,i,none⟩) (n-i) (c-i)) (by simp [Act.eval,Act.put]) (by simp [Act.eval,Act.put]) (JW _ p9 hF2 3 (G-(i+m)) (c-i)) ?_);go_wp2;go_ret;exact ⟨rfl,rfl⟩
namespace Enc
def DX (B:Nat) (v:Value) (bs:List Int) (w:World) (e:Ending) (w':World):Prop:=∃v',e=.returned v'/\w'.ownsRow B 5 1 v' bs.length (cells bs)/\w.grownBy w' v.ownBlock/\(v'.ownBlock=v.ownBlock\/v'.ownBlock=some w.heap.size)
theorem Qr {w:World} {g:Nat} {cur:Array Value} {t:TypeId} (h:w.heap[g]?=some (.cells cur t (0,0))) (j:Nat):w.frozen? ⟨g,j,none⟩=false:=by unfold World.frozen?;rw [h];simp
theorem Qs {w:World} {g:Nat} {cur:Array Value} {t:TypeId} (h:w.heap[g]?=some (.cells cur t (cur.size,cur.size+1))) (h0:0<cur.size):w.frozen? ⟨g,0,none⟩=false:=by
 unfold World.frozen?;rw [h];show (decide (cur.size<=0)&&decide (0<cur.size+1))=false;rw [au (by omega)];rfl
theorem JX {w:World} {g:Nat} {cur:Array Value} {t:TypeId} {fr:Nat × Nat} (h:w.heap[g]?=some (.cells cur t fr)):w.shape? g=some (t,cur.size):=by unfold World.shape?;rw [h]
end Enc
theorem Qt (B:Nat) (v:Value) (bs xs:List Int) (vb vc:Nat) (cur:Array Value) (w:World) (hown:w.ownsRow B 5 1 v bs.length (cells bs)) (hB:B<=w.heap.size) (hm:0<xs.length) (hbig:bs.length+xs.length<=140737488355328)
  (hvb:w.heap[vb]?=some (.cells cur 5 (cur.size,cur.size+1))) (hvs:∀(j:Nat) (u:Value),(cells xs)[j]?=some u->cur[j]?=some u) (hne:v.ownBlock≠some vb) :
  Calls prog 85 #[v,.int .i64 bs.length,.slice (some ⟨vb,0,none⟩) xs.length vc] w (DX B v (bs++xs) w):=by
 obtain ⟨i0,hi,hz0,hz1,hz2⟩:=info_parts yf
 have hnews:∀j u,(cells xs)[j]?=some u->w.cell? ((⟨vb,0,none⟩:Addr).add j)=some u:=λj u hu=>by
  rw [Addr.add_lit,Nat.zero_add,cell_of_row w vb j cur _ _ hvb];exact hvs j u hu
 have JS:¬ ((xs.length:Int)=0):=by omega
 have HE:Hid (∀v' w9,w9.ownsRow B 5 1 v' (bs.length+xs.length) (cells bs++cells xs)->w.grownBy w9 v.ownBlock->(v'.ownBlock=v.ownBlock\/v'.ownBlock=some w.heap.size)->DX B v (bs++xs) w (.returned v') w9):=aa λv' w9 h1 h2 h3=>⟨v',rfl,by rw [aB,B0];exact h1,h2,h3⟩;have HO:=aa hown
 have tZ:∃o k,v=.slice o bs.length k:=by
  rcases hown.2 with ⟨rfl,h0⟩|⟨g,cap,cur,rfl,_⟩
  ·rw [h0];exact ⟨none,0,rfl⟩
  exact ⟨_,_,rfl⟩
 have hcap:∀o k,v=.slice o bs.length k->(o=none->k=0)/\bs.length<=k:=by
  rintro o k rfl;rcases hown.2 with ⟨h,h0⟩|⟨g,cap,cur,h,_,_,hk,_⟩
  ·injection h with h1 h2 h3;exact ⟨λ_=>h3,by omega⟩
  injection h with h1 h2 h3;exact ⟨λe=>(by rw [e] at h1;cases h1),by omega⟩
 have hrow:(v=.slice none 0 0/\bs.length=0)\/∃g k,v=.slice (some ⟨g,0,none⟩) bs.length k:=by
  rcases hown.2 with h|⟨g,cap,cur,rfl,_⟩
  ·exact .inl h
  exact .inr ⟨_,_,rfl⟩
 clear hown hcap tZ hvs hvb hne;generalize hmm:xs.length=m at *;have hlm:(cells xs).length=m:=by rw [kO];exact hmm
 have FO:=cells_one xs;rcases hrow with ⟨rfl,hn⟩|⟨g,k,rfl⟩
 ·generalize hnn:bs.length=n at *;subst hn;go_enter func85,ntmps85;go_wp2_with (first|(at_builtin;(refine rX rfl _ _ 59 rfl B 5 i0 _ 1 1 underlying59 hi hz0 hz1 hz2 rfl (by decide) _ _ _ rfl HO.out (some ⟨vb,0,none⟩) m vc (cells xs) rfl (λh=>by cases h) (by rw [hlm,Nat.mul_one]) (λad h=>by injection h with h;subst h;exact hnews) FO (by unfold maxLen;omega) (by omega) hB ?_)))
  intro v' w9 h1 h2 h3;have HF:=HE.out v' w9 (by simpa using h1) h2 h3;clear h1 h2 h3;go_wp2;go_ret;exact HF
 generalize hnn:bs.length=n at *;have hk:=(HO.out.2)
 have hnk:n<=k:=by
  rcases hk with ⟨h,_⟩|⟨g',cap,cur',h,_,_,h5,_⟩
  ·cases h
  injection h with _ _ e;omega
 have hkm:k<=9223372036854775807:=by
  rcases hk with ⟨h,_⟩|⟨g',cap,cur',h,_,_,_,h5,_⟩
  ·cases h
  injection h with _ _ e;unfold maxLen at h5;omega
 clear hk;by_cases hkn:k=n
 ·subst hkn;go_enter func85,ntmps85;go_wp2_with (first|(at_builtin;(refine rX rfl _ _ 59 rfl B 5 i0 _ 1 1 underlying59 hi hz0 hz1 hz2 rfl (by decide) _ _ _ rfl HO.out (some ⟨vb,0,none⟩) m vc (cells xs) rfl (λh=>by cases h) (by rw [hlm,Nat.mul_one]) (λad h=>by injection h with h;subst h;exact hnews) FO (by unfold maxLen;omega) (by omega) hB ?_)))
  intro v' w9 h1 h2 h3;have HF:=HE.out v' w9 h1 h2 h3;clear h1 h2 h3;go_wp2;go_ret;exact HF
 go_enter func85,ntmps85;go_wp2_with (first|(at_builtin;(refine rX rfl _ _ 59 rfl B 5 i0 _ 1 1 underlying59 hi hz0 hz1 hz2 rfl (by decide) _ _ _ rfl HO.out (some ⟨vb,0,none⟩) m vc (cells xs) rfl (λh=>by cases h) (by rw [hlm,Nat.mul_one]) (λad h=>by injection h with h;subst h;exact hnews) FO (by unfold maxLen;omega) (by omega) hB ?_)))
 intro v' w9 h1 h2 h3;have HF:=HE.out v' w9 h1 h2 h3;clear h1 h2 h3;go_wp2;go_ret;exact HF
theorem Qu (B:Nat) (v:Value) (bs xs:List Int) (i vb vc:Nat) (cur:Array Value) (w:World) (hown:w.ownsRow B 5 1 v bs.length (cells bs)) (hB:B<=w.heap.size) (hi:i<bs.length) (hm:0<xs.length) (hbig:bs.length+xs.length<=140737488355328)
  (hvb:w.heap[vb]?=some (.cells cur 5 (cur.size,cur.size+1))) (hvs:∀(j:Nat) (u:Value),(cells xs)[j]?=some u->cur[j]?=some u) (hne:v.ownBlock≠some vb) :
  Calls prog 85 #[v,.int .i64 i,.slice (some ⟨vb,0,none⟩) xs.length vc] w (DX B v (bs.take i++(xs++bs.drop i)) w):=by
 rcases hown.2 with ⟨rfl,h0⟩|⟨g,cap,ro,rfl,hbg,hg,hnc,hcm,hcs,htk⟩
 ·omega
 have hrl:ro.toList.length=ro.size:=Array.length_toList;have hgb:vb≠g:=λe=>hne (by rw [e];rfl);simp only [Nat.mul_one] at hcs htk
 have hcl:∀j u,(cells bs)[j]?=some u->w.cell? ⟨g,j,none⟩=some u:=λj u hu=>by
  rw [cell_of_row w g j ro _ _ hg];rw [<- htk,List.getElem?_take] at hu;split at hu
  ·simpa using hu
  cases hu
 have hcv:∀j u,(cells xs)[j]?=some u->w.cell? ⟨vb,j,none⟩=some u:=λj u hu=>by
  rw [cell_of_row w vb j cur _ _ hvb];exact hvs j u hu
 have hl1:(bs.take i++(xs++bs.drop i)).length=bs.length+xs.length:=by
  rw [aB,aB,jY,p7];omega
 have FP:0<cur.size:=by
  have:∃u,(cells xs)[0]?=some u:=⟨_,aY (by rw [kO];exact hm)⟩
  obtain ⟨u,hu⟩:=this;exact (kD.1 (hvs 0 u hu)).1
 by_cases hroom:bs.length+xs.length<=cap
 ·refine (Qg g bs.length cap i vb xs.length vc (cells bs) (cells xs) w hi hm hroom (by unfold maxLen at hcm;omega) hgb (kO bs) (kO xs) hcl (λj hj=>by
   rw [cell_of_row w g j ro _ _ hg,uz (by omega)];rfl) (λj=>Qr hg j) hcv (cells_one bs) (cells_one xs) 5 5 cur.size ro.size (JX hvb) (JX hg) (by omega) (Qs hvb FP)).mono ?_
  rintro e w' ⟨rfl,rfl⟩;refine ⟨_,rfl,?_,?_,.inl rfl⟩
  ·have hdl:((cells bs).drop i).length=bs.length-i:=by rw [p7,kO]
   obtain ⟨c1,g1,e1⟩:=BZ g 5 ((cells bs).drop i) (i+xs.length) w.drew ro hg (by omega)
   have s1:c1.size=ro.size:=by
    have:=congrArg List.length e1
    simp only [aB,jY,p7,Array.length_toList,kO] at this;omega
   obtain ⟨c2,g2,e2⟩:=BZ g 5 (cells xs) i _ c1 g1 (by rw [kO];omega)
   have s2:c2.size=ro.size:=by
    have:=congrArg List.length e2
    simp only [aB,jY,p7,Array.length_toList,kO] at this;omega
   refine ⟨by rw [kO];omega,.inr ⟨g,cap,c2,by rw [hl1],hbg,g2,by omega,hcm,by omega,?_⟩⟩;rw [hl1,Nat.mul_one,e2,e1,kO];have t1:(List.take (i+xs.length) ro.toList).length=i+xs.length:=by rw [jY,hrl];omega
   have e3:List.take i (List.take (i+xs.length) ro.toList++(cells bs).drop i++ro.toList.drop (i+xs.length+((cells bs).drop i).length))=(cells bs).take i:=by
    rw [bf,List.take_append_of_le_length (by omega),List.take_take,Nat.min_eq_left (by omega),<- htk,List.take_take,Nat.min_eq_left (by omega)]
   have e4:List.drop (i+xs.length) (List.take (i+xs.length) ro.toList++(cells bs).drop i++ro.toList.drop (i+xs.length+((cells bs).drop i).length))=(cells bs).drop i++ro.toList.drop (i+xs.length+((cells bs).drop i).length):=by
    rw [bf,List.drop_append_of_le_length (by omega),zz (by omega),ed]
   rw [e3,e4,B0,B0,JQ,JR,<- bf,<- bf,List.take_append_of_le_length (by simp only [aB,jY,hdl,kO];omega),
    jZ (by simp only [aB,jY,hdl,kO];omega)]
  have h1:w.grownBy w.drew (some g):=⟨rfl,rfl,rfl,aI _,λ_ _ _=>rfl⟩;have h2:=vz g ((cells bs).drop i) (i+xs.length) w.drew;have h3:=vz g (cells xs) i (w.drew.setCells g (i+xs.length) ((cells bs).drop i));exact ⟨h3.1.trans h2.1,h3.2.trans h2.2,h3.3.trans h2.3,tL h2.size h3.size,λk hk hn=>(h3.block k (nH hk h2.size) hn).trans (h2.block k hk hn)⟩
 refine (Qj g bs.length cap i vb xs.length vc (cells bs) (cells xs) w hi hm hnc (by omega) hbig (kO bs) (kO xs) hcl hcv (cells_one bs) (cells_one xs)).mono ?_;rintro e w' ⟨rfl,rfl⟩;have hge:=grownCap_ge w (bs.length+xs.length) cap 5;have hcm2:grownCap w (bs.length+xs.length) cap 5<=maxLen:=grownCap_le_maxLen w _ cap 5 (by unfold maxLen;omega);generalize grownCap w (bs.length+xs.length) cap 5=G at hge hcm2 ⊢;obtain ⟨ROW,zC⟩:∃ROW:Array Value,ROW=((cells bs).take i).toArray++Builtin.zeroCells (Value.int .u8 0).cells (bs.length+xs.length-i)++Builtin.zeroCells (Value.int .u8 0).cells (G-(bs.length+xs.length)):=⟨_,rfl⟩;rw [<- zC]
 have hRs:ROW.size=G:=by
  rw [zC];simp [Builtin.zeroCells,Value.cells,kO];omega
 have Qv:ROW.toList.take i=(cells bs).take i:=by
  rw [zC];simp only [Array.toList_append,bf];rw [List.take_append_of_le_length (by show i<=((cells bs).take i).length;rw [jY,kO];omega)];exact jZ (by show ((cells bs).take i).length<=i;rw [jY];omega)
 have g0:((w.alloc (.cells ROW 5)).drew).heap[w.heap.size]?=some (.cells ROW 5 (0,0)):=heap_alloc_new w _;have hdl:((cells bs).drop i).length=bs.length-i:=by rw [p7,kO]
 obtain ⟨c1,g1,e1⟩:=BZ w.heap.size 5 (cells xs) i _ ROW g0 (by rw [kO];omega)
 have s1:c1.size=ROW.size:=by
  have:=congrArg List.length e1
  simp only [aB,jY,p7,Array.length_toList,kO] at this;omega
 have g1':(((w.alloc (.cells ROW 5)).drew.setCells w.heap.size i (cells xs)).drew).heap[w.heap.size]?=some (.cells c1 5 (0,0)):=g1;obtain ⟨c2,g2,e2⟩:=BZ w.heap.size 5 ((cells bs).drop i) (i+xs.length) _ c1 g1' (by omega)
 have s2:c2.size=ROW.size:=by
  have:=congrArg List.length e2
  simp only [aB,jY,p7,Array.length_toList,kO] at this;omega
 refine ⟨_,rfl,⟨by rw [kO];omega,.inr ⟨w.heap.size,G,c2,by rw [hl1],hB,g2,by omega,hcm2,by omega,?_⟩⟩,?_,.inr rfl⟩
 ·rw [hl1,Nat.mul_one,e2,e1,Qv,kO]
  have e3:List.take (i+xs.length) ((cells bs).take i++cells xs++ROW.toList.drop (i+xs.length))=(cells bs).take i++cells xs:=by
   rw [List.take_append_of_le_length (by simp only [aB,jY,kO];omega),jZ (by simp only [aB,jY,kO];omega)]
  rw [e3,B0,B0,JQ,JR,<- bf,List.take_append_of_le_length (by simp only [aB,jY,hdl,kO];omega),
   jZ (by simp only [aB,jY,hdl,kO];omega)]
 refine ⟨?_,?_,?_,?_,λk hk hn=>?_⟩
 ·rw [(vz w.heap.size ((cells bs).drop i) (i+xs.length) _).1];exact (vz w.heap.size (cells xs) i _).1
 ·rw [(vz w.heap.size ((cells bs).drop i) (i+xs.length) _).2];exact (vz w.heap.size (cells xs) i _).2
 ·rw [(vz w.heap.size ((cells bs).drop i) (i+xs.length) _).3];exact (vz w.heap.size (cells xs) i _).3
 ·rw [FL];show w.heap.size<=((w.alloc (.cells ROW 5)).drew.setCells w.heap.size i (cells xs)).heap.size;rw [FL];show w.heap.size<=(w.alloc (.cells ROW 5)).heap.size;simp
 rw [FK _ k (by omega)];show ((w.alloc (.cells ROW 5)).drew.setCells w.heap.size i (cells xs)).heap[k]?=_;rw [FK _ k (by omega)];exact (aU w _).block k hk
theorem JY (B:Nat) (v:Value) (bs xs:List Int) (i vb vc:Nat) (cur:Array Value) (w:World) (hown:w.ownsRow B 5 1 v bs.length (cells bs)) (hB:B<=w.heap.size) (hi:i<=bs.length) (hm:0<xs.length) (hbig:bs.length+xs.length<=140737488355328)
  (hvb:w.heap[vb]?=some (.cells cur 5 (cur.size,cur.size+1))) (hvs:∀(j:Nat) (u:Value),(cells xs)[j]?=some u->cur[j]?=some u) (hne:v.ownBlock≠some vb) :
  Calls prog 85 #[v,.int .i64 i,.slice (some ⟨vb,0,none⟩) xs.length vc] w (DX B v (bs.take i++(xs++bs.drop i)) w):=by
 rcases Nat.lt_or_eq_of_le hi with h|rfl
 ·exact Qu B v bs xs i vb vc cur w hown hB h hm hbig hvb hvs hne
 rw [List.take_length,List.drop_length,List.append_nil];exact Qt B v bs xs vb vc cur w hown hB hm hbig hvb hvs hne
namespace Enc
theorem Bc (xs:List Int):(strOfNums xs).size=xs.length:=by
 unfold strOfNums ByteArray.size;simp
theorem Ot (w:World) (e:TypeId) (s:ByteArray):Below w.heap.size w (Lib.bytesWorld w e s) :=
 ⟨rfl,rfl,rfl,by rw [Lib.bytesWorld_size];omega,λk hk=>Lib.bytesWorld_at_old w e s k hk⟩
theorem Ou (w:World) (e:TypeId) (xs:List Int) (hbd:∀x ∈ xs,0<=x/\x<=255) (j:Nat) (u:Value) (hu:(cells xs)[j]?=some u):(Lib.bytesCells w e (strOfNums xs))[j]?=some u:=by
 have h1:=Ea xs hbd;rw [<- h1] at hu;unfold strCells at hu;unfold Lib.bytesCells
 have hj:j<(strOfNums xs).data.size:=by
  have:=(fZ.1 hu).1
  simpa using this
 rw [Array.getElem?_append_left (by simpa using hj)];simpa using hu
end Enc
theorem Zw (w0:World) (p:Nat) (c:Nat->Value) (v:Value) (bs add:List Int) (q1 q2:Addr) (w:World) (h:WS w0 p c v bs w) (hcall:Calls prog 82 #[.pointer (some q1),.pointer (some q2)] w (DoesA w0 p c v w bs add)) (hlen:bs.length+add.length<=38900000000000) :
  Calls prog 46 #[.pointer (some ⟨p,0,none⟩),.func (.func 82) #[] #[.pointer (some q1),.pointer (some q2)]] w (DoesA w0 p c v w bs (dW add)):=by
 obtain ⟨oV,kV,rfl⟩:=h.slice;have kc:=h.cell;have HC:=aa hcall;have HLEN:=aa hlen;clear h hcall hlen;generalize hn:bs.length=n at *;have hnb:n<=38900000000000:=by have:=HLEN.out;omega
 go_enter func46,ntmps46;go_wp2_with fail;refine HC.out.mono ?_;rintro e w1 ⟨v1,b1,rfl,h1,k1,a1,l1⟩;have hle:=a1.le;have aR:Hid (So bs add b1):=aa ⟨a1,l1⟩;have aO:=aa k1;obtain ⟨o1,c1,rfl⟩:=h1.slice;have aV:=aa h1;have Iy:=h1.cell;have hb1:b1.length<=38900000000000:=by have:=HLEN.out;omega
 clear HC kc h1 k1 a1 l1;rw [hn] at hle;generalize hm:b1.length=m at *;have hs1:(m:Int)-(n:Int)=((m-n:Nat):Int):=by omega
 have hs2:wrap64 ((m-n:Nat):Int)=((m-n:Nat):Int):=by unfold wrap64;omega
 have Dk:IntKind.u64.wrap ((m-n:Nat):Int)=((m-n:Nat):Int):=by simp [IntKind.wrap,IntKind.signed,IntKind.bits];omega
 have ma:=ak.gT (n:=((m-n:Nat):Int)) (by omega) (by omega);have hpos:=ak.yt ((m-n:Nat):Int);obtain ⟨d,hd⟩:∃d,m-n=d:=⟨_,rfl⟩;rw [hd] at hs1 hs2 Dk ma hpos;have HC:=aa (F8 (d:Int) w1 (by omega) (by omega));go_wp2_with fail;refine HC.out.mono ?_;rintro e w2 ⟨rfl,hb2⟩;have aX:=aa (aV.out.on hb2);have aW:=aa (aO.out.trans (Kept.below (p:=p) (v:=.slice o1 m c1) hb2));have Iz:=aX.out.cell;clear HC aV aO Iy hb2 hs1 hs2 Dk;obtain ⟨xs,hxs⟩:∃xs,ak.uB (d:Int)=xs:=⟨_,rfl⟩;have hbd:=Ci _ (d:Int) (by omega) (aI _);rw [hxs] at ma hpos hbd ⊢;have IA:=aa hxs;clear hxs;have hcv:=Lib.run_convert_string_bytes w2 9 59 5 (strOfNums xs) underlying9 underlying59 underlying5;rw [Bc] at hcv;generalize oJ:grownCap w2 xs.length 0 5=gc at hcv;obtain ⟨w3,hw3⟩:∃w3,Lib.bytesWorld w2 5 (strOfNums xs)=w3:=⟨_,rfl⟩;have hb3:Below w2.heap.size w2 w3:=by rw [<- hw3];exact Ot _ _ _
 have hvb:=Lib.bytesWorld_at_new w2 5 (strOfNums xs);rw [hw3] at hvb hcv;have hvs:∀(j:Nat) (u:Value),(cells xs)[j]?=some u->(Lib.bytesCells w2 5 (strOfNums xs))[j]?=some u:=λj u hu=>Ou _ _ _ hbd j u hu;have cG:=aa (aX.out.on hb3);have bE:=aa (aW.out.trans (Kept.below (p:=p) (v:=.slice o1 m c1) hb3));have hown2:∀k,(Value.slice o1 m c1).ownBlock=some k->k<w2.heap.size:=λk hk=>(aX.out.own.lt k hk).2;have HC:=aa (JY w0.heap.size (.slice o1 m c1) b1 xs n w2.heap.size gc _ w3 cG.out.own cG.out.below.size (by rw [hm];exact hle) hpos (by rw [hm];omega) hvb hvs (λe=>by have:=hown2 _ e;omega));clear hvs hvb hw3 hown2 aX aW oJ hb3;generalize hxl:xs.length=xl at *;go_wp2_with fail;refine HC.out.mono ?_;rintro e w9 ⟨v9,rfl,Ad,jE,lj⟩;clear HC;have Cc:w9.cell? ⟨p,10,none⟩=some (.slice o1 m c1):=by rw [World.cell?_of_block (a:=⟨p,10,none⟩) (jE.block p cG.out.lt (λe=>cG.out.apart e.symm))];exact cG.out.cell
 have Ce:w9.frozen? ⟨p,10,none⟩=false:=by rw [World.frozen?_of_block (a:=⟨p,10,none⟩) (jE.block p cG.out.lt (λe=>cG.out.apart e.symm))];exact cG.out.fM
 have HE:=aa (cG.out.store Ad jE);have IC:=aa (bE.out.trans (Kept.store (p:=p) (i:=10) jE lj v9));have HF:Hid (So bs (dW add) (b1.take n++(xs++b1.drop n))):=aa (aR.out.sized _ (by rw [hm,hn,hd,IA.out]))
 obtain ⟨o9,k9,rfl⟩:∃o9 k9,v9=.slice o9 (b1.take n++(xs++b1.drop n)).length k9:=by
  rcases Ad.2 with ⟨rfl,h0⟩|⟨g,cap,cur,rfl,_⟩
  ·rw [h0];exact ⟨none,0,rfl⟩
  exact ⟨_,_,rfl⟩
 clear Ad jE lj cG bE aR Iz hcv;generalize cO:b1.take n++(xs++b1.drop n)=b9 at *;generalize b9.length=n9 at *;go_wp2;go_end0;exact ⟨_,_,rfl,HE.out,IC.out,HF.out.1,HF.out.2⟩
theorem XX (w0:World) (p:Nat) (c:Nat->Value) (v:Value) (bs add:List Int) (q1 q2:Addr) (w:World) (h:WS w0 p c v bs w) (hcall:Calls prog 47 #[.pointer (some q1),.pointer (some q2)] w (DoesA w0 p c v w bs add)) (hlen:bs.length+add.length<=38900000000000) :
  Calls prog 46 #[.pointer (some ⟨p,0,none⟩),.func (.func 47) #[] #[.pointer (some q1),.pointer (some q2)]] w (DoesA w0 p c v w bs (dW add)):=by
 obtain ⟨oV,kV,rfl⟩:=h.slice;have kc:=h.cell;have HC:=aa hcall;have HLEN:=aa hlen;clear h hcall hlen;generalize hn:bs.length=n at *;have hnb:n<=38900000000000:=by have:=HLEN.out;omega
 go_enter func46,ntmps46;go_wp2_with fail;refine HC.out.mono ?_;rintro e w1 ⟨v1,b1,rfl,h1,k1,a1,l1⟩;have hle:=a1.le;have aR:Hid (So bs add b1):=aa ⟨a1,l1⟩;have aO:=aa k1;obtain ⟨o1,c1,rfl⟩:=h1.slice;have aV:=aa h1;have Iy:=h1.cell;have hb1:b1.length<=38900000000000:=by have:=HLEN.out;omega
 clear HC kc h1 k1 a1 l1;rw [hn] at hle;generalize hm:b1.length=m at *;have hs1:(m:Int)-(n:Int)=((m-n:Nat):Int):=by omega
 have hs2:wrap64 ((m-n:Nat):Int)=((m-n:Nat):Int):=by unfold wrap64;omega
 have Dk:IntKind.u64.wrap ((m-n:Nat):Int)=((m-n:Nat):Int):=by simp [IntKind.wrap,IntKind.signed,IntKind.bits];omega
 have ma:=ak.gT (n:=((m-n:Nat):Int)) (by omega) (by omega);have hpos:=ak.yt ((m-n:Nat):Int);obtain ⟨d,hd⟩:∃d,m-n=d:=⟨_,rfl⟩;rw [hd] at hs1 hs2 Dk ma hpos;have HC:=aa (F8 (d:Int) w1 (by omega) (by omega));go_wp2_with fail;refine HC.out.mono ?_;rintro e w2 ⟨rfl,hb2⟩;have aX:=aa (aV.out.on hb2);have aW:=aa (aO.out.trans (Kept.below (p:=p) (v:=.slice o1 m c1) hb2));have Iz:=aX.out.cell;clear HC aV aO Iy hb2 hs1 hs2 Dk;obtain ⟨xs,hxs⟩:∃xs,ak.uB (d:Int)=xs:=⟨_,rfl⟩;have hbd:=Ci _ (d:Int) (by omega) (aI _);rw [hxs] at ma hpos hbd ⊢;have IA:=aa hxs;clear hxs;have hcv:=Lib.run_convert_string_bytes w2 9 59 5 (strOfNums xs) underlying9 underlying59 underlying5;rw [Bc] at hcv;generalize oJ:grownCap w2 xs.length 0 5=gc at hcv;obtain ⟨w3,hw3⟩:∃w3,Lib.bytesWorld w2 5 (strOfNums xs)=w3:=⟨_,rfl⟩;have hb3:Below w2.heap.size w2 w3:=by rw [<- hw3];exact Ot _ _ _
 have hvb:=Lib.bytesWorld_at_new w2 5 (strOfNums xs);rw [hw3] at hvb hcv;have hvs:∀(j:Nat) (u:Value),(cells xs)[j]?=some u->(Lib.bytesCells w2 5 (strOfNums xs))[j]?=some u:=λj u hu=>Ou _ _ _ hbd j u hu;have cG:=aa (aX.out.on hb3);have bE:=aa (aW.out.trans (Kept.below (p:=p) (v:=.slice o1 m c1) hb3));have hown2:∀k,(Value.slice o1 m c1).ownBlock=some k->k<w2.heap.size:=λk hk=>(aX.out.own.lt k hk).2;have HC:=aa (JY w0.heap.size (.slice o1 m c1) b1 xs n w2.heap.size gc _ w3 cG.out.own cG.out.below.size (by rw [hm];exact hle) hpos (by rw [hm];omega) hvb hvs (λe=>by have:=hown2 _ e;omega));clear hvs hvb hw3 hown2 aX aW oJ hb3;generalize hxl:xs.length=xl at *;go_wp2_with fail;refine HC.out.mono ?_;rintro e w9 ⟨v9,rfl,Ad,jE,lj⟩;clear HC;have Cc:w9.cell? ⟨p,10,none⟩=some (.slice o1 m c1):=by rw [World.cell?_of_block (a:=⟨p,10,none⟩) (jE.block p cG.out.lt (λe=>cG.out.apart e.symm))];exact cG.out.cell
 have Ce:w9.frozen? ⟨p,10,none⟩=false:=by rw [World.frozen?_of_block (a:=⟨p,10,none⟩) (jE.block p cG.out.lt (λe=>cG.out.apart e.symm))];exact cG.out.fM
 have HE:=aa (cG.out.store Ad jE);have IC:=aa (bE.out.trans (Kept.store (p:=p) (i:=10) jE lj v9));have HF:Hid (So bs (dW add) (b1.take n++(xs++b1.drop n))):=aa (aR.out.sized _ (by rw [hm,hn,hd,IA.out]))
 obtain ⟨o9,k9,rfl⟩:∃o9 k9,v9=.slice o9 (b1.take n++(xs++b1.drop n)).length k9:=by
  rcases Ad.2 with ⟨rfl,h0⟩|⟨g,cap,cur,rfl,_⟩
  ·rw [h0];exact ⟨none,0,rfl⟩
  exact ⟨_,_,rfl⟩
 clear Ad jE lj cG bE aR Iz hcv;generalize cO:b1.take n++(xs++b1.drop n)=b9 at *;generalize b9.length=n9 at *;go_wp2;go_end0;exact ⟨_,_,rfl,HE.out,IC.out,HF.out.1,HF.out.2⟩
end Go.Proofs.YtmfcojpjpgldhaaGreatDoor
