/- Texts that the claim needs. -/
import Derived.Test.YtlcpagiljfpbpaaDoorQEUn20
import Derived.Lib.Overlaps
import Derived.Lib.AppendZerosOnto
import Derived.Laws.IdiomCopy
import Derived.Laws.NewBlocks
import Derived.Laws.Externs
import Derived.Shelf.Spec.SlicesInsertGrow
import Derived.Deep.RegionLaw
namespace Go.Proofs.YtlcpagiljfpbpaaDoor
open Go.RowKit Rep Enc Go.Lib
set_option linter.unusedVariables false
namespace Enc
theorem heap_cells (g:Nat) (t:TypeId):∀(vs:List Value) (o:Nat) (w:World) (cur:Array Value),w.heap[g]?=some (.cells cur t (0,0))->o+vs.length<=cur.size ->
  ∃cur',(w.setCells g o vs).heap[g]?=some (.cells cur' t (0,0))/\cur'.toList=cur.toList.take o++vs++cur.toList.drop (o+vs.length)
 | [],o,w,cur,h,_=>⟨cur,h,by simp⟩
 | v :: r,o,w,cur,h,hl=>by
  simp only [List.length_cons] at hl
  obtain ⟨cur',h1,h2⟩:=heap_cells g t r (o+1) (w.setCell ⟨g,o,none⟩ v) (cur.setIfInBounds o v) (heap_setCell_same w g o cur t v h) (by rw [Array.size_setIfInBounds];omega)
  refine ⟨cur',h1,?_⟩
  rw [h2,Array.toList_setIfInBounds]
  have hs:o<cur.toList.length:=by rw [Array.length_toList];omega
  have e1:(cur.toList.set o v).take (o+1)=cur.toList.take o++[v]:=by
   rw [List.take_add_one,List.take_set_of_le (Nat.le_refl o),List.getElem?_set_self hs];rfl
  have e2:(cur.toList.set o v).drop (o+1+r.length)=cur.toList.drop (o+1+r.length):=List.drop_set_of_lt (by omega)
  rw [e1,e2]
  simp only [List.length_cons,List.append_assoc,List.cons_append,List.nil_append]
  rw [show o+1+r.length=o+(r.length+1) by omega]
theorem heap_cells_other (g k:Nat) (hk:k≠g):∀(vs:List Value) (o:Nat) (w:World),(w.setCells g o vs).heap[k]?=w.heap[k]?
 | [],_,_=>rfl
 | v :: r,o,w=>by
  rw [World.setCells,heap_cells_other g k hk r,heap_setCell_other w ⟨g,o,none⟩ k v hk]
theorem size_cells (g:Nat):∀(vs:List Value) (o:Nat) (w:World),(w.setCells g o vs).heap.size=w.heap.size
 | [],_,_=>rfl
 | v :: r,o,w=>by rw [World.setCells,size_cells g r];simp
theorem grown_cells (g:Nat):∀(vs:List Value) (o:Nat) (w:World),w.grownBy (w.setCells g o vs) (some g)
 | [],_,w=>⟨rfl,rfl,rfl,Nat.le_refl _,fun _ _ _=>rfl⟩
 | v :: r,o,w=>by
  have h:=grown_cells g r (o+1) (w.setCell ⟨g,o,none⟩ v)
  exact ⟨h.os.trans rfl,h.2.trans rfl,h.3.trans rfl,by rw [World.setCells];have:=h.size;simpa using this,fun k hk hn=>by
   rw [World.setCells,h.block k (by simpa using hk) hn,heap_setCell_other w ⟨g,o,none⟩ k v (by intro e;exact hn (by rw [show k=g from e]))]⟩
theorem cells_one (bs:List Int):∀u ∈ cells bs,u.oneCell'=true:=by
 intro u hu
 unfold cells at hu
 obtain ⟨x,_,rfl⟩:=List.mem_map.1 hu
 rfl
theorem cells_app (a b:List Int):cells (a++b)=cells a++cells b:=by unfold cells;rw [List.map_append]
theorem cells_take (a:List Int) (i:Nat):cells (a.take i)=(cells a).take i:=by unfold cells;rw [List.map_take]
theorem cells_drop (a:List Int) (i:Nat):cells (a.drop i)=(cells a).drop i:=by unfold cells;rw [List.map_drop]
theorem cells_len (a:List Int):(cells a).length=a.length:=by unfold cells;rw [List.length_map]
theorem run_overlaps_plain {P:Program} (w:World) (tS tR e:TypeId) (ht:P.underlying tS=some (.slice e)) (size:Nat) (hz:∀w,(Go.sizeOf e).run P w=.ok size w)
  (a b:Addr) (la ca lb cb:Nat) (hne:a.block≠b.block) (tA tB:TypeId) (kA kB:Nat)
  (hsa:w.shape? a.block=some (tA,kA)) (hsb:w.shape? b.block=some (tB,kB)) (hkA:kA≠0)
  (hfa:w.frozen? a=false) (hfb:w.frozen? b=false) (hfe:w.frozen? { block:=b.block,off:=kB }=false) :
  (Extern.SlicesOverlaps.overlaps #[tS,tS] #[tR] #[.slice (some a) la ca,.slice (some b) lb cb]).run P w=.ok (.bool false) w:=by
 have hnb:(a.block != b.block)=true:=by simpa using hne
 have hnb':(a.block == b.block)=false:=by simpa using hne
 change Sem.run P (α:=Value) (do
  let some t := (#[tS, tS] : Array TypeId)[0]? | stuck "slices.overlaps: no parameter types"
  let .slice elem ← underlying t | stuck "slices.overlaps: slice type expected"
  let size <- sizeOf elem
  match (some a:Option Addr),(some b:Option Addr) with
  | some a,some b =>
   if la=0\/lb=0\/size=0 then pure (Value.bool false)
   else if a.block != b.block && (<- frozen a) && (<- frozen b) then unsupported .addressObserved
   else do
    if a.block != b.block then do
     noView a;noView b
     if ← mayBeOne a b then return Value.bool ((← choose (.extern "sameAddr.stringBytes" 2)) == 1)
    pure (Value.bool (a.block == b.block && a.off<b.off+lb*size && b.off<a.off+la*size))
  | _,_=>pure (Value.bool false)) w=_
 by_cases h0:la=0\/lb=0\/size=0
 ·simp [run_underlying ht,hz,h0]
 ·cases kA with
  | zero=>exact absurd rfl hkA
  | succ kA =>
   cases hq:w.frozen? { block:=a.block,off:=kA+1 }<;>simp [run_underlying ht,hz,h0,hnb,hnb',frozen,noView,viewAt,mayBeOne,stringish,shape,Sem.run,hsa,hsb,hfa,hfb,hfe,hq]
end Enc
set_option maxHeartbeats 4000000 in
set_option maxRecDepth 100000 in
theorem insShift (b n c i vb m vc:Nat) (cs vs:List Value) (w:World) (hi:i<n) (hm:0<m) (hroom:n+m<=c) (hc63:c<=9223372036854775807) (hvb:vb≠b)
  (hcl:cs.length=n) (hvl:vs.length=m)
  (hcs:∀j v,cs[j]?=some v->w.cell? ⟨b,j,none⟩=some v) (hsp:∀j,j<n+m->(w.cell? ⟨b,j,none⟩).isSome=true) (hfz:∀j,w.frozen? ⟨b,j,none⟩=false)
  (hvs:∀j v,vs[j]?=some v->w.cell? ⟨vb,j,none⟩=some v) (h1c:∀v ∈ cs,v.oneCell'=true) (h1v:∀v ∈ vs,v.oneCell'=true)
  (tA tB:TypeId) (kA kB:Nat) (hsa:w.shape? vb=some (tA,kA)) (hsb:w.shape? b=some (tB,kB)) (hkA:kA≠0) (hfa:w.frozen? ⟨vb,0,none⟩=false) :
  Calls Tryd.prog 69 #[.slice (some ⟨b,0,none⟩) n c,.int .i64 i,.slice (some ⟨vb,0,none⟩) m vc] w fun e w' =>
   e=.returned (.slice (some ⟨b,0,none⟩) (n+m) c)/\w'=(w.drew.setCells b (i+m) (cs.drop i)).setCells b i vs:=by
 have hz1:¬ ((m:Int)=0):=by omega
 have hz2:¬ ((i:Int)=(n:Int)):=by omega
 have hz3:¬ ((c:Int)<(n:Int)+(m:Int)):=by omega
 have hsz:(Tryd.prog.info? 5).map (·.size)=some 1:=by
  obtain ⟨i0,hi0,h0,h1,h2⟩:=info_parts u8Info
  rw [hi0];simp [h1]
 have hzz:∀w,(Go.sizeOf 5).run Tryd.prog w=.ok 1 w:=fun w=>by kernel_rfl
 have hov:∀lb cb,(callFunc 78 #[.slice (some ⟨vb,0,none⟩) m vc,.slice (some ⟨b,i+m,none⟩) lb cb]).run Tryd.prog w=.ok (.value (.bool false)) w:=fun lb cb=>by
  rw [run_callFunc_extern Tryd.func78 (by kernel_rfl) (by kernel_rfl) (by kernel_rfl) (e:=Extern.SlicesOverlaps.overlaps #[59,59] #[4]) (by kernel_rfl),
   run_overlaps_plain w 59 4 5 Tryd.underlying59 1 hzz ⟨vb,0,none⟩ ⟨b,i+m,none⟩ m vc lb cb hvb tA tB kA kB hsa hsb hkA hfa (hfz _) (hfz _)]
  rfl
 have hdl:(cs.drop i).length=n-i:=by rw [List.length_drop,hcl]
 have hw1:IntKind.i64.wrap ((i:Int)+(m:Int))=(i:Int)+(m:Int):=by rw [IntKind.wrap_i64];omega
 have hw2:IntKind.i64.wrap ((n:Int)+(m:Int))=(n:Int)+(m:Int):=by rw [IntKind.wrap_i64];omega
 have hb1:(0:Int)<=(i:Int)+(m:Int):=by omega
 have hin:i<=n:=by omega
 have htn:((i:Int)+(m:Int)).toNat=i+m:=by omega
 have hb2:¬ (c=i+m):=by omega
 have hb3:(i:Int)<=(n:Int)+(m:Int):=by omega
 have hb4:¬ (c=i):=by omega
 have hcp1:∀ty dc sc,(Builtin.copy_ #[59,59] ty #[.slice (some ⟨b,i+m,none⟩) (n+m-(i+m)) dc,.slice (some ⟨b,i,none⟩) (n+m-i) sc]).run Tryd.prog w.drew=.ok (goInt (cs.drop i).length) (w.drew.setCells b (i+m) (cs.drop i)):=fun ty dc sc =>
  run_copy_cells w.drew _ _ ty 5 b (i+m) (n+m-(i+m)) dc ⟨b,i,none⟩ (n+m-i) sc (cs.drop i) Tryd.underlying59 hsz (by rw [hdl];simp only [Nat.min_def];split<;>omega)
   (fun j v hj=>by rw [Addr.add_lit];exact hcs (i+j) v (by rwa [List.getElem?_drop] at hj))
   (fun j hj=>hsp _ (by omega)) (fun j hj=>hfz _) (fun v hv=>h1c v (List.mem_of_mem_drop hv))
 obtain ⟨W1,hW1⟩:∃W1,W1=w.drew.setCells b (i+m) (cs.drop i):=⟨_,rfl⟩
 have hsp1:∀k,k<n+m->(W1.cell? ⟨b,k,none⟩).isSome=true:=fun k hk=>by
  rw [hW1]
  exact isSome_setCells b (cs.drop i) (i+m) w.drew (fun j hj=>hsp (i+m+j) (by omega)) k (hsp k hk)
 have hcp2:∀(W:World),(∀x,W.cell? x=W1.cell? x)->(∀x,W.frozen? x=W1.frozen? x)->∀ty dc,(Builtin.copy_ #[59,59] ty #[.slice (some ⟨b,i,none⟩) (n+m-i) dc,.slice (some ⟨vb,0,none⟩) m vc]).run Tryd.prog W=.ok (goInt vs.length) (W.setCells b i vs):=fun W hWc hWf ty dc =>
  run_copy_cells W _ _ ty 5 b i (n+m-i) dc ⟨vb,0,none⟩ m vc vs Tryd.underlying59 hsz (by rw [hvl];simp only [Nat.min_def];split<;>omega)
   (fun j v hj=>by
    rw [Addr.add_lit,Nat.zero_add,hWc,hW1,World.cell?_setCells_out b _ _ _ _ (fun h _=>absurd h hvb)]
    exact hvs j v hj)
   (fun j hj=>by rw [hWc];exact hsp1 _ (by omega)) (fun j hj=>by rw [hWf,hW1,World.frozen?_setCells];exact hfz _) h1v
 rw [<- hW1] at hcp1
 go_enter Tryd.func69,Tryd.ntmps69
 go_wp2_with (simp only [hov])
 go_region_law (refine step_copy_runI rfl _ _ 59 59 rfl _ _ (by simp [Act.eval,Act.put]) (by simp [Act.eval,Act.put]) (hcp1 _ _ _) ?_)
 go_wp2_with (at_builtin;refine wpList_copy_runI _ rfl _ _ 59 59 rfl _ _ rfl rfl (hcp2 _ (fun _=>rfl) (fun _=>rfl) _ _) ?_)
 go_ret
 first|exact ⟨rfl,rfl⟩|exact ⟨rfl,by rw [hW1]⟩
set_option maxHeartbeats 4000000 in
set_option maxRecDepth 100000 in
theorem insGrow (b n c i vb m vc:Nat) (cs vs:List Value) (w:World) (hi:i<n) (hm:0<m) (hnc:n<=c) (hroom:c<n+m) (hbig:n+m<=140737488355328)
  (hcl:cs.length=n) (hvl:vs.length=m)
  (hcs:∀j v,cs[j]?=some v->w.cell? ⟨b,j,none⟩=some v)
  (hvs:∀j v,vs[j]?=some v->w.cell? ⟨vb,j,none⟩=some v) (h1c:∀v ∈ cs,v.oneCell'=true) (h1v:∀v ∈ vs,v.oneCell'=true) :
  Calls Tryd.prog 69 #[.slice (some ⟨b,0,none⟩) n c,.int .i64 i,.slice (some ⟨vb,0,none⟩) m vc] w fun e w' =>
   e=.returned (.slice (some ⟨w.heap.size,0,none⟩) (n+m) (grownCap w (n+m) c 5)) /\
   w'=(((w.alloc (.cells ((cs.take i).toArray++Builtin.zeroCells (Value.int .u8 0).cells (n+m-i)++Builtin.zeroCells (Value.int .u8 0).cells (grownCap w (n+m) c 5-(n+m))) 5)).drew.setCells w.heap.size i vs).drew).setCells w.heap.size (i+m) (cs.drop i):=by
 obtain ⟨i0,hi0,hz0,hzs,hzb⟩:=info_parts u8Info
 have hz1:¬ ((m:Int)=0):=by omega
 have hz2:¬ ((i:Int)=(n:Int)):=by omega
 have hz3:(c:Int)<(n:Int)+(m:Int):=by omega
 have hsz:(Tryd.prog.info? 5).map (·.size)=some 1:=by rw [hi0];simp [hzs]
 have hbw:b<w.heap.size:=block_lt_of_cell (hcs 0 _ (List.getElem?_eq_getElem (by omega)))
 have hvw:vb<w.heap.size:=block_lt_of_cell (hvs 0 _ (List.getElem?_eq_getElem (by omega)))
 have hkk:(n:Int)+(m:Int)-(i:Int)=((n+m-i:Nat):Int):=by omega
 have hik:i+(n+m-i)=n+m:=by omega
 have hold:(Builtin.firstCells i0.size i (.slice (some ⟨b,0,none⟩) i c)).run Tryd.prog w.drew=.ok (cs.take i).toArray w.drew:=by
  rw [hzs]
  exact run_firstCells_some w.drew 1 i ⟨b,0,none⟩ i c (cs.take i) (by rw [List.length_take];omega) (fun j v hj=>by
   rw [Addr.add_lit,Nat.zero_add]
   rw [List.getElem?_take] at hj
   split at hj
   ·exact hcs j v hj
   ·cases hj)
 have hrz:∀ty,(Builtin.append_ #[59,3] ty #[.slice (some ⟨b,0,none⟩) i c,.int .i64 ((n:Int)+(m:Int)-(i:Int))]).run Tryd.prog w =
   .ok (.slice (some ⟨w.heap.size,0,none⟩) (n+m) (grownCap w (n+m) c 5)) (w.drew.alloc (.cells ((cs.take i).toArray++Builtin.zeroCells (Value.int .u8 0).cells (n+m-i)++Builtin.zeroCells (Value.int .u8 0).cells (grownCap w (n+m) c 5-(n+m))) 5)):=fun ty=>by
  have h:=Lib.run_append_grow_zeros w 59 3 ty 5 i0 _ .i64 .i64 Tryd.underlying59 Tryd.underlying3 hi0 hz0 (some ⟨b,0,none⟩) i c (cs.take i) hold (n+m-i) (by omega) (by omega) (by omega) (by omega) (by rw [hzb];omega) (by rw [hzb,hik];exact growslice_fits hroom (by omega))
  rw [hik] at h
  rw [hkk]
  exact h
 obtain ⟨G,hG⟩:∃G,G=grownCap w (n+m) c 5:=⟨_,rfl⟩
 obtain ⟨ROW,hROW⟩:∃ROW:Array Value,ROW=(cs.take i).toArray++Builtin.zeroCells (Value.int .u8 0).cells (n+m-i)++Builtin.zeroCells (Value.int .u8 0).cells (G-(n+m)):=⟨_,rfl⟩
 rw [<- hG] at hrz ⊢
 rw [<- hROW] at hrz ⊢
 have hRl:n+m<=ROW.size:=by
  rw [hROW]
  simp [Builtin.zeroCells,Value.cells]
  omega
 obtain ⟨W1,hW1⟩:∃W1,W1=w.drew.alloc (.cells ROW 5):=⟨_,rfl⟩
 rw [<- hW1] at hrz
 have hN:∀j,j<n+m->(W1.cell? ⟨w.heap.size,j,none⟩).isSome=true:=fun j hj=>by
  rw [hW1,World.cell?_alloc_at (w:=w.drew) ROW _ w.heap.size j rfl,Array.getElem?_eq_getElem (by omega)];rfl
 have hNf:∀j,W1.frozen? ⟨w.heap.size,j,none⟩=false:=fun j=>by rw [hW1];exact World.frozen?_alloc_at (w:=w.drew) ROW _ w.heap.size j rfl
 have hOb:∀j v,w.cell? ⟨b,j,none⟩=some v->W1.cell? ⟨b,j,none⟩=some v:=fun j v h=>by rw [hW1,World.cell?_alloc_past (w:=w.drew) _ b j hbw];exact h
 have hOv:∀j v,w.cell? ⟨vb,j,none⟩=some v->W1.cell? ⟨vb,j,none⟩=some v:=fun j v h=>by rw [hW1,World.cell?_alloc_past (w:=w.drew) _ vb j hvw];exact h
 have hcpA:∀(W:World),(∀x,W.cell? x=W1.cell? x)->(∀x,W.frozen? x=W1.frozen? x)->∀ty dc,(Builtin.copy_ #[59,59] ty #[.slice (some ⟨w.heap.size,i,none⟩) (n+m-i) dc,.slice (some ⟨vb,0,none⟩) m vc]).run Tryd.prog W=.ok (goInt vs.length) (W.setCells w.heap.size i vs):=fun W hWc hWf ty dc =>
  run_copy_cells W _ _ ty 5 w.heap.size i (n+m-i) dc ⟨vb,0,none⟩ m vc vs Tryd.underlying59 hsz (by rw [hvl];simp only [Nat.min_def];split<;>omega)
   (fun j v hj=>by rw [Addr.add_lit,Nat.zero_add,hWc];exact hOv _ v (hvs j v hj))
   (fun j hj=>by rw [hWc];exact hN _ (by omega)) (fun j hj=>by rw [hWf];exact hNf _) h1v
 have hGn:n+m<=G:=by rw [hG];exact grownCap_ge w _ _ _
 have hG63:G<=9223372036854775807:=by
  have:=grownCap_le_maxLen w (n+m) c 5 (by unfold maxLen;omega)
  rw [<- hG] at this
  unfold maxLen at this
  omega
 have hGi:¬ (G=i):=by omega
 have hGim:¬ (G=i+m):=by omega
 have hci:¬ (c=i):=by omega
 have hbN:b≠w.heap.size:=by omega
 have hdl:(cs.drop i).length=n-i:=by rw [List.length_drop,hcl]
 have hcpB:∀(W:World),(∀x,W.cell? x=(W1.setCells w.heap.size i vs).cell? x)->(∀x,W.frozen? x=(W1.setCells w.heap.size i vs).frozen? x)->∀ty dc sc,(Builtin.copy_ #[59,59] ty #[.slice (some ⟨w.heap.size,i+m,none⟩) (n+m-(i+m)) dc,.slice (some ⟨b,i,none⟩) (n-i) sc]).run Tryd.prog W=.ok (goInt (cs.drop i).length) (W.setCells w.heap.size (i+m) (cs.drop i)):=fun W hWc hWf ty dc sc =>
  run_copy_cells W _ _ ty 5 w.heap.size (i+m) (n+m-(i+m)) dc ⟨b,i,none⟩ (n-i) sc (cs.drop i) Tryd.underlying59 hsz (by rw [hdl];simp only [Nat.min_def];split<;>omega)
   (fun j v hj=>by
    rw [Addr.add_lit,hWc,World.cell?_setCells_out _ _ _ _ _ (fun h _=>absurd h hbN)]
    exact hOb _ v (hcs (i+j) v (by rwa [List.getElem?_drop] at hj)))
   (fun j hj=>by rw [hWc];exact isSome_setCells _ _ _ _ (fun t ht=>hN _ (by omega)) _ (hN _ (by omega)))
   (fun j hj=>by rw [hWf,World.frozen?_setCells];exact hNf _) (fun v hv=>h1c v (List.mem_of_mem_drop hv))
 subst hW1
 have hE1:∀x,((w.alloc (.cells ROW 5)).drew).cell? x=(w.drew.alloc (.cells ROW 5)).cell? x:=fun x=>rfl
 have hE2:∀x,((w.alloc (.cells ROW 5)).drew).frozen? x=(w.drew.alloc (.cells ROW 5)).frozen? x:=fun x=>rfl
 have hF1:∀x,(((w.alloc (.cells ROW 5)).drew.setCells w.heap.size i vs).drew).cell? x=((w.drew.alloc (.cells ROW 5)).setCells w.heap.size i vs).cell? x:=fun x=>rfl
 have hF2:∀x,(((w.alloc (.cells ROW 5)).drew.setCells w.heap.size i vs).drew).frozen? x=((w.drew.alloc (.cells ROW 5)).setCells w.heap.size i vs).frozen? x:=fun x=>rfl
 have hw1:IntKind.i64.wrap ((i:Int)+(m:Int))=(i:Int)+(m:Int):=by rw [IntKind.wrap_i64];omega
 have hb1:(0:Int)<=(i:Int)+(m:Int):=by omega
 have hin:i<=n:=by omega
 have htn:((i:Int)+(m:Int)).toNat=i+m:=by omega
 have hb3:(i:Int)<=(n:Int):=by omega
 clear hkk hik hold hROW hG hRl
 go_enter Tryd.func69,Tryd.ntmps69
 go_wp2_with (first
  | (at_builtin;refine Lib.wpList_append_run _ rfl _ _ _ _ rfl _ _ rfl rfl _ _ (hrz _) ?_)
  | (at_builtin;refine wpList_copy_runI _ rfl _ _ 59 59 rfl _ _ rfl rfl (hcpA _ hE1 hE2 _ _) ?_)
  | (at_builtin;refine wpList_copy_runI _ rfl _ _ 59 59 rfl _ _ rfl rfl (hcpB _ (fun _=>rfl) (fun _=>rfl) _ _ _) ?_))
 go_region_law (refine step_copy_runI rfl _ _ 59 59 rfl (.slice (some ⟨w.heap.size,i+m,none⟩) (n+m-(i+m)) (G-(i+m))) (.slice (some ⟨b,i,none⟩) (n-i) (c-i)) (by simp [Act.eval,Act.put]) (by simp [Act.eval,Act.put]) (hcpB _ hF1 hF2 3 (G-(i+m)) (c-i)) ?_)
 go_wp2
 go_ret
 exact ⟨rfl,rfl⟩
namespace Enc
def InsP (B:Nat) (v:Value) (bs:List Int) (w:World) (e:Ending) (w':World):Prop:=∃v',e=.returned v'/\w'.ownsRow B 5 1 v' bs.length (cells bs)/\w.grownBy w' v.ownBlock/\(v'.ownBlock=v.ownBlock\/v'.ownBlock=some w.heap.size)
theorem frz0 {w:World} {g:Nat} {cur:Array Value} {t:TypeId} (h:w.heap[g]?=some (.cells cur t (0,0))) (j:Nat):w.frozen? ⟨g,j,none⟩=false:=by unfold World.frozen?;rw [h];simp
theorem frz1 {w:World} {g:Nat} {cur:Array Value} {t:TypeId} (h:w.heap[g]?=some (.cells cur t (cur.size,cur.size+1))) (h0:0<cur.size):w.frozen? ⟨g,0,none⟩=false:=by
 unfold World.frozen?
 rw [h]
 show (decide (cur.size<=0) && decide (0<cur.size+1))=false
 rw [decide_eq_false (by omega)];rfl
theorem shp0 {w:World} {g:Nat} {cur:Array Value} {t:TypeId} {fr:Nat × Nat} (h:w.heap[g]?=some (.cells cur t fr)):w.shape? g=some (t,cur.size):=by unfold World.shape?;rw [h]
end Enc
set_option maxHeartbeats 4000000 in
set_option maxRecDepth 100000 in
theorem insEnd (B:Nat) (v:Value) (bs xs:List Int) (vb vc:Nat) (cur:Array Value) (w:World) (hown:w.ownsRow B 5 1 v bs.length (cells bs)) (hB:B<=w.heap.size) (hm:0<xs.length) (hbig:bs.length+xs.length<=140737488355328)
  (hvb:w.heap[vb]?=some (.cells cur 5 (cur.size,cur.size+1))) (hvs:∀(j:Nat) (u:Value),(cells xs)[j]?=some u->cur[j]?=some u) (hne:v.ownBlock≠some vb) :
  Calls Tryd.prog 69 #[v,.int .i64 bs.length,.slice (some ⟨vb,0,none⟩) xs.length vc] w (InsP B v (bs++xs) w):=by
 obtain ⟨i0,hi,hz0,hz1,hz2⟩:=info_parts u8Info
 have hnews:∀j u,(cells xs)[j]?=some u->w.cell? ((⟨vb,0,none⟩:Addr).add j)=some u:=fun j u hu=>by
  rw [Addr.add_lit,Nat.zero_add,cell_of_row w vb j cur _ _ hvb];exact hvs j u hu
 have hz3:¬ ((xs.length:Int)=0):=by omega
 have HE:Hid (∀v' w9,w9.ownsRow B 5 1 v' (bs.length+xs.length) (cells bs++cells xs)->w.grownBy w9 v.ownBlock->(v'.ownBlock=v.ownBlock\/v'.ownBlock=some w.heap.size)->InsP B v (bs++xs) w (.returned v') w9):=hideR fun v' w9 h1 h2 h3=>⟨v',rfl,by rw [List.length_append,cells_app];exact h1,h2,h3⟩
 have HO:=hideR hown
 have hln:∃o k,v=.slice o bs.length k:=by
  rcases hown.2 with ⟨rfl,h0⟩|⟨g,cap,cur,rfl,_⟩
  ·rw [h0];exact ⟨none,0,rfl⟩
  ·exact ⟨_,_,rfl⟩
 have hcap:∀o k,v=.slice o bs.length k->(o=none->k=0)/\bs.length<=k:=by
  rintro o k rfl
  rcases hown.2 with ⟨h,h0⟩|⟨g,cap,cur,h,_,_,hk,_⟩
  ·injection h with h1 h2 h3;exact ⟨fun _=>h3,by omega⟩
  ·injection h with h1 h2 h3;exact ⟨fun e=>(by rw [e] at h1;cases h1),by omega⟩
 have hrow:(v=.slice none 0 0/\bs.length=0)\/∃g k,v=.slice (some ⟨g,0,none⟩) bs.length k:=by
  rcases hown.2 with h|⟨g,cap,cur,rfl,_⟩
  ·exact .inl h
  ·exact .inr ⟨_,_,rfl⟩
 clear hown hcap hln hvs hvb hne
 generalize hmm:xs.length=m at *
 have hlm:(cells xs).length=m:=by rw [cells_len];exact hmm
 have h1x:=cells_one xs
 rcases hrow with ⟨rfl,hn⟩|⟨g,k,rfl⟩
 ·generalize hnn:bs.length=n at *
  subst hn
  go_enter Tryd.func69,Tryd.ntmps69
  go_wp2_with (first|(at_builtin;(refine wpList_appS rfl _ _ 59 rfl B 5 i0 _ 1 1 Tryd.underlying59 hi hz0 hz1 hz2 rfl (by decide) _ _ _ rfl HO.out (some ⟨vb,0,none⟩) m vc (cells xs) rfl (fun h=>by cases h) (by rw [hlm,Nat.mul_one]) (fun ad h=>by injection h with h;subst h;exact hnews) h1x (by unfold maxLen;omega) (by omega) hB ?_)))
  intro v' w9 h1 h2 h3
  have HF:=HE.out v' w9 (by simpa using h1) h2 h3
  clear h1 h2 h3
  go_wp2
  go_ret
  exact HF
 ·generalize hnn:bs.length=n at *
  have hk:=(HO.out.2)
  have hnk:n<=k:=by
   rcases hk with ⟨h,_⟩|⟨g',cap,cur',h,_,_,h5,_⟩
   ·cases h
   ·injection h with _ _ e;omega
  have hkm:k<=9223372036854775807:=by
   rcases hk with ⟨h,_⟩|⟨g',cap,cur',h,_,_,_,h5,_⟩
   ·cases h
   ·injection h with _ _ e;unfold maxLen at h5;omega
  clear hk
  by_cases hkn:k=n
  ·subst hkn
   go_enter Tryd.func69,Tryd.ntmps69
   go_wp2_with (first|(at_builtin;(refine wpList_appS rfl _ _ 59 rfl B 5 i0 _ 1 1 Tryd.underlying59 hi hz0 hz1 hz2 rfl (by decide) _ _ _ rfl HO.out (some ⟨vb,0,none⟩) m vc (cells xs) rfl (fun h=>by cases h) (by rw [hlm,Nat.mul_one]) (fun ad h=>by injection h with h;subst h;exact hnews) h1x (by unfold maxLen;omega) (by omega) hB ?_)))
   intro v' w9 h1 h2 h3
   have HF:=HE.out v' w9 h1 h2 h3
   clear h1 h2 h3
   go_wp2
   go_ret
   exact HF
  ·go_enter Tryd.func69,Tryd.ntmps69
   go_wp2_with (first|(at_builtin;(refine wpList_appS rfl _ _ 59 rfl B 5 i0 _ 1 1 Tryd.underlying59 hi hz0 hz1 hz2 rfl (by decide) _ _ _ rfl HO.out (some ⟨vb,0,none⟩) m vc (cells xs) rfl (fun h=>by cases h) (by rw [hlm,Nat.mul_one]) (fun ad h=>by injection h with h;subst h;exact hnews) h1x (by unfold maxLen;omega) (by omega) hB ?_)))
   intro v' w9 h1 h2 h3
   have HF:=HE.out v' w9 h1 h2 h3
   clear h1 h2 h3
   go_wp2
   go_ret
   exact HF
theorem pInsLt (B:Nat) (v:Value) (bs xs:List Int) (i vb vc:Nat) (cur:Array Value) (w:World) (hown:w.ownsRow B 5 1 v bs.length (cells bs)) (hB:B<=w.heap.size) (hi:i<bs.length) (hm:0<xs.length) (hbig:bs.length+xs.length<=140737488355328)
  (hvb:w.heap[vb]?=some (.cells cur 5 (cur.size,cur.size+1))) (hvs:∀(j:Nat) (u:Value),(cells xs)[j]?=some u->cur[j]?=some u) (hne:v.ownBlock≠some vb) :
  Calls Tryd.prog 69 #[v,.int .i64 i,.slice (some ⟨vb,0,none⟩) xs.length vc] w (InsP B v (bs.take i++(xs++bs.drop i)) w):=by
 rcases hown.2 with ⟨rfl,h0⟩|⟨g,cap,ro,rfl,hbg,hg,hnc,hcm,hcs,htk⟩
 ·omega
 ·have hrl:ro.toList.length=ro.size:=Array.length_toList
  have hgb:vb≠g:=fun e=>hne (by rw [e];rfl)
  simp only [Nat.mul_one] at hcs htk
  have hcl:∀j u,(cells bs)[j]?=some u->w.cell? ⟨g,j,none⟩=some u:=fun j u hu=>by
   rw [cell_of_row w g j ro _ _ hg]
   rw [<- htk,List.getElem?_take] at hu
   split at hu
   ·simpa using hu
   ·cases hu
  have hcv:∀j u,(cells xs)[j]?=some u->w.cell? ⟨vb,j,none⟩=some u:=fun j u hu=>by
   rw [cell_of_row w vb j cur _ _ hvb];exact hvs j u hu
  have hl1:(bs.take i++(xs++bs.drop i)).length=bs.length+xs.length:=by
   rw [List.length_append,List.length_append,List.length_take,List.length_drop];omega
  have hcur:0<cur.size:=by
   have:∃u,(cells xs)[0]?=some u:=⟨_,List.getElem?_eq_getElem (by rw [cells_len];exact hm)⟩
   obtain ⟨u,hu⟩:=this
   exact (Array.getElem?_eq_some_iff.1 (hvs 0 u hu)).1
  by_cases hroom:bs.length+xs.length<=cap
  ·refine (insShift g bs.length cap i vb xs.length vc (cells bs) (cells xs) w hi hm hroom (by unfold maxLen at hcm;omega) hgb (cells_len bs) (cells_len xs) hcl (fun j hj=>by
    rw [cell_of_row w g j ro _ _ hg,Array.getElem?_eq_getElem (by omega)];rfl) (fun j=>frz0 hg j) hcv (cells_one bs) (cells_one xs) 5 5 cur.size ro.size (shp0 hvb) (shp0 hg) (by omega) (frz1 hvb hcur)).mono ?_
   rintro e w' ⟨rfl,rfl⟩
   refine ⟨_,rfl,?_,?_,.inl rfl⟩
   ·have hdl:((cells bs).drop i).length=bs.length-i:=by rw [List.length_drop,cells_len]
    obtain ⟨c1,g1,e1⟩:=heap_cells g 5 ((cells bs).drop i) (i+xs.length) w.drew ro hg (by omega)
    have s1:c1.size=ro.size:=by
     have:=congrArg List.length e1
     simp only [List.length_append,List.length_take,List.length_drop,Array.length_toList,cells_len] at this
     omega
    obtain ⟨c2,g2,e2⟩:=heap_cells g 5 (cells xs) i _ c1 g1 (by rw [cells_len];omega)
    have s2:c2.size=ro.size:=by
     have:=congrArg List.length e2
     simp only [List.length_append,List.length_take,List.length_drop,Array.length_toList,cells_len] at this
     omega
    refine ⟨by rw [cells_len];omega,.inr ⟨g,cap,c2,by rw [hl1],hbg,g2,by omega,hcm,by omega,?_⟩⟩
    rw [hl1,Nat.mul_one,e2,e1,cells_len]
    have t1:(List.take (i+xs.length) ro.toList).length=i+xs.length:=by rw [List.length_take,hrl];omega
    have e3:List.take i (List.take (i+xs.length) ro.toList++(cells bs).drop i++ro.toList.drop (i+xs.length+((cells bs).drop i).length))=(cells bs).take i:=by
     rw [List.append_assoc,List.take_append_of_le_length (by omega),List.take_take,Nat.min_eq_left (by omega),<- htk,List.take_take,Nat.min_eq_left (by omega)]
    have e4:List.drop (i+xs.length) (List.take (i+xs.length) ro.toList++(cells bs).drop i++ro.toList.drop (i+xs.length+((cells bs).drop i).length))=(cells bs).drop i++ro.toList.drop (i+xs.length+((cells bs).drop i).length):=by
     rw [List.append_assoc,List.drop_append_of_le_length (by omega),List.drop_eq_nil_of_le (by omega),List.nil_append]
    rw [e3,e4,cells_app,cells_app,cells_take,cells_drop,<- List.append_assoc,<- List.append_assoc,List.take_append_of_le_length (by simp only [List.length_append,List.length_take,hdl,cells_len];omega),
     List.take_of_length_le (by simp only [List.length_append,List.length_take,hdl,cells_len];omega)]
   ·have h1:w.grownBy w.drew (some g):=⟨rfl,rfl,rfl,Nat.le_refl _,fun _ _ _=>rfl⟩
    have h2:=grown_cells g ((cells bs).drop i) (i+xs.length) w.drew
    have h3:=grown_cells g (cells xs) i (w.drew.setCells g (i+xs.length) ((cells bs).drop i))
    exact ⟨h3.1.trans h2.1,h3.2.trans h2.2,h3.3.trans h2.3,Nat.le_trans h2.size h3.size,fun k hk hn=>(h3.block k (Nat.lt_of_lt_of_le hk h2.size) hn).trans (h2.block k hk hn)⟩
  ·refine (insGrow g bs.length cap i vb xs.length vc (cells bs) (cells xs) w hi hm hnc (by omega) hbig (cells_len bs) (cells_len xs) hcl hcv (cells_one bs) (cells_one xs)).mono ?_
   rintro e w' ⟨rfl,rfl⟩
   have hge:=grownCap_ge w (bs.length+xs.length) cap 5
   have hcm2:grownCap w (bs.length+xs.length) cap 5<=maxLen:=grownCap_le_maxLen w _ cap 5 (by unfold maxLen;omega)
   generalize grownCap w (bs.length+xs.length) cap 5=G at hge hcm2 ⊢
   obtain ⟨ROW,hROW⟩:∃ROW:Array Value,ROW=((cells bs).take i).toArray++Builtin.zeroCells (Value.int .u8 0).cells (bs.length+xs.length-i)++Builtin.zeroCells (Value.int .u8 0).cells (G-(bs.length+xs.length)):=⟨_,rfl⟩
   rw [<- hROW]
   have hRs:ROW.size=G:=by
    rw [hROW]
    simp [Builtin.zeroCells,Value.cells,cells_len]
    omega
   have hRt:ROW.toList.take i=(cells bs).take i:=by
    rw [hROW]
    simp only [Array.toList_append,List.append_assoc]
    rw [List.take_append_of_le_length (by show i<=((cells bs).take i).length;rw [List.length_take,cells_len];omega)]
    exact List.take_of_length_le (by show ((cells bs).take i).length<=i;rw [List.length_take];omega)
   have g0:((w.alloc (.cells ROW 5)).drew).heap[w.heap.size]?=some (.cells ROW 5 (0,0)):=heap_alloc_new w _
   have hdl:((cells bs).drop i).length=bs.length-i:=by rw [List.length_drop,cells_len]
   obtain ⟨c1,g1,e1⟩:=heap_cells w.heap.size 5 (cells xs) i _ ROW g0 (by rw [cells_len];omega)
   have s1:c1.size=ROW.size:=by
    have:=congrArg List.length e1
    simp only [List.length_append,List.length_take,List.length_drop,Array.length_toList,cells_len] at this
    omega
   have g1':(((w.alloc (.cells ROW 5)).drew.setCells w.heap.size i (cells xs)).drew).heap[w.heap.size]?=some (.cells c1 5 (0,0)):=g1
   obtain ⟨c2,g2,e2⟩:=heap_cells w.heap.size 5 ((cells bs).drop i) (i+xs.length) _ c1 g1' (by omega)
   have s2:c2.size=ROW.size:=by
    have:=congrArg List.length e2
    simp only [List.length_append,List.length_take,List.length_drop,Array.length_toList,cells_len] at this
    omega
   refine ⟨_,rfl,⟨by rw [cells_len];omega,.inr ⟨w.heap.size,G,c2,by rw [hl1],hB,g2,by omega,hcm2,by omega,?_⟩⟩,?_,.inr rfl⟩
   ·rw [hl1,Nat.mul_one,e2,e1,hRt,cells_len]
    have e3:List.take (i+xs.length) ((cells bs).take i++cells xs++ROW.toList.drop (i+xs.length))=(cells bs).take i++cells xs:=by
     rw [List.take_append_of_le_length (by simp only [List.length_append,List.length_take,cells_len];omega),List.take_of_length_le (by simp only [List.length_append,List.length_take,cells_len];omega)]
    rw [e3,cells_app,cells_app,cells_take,cells_drop,<- List.append_assoc,List.take_append_of_le_length (by simp only [List.length_append,List.length_take,hdl,cells_len];omega),
     List.take_of_length_le (by simp only [List.length_append,List.length_take,hdl,cells_len];omega)]
   ·refine ⟨?_,?_,?_,?_,fun k hk hn=>?_⟩
    ·rw [(grown_cells w.heap.size ((cells bs).drop i) (i+xs.length) _).1];exact (grown_cells w.heap.size (cells xs) i _).1
    ·rw [(grown_cells w.heap.size ((cells bs).drop i) (i+xs.length) _).2];exact (grown_cells w.heap.size (cells xs) i _).2
    ·rw [(grown_cells w.heap.size ((cells bs).drop i) (i+xs.length) _).3];exact (grown_cells w.heap.size (cells xs) i _).3
    ·rw [size_cells]
     show w.heap.size<=((w.alloc (.cells ROW 5)).drew.setCells w.heap.size i (cells xs)).heap.size
     rw [size_cells]
     show w.heap.size<=(w.alloc (.cells ROW 5)).heap.size
     simp
    ·rw [heap_cells_other _ k (by omega)]
     show ((w.alloc (.cells ROW 5)).drew.setCells w.heap.size i (cells xs)).heap[k]?=_
     rw [heap_cells_other _ k (by omega)]
     exact (new_on' w _).block k hk
theorem pIns (B:Nat) (v:Value) (bs xs:List Int) (i vb vc:Nat) (cur:Array Value) (w:World) (hown:w.ownsRow B 5 1 v bs.length (cells bs)) (hB:B<=w.heap.size) (hi:i<=bs.length) (hm:0<xs.length) (hbig:bs.length+xs.length<=140737488355328)
  (hvb:w.heap[vb]?=some (.cells cur 5 (cur.size,cur.size+1))) (hvs:∀(j:Nat) (u:Value),(cells xs)[j]?=some u->cur[j]?=some u) (hne:v.ownBlock≠some vb) :
  Calls Tryd.prog 69 #[v,.int .i64 i,.slice (some ⟨vb,0,none⟩) xs.length vc] w (InsP B v (bs.take i++(xs++bs.drop i)) w):=by
 rcases Nat.lt_or_eq_of_le hi with h|rfl
 ·exact pInsLt B v bs xs i vb vc cur w hown hB h hm hbig hvb hvs hne
 ·rw [List.take_length,List.drop_length,List.append_nil]
  exact insEnd B v bs xs vb vc cur w hown hB hm hbig hvb hvs hne
end Go.Proofs.YtlcpagiljfpbpaaDoor

