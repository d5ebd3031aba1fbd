/- Texts that the claim needs. -/
import Derived.Test.YtlcpagiljfpbpaaDoorQEUn25
namespace Go.Proofs.YtlcpagiljfpbpaaDoor
open Go.RowKit Rep Enc Go.Lib
set_option linter.unusedVariables false
namespace Enc
theorem uB_mono:∀(f:Nat) (a b:Int),a.toNat<=f->0<=a->a<=b->(Leb.uB a).length<=(Leb.uB b).length
 | 0,a,b,hf,h0,hab=>by
  rw [Leb.uB_small h0 (by omega)]
  exact Leb.uB_pos b
 | f+1,a,b,hf,h0,hab=>by
  by_cases ha:a<128
  ·rw [Leb.uB_small h0 ha];exact Leb.uB_pos b
  ·rw [Leb.uB_great (by omega),Leb.uB_great (n:=b) (by omega)]
   have:=uB_mono f (a / 128) (b / 128) (by omega) (by omega) (by omega)
   simp only [List.length_cons];omega
def rnStep (acc:List (Int × Int)) (t:Int):List (Int × Int) :=
 match acc.getLast? with
 | some (c,t')=>if t'=t then acc.dropLast++[(c+1,t)] else acc++[(1,t)]
 | none=>[(1,t)]
def rn (l:List Int):List (Int × Int):=l.foldl rnStep []
theorem rn_snoc (l:List Int) (t:Int):rn (l++[t])=rnStep (rn l) t:=by unfold rn;rw [List.foldl_append];rfl
theorem rn_take {l:List Int} {j:Nat} {t:Int} (h:l[j]?=some t):rn (l.take (j+1))=rnStep (rn (l.take j)) t:=by
 rw [List.take_add_one,h];exact rn_snoc _ _
theorem rnStep_last (acc:List (Int × Int)) (t:Int):∃pre c,rnStep acc t=pre++[(c,t)]:=by
 unfold rnStep
 split
 ·split
  ·exact ⟨_,_,rfl⟩
  ·exact ⟨_,_,rfl⟩
 ·exact ⟨[],1,rfl⟩
theorem rn_last {l:List Int} {j:Nat} {t:Int} (h:l[j]?=some t):∃pre c,rn (l.take (j+1))=pre++[(c,t)]:=by
 rw [rn_take h];exact rnStep_last _ _
theorem rnStep_same {pre:List (Int × Int)} {c t:Int}:rnStep (pre++[(c,t)]) t=pre++[(c+1,t)]:=by
 unfold rnStep;simp
theorem rnStep_other {pre:List (Int × Int)} {c t s:Int} (h:s≠t):rnStep (pre++[(c,s)]) t=(pre++[(c,s)])++[(1,t)]:=by
 unfold rnStep;simp [h]
theorem rn_bound (l:List Int):(rn l).length<=l.length/\∀x ∈ rn l,1<=x.1/\x.1<=l.length/\x.2 ∈ l:=by
 have key:∀j,j<=l.length->(rn (l.take j)).length<=j/\∀x ∈ rn (l.take j),1<=x.1/\x.1<=j/\x.2 ∈ l:=by
  intro j
  induction j with
  | zero=>intro _;simp [rn]
  | succ j ih =>
   intro hj
   obtain ⟨h1,h2⟩:=ih (by omega)
   obtain ⟨t,ht⟩:∃t,l[j]?=some t:=⟨_,List.getElem?_eq_getElem (by omega)⟩
   have hm:=List.mem_of_getElem? ht
   rw [rn_take ht]
   unfold rnStep
   split
   ·rename_i c t' hl
    have hmem:(c,t') ∈ rn (l.take j):=List.mem_of_getLast? hl
    obtain ⟨g1,g2,g3⟩:=h2 _ hmem
    split
    ·refine ⟨by rw [List.length_append,List.length_dropLast];simp;omega,fun x hx=>?_⟩
     rcases List.mem_append.1 hx with hx|hx
     ·have:=h2 x (List.dropLast_subset _ hx);exact ⟨this.1,by have:=this.2.1;omega,this.2.2⟩
     ·rw [List.mem_singleton.1 hx];exact ⟨by show 1<=c+1;simp at g1;omega,by show c+1<=_;simp at g2;omega,hm⟩
    ·refine ⟨by simp;omega,fun x hx=>?_⟩
     rcases List.mem_append.1 hx with hx|hx
     ·have:=h2 x hx;exact ⟨this.1,by have:=this.2.1;omega,this.2.2⟩
     ·rw [List.mem_singleton.1 hx];exact ⟨by show (1:Int)<=1;omega,by show (1:Int)<=_;omega,hm⟩
   ·refine ⟨by simp,fun x hx=>?_⟩
    rw [List.mem_singleton.1 hx];exact ⟨by show (1:Int)<=1;omega,by show (1:Int)<=_;omega,hm⟩
 have:=key l.length (Nat.le_refl _)
 rwa [List.take_of_length_le (Nat.le_refl _)] at this
def locB (l:List Int):List Int:=Leb.uB ((rn l).length:Int)++(rn l).flatMap fun x=>Leb.uB x.1++[x.2%256]
def sizB (b:List Int):List Int:=Leb.uB (b.length:Int)++b
def codB {d:Nat} (x:Fun d):List Int:=locB x.locals++(bytesI d x.body++[11])
def texB (s:ByteArray):List Int:=Leb.uB (s.size:Int)++nums s
def ftB (x:FT):List Int:=[96]++typB x.params++typB x.results
def impB (x:Imp):List Int:=texB x.mod++texB x.name++[0]++Leb.uB x.type
def expB (x:Exp):List Int:=texB x.name++[x.kind%256]++Leb.uB x.index
def gloB {d:Nat} (x:Glo d):List Int:=[x.type%256]++[one x.mtb]++(insB (bytesI d) (size d) x.init++[11])
def elmB {d:Nat} (x:Elm d):List Int:=[0]++(insB (bytesI d) (size d) x.offset++[11])++idxB x.funcs
def datB {d:Nat} (x:Dat d):List Int:=[0]++(insB (bytesI d) (size d) x.offset++[11])++texB x.bytes
def secB (id:Int) (n:Nat) (b:List Int):List Int:=if n=0 then [] else [id]++sizB b
def lisB {α:Type} (f:α->List Int) (l:List α):List Int:=Leb.uB (l.length:Int)++l.flatMap f
def modB {d:Nat} (m:Mod d):List Int :=
 [0,97,115,109,1,0,0,0]++secB 1 m.types.length (lisB ftB m.types)++secB 2 m.imports.length (lisB impB m.imports)++secB 3 m.funcs.length (lisB (fun x=>Leb.uB x.type) m.funcs) ++
 secB 4 m.tables.length (lisB (fun x=>[112]++limB x) m.tables)++secB 5 m.mems.length (lisB limB m.mems)++secB 6 m.globals.length (lisB gloB m.globals)++secB 7 m.exports.length (lisB expB m.exports) ++
 secB 8 m.start.length (m.start.flatMap Leb.uB)++secB 9 m.elems.length (lisB elmB m.elems)++secB 10 m.funcs.length (lisB (fun x=>sizB (codB x)) m.funcs)++secB 11 m.datas.length (lisB datB m.datas)
theorem fm_take {α:Type} {f:α->List Int} {l:List α} {j:Nat} {x:α} (hx:l[j]?=some x):(l.take (j+1)).flatMap f=(l.take j).flatMap f++f x:=by
 rw [List.take_add_one,hx,List.flatMap_append];simp
theorem So.sized {bs b add:List Int} (h:So bs add b) (x:List Int) (hx:x=b.take bs.length++(Leb.uB ((b.length-bs.length:Nat):Int)++b.drop bs.length)) (hle:bs.length<=b.length:=h.1.le):So bs (sizB add) x:=by
 have hm:(Leb.uB ((b.length-bs.length:Nat):Int)).length<=(Leb.uB (add.length:Int)).length:=uB_mono _ _ _ (Nat.le_refl _) (by omega) (by have:=h.2;omega)
 have hl:x.length=b.length+(Leb.uB ((b.length-bs.length:Nat):Int)).length:=by
  rw [hx,List.length_append,List.length_append,List.length_take,List.length_drop];omega
 have h2:=h.2
 refine ⟨?_,by rw [hl];unfold sizB;rw [List.length_append];omega⟩
 rcases h.1 with rfl|⟨h3,h4,h5⟩
 ·refine .inl ?_
  rw [hx];unfold sizB
  simp
 ·exact .inr ⟨by omega,by unfold sizB;rw [List.length_append];omega,by omega⟩
end Enc
end Go.Proofs.YtlcpagiljfpbpaaDoor

namespace Go.Proofs.YtlcpagiljfpbpaaDoor
open Go.RowKit Rep Enc Go.Lib
set_option linter.unusedVariables false
namespace Enc
theorem runInfo:(Tryd.prog.info? 107).map (fun i=>(i.zero,i.size,i.bytes))=some (some (.agg #[.int .i64 0,.int .i64 0]),2,16):=by kernel_rfl
def runCells (l:List (Int × Int)):List Value:=l.flatMap fun x=>[.int .i64 x.1,.int .i64 x.2]
theorem runCells_app (a b:List (Int × Int)):runCells (a++b)=runCells a++runCells b:=by unfold runCells;rw [List.flatMap_append]
theorem runCells_len (a:List (Int × Int)):(runCells a).length=2*a.length:=by
 induction a with
 | nil=>rfl
 | cons x r ih=>unfold runCells at ih ⊢;rw [List.flatMap_cons,List.length_append,ih];simp;omega
theorem runCells_get:∀(l:List (Int × Int)) (i:Nat) (x:Int × Int),l[i]?=some x->(runCells l)[2*i]?=some (.int .i64 x.1)/\(runCells l)[2*i+1]?=some (.int .i64 x.2)
 | [],i,x,h=>by simp at h
 | y :: r,0,x,h=>by
  obtain rfl:y=x:=by simpa using h
  exact ⟨rfl,rfl⟩
 | y :: r,i+1,x,h=>by
  have:=runCells_get r i x (by simpa using h)
  rw [show 2*(i+1)=2*i+2 by omega,show 2*i+2+1=(2*i+1)+2 by omega]
  exact ⟨by unfold runCells at this ⊢;simpa using this.1,by unfold runCells at this ⊢;simpa using this.2⟩
theorem runs_last {w:World} {B k:Nat} {v:Value} {pre:List (Int × Int)} {c t:Int} (h:w.ownsRow B 107 2 v (pre.length+1) (runCells (pre++[(c,t)]))) :
  ∃g cap,v=.slice (some ⟨g,0,none⟩) (pre.length+1) cap/\B<=g/\g<w.heap.size/\w.cell? ⟨g,pre.length*2,none⟩=some (.int .i64 c)/\w.frozen? ⟨g,pre.length*2,none⟩=false /\
   (w.setCell ⟨g,pre.length*2,none⟩ (.int .i64 (c+1))).ownsRow B 107 2 v (pre.length+1) (runCells (pre++[(c+1,t)])):=by
 rcases h.2 with ⟨rfl,h0⟩|⟨g,cap,cur,rfl,hb,hg,hn,hc,hs,ht⟩
 ·omega
 ·have hcell:(runCells (pre++[(c,t)]))[2*pre.length]?=some (.int .i64 c):=(runCells_get _ _ (c,t) (by simp)).1
  have hcur:cur[pre.length*2]?=some (.int .i64 c):=by
   rw [<- ht,List.getElem?_take] at hcell
   split at hcell
   ·rw [Nat.mul_comm];simpa using hcell
   ·cases hcell
  refine ⟨g,cap,rfl,hb,(Array.getElem?_eq_some_iff.1 hg).1,?_,by unfold World.frozen?;rw [hg];simp,?_⟩
  ·rw [cell_of_row w g _ cur _ _ hg];exact hcur
  ·refine ⟨by rw [runCells_len,List.length_append];simp;omega,.inr ⟨g,cap,cur.setIfInBounds (pre.length*2) (.int .i64 (c+1)),rfl,hb,heap_setCell_same w g _ cur _ _ hg,hn,hc,by rw [Array.size_setIfInBounds];exact hs,?_⟩⟩
   rw [Array.toList_setIfInBounds,List.take_set,ht,runCells_app,runCells_app,List.set_append,if_neg (by rw [runCells_len];omega)]
   rw [show pre.length*2-(runCells pre).length=0 by rw [runCells_len];omega]
   rfl
theorem two_new (w:World) (x y:Value) (t:TypeId):∀(j:Nat) (u:Value),[x,y][j]?=some u->(w.alloc (.cells #[x,y] t)).cell? ((⟨w.heap.size,0,none⟩:Addr).add j)=some u:=by
 intro j u hu
 rw [Addr.add_lit,World.cell?_alloc_at _ t _ _ rfl,Nat.zero_add]
 simpa using hu
theorem two_one (a b:Int):∀u ∈ [Value.int .i64 a,.int .i64 b],u.oneCell'=true:=by
 intro u hu
 rcases List.mem_cons.1 hu with rfl|hu
 ·rfl
 ·rw [List.mem_singleton.1 hu];rfl
end Enc
set_option maxRecDepth 100000 in
set_option maxHeartbeats 4000000 in
theorem pRuns (lv:Value) (l:List Int) (w:World) (hL:Ints w lv l) (hl:l.length<=10000000) :
  Calls Tryd.prog 75 #[lv] w fun e w'=>∃v',e=.returned v'/\w'.ownsRow w.heap.size 107 2 v' (rn l).length (runCells (rn l))/\Below w.heap.size w w':=by
 obtain ⟨oL,kL,rfl⟩:=Row.len hL
 obtain ⟨i0,hi,hz0,hz1,hz2⟩:=info_parts runInfo
 have HL:=hideR hL
 clear hL
 generalize hna:l.length=n at *
 go_enter Tryd.func75,Tryd.ntmps75
 go_wp2_with fail
 go_loopw [3,8] (fun t i wr=>∃(j:Nat) (tv:Value),j<=n/\i=.int .i64 j/\tv=t/\Hid (wr.ownsRow w.heap.size 107 2 tv (rn (l.take j)).length (runCells (rn (l.take j))))/\Hid (Below w.heap.size w wr)) (fun _ i _=>n-(RowKit.intOf i).toNat)
 case atStart=>exact ⟨0,_,by omega,rfl,rfl,hideR (by simpa [rn,runCells] using World.ownsRow_nil w w.heap.size 107 2),hideR (Below.refl _ _)⟩
 case round =>
  obtain ⟨j,tv,hj,rfl,rfl,HO,HB⟩:=hrel
  by_cases hgo:j<n
  ·obtain ⟨b1,off1,cap1,hv1,hx1⟩:=Row.some HL.out (by omega)
   injection hv1 with ho1 e11 e12
   subst ho1
   clear e11 e12
   obtain ⟨t,htk⟩:∃t,l[j]?=some t:=⟨_,List.getElem?_eq_getElem (by omega)⟩
   have ct:=cell_on HB.out (hx1 j t htk)
   simp only [Nat.mul_one] at ct
   have HTK:=hideR htk
   clear htk
   have hsz:w.heap.size<=wr.heap.size:=HB.out.size
   have fin:∀(pre:List (Int × Int)) (c:Int) (v9:Value) (w9:World),rn (l.take (j+1))=pre++[(c+1,t)]->w9.ownsRow w.heap.size 107 2 v9 (pre.length+1) (runCells (pre++[(c,t)]))->Below w.heap.size w w9 ->
     ∃g cap,v9=.slice (some ⟨g,0,none⟩) (pre.length+1) cap/\w9.cell? ⟨g,pre.length*2,none⟩=some (.int .i64 c)/\w9.frozen? ⟨g,pre.length*2,none⟩=false /\
      Hid ((w9.setCell ⟨g,pre.length*2,none⟩ (.int .i64 (c+1))).ownsRow w.heap.size 107 2 v9 (rn (l.take (j+1))).length (runCells (rn (l.take (j+1)))))/\Hid (Below w.heap.size w (w9.setCell ⟨g,pre.length*2,none⟩ (.int .i64 (c+1)))):=fun pre c v9 w9 e h hb=>by
    obtain ⟨g,cap,h1,h2,h3,h4,h5,h6⟩:=runs_last (k:=0) h
    exact ⟨g,cap,h1,h4,h5,hideR (by rw [e,List.length_append];exact h6),hideR (hb.setCell (p:=⟨g,_,none⟩) h2 _)⟩
   have HFIN:=hideR fin
   clear fin
   have hkb:(rn (l.take j)).length<=10000000:=by have:=(rn_bound (l.take j)).1;rw [List.length_take] at this;omega
   obtain ⟨o3,k3,rfl⟩:∃o3 k3,tv=.slice o3 (rn (l.take j)).length k3:=by
    rcases HO.out.2 with ⟨rfl,h0⟩|⟨g,cap,cur,rfl,_⟩
    ·rw [h0];exact ⟨_,_,rfl⟩
    ·exact ⟨_,_,rfl⟩
   obtain ⟨K,hKE⟩:∃K,(rn (l.take j)).length=K:=⟨_,rfl⟩
   have HKE:=hideR hKE
   rw [hKE] at HO hkb
   have HK:=hideR hkb
   rw [hKE]
   clear hKE hkb
   rcases Nat.eq_zero_or_pos j with rfl|hj0
   ·have e1:rn (l.take (0+1))=rn (l.take 0)++[((0:Int)+1,t)]:=by rw [rn_take HTK.out];rfl
    have HE1:=hideR e1
    clear e1
    simp only [Nat.add_zero] at ct
    go_wp2_with (first|(at_builtin;refine wpList_appS rfl _ _ 104 rfl w.heap.size 107 i0 _ 2 16 Tryd.underlying104 hi hz0 hz1 hz2 rfl (by decide) _ _ _ rfl (own_on' HO.out (new_on' _ _)) (some ⟨wr.heap.size,0,none⟩) 1 1 [.int .i64 0,.int .i64 t] rfl ?c6 ?c0 ?c1 ?c2 ?c3 ?c4 ?c5 ?_))
    case c6=>intro h;cases h
    case c0=>rfl
    case c1=>exact fun ad h=>by injection h with h;subst h;exact two_new _ _ _ _
    case c2=>exact two_one _ _
    case c3=>have:=HK.out;unfold maxLen;omega
    case c4=>have:=HK.out;omega
    case c5=>exact Nat.le_trans hsz (new_on' _ _).size
    intro v' w9 hown hg hv
    have hbA:=HB.out.trans ((new_on' wr (.cells #[.int .i64 0,.int .i64 t] 107)).mono HB.out.size)
    obtain ⟨g,cap,rfl,hc9,hf9,HO9,HB9⟩:=HFIN.out (rn (l.take 0)) 0 v' w9 HE1.out (by rw [runCells_app,HKE.out];exact hown) (hbA.grown hg hbA.size fun k hk=>(HO.out.lt k hk).1)
    clear hown hg hv hbA HO HFIN
    rw [HKE.out] at hc9 hf9 HO9 HB9
    rw [HKE.out]
    generalize hK1:K+1=K1 at *
    have hK2:(K1:Int)-1=(K:Int):=by omega
    have hK3:IntKind.i64.wrap ((K1:Int)-1)=(K:Int):=by have:=HK.out;rw [hK2,IntKind.wrap_i64];omega
    have hK4:K<K1:=by omega
    have hK5:wrap64 (K:Int)=(K:Int):=by have:=HK.out;unfold wrap64;omega
    go_wp2
    go_roundw
    case rel=>exact ⟨0+1,_,by omega,by go_num,rfl,HO9,HB9⟩
    case measure=>simp [RowKit.intOf];omega
   ·obtain ⟨j',rfl⟩:∃j',j=j'+1:=⟨j-1,by omega⟩
    clear hj0
    obtain ⟨s,hsk⟩:∃s,l[j']?=some s:=⟨_,List.getElem?_eq_getElem (by omega)⟩
    have cs:=cell_on HB.out (hx1 j' s hsk)
    simp only [Nat.mul_one] at cs
    have HPL:=hideR (rn_last hsk)
    clear hsk hx1
    by_cases hst:s=t
    ·subst hst
     obtain ⟨pre,c,hp⟩:=HPL.out
     have e1:rn (l.take (j'+1+1))=pre++[(c+1,s)]:=by rw [rn_take HTK.out,hp,rnStep_same]
     have hKp:K=pre.length+1:=by rw [<- HKE.out,hp,List.length_append];rfl
     obtain ⟨g,cap,hv9,hc9,hf9,HO9,HB9⟩:=HFIN.out pre c (.slice o3 K k3) wr e1 (by rw [<- hKp,<- hp];exact HO.out) HB.out
     have hcb:-1<=c/\c<=10000000:=by
      have h1:=(rn_bound (l.take (j'+1))).2 (c,s) (by rw [hp];simp)
      have h2:(l.take (j'+1)).length<=n:=by rw [List.length_take];omega
      have h3:=h1.1
      have h4:=h1.2.1
      simp only at h3 h4
      omega
     have hw9:wrap64 (c+1)=c+1:=by unfold wrap64;omega
     injection hv9 with hv1 hv2 hv3
     subst hv1
     clear hv2 hv3 hp e1 HPL HO HFIN
     generalize hK0:pre.length=K0 at *
     have hK2:(K:Int)-1=(K0:Int):=by omega
     have hK4:K0<K:=by omega
     have hK5:wrap64 (K0:Int)=(K0:Int):=by have:=HK.out;unfold wrap64;omega
     clear hK0 hKp
     have hb0:(((j':Int)+1 == 0):Bool)=false:=by simp;omega
     have hb2:(s != s)=false:=by simp
     go_wp2
     go_roundw
     case rel=>exact ⟨j'+1+1,_,by omega,by go_num,rfl,HO9,HB9⟩
     case measure=>simp [RowKit.intOf];omega
    ·have e1:rn (l.take (j'+1+1))=rn (l.take (j'+1))++[((0:Int)+1,t)]:=by
      obtain ⟨pre,c,hp⟩:=HPL.out
      rw [rn_take HTK.out,hp,rnStep_other hst];rfl
     have HE1:=hideR e1
     clear e1 HPL
     have hb0:(((j':Int)+1 == 0):Bool)=false:=by simp;omega
     have hb1:(t != s)=true:=by simp;exact fun e=>hst e.symm
     have hb3:¬ t=s:=fun e=>hst e.symm
     go_wp2_with (first|(at_builtin;refine wpList_appS rfl _ _ 104 rfl w.heap.size 107 i0 _ 2 16 Tryd.underlying104 hi hz0 hz1 hz2 rfl (by decide) _ _ _ rfl (own_on' HO.out (new_on' _ _)) (some ⟨wr.heap.size,0,none⟩) 1 1 [.int .i64 0,.int .i64 t] rfl ?c6 ?c0 ?c1 ?c2 ?c3 ?c4 ?c5 ?_))
     case c6=>intro h;cases h
     case c0=>rfl
     case c1=>exact fun ad h=>by injection h with h;subst h;exact two_new _ _ _ _
     case c2=>exact two_one _ _
     case c3=>have:=HK.out;unfold maxLen;omega
     case c4=>have:=HK.out;omega
     case c5=>exact Nat.le_trans hsz (new_on' _ _).size
     intro v' w9 hown hg hv
     have hbA:=HB.out.trans ((new_on' wr (.cells #[.int .i64 0,.int .i64 t] 107)).mono HB.out.size)
     obtain ⟨g,cap,rfl,hc9,hf9,HO9,HB9⟩:=HFIN.out (rn (l.take (j'+1))) 0 v' w9 HE1.out (by rw [runCells_app,HKE.out];exact hown) (hbA.grown hg hbA.size fun k hk=>(HO.out.lt k hk).1)
     clear hown hg hv hbA HO HFIN
     rw [HKE.out] at hc9 hf9 HO9 HB9
     rw [HKE.out]
     generalize hK1:K+1=K1 at *
     have hK2:(K1:Int)-1=(K:Int):=by omega
     have hK3:IntKind.i64.wrap ((K1:Int)-1)=(K:Int):=by have:=HK.out;rw [hK2,IntKind.wrap_i64];omega
     have hK4:K<K1:=by omega
     have hK5:wrap64 (K:Int)=(K:Int):=by have:=HK.out;unfold wrap64;omega
     go_wp2
     go_roundw
     case rel=>exact ⟨(j'+1)+1,_,by omega,by go_num,rfl,HO9,HB9⟩
     case measure=>simp [RowKit.intOf];omega
  ·obtain rfl:n=j:=by omega
   have e1:rn (l.take n)=rn l:=by rw [List.take_of_length_le (by omega)]
   rw [e1] at HO
   go_wp2
   go_ret
   exact ⟨_,rfl,HO.out,HB.out⟩
end Go.Proofs.YtlcpagiljfpbpaaDoor

namespace Go.Proofs.YtlcpagiljfpbpaaDoor
open Go.RowKit Rep Enc Go.Lib
set_option linter.unusedVariables false
namespace Enc
theorem runs_row {w:World} {B:Nat} {v:Value} {l:List (Int × Int)} (h:w.ownsRow B 107 2 v l.length (runCells l)) :
  ∃o cap,v=.slice o l.length cap/\(0<l.length->∃g,o=some ⟨g,0,none⟩/\B<=g/\g<w.heap.size/\∀(i:Nat) (x:Int × Int),l[i]?=some x->w.cell? ⟨g,i*2,none⟩=some (.int .i64 x.1)/\w.cell? ⟨g,i*2+1,none⟩=some (.int .i64 x.2)):=by
 rcases h.2 with ⟨rfl,h0⟩|⟨g,cap,cur,rfl,hb,hg,hn,hc,hs,ht⟩
 ·rw [h0];exact ⟨_,_,rfl,fun h=>absurd h (by omega)⟩
 ·refine ⟨_,_,rfl,fun _=>⟨g,rfl,hb,(Array.getElem?_eq_some_iff.1 hg).1,fun i x hx=>?_⟩⟩
  obtain ⟨h1,h2⟩:=runCells_get l i x hx
  have key:∀(k:Nat) (u:Value),(runCells l)[k]?=some u->w.cell? ⟨g,k,none⟩=some u:=fun k u hu=>by
   rw [cell_of_row w g k cur _ _ hg]
   rw [<- ht,List.getElem?_take] at hu
   split at hu
   ·simpa using hu
   ·cases hu
  rw [show i*2=2*i by omega]
  exact ⟨key _ _ h1,key _ _ h2⟩
end Enc
set_option maxRecDepth 100000 in
set_option maxHeartbeats 4000000 in
theorem wLoc (w0:World) (p:Nat) (c:Nat->Value) (v:Value) (bs:List Int) (lv:Value) (l:List Int) (w:World) (h:WS w0 p c v bs w) (hL:Ints w0 lv l) (hl:l.length<=1000000) (hn:bs.length<=39000000000000) :
  Calls Tryd.prog 67 #[.pointer (some ⟨p,0,none⟩),lv] w (Does w0 p c v w (bs++locB l)):=by
 obtain ⟨oL,kL,rfl⟩:=Row.len hL
 have HR:=hideR (pRuns _ l w (hL.on h.below) (by omega))
 have hbd:=rn_bound l
 obtain ⟨R,hR⟩:∃R,rn l=R:=⟨_,rfl⟩
 have hloc:locB l=Leb.uB (R.length:Int)++R.flatMap fun x:Int × Int=>Leb.uB x.1++[x.2%256]:=by unfold locB;rw [hR]
 rw [hloc]
 rw [hR] at HR hbd
 have hcl:∀j,(List.flatMap (fun x:Int × Int=>Leb.uB x.1++[x.2%256]) (R.take j)).length<=11000000:=fun j=>by
  have key:∀(q:List (Int × Int)),(∀x ∈ q,1<=x.1/\x.1<=1000000)->(q.flatMap fun x:Int × Int=>Leb.uB x.1++[x.2%256]).length<=11*q.length:=by
   intro q
   induction q with
   | nil=>intro _;simp
   | cons x r ih =>
    intro hq
    have h1:=ih fun y hy=>hq y (List.mem_cons_of_mem _ hy)
    have h2:=hq x (List.mem_cons_self ..)
    have h3:=Leb.uB_ten (n:=x.1) (by omega) (by omega)
    rw [List.flatMap_cons,List.length_append,List.length_append,List.length_cons]
    simp only [List.length_cons,List.length_nil]
    omega
  have h1:=key (R.take j) fun x hx=>by
   have:=hbd.2 x (List.mem_of_mem_take hx)
   have h4:=this.2.1
   exact ⟨this.1,by omega⟩
  rw [List.length_take] at h1
  have:=hbd.1
  omega
 have HCL:=hideR hcl
 have hRl:R.length<=1000000:=by have:=hbd.1;omega
 have HRB:Hid (∀x ∈ R,1<=x.1/\x.1<=1000000):=hideR fun x hx=>by have:=hbd.2 x hx;have h4:=this.2.1;exact ⟨this.1,by omega⟩
 have hten:=Leb.uB_ten (n:=(R.length:Int)) (by omega) (by omega)
 have HS:=hideR h
 have hpw:p<w.heap.size:=h.lt
 have HOW:Hid (∀k,v.ownBlock=some k->k<w.heap.size):=hideR fun k hk=>(h.own.lt k hk).2
 generalize hna:l.length=n at *
 clear hbd hcl h hL hloc hR
 obtain ⟨u0,hu0⟩:∃u0,Leb.uB (R.length:Int)=u0:=⟨_,rfl⟩
 rw [hu0] at hten ⊢
 have HU0:=hideR hu0
 clear hu0
 go_enter Tryd.func67,Tryd.ntmps67
 go_wp2_with fail
 refine HR.out.mono ?_
 rintro e w1 ⟨v9,rfl,hown,hb1⟩
 clear HR
 obtain ⟨oR,kR,rfl,hrow⟩:=runs_row hown
 have HS1:=hideR (HS.out.on hb1)
 have HK1:Hid (Kept p v w v w1):=hideR (Kept.below hb1)
 have hs1:w.heap.size<=w1.heap.size:=hb1.size
 have HROW:=hideR hrow
 clear hown hb1 hrow HS
 have HC:=hideR (wU w0 p c v bs (R.length:Int) w1 HS1.out (by omega) (by omega) (by omega))
 generalize hm:R.length=m at *
 rw [HU0.out] at HC
 go_wp2_with fail
 refine HC.out.mono ?_
 rintro e w2 ⟨v2,rfl,hh,kk⟩
 have HS2:=hideR hh
 have HK12:Hid (Kept p v w1 v2 w2):=hideR kk
 clear hh kk HC HS1
 go_wp2_with fail
 go_loopw [15] (fun i wr=>∃(j:Nat) (v3:Value),j<=m/\i=.int .i64 j/\Hid (WS w0 p c v3 (bs++u0++(R.take j).flatMap fun x:Int × Int=>Leb.uB x.1++[x.2%256]) wr)/\Hid (Kept p v w1 v3 wr)) (fun i _=>m-(RowKit.intOf i).toNat)
 case atStart=>exact ⟨0,v2,by omega,rfl,hideR (by simpa using HS2.out),HK12⟩
 case round =>
  clear HS2 HK12
  obtain ⟨j,v3,hj,rfl,HWS,HKW⟩:=hrel
  by_cases hgo:j<m
  ·obtain ⟨g,rfl,hg1,hg2,hcs⟩:=HROW.out (by omega)
   obtain ⟨x,hxk⟩:∃x,R[j]?=some x:=⟨_,List.getElem?_eq_getElem (by omega)⟩
   have HXK:=hideR hxk
   obtain ⟨cx0,cx1⟩:=hcs j x hxk
   have hblk:=HKW.out.block g hg2 (by omega) (fun e=>by have:=HOW.out _ e.symm;omega)
   have cz0:=(World.cell?_of_block (a:=⟨g,_,none⟩) hblk).trans cx0
   have cz1:=(World.cell?_of_block (a:=⟨g,_,none⟩) hblk).trans cx1
   have hxb:=HRB.out x (List.mem_of_getElem? hxk)
   clear hcs hxk cx0 cx1 hblk
   have HTK:Hid ((R.take (j+1)).flatMap (fun x:Int × Int=>Leb.uB x.1++[x.2%256])=(R.take j).flatMap (fun x:Int × Int=>Leb.uB x.1++[x.2%256])++(Leb.uB x.1++[x.2%256])):=hideR (fm_take HXK.out)
   have HCJ:=hideR (HCL.out j)
   have HBB:Hid ((bs++u0++(R.take j).flatMap fun x:Int × Int=>Leb.uB x.1++[x.2%256]).length<=40200000000000):=hideR (by rw [List.length_append,List.length_append];have:=HCJ.out;omega)
   obtain ⟨b3,hb3⟩:∃b3,bs++u0++(R.take j).flatMap (fun x:Int × Int=>Leb.uB x.1++[x.2%256])=b3:=⟨_,rfl⟩
   rw [hb3] at HWS HBB
   have HB3:=hideR hb3
   clear hb3
   obtain ⟨y0,y1⟩:=x
   simp only at cz0 cz1 hxb
   go_upto_region 5 with fail
   obtain ⟨u1,hu1⟩:∃u1,u1=wr.alloc (.cells #[.int .i64 y0,.int .i64 y1] 107):=⟨_,rfl⟩
   have HBK:Hid (Bx u1 wr.heap.size 107 #[.int .i64 y0,.int .i64 y1]):=hideR (by rw [hu1];exact Bx.new rfl)
   have HU:Hid (Below wr.heap.size wr u1):=hideR (by rw [hu1];exact new_on' _ _)
   rw [<- hu1]
   clear hu1 cz0 cz1
   have HNP:Hid (wr.heap.size≠p):=hideR (by have:=HWS.out.lt;omega)
   have HNO:Hid (some wr.heap.size≠v3.ownBlock):=hideR (fun e=>by have:=(HWS.out.own.lt _ e.symm).2;omega)
   have HS4:=hideR (HWS.out.on HU.out)
   have HK4:=hideR (HKW.out.trans (Kept.below (p:=p) (v:=v3) HU.out))
   clear HWS HKW HU
   generalize wr.heap.size=p3 at HBK HNP HNO ⊢
   have k0:=HBK.out.cell 0 _ rfl
   have k1:=HBK.out.cell 1 _ rfl
   have HC:=hideR (wU w0 p c v3 b3 y0 u1 HS4.out (by omega) (by omega) (by have:=HBB.out;omega))
   go_wp2_with fail
   refine HC.out.mono ?_
   rintro e w5 ⟨v5,rfl,hh,kk⟩
   obtain ⟨bb,bo⟩:=kk.bx HBK.out HNP.out HNO.out
   have HS5:=hideR hh
   have HBK5:=hideR bb
   have HK5:=hideR (HK4.out.trans kk)
   clear hh kk bb bo HC HS4 HBK HK4 HNO k0 k1
   have k0:=HBK5.out.cell 0 _ rfl
   have k1:=HBK5.out.cell 1 _ rfl
   have HC:=hideR (wPut w0 p c v5 (b3++Leb.uB y0) y1 w5 HS5.out (by have h1:=HBB.out;have h2:=Leb.uB_ten (n:=y0) (by omega) (by omega);rw [List.length_append];omega))
   go_wp2_with fail
   refine HC.out.mono ?_
   rintro e w6 ⟨v6,rfl,hh,kk⟩
   have HS6:Hid (WS w0 p c v6 (bs++u0++(R.take (j+1)).flatMap fun x:Int × Int=>Leb.uB x.1++[x.2%256]) w6):=hideR (by
    rw [HTK.out,<- List.append_assoc,HB3.out,<- List.append_assoc];exact hh)
   have HK6:=hideR (HK5.out.trans kk)
   clear hh kk HC HS5 HBK5 HK5 k0 k1
   go_wp2
   go_roundw
   case rel=>exact ⟨j+1,v6,by omega,by go_num,HS6,HK6⟩
   case measure=>simp [RowKit.intOf];omega
  ·obtain rfl:m=j:=by omega
   have HF:Hid (WS w0 p c v3 (bs++(u0++R.flatMap fun x:Int × Int=>Leb.uB x.1++[x.2%256])) wr):=hideR (by have:=HWS.out;rw [List.take_of_length_le (by omega),List.append_assoc] at this;exact this)
   go_wp2
   go_end0
   exact ⟨_,rfl,HF.out,HK1.out.trans HKW.out⟩
end Go.Proofs.YtlcpagiljfpbpaaDoor

