/- Texts that the claim needs. -/
import Derived.Test.YtkflfohoinbenaaQTS1
import Derived.Test.YtkflfohoinbenaaQTS7
namespace Go.Proofs.Ytkflfohoinbenaa
open Go.RowKit Rep
set_option linter.unusedVariables false
namespace Reg
section
variable {P:Program} {ops:Array Oper} {Q:Exit->Act->World->Prop} {id:Nat} {a0:Act} {w0:World}
def AheadH (ops:Array Oper) (a0:Act) (n:Nat) (dst:Nat->Nat) (K:World->Prop) (R:Nat->World->Prop) (G:Nat->Value->World->Prop) (L:Array Bool) (a:Act) (w:World):Prop :=
 (∀k,n<=k->L.getD k false=false)/\Fr a0 dst n a/\K w/\(∀i,i<n->L.getD i false=false->R i w)/\∀i,i<n->L.getD i false=true->G i (a.eval (.tmp (dst i))) w
theorem wp_region_effh (n:Nat) (dst:Nat->Nat) (T:Nat->World->World->Prop) (K:World->Prop) (R:Nat->World->Prop) (G:Nat->Value->World->Prop) (hm:P.follows .mixedOrders=true) (hT:tailOk ops n=true)
  (hinj:∀i j,i<n->j<n->dst i=dst j->i=j)
  (hdst:∀i,i<n->∃o,ops[i]?=some o/\o.dst=some (dst i)/\dst i<a0.tmps.size)
  (hstab:∀i k v w w',i<n->k<n->i≠k->K w->G i v w->T k w w'->G i v w')
  (hres:∀i k w w',i<n->k<n->i≠k->R i w->T k w w'->R i w')
  (hK:∀k w w',k<n->K w->T k w w'->K w')
  (hstep:∀i o a w,i<n->ops[i]?=some o->Fr a0 dst n a->K w->R i w->(∀j ∈ deps o,G j (a.eval (.tmp (dst j))) w)->Region.wanted o (yielded ops a.tmps)=true/\o.wp P a w (fun a' w'=>∃v,a'=a.put o.dst v/\T i w w'/\G i v w') Q)
  (htail:∀a w,Fr a0 dst n a->K w->(∀i,i<n->G i (a.eval (.tmp (dst i))) w)->wpList P ops Q (ops.toList.drop n) a w)
  (hK0:K { w0 with drawn:=w0.drawn+1 }) (hR0:∀i,i<n->R i { w0 with drawn:=w0.drawn+1 }) :
  (Code.region id ops true).wp P Q a0 w0:=by
 have hT2:=hT
 unfold tailOk at hT2
 rw [Bool.and_eq_true,List.all_eq_true,decide_eq_true_eq] at hT2
 obtain ⟨hn,hT2⟩:=hT2
 have hlow:∀i,i<ops.size->∀j ∈ depsAt ops i,j<i:=fun i hi j hj=>by
  have:=hT2 i (List.mem_range.2 hi)
  rw [Bool.and_eq_true,List.all_eq_true] at this
  exact of_decide_eq_true (this.1 j hj)
 have hbig:∀(L:Array Bool) i,n<=i->i<ops.size->Closed ops L->(∀j ∈ depsAt ops i,L.getD j false=true)->∀j,j<i->L.getD j false=true:=fun L i hi hs hc hd j hj=>by
  have:=hT2 i (List.mem_range.2 hs)
  rw [Bool.and_eq_true,Bool.or_eq_true,decide_eq_true_eq] at this
  rcases this.2 with h|h
  ·omega
  ·have hjm:j ∈ clos ops [i] i:=by simpa using (List.all_eq_true.1 h) j (List.mem_range.2 hj)
   rcases clos_mem hc hd i [i] (fun m hm=>.inl (List.mem_singleton.1 hm)) j hjm with h|h
   ·omega
   ·exact h
 refine wp_region_inv (fun L a w=>L.size=ops.size/\Closed ops L/\(AheadH ops a0 n dst K R G L a w\/Behind P ops Q n L a w)) hm ?_ ?_ ?_
 ·rintro L i a w hi ⟨hsz,hc,hph⟩
  obtain ⟨hLi,o,ho,hd⟩:=ready_deps hi
  obtain ⟨hiL,hLf⟩:=getD_false hLi
  have hd':∀j ∈ depsAt ops i,L.getD j false=true:=by rw [depsAt_some ho];exact hd
  have hsz':(L.setIfInBounds i true).size=ops.size:=by rw [Array.size_setIfInBounds,hsz]
  have hc':Closed ops (L.setIfInBounds i true):=fun m hm j hj=>by
   rw [getD_set L i _ hiL] at hm ⊢
   split
   ·rfl
   ·by_cases he:m=i
    ·subst he;exact hd' j hj
    ·rw [if_neg he] at hm;exact hc m hm j hj
  have low:∀k,n<=k->(∀j,j<k->L.getD j false=true)->(∀j,k<=j->L.getD j false=false)->n<=i->i=k:=fun k hnk hk1 hk2 hni=>by
   have h1:=hbig L i hni (by omega) hc hd'
   rcases Nat.lt_trichotomy i k with h|h|h
   ·rw [hk1 i h] at hLf;cases hLf
   ·exact h
   ·have:=h1 k h;rw [hk2 k (Nat.le_refl _)] at this;cases this
  have onBehind:∀k,k=i->n<=k->(∀j,j<k->L.getD j false=true)->(∀j,k<=j->L.getD j false=false)->wpList P ops Q (ops.toList.drop k) a w->wpOp P ops Q i (fun a w=>(L.setIfInBounds i true).size=ops.size/\Closed ops (L.setIfInBounds i true)/\(AheadH ops a0 n dst K R G (L.setIfInBounds i true) a w\/Behind P ops Q n (L.setIfInBounds i true) a w)) a w:=by
   rintro k rfl hnk hk1 hk2 hwp
   have hks:k<ops.size:=by omega
   have hcons:ops.toList.drop k=o :: ops.toList.drop (k+1):=by
    rw [List.drop_eq_getElem_cons (by simpa using hks)]
    congr 1
    have:=Array.getElem?_eq_getElem hks
    rw [ho] at this
    simpa using (Option.some.inj this).symm
   rw [hcons] at hwp
   have up:∀a w,wpList P ops Q (ops.toList.drop (k+1)) a w->(L.setIfInBounds k true).size=ops.size/\Closed ops (L.setIfInBounds k true)/\(AheadH ops a0 n dst K R G (L.setIfInBounds k true) a w\/Behind P ops Q n (L.setIfInBounds k true) a w):=fun a w h =>
    ⟨hsz',hc',.inr ⟨k+1,by omega,fun j hj=>by
     rw [getD_set L k _ hiL]
     split
     ·rfl
     ·exact hk1 j (by omega),fun j hj=>by
     rw [getD_set L k _ hiL,if_neg (by omega)]
     exact hk2 j (by omega),h⟩⟩
   unfold wpOp
   rw [ho]
   unfold wpList at hwp
   show ite _ _ _
   split
   ·rename_i hw
    rw [if_pos hw] at hwp
    exact hwp.imp (Oper.wp_mono up) (fun h=>h)
   ·rename_i hw
    rw [if_neg hw] at hwp
    exact up _ _ hwp
  rcases hph with ⟨hk,hF,hB,hR,hG⟩|⟨k,hnk,hk1,hk2,hwp⟩
  ·by_cases hin:i<n
   ·obtain ⟨o',ho',hod,hos⟩:=hdst i hin
    have:o'=o:=by rw [ho] at ho';exact (Option.some.inj ho').symm
    subst this
    have hs:=hstep i o' a w hin ho hF hB (hR i hin hLf) (fun j hj=>hG j (by have:=hlow i (by omega) j (by rw [depsAt_some ho];exact hj);omega) (hd j hj))
    unfold wpOp
    rw [ho]
    show ite _ _ _
    rw [if_pos hs.1]
    refine .inl (Oper.wp_mono ?_ hs.2)
    rintro a' w' ⟨v,rfl,hBw,hGv⟩
    have hos':dst i<a.tmps.size:=by rw [hF.size];exact hos
    refine ⟨hsz',hc',.inl ⟨fun k hnk=>?_,by rw [hod];exact hF.put hin v,?_,fun j hj hLj=>?_,fun j hj hLj=>?_⟩⟩
    ·rw [getD_set L i _ hiL,if_neg (by omega)];exact hk k hnk
    ·exact hK i w w' hin hB hBw
    ·by_cases he:j=i
     ·subst he;rw [getD_set L j _ hiL,if_pos rfl] at hLj;cases hLj
     ·rw [getD_set L i _ hiL,if_neg he] at hLj
      exact hres j i w w' hj hin he (hR j hj hLj) hBw
    ·rw [hod]
     by_cases he:j=i
     ·subst he;rw [put_eval_same v hos'];exact hGv
     ·rw [getD_set L i _ hiL,if_neg he] at hLj
      rw [put_eval_ne v (fun e=>he (hinj i j hin hj e).symm)]
      exact hstab j i _ w w' hj hin he hB (hG j hj hLj) hBw
   ·have h1:=hbig L i (by omega) (by omega) hc hd'
    have hin':n=i:=by
     rcases Nat.lt_or_ge n i with h|h
     ·have:=h1 n h;rw [hk n (Nat.le_refl _)] at this;cases this
     ·omega
    refine onBehind n hin' (Nat.le_refl _) (fun j hj=>h1 j (by omega)) hk (htail a w hF hB fun j hj=>hG j hj (h1 j (by omega)))
  ·rcases Nat.lt_or_ge i n with h|h
   ·rw [hk1 i (by omega)] at hLf;cases hLf
   ·exact onBehind k (low k hnk hk1 hk2 h).symm hnk hk1 hk2 hwp
 ·rintro L a w hr ⟨hsz,hc,⟨hk,_⟩|⟨k,hnk,hk1,hk2,hwp⟩⟩
  ·have:=not_ready hT hsz hr n hn
   rw [hk n (Nat.le_refl _)] at this;cases this
  ·have:ops.size<=k:=by
    rcases Nat.lt_or_ge k ops.size with h|h
    ·have:=not_ready hT hsz hr k h
     rw [hk2 k (Nat.le_refl _)] at this;cases this
    ·exact h
   rw [List.drop_eq_nil_of_le (by simpa using this)] at hwp
   exact hwp
 ·have hf:∀k,(Array.replicate ops.size false).getD k false=false:=fun k=>by
   simp [Array.getD]
  refine ⟨by simp,fun i hi=>?_,.inl ⟨fun k _=>hf k,⟨rfl,rfl,fun _ _=>rfl⟩,hK0,fun i hi _=>hR0 i hi,fun i _ hL=>?_⟩⟩
  ·rw [hf] at hi;cases hi
  ·rw [hf] at hL;cases hL
end
end Reg
end Go.Proofs.Ytkflfohoinbenaa
namespace Go.Proofs.Ytkflfohoinbenaa
open Go.RowKit Lx Pz Rep Ty
set_option linter.unusedVariables false
namespace Ty
def tI:Value:=nd 1 e0 e0 0 [] [] 0
def lT (t:Value):Value:=nd 4 ⟨#[108,105,115,116]⟩ e0 0 [t] [] 0
def fT (s t:Value):Value:=nd 3 e0 e0 0 [s,t] [] 0
def hT (m f:Nat):Nat->Value:=(unT (m+6) (f+4) 0 vr (fT (vr 0) tI) (fT (lT (vr 1)) (vr 1))).2.2
theorem wk1 (m f:Nat):(unT (m+6) (f+4) 0 vr (fT (vr 0) tI) (fT (lT (vr 1)) (vr 1))).1=0:=by rfl
theorem wk2 (m f:Nat):(lkT (hT m f) 0 (m+6) 0 (vr 0)).1=0:=by rfl
theorem wk3 (m f:Nat):btT (hT m f) (m+6) (vr 0)=lT tI:=by rfl
theorem wk4 (m f:Nat):(unT (m+6) (f+4) 0 (hT m f) (vr 0) (lT (vr 0))).1=150:=by rfl
theorem tk1:tkT 2 1 (fT (vr 0) tI)=true:=by rfl
theorem tk2:tkT 2 2 (fT (lT (vr 1)) (vr 1))=true:=by rfl
theorem tk3:tkT 2 0 (vr 0)=true:=by rfl
theorem tk4:tkT 2 1 (lT (vr 0))=true:=by rfl
theorem plen17 {l:List Value} (h:l.length=17):∃a0 a1 a2 a3 a4 a5 a6 a7 a8 a9 b0 b1 b2 b3 b4 b5 b6,l = [a0,a1,a2,a3,a4,a5,a6,a7,a8,a9,b0,b1,b2,b3,b4,b5,b6]:=by
 match l,h with
 | [a0,a1,a2,a3,a4,a5,a6,a7,a8,a9,b0,b1,b2,b3,b4,b5,b6],_=>exact ⟨_,_,_,_,_,_,_,_,_,_,_,_,_,_,_,_,_,rfl⟩
theorem plen8 {l:List Value} (h:l.length=8):∃a0 a1 a2 a3 a4 a5 a6 a7,l = [a0,a1,a2,a3,a4,a5,a6,a7]:=by
 match l,h with
 | [a0,a1,a2,a3,a4,a5,a6,a7],_=>exact ⟨_,_,_,_,_,_,_,_,rfl⟩
theorem few_nd {d:Nat} {k n:Int} {x:ByteArray} {es:List Value} (hl:es.length<=200010) (h:∀z ∈ es,few d z):few (d+1) (nd k x e0 n es [] 0):=⟨⟨_,_,_,_,_,_,_,rfl⟩,hl,Nat.zero_le _,h,fun z hz=>absurd hz (List.not_mem_nil)⟩
theorem few_lf {k n:Int} {x:ByteArray}:few 0 (nd k x e0 n [] [] 0):=⟨⟨_,_,_,_,_,_,_,rfl⟩,rfl,rfl⟩
theorem smT_nd {k n:Int} {x:ByteArray} {es:List Value} (hx:x.size<=281474976710656) (h:∀z ∈ es,∀e,smT e z):∀e,smT e (nd k x e0 n es [] 0)
 | 0=>trivial
 | e+1=>⟨hx,fun z hz=>h z hz e⟩
theorem fewA:few 1 (fT (vr 0) tI):=few_nd (by simp) fun z hz=>by
 simp only [List.mem_cons,List.not_mem_nil,or_false] at hz
 rcases hz with rfl|rfl
 ·exact few_lf
 ·exact few_lf
theorem few1 {t:Value} (h:few 0 t):few 1 (lT t):=few_nd (by simp) fun z hz=>by
 simp only [List.mem_cons,List.not_mem_nil,or_false] at hz
 rcases hz with rfl
 exact h
theorem fewB:few 2 (fT (lT (vr 1)) (vr 1)):=few_nd (by simp) fun z hz=>by
 simp only [List.mem_cons,List.not_mem_nil,or_false] at hz
 rcases hz with rfl|rfl
 ·exact few1 few_lf
 ·exact few_up _ _ few_lf
theorem smE:(e0:ByteArray).size<=281474976710656:=by decide
theorem smL:(⟨#[108,105,115,116]⟩:ByteArray).size<=281474976710656:=by decide
theorem smV (j:Nat):∀e,smT e (vr j):=smT_nd smE fun z hz=>by cases hz
theorem smI:∀e,smT e tI:=smT_nd smE fun z hz=>by cases hz
theorem sm1 {t:Value} (h:∀e,smT e t):∀e,smT e (lT t):=smT_nd smL fun z hz=>by
 simp only [List.mem_cons,List.not_mem_nil,or_false] at hz
 rcases hz with rfl
 exact h
theorem sm2 {s t:Value} (h:∀e,smT e s) (h':∀e,smT e t):∀e,smT e (fT s t):=smT_nd smE fun z hz=>by
 simp only [List.mem_cons,List.not_mem_nil,or_false] at hz
 rcases hz with rfl|rfl
 ·exact h
 ·exact h'
theorem AtX.lf {S:Nat->Prop} {w:World} {d:Nat} {k n:Int} {x:ByteArray}:AtX S w d (nd k x e0 n [] [] 0) (.agg #[.int .i64 k,.string x,.int .i64 n,.slice none 0 0]):=⟨k,x,n,[],_,rfl,rfl,row_nil _ _⟩
theorem Kp.bel {p:Nat} {q:Option Nat} {w a w':World} (h:Kp p q a w') (hb:Below w.heap.size w a) (hp:w.heap.size<=p) (hq:∀k,q=some k->w.heap.size<=k):Below w.heap.size w w':=⟨h.os.trans hb.os,h.tape.trans hb.tape,h.output.trans hb.output,Nat.le_trans hb.size h.size,fun k hk=>(h.block k (Nat.lt_of_lt_of_le hk hb.size) (by omega) (fun e=>by have:=hq k e;omega)).trans (hb.block k hk)⟩
theorem Kv.bel {vs:Value} {w a w':World} (h:Kv vs a w') (hb:Below w.heap.size w a) (hq:∀k,vs.ownBlock=some k->w.heap.size<=k):Below w.heap.size w w':=⟨h.os.trans hb.os,h.tape.trans hb.tape,h.output.trans hb.output,Nat.le_trans hb.size h.size,fun k hk=>(h.block k (Nat.lt_of_lt_of_le hk hb.size) (fun e=>by have:=hq k e;omega)).trans (hb.block k hk)⟩
theorem SO.new {B p:Nat} {vs:Value} {w:World} {ls:List Value} (h:SV B p ls vs w) (hl:∀l ∈ ls,l=.pointer none):SO (SX p vs) B ls.length vr p vs w:=⟨⟨.inl rfl,fun k e=>.inr e⟩,ls,fun _=>0,h,rfl,fun j l hj=>.inl ⟨hl l (List.mem_of_getElem? hj),rfl⟩⟩
end Ty
set_option maxRecDepth 100000 in
set_option maxHeartbeats 8000000 in
theorem wakesC (w:World):Calls Try.prog 10 #[] w fun e w'=>e=.returned (.bool true)/\Below w.heap.size w w':=by
 obtain ⟨m,hm0⟩:∃m,1025<=m+6:=⟨1025,by omega⟩
 obtain ⟨f,hf0⟩:∃f,65537<=f+4:=⟨65537,by omega⟩
 have HM:=hideR (And.intro hm0 hf0)
 clear hm0 hf0
 have HN:=hideR (t_New w)
 go_enter Try.func10,Try.ntmps10
 go_wp2_with fail
 refine Calls.mono (show Calls _ _ _ _ _ from HN.out) ?_
 rintro e w1 ⟨rfl,hb1,hs1,hv1⟩
 have HF1:=hideR (t_Fresh hv1 (by omega) (by simp))
 have HB1:=hideR hb1
 clear hb1 hs1 hv1 HN
 go_wp2_with fail
 refine Calls.mono (show Calls _ _ _ _ _ from HF1.out) ?_
 rintro e w2 ⟨rfl,hk2,vs2,hv2,_⟩
 have hb2:Below w.heap.size w w2:=hk2.bel HB1.out (Nat.le_refl _) (fun k e=>by cases e)
 have HF2:=hideR (t_Fresh hv2 (by have:=hb2.size;omega) (by simp))
 have HB2:=hideR hb2
 have HV2:=hideR (show ∀k,vs2.ownBlock=some k->w.heap.size<=k by obtain ⟨xs,ho,_⟩:=hv2.row;exact fun k e=>(ho.lt k e).1)
 clear hb2 hk2 hv2 HF1 HB1
 go_wp2_with fail
 refine Calls.mono (show Calls _ _ _ _ _ from HF2.out) ?_
 rintro e w3 ⟨rfl,hk3,vs,hv3,_⟩
 have HB3:=hideR (hk3.bel HB2.out (Nat.le_refl _) HV2.out)
 have HV3:=hideR (show ∀k,vs.ownBlock=some k->w.heap.size<=k by obtain ⟨xs,ho,_⟩:=hv3.row;exact fun k e=>(ho.lt k e).1)
 have HS3:Hid (SO (SX w.heap.size vs) w.heap.size 2 vr w.heap.size vs w3):=hideR (SO.new hv3 (by simp))
 clear hk3 hv3 HF2 HB2 HV2
 have HSL3:Hid (∀k,(SX w.heap.size vs) k->k<w3.heap.size):=hideR (fun k hk=>by
  have h1:=HS3.out.lt
  rcases hk with h|h
  ·rw [h];exact h1.1
  ·exact h1.2 k h)
 have HXL:Hid (∀k,vs.ownBlock=some k->k<w3.heap.size):=hideR HS3.out.lt.2
 obtain ⟨W4,hW4⟩:∃W4,W4=(w3.alloc (.cells #[.int .i64 0,.string ⟨#[]⟩,.int .i64 0,.slice none 0 0] 34)).alloc (.cells #[.int .i64 0,.string ⟨#[]⟩,.int .i64 0,.slice none 0 0] 34):=⟨_,rfl⟩
 have hb41:=new_on' w3 (.cells #[.int .i64 0,.string ⟨#[]⟩,.int .i64 0,.slice none 0 0] 34)
 have hb42:=new_on' (w3.alloc (.cells #[.int .i64 0,.string ⟨#[]⟩,.int .i64 0,.slice none 0 0] 34)) (.cells #[.int .i64 0,.string ⟨#[]⟩,.int .i64 0,.slice none 0 0] 34)
 have hb4:Below w3.heap.size w3 W4:=by rw [hW4];exact below_go hb41 hb42
 have hx4:W4.heap[w3.heap.size]?=some (.cells #[.int .i64 0,.string ⟨#[]⟩,.int .i64 0,.slice none 0 0] 34 (0,0)):=by rw [hW4,hb42.block _ (by simp)];exact heap_alloc_new w3 _
 have hy4:W4.heap[w3.heap.size+1]?=some (.cells #[.int .i64 0,.string ⟨#[]⟩,.int .i64 0,.slice none 0 0] 34 (0,0)):=by rw [hW4];exact heap_newA _ _ (by simp)
 obtain ⟨W5,hW5,hth5,hbk5,hbl5,hne5⟩:=put4 (w:=w3) (z:=#[.int .i64 0,.string ⟨#[]⟩,.int .i64 0,.slice none 0 0]) (vs:=#[.int .i64 2,.string ⟨#[]⟩,.int .i64 1,.slice none 0 0]) rfl hx4 hb4 (Nat.le_refl _)
 obtain ⟨W6,hW6,hth6,hbk6,hbl6,hne6⟩:=put4 (w:=w3) (z:=#[.int .i64 0,.string ⟨#[]⟩,.int .i64 0,.slice none 0 0]) (vs:=#[.int .i64 2,.string ⟨#[]⟩,.int .i64 2,.slice none 0 0]) rfl ((hne5 _ (by omega)).trans hy4) hbl5 (by omega)
 have hxa:=(hne6 w3.heap.size (by omega)).trans hbk5
 have HT5:=hideR hth5;have HT6:=hideR hth6;have HW5:=hideR hW5;have HW6:=hideR hW6
 have HXA:=hideR hxa;have HXB:=hideR hbk6
 have HS6:=hideR (HS3.out.bel hbl6)
 have HB6:=hideR (HB3.out.trans (hbl6.mono HB3.out.size))
 have HSL:Hid (∀k,(SX w.heap.size vs) k->k<W6.heap.size):=hideR (fun k hk=>Nat.lt_of_lt_of_le (HSL3.out k hk) hbl6.size)
 clear hb41 hb42 hb4 hx4 hy4 hth5 hth6 hbk5 hbk6 hbl5 hbl6 hne5 hne6 hxa hW5 hW6 HB3 HS3 HSL3
 go_wp2_with (first|(rw [<- hW4];refine wpList_store_mid rfl 34 (.tmp 2) (.tmp 11) rfl w3.heap.size 0 #[.int .i64 2,.string ⟨#[]⟩,.int .i64 1,.slice none 0 0] rfl rfl HT5.out sizeTy' (by simp [Value.oneCell']) ?_;rw [HW5.out])|(refine wpList_store_mid rfl 34 (.tmp 3) (.tmp 13) rfl (w3.heap.size+1) 0 #[.int .i64 2,.string ⟨#[]⟩,.int .i64 2,.slice none 0 0] rfl rfl HT6.out sizeTy' (by simp [Value.oneCell']) ?_;rw [HW6.out])|fail)
 clear hW4 HT5 HT6 HW5 HW6
 refine Reg.wp_region_two 8 (fun i=>14+i) (fun i v u=>if i=3 then AtX (SX w.heap.size vs) u 1 (fT (vr 0) tI) v else if i=5 then AtX (SX w.heap.size vs) u 1 (lT (vr 1)) v else if i=7 then AtX (SX w.heap.size vs) u 2 (fT (lT (vr 1)) (vr 1)) v else v=([.pointer (some ⟨w.heap.size,0,none⟩),.agg #[.int .i64 2,.string ⟨#[]⟩,.int .i64 1,.slice none 0 0],.agg #[.int .i64 1,.string ⟨#[]⟩,.int .i64 0,.slice none 0 0],undef,.agg #[.int .i64 2,.string ⟨#[]⟩,.int .i64 2,.slice none 0 0],undef,.agg #[.int .i64 2,.string ⟨#[]⟩,.int .i64 2,.slice none 0 0],undef]:List Value).getD i undef) (by kernel_rfl) (by kernel_rfl) (fun i1 i2 h1 h2 h=>by have h':14+i1=14+i2:=h;omega) (Reg.dst_ok (dst:=fun i=>14+i) (size:=54) (by kernel_rfl)) (fun i v u u' _ h hb=>by
  by_cases h3:i=3
  ·rw [if_pos h3] at h ⊢;exact h.on fun k hk _=>hb.block k hk
  ·rw [if_neg h3] at h ⊢
   by_cases h5:i=5
   ·rw [if_pos h5] at h ⊢;exact h.on fun k hk _=>hb.block k hk
   ·rw [if_neg h5] at h ⊢
    by_cases h7:i=7
    ·rw [if_pos h7] at h ⊢;exact h.on fun k hk _=>hb.block k hk
    ·rw [if_neg h7] at h ⊢;exact h) ?hs5 ?ht5
 case hs5 =>
  intro i o' a9 u9 hi ho hF hB hd
  have f1:a9.tmps[1]?.getD undef=.pointer (some ⟨w.heap.size,0,none⟩):=Reg.ev_get (hF.eval 1 (fun i hi=>by show 14+i≠1;omega))
  have f2:a9.tmps[2]?.getD undef=.pointer (some ⟨w3.heap.size,0,none⟩):=Reg.ev_get (hF.eval 2 (fun i hi=>by show 14+i≠2;omega))
  have f3:a9.tmps[3]?.getD undef=.pointer (some ⟨w3.heap.size+1,0,none⟩):=Reg.ev_get (hF.eval 3 (fun i hi=>by show 14+i≠3;omega))
  have hxa:=(hB.block _ (Array.getElem?_eq_some_iff.1 HXA.out).1).trans HXA.out
  have hxb:=(hB.block _ (Array.getElem?_eq_some_iff.1 HXB.out).1).trans HXB.out
  have c0:=put_cell hxa 0 _ rfl
  have c1:=put_cell hxa 1 _ rfl
  have c2:=put_cell hxa 2 _ rfl
  have c3:=put_cell hxa 3 _ rfl
  have e0':=put_cell hxb 0 _ rfl
  have e1':=put_cell hxb 1 _ rfl
  have e2':=put_cell hxb 2 _ rfl
  have e3':=put_cell hxb 3 _ rfl
  have hsl:∀k,(SX w.heap.size vs) k->k<u9.heap.size:=fun k hk=>Nat.lt_of_lt_of_le (HSL.out k hk) hB.size
  have HFA:=hideR (t_fun (S:=SX w.heap.size vs) (w:=u9) (d:=0) (t:=vr 0) (s:=tI) (v:=.agg #[.int .i64 2,.string ⟨#[]⟩,.int .i64 1,.slice none 0 0]) (r:=.agg #[.int .i64 1,.string ⟨#[]⟩,.int .i64 0,.slice none 0 0]) AtX.lf AtX.lf hsl)
  have HLB:=hideR (t_list (S:=SX w.heap.size vs) (w:=u9) (d:=0) (t:=vr 1) (v:=.agg #[.int .i64 2,.string ⟨#[]⟩,.int .i64 2,.slice none 0 0]) AtX.lf hsl)
  have HFB:=hideR (fun v5 (h5:AtX (SX w.heap.size vs) u9 1 (lT (vr 1)) v5)=>t_fun (S:=SX w.heap.size vs) (w:=u9) (d:=1) (t:=lT (vr 1)) (s:=vr 1) (v:=v5) (r:=.agg #[.int .i64 2,.string ⟨#[]⟩,.int .i64 2,.slice none 0 0]) h5 AtX.lf hsl)
  have hd2:∀j2 ∈ Reg.deps o',j2≠3->j2≠5->j2≠7->a9.tmps[14+j2]?.getD undef=([.pointer (some ⟨w.heap.size,0,none⟩),.agg #[.int .i64 2,.string ⟨#[]⟩,.int .i64 1,.slice none 0 0],.agg #[.int .i64 1,.string ⟨#[]⟩,.int .i64 0,.slice none 0 0],undef,.agg #[.int .i64 2,.string ⟨#[]⟩,.int .i64 2,.slice none 0 0],undef,.agg #[.int .i64 2,.string ⟨#[]⟩,.int .i64 2,.slice none 0 0],undef]:List Value).getD j2 undef:=fun j2 hj2 h3 h5 h7=>by
   have h:=hd j2 hj2
   rw [if_neg h3,if_neg h5,if_neg h7] at h
   exact Reg.ev_get h
  have hd5:5 ∈ Reg.deps o'->AtX (SX w.heap.size vs) u9 1 (lT (vr 1)) (a9.eval (.tmp 19)):=fun h5=>by
   have h:=hd 5 h5
   rw [if_neg (by decide),if_pos rfl] at h
   exact h
  clear hd hxa hxb hsl
  rcases Nat.decEq i 3 with n3|rfl
  ·rcases Nat.decEq i 5 with n5|rfl
   ·rcases Nat.decEq i 7 with n7|rfl
    ·rcases (by omega:i=0\/i=1\/i=2\/i=4\/i=6) with rfl|rfl|rfl|rfl|rfl
     all_goals (
      simp only [List.getElem?_toArray,List.getElem?_cons_succ,List.getElem?_cons_zero,Option.some.injEq] at ho
      subst ho
      refine Reg.step_k fun Z9 hZ=>?_
      simp [Reg.deps,Region.binds] at hd2
      go_simp
      first
      | exact hZ _ _ ⟨_,rfl,Below.refl _ _,rfl⟩
      | exact hZ _ _ ⟨_,rfl,Below.refl _ _,by simp [*]⟩)
    ·simp only [List.getElem?_toArray,List.getElem?_cons_succ,List.getElem?_cons_zero,Option.some.injEq] at ho
     subst ho
     have h5:=hd5 (by decide)
     obtain ⟨v5,hv5⟩:∃v5,a9.eval (.tmp 19)=v5:=⟨_,rfl⟩
     rw [hv5] at h5
     have f19:=Reg.ev_get hv5
     have HFB5:=hideR (HFB.out v5 h5)
     clear hd5 hv5 h5 HFB
     refine Reg.step_k fun Z9 hZ=>?_
     simp [Reg.deps,Region.binds] at hd2
     go_simp
     refine Calls.mono (show Calls _ _ _ _ _ from HFB5.out) ?_
     rintro e w' ⟨u,rfl,h1,h2⟩
     exact hZ _ _ ⟨_,rfl,h1,h2⟩
   ·simp only [List.getElem?_toArray,List.getElem?_cons_succ,List.getElem?_cons_zero,Option.some.injEq] at ho
    subst ho
    refine Reg.step_k fun Z9 hZ=>?_
    simp [Reg.deps,Region.binds] at hd2
    go_simp
    refine Calls.mono (show Calls _ _ _ _ _ from HLB.out) ?_
    rintro e w' ⟨u,rfl,h1,h2⟩
    exact hZ _ _ ⟨_,rfl,h1,h2⟩
  ·simp only [List.getElem?_toArray,List.getElem?_cons_succ,List.getElem?_cons_zero,Option.some.injEq] at ho
   subst ho
   refine Reg.step_k fun Z9 hZ=>?_
   simp [Reg.deps,Region.binds] at hd2
   go_simp
   refine Calls.mono (show Calls _ _ _ _ _ from HFA.out) ?_
   rintro e w' ⟨u,rfl,h1,h2⟩
   exact hZ _ _ ⟨_,rfl,h1,h2⟩
 case ht5 =>
  intro a9 u9 hF hB hG
  obtain ⟨xl,hxl,rfl,hev⟩:=hF.lit (by simp)
  obtain ⟨s0,s1,s2,s3,s4,s5,s6,s7,rfl⟩:=plen8 hxl
  obtain rfl:s0=.pointer (some ⟨w.heap.size,0,none⟩):=(hev 0 (by decide)).symm.trans (hG 0 (by decide))
  have h3:=hG 3 (by decide)
  have h7:=hG 7 (by decide)
  rw [if_pos rfl,show _=s3 from hev 3 (by decide)] at h3
  rw [if_neg (by decide),if_neg (by decide),if_pos rfl,show _=s7 from hev 7 (by decide)] at h7
  have HU1:=hideR (t_UnifyP (m:=m+6) (f:=f+4) HM.out.1 HM.out.2 u9 (HS6.out.bel hB) (fun k hk=>Nat.lt_of_lt_of_le (HSL.out k hk) hB.size) (⟨h3.tyv,fewA,sm2 (smV 0) smI⟩:In_ u9 1 (fT (vr 0) tI) s3) (⟨h7.tyv,fewB,sm2 (sm1 (smV 1)) (smV 1)⟩:In_ u9 2 (fT (lT (vr 1)) (vr 1)) s7))
  have hxa:=(hB.block _ (Array.getElem?_eq_some_iff.1 HXA.out).1).trans HXA.out
  have HBu:=hideR (HB6.out.trans (hB.mono HB6.out.size))
  have HXAu:=hideR hxa
  have hSz:=hB.size
  have hU9:w3.heap.size<u9.heap.size:=(Array.getElem?_eq_some_iff.1 hxa).1
  clear hev hxl hF hG hB h3 h7 hxa HXA HXB HSL HB6 HS6
  simp only [List.take_succ_cons,List.take_zero,List.drop_succ_cons,List.drop_zero,List.cons_append,List.nil_append]
  go_wp2_with fail
  refine Calls.mono (show Calls _ _ _ _ _ from HU1.out) ?_
  rintro e u1 ⟨hsaid,hk1⟩
  obtain ⟨rfl,hs1⟩:e=.returned (.int .i64 0)/\SO (SX w.heap.size vs) w.heap.size 2 (hT m f) w.heap.size vs u1:=by
   rcases hsaid with ⟨_,h1,h2⟩|⟨h0,_,_⟩
   ·rw [wk1] at h1
    exact ⟨h1,h2⟩
   ·rw [tk1,tk2] at h0;cases h0
  have hB1:Below w.heap.size w u1:=hk1.bel HBu.out HV3.out
  have hxa1:u1.heap[w3.heap.size]?=some (.cells #[.int .i64 2,.string ⟨#[]⟩,.int .i64 1,.slice none 0 0] 34 (0,0)):=(hk1.block _ hU9 (fun e=>by
   have h1:=hs1.lt
   have h2:=HXL.out _ e
   omega)).trans HXAu.out
  have hsl1:∀k,(SX w.heap.size vs) k->k<u1.heap.size:=fun k hk=>by
   rcases hk with h|h
   ·rw [h];exact hs1.lt.1
   ·exact hs1.lt.2 k h
  have HA1:=hideR (t_ApplyP (m:=m+6) HM.out.1 u1 hs1 hsl1 (⟨AtX.lf,few_lf,smV 0⟩:InX (SX w.heap.size vs) u1 0 (vr 0) (.agg #[.int .i64 2,.string ⟨#[]⟩,.int .i64 1,.slice none 0 0])))
  have c0:=put_cell hxa1 0 _ rfl
  have c1:=put_cell hxa1 1 _ rfl
  have c2:=put_cell hxa1 2 _ rfl
  have c3:=put_cell hxa1 3 _ rfl
  have HB1:=hideR hB1
  have HXA1:=hideR hxa1
  clear hsaid hk1 hs1 hB1 hxa1 hsl1 hU9 HU1 HBu HXAu
  go_wp2_with fail
  refine Calls.mono (show Calls _ _ _ _ _ from HA1.out) ?_
  rintro e u2 ⟨v9,z9,rfl,hs2,hk2,hsaid⟩
  obtain ⟨rfl,hty⟩:z9=0/\tyU u1.heap.size (lT tI) v9 u2:=by
   rcases hsaid with ⟨h0,_⟩|⟨_,h0,_⟩|⟨_,_,h1,h2⟩
   ·rw [tk3] at h0;cases h0
   ·exact absurd (wk2 m f) h0
   ·rw [wk3] at h2;exact ⟨h1,h2⟩
  obtain ⟨k9,x9,n9,r9,rfl,hone9⟩:=hty.val
  have hB2:Below w.heap.size w u2:=hk2.bel HB1.out HV3.out
  have hxa2:u2.heap[w3.heap.size]?=some (.cells #[.int .i64 2,.string ⟨#[]⟩,.int .i64 1,.slice none 0 0] 34 (0,0)):=(hk2.block _ (Array.getElem?_eq_some_iff.1 HXA1.out).1 (fun e=>by have h2:=HXL.out _ e;omega)).trans HXA1.out
  obtain ⟨W7,hW7⟩:∃W7,W7=u2.alloc (.cells #[.int .i64 0,.string ⟨#[]⟩,.int .i64 0,.slice none 0 0] 34):=⟨_,rfl⟩
  have hb7:Below u2.heap.size u2 W7:=by rw [hW7];exact new_on' _ _
  have hx7:W7.heap[u2.heap.size]?=some (.cells #[.int .i64 0,.string ⟨#[]⟩,.int .i64 0,.slice none 0 0] 34 (0,0)):=by rw [hW7];exact heap_alloc_new u2 _
  obtain ⟨W8,hW8,hth8,hbk8,hbl8,hne8⟩:=put4 (w:=u2) (z:=#[.int .i64 0,.string ⟨#[]⟩,.int .i64 0,.slice none 0 0]) (vs:=#[.int .i64 k9,.string x9,.int .i64 n9,r9]) rfl hx7 hb7 (Nat.le_refl _)
  have HT8:=hideR hth8;have HW8:=hideR hW8;have HX8:=hideR hbk8
  have HB8:=hideR (hB2.trans (hbl8.mono hB2.size))
  have HS8:=hideR (hs2.bel hbl8)
  have HXA8:=hideR ((hbl8.block _ (Array.getElem?_eq_some_iff.1 hxa2).1).trans hxa2)
  have HTY8:Hid (∃d,AtX (fun _=>False) W8 (d+1) (lT tI) (.agg #[.int .i64 k9,.string x9,.int .i64 n9,r9])):=hideR (by
   obtain ⟨k,x,n,es,u,h1,h2,d,h3⟩:=hty
   exact ⟨d,k,x,n,es,u,h1,h2,h3.imp fun b o t _ h=>TyX.up _ _ _ _ ((TyX.weak _ _ _ _ h).on (fun k _ hl=>hbl8.block k hl) fun k _ hk=>hk.elim)⟩)
  clear c0 c1 c2 c3 hty hs2 hk2 hsaid hB2 hxa2 hb7 hx7 hth8 hbk8 hbl8 hne8 hW8 HA1 HB1 HXA1
  go_wp2_with (first|(rw [<- hW7];refine wpList_store_mid rfl 34 (.tmp 5) (.tmp 27) rfl u2.heap.size 0 #[.int .i64 k9,.string x9,.int .i64 n9,r9] rfl rfl HT8.out sizeTy' (by simp [Value.oneCell'] at hone9 ⊢;exact hone9) ?_;rw [HW8.out])|fail)
  clear hW7 HT8 HW8
  obtain ⟨d9,hty9⟩:=HTY8.out
  have HTY9:=hideR hty9
  have HSL8:Hid (∀k,(SX w.heap.size vs) k->k<W8.heap.size):=hideR (fun k hk=>by
   rcases hk with h|h
   ·rw [h];exact HS8.out.lt.1
   ·exact HS8.out.lt.2 k h)
  clear hty9 HTY8
  refine Reg.wp_region_effh 17 (fun i=>29+i) (fun _ u u'=>Below u.heap.size u u') (fun u=>Below W8.heap.size W8 u) (fun _ _=>True) (fun i v u=>if i=9 then AtX (fun _=>False) u 1 (lT tI) v else if i=16 then AtX (SX w.heap.size vs) u 1 (lT (vr 0)) v else v=([.int .i64 0,.bool true,.bool true,.int .i64 0,.bool true,.bool true,.bool true,.agg #[.int .i64 k9,.string x9,.int .i64 n9,r9],.agg #[.int .i64 1,.string ⟨#[]⟩,.int .i64 0,.slice none 0 0],undef,.bool true,.bool true,.bool true,.pointer (some ⟨w.heap.size,0,none⟩),.agg #[.int .i64 2,.string ⟨#[]⟩,.int .i64 1,.slice none 0 0],.agg #[.int .i64 2,.string ⟨#[]⟩,.int .i64 1,.slice none 0 0],undef]:List Value).getD i undef) (by kernel_rfl) (by kernel_rfl) (fun i1 i2 h1 h2 h=>by have h':29+i1=29+i2:=h;omega) (Reg.dst_okG (dst:=fun i=>29+i) (size:=54) (by kernel_rfl)) (fun i k v u u' _ _ _ _ h hb=>by
   by_cases h3:i=9
   ·rw [if_pos h3] at h ⊢;exact h.on fun k hk _=>hb.block k hk
   ·rw [if_neg h3] at h ⊢
    by_cases h5:i=16
    ·rw [if_pos h5] at h ⊢;exact h.on fun k hk _=>hb.block k hk
    ·rw [if_neg h5] at h ⊢;exact h) (fun _ _ _ _ _ _ _ _ _=>trivial) (fun k u u' _ hk hT=>below_go hk hT) ?hs7 ?ht7 (below_drewN' W8 1) (fun _ _=>trivial)
  case hs7 =>
   intro i o' a9 u9 hi ho hF hB _ hd
   have f1:a9.tmps[1]?.getD undef=.pointer (some ⟨w.heap.size,0,none⟩):=Reg.ev_get (hF.eval 1 (fun i hi=>by show 29+i≠1;omega))
   have f2:a9.tmps[2]?.getD undef=.pointer (some ⟨w3.heap.size,0,none⟩):=Reg.ev_get (hF.eval 2 (fun i hi=>by show 29+i≠2;omega))
   have f4:a9.tmps[4]?.getD undef=.int .i64 0:=Reg.ev_get (hF.eval 4 (fun i hi=>by show 29+i≠4;omega))
   have f5:a9.tmps[5]?.getD undef=.pointer (some ⟨u2.heap.size,0,none⟩):=Reg.ev_get (hF.eval 5 (fun i hi=>by show 29+i≠5;omega))
   have f6:a9.tmps[6]?.getD undef=.int .i64 0:=Reg.ev_get (hF.eval 6 (fun i hi=>by show 29+i≠6;omega))
   have hxa:=(hB.block _ (Array.getElem?_eq_some_iff.1 HXA8.out).1).trans HXA8.out
   have hxb:=(hB.block _ (Array.getElem?_eq_some_iff.1 HX8.out).1).trans HX8.out
   have c0:=put_cell hxa 0 _ rfl
   have c1:=put_cell hxa 1 _ rfl
   have c2:=put_cell hxa 2 _ rfl
   have c3:=put_cell hxa 3 _ rfl
   have e0':=put_cell hxb 0 _ rfl
   have e1':=put_cell hxb 1 _ rfl
   have e2':=put_cell hxb 2 _ rfl
   have e3':=put_cell hxb 3 _ rfl
   have hsl:∀k,(SX w.heap.size vs) k->k<u9.heap.size:=fun k hk=>Nat.lt_of_lt_of_le (HSL8.out k hk) hB.size
   have hty9:=HTY9.out.on (w':=u9) fun k hk _=>hB.block k hk
   have HLI:=hideR (t_list (S:=fun _=>False) (w:=u9) (d:=0) (t:=tI) (v:=.agg #[.int .i64 1,.string ⟨#[]⟩,.int .i64 0,.slice none 0 0]) AtX.lf (fun _ h=>h.elim))
   have HLA:=hideR (t_list (S:=(SX w.heap.size vs)) (w:=u9) (d:=0) (t:=vr 0) (v:=.agg #[.int .i64 2,.string ⟨#[]⟩,.int .i64 1,.slice none 0 0]) AtX.lf hsl)
   have HSM:=hideR (fun v5 (h5:AtX (fun _=>False) u9 1 (lT tI) v5)=>t_Same0 (w:=u9) hty9 (by
    have hup:∀e,AtX (fun _=>False) u9 (1+e) (lT tI) v5:=fun e=>by
     induction e with
     | zero=>exact h5
     | succ e ih=>exact ih.up
    rw [Nat.add_comm];exact hup d9))
   have hd2:∀j2 ∈ Reg.deps o',j2≠9->j2≠16->a9.tmps[29+j2]?.getD undef=([.int .i64 0,.bool true,.bool true,.int .i64 0,.bool true,.bool true,.bool true,.agg #[.int .i64 k9,.string x9,.int .i64 n9,r9],.agg #[.int .i64 1,.string ⟨#[]⟩,.int .i64 0,.slice none 0 0],undef,.bool true,.bool true,.bool true,.pointer (some ⟨w.heap.size,0,none⟩),.agg #[.int .i64 2,.string ⟨#[]⟩,.int .i64 1,.slice none 0 0],.agg #[.int .i64 2,.string ⟨#[]⟩,.int .i64 1,.slice none 0 0],undef]:List Value).getD j2 undef:=fun j2 hj2 h3 h5=>by
    have h:=hd j2 hj2
    rw [if_neg h3,if_neg h5] at h
    exact Reg.ev_get h
   have hgt:∀j2,j2 ∈ Reg.deps o'->(j2=2\/j2=6\/j2=12)->a9.eval (.tmp (29+j2))=.bool true:=fun j2 hj2 hc=>by
    have h:=hd j2 hj2
    rw [if_neg (by omega),if_neg (by omega)] at h
    rcases hc with rfl|rfl|rfl<;>exact h
   have hd9:9 ∈ Reg.deps o'->AtX (fun _=>False) u9 1 (lT tI) (a9.eval (.tmp 38)):=fun h5=>by
    have h:=hd 9 h5
    rw [if_pos rfl] at h
    exact h
   clear hd hxa hxb hsl hty9
   rcases Nat.decEq i 9 with n9'|rfl
   ·rcases Nat.decEq i 10 with n10|rfl
    ·rcases Nat.decEq i 16 with n16|rfl
     ·rcases (by omega:i=0\/i=1\/i=2\/i=3\/i=4\/i=5\/i=6\/i=7\/i=8\/i=11\/i=12\/i=13\/i=14\/i=15) with rfl|rfl|rfl|rfl|rfl|rfl|rfl|rfl|rfl|rfl|rfl|rfl|rfl|rfl
      all_goals (
       simp only [List.getElem?_toArray,List.getElem?_cons_succ,List.getElem?_cons_zero,Option.some.injEq] at ho
       subst ho
       refine ⟨?_,Reg.step_k fun Z9 hZ=>?_⟩
       ·first
        | (simp [Region.wanted];done)
        | (rw [Reg.wants rfl rfl rfl (hgt 2 (by decide) (by decide))];rfl)
        | (rw [Reg.wants rfl rfl rfl (hgt 6 (by decide) (by decide))];rfl)
        | (rw [Reg.wants rfl rfl rfl (hgt 12 (by decide) (by decide))];rfl)
       ·clear hgt hd9
        simp [Reg.deps,Region.binds] at hd2
        go_simp
        first
        | exact hZ _ _ ⟨_,rfl,Below.refl _ _,rfl⟩
        | exact hZ _ _ ⟨_,rfl,Below.refl _ _,by simp [*]⟩)
     ·simp only [List.getElem?_toArray,List.getElem?_cons_succ,List.getElem?_cons_zero,Option.some.injEq] at ho
      subst ho
      refine ⟨by rw [Reg.wants rfl rfl rfl (hgt 12 (by decide) (by decide))];rfl,Reg.step_k fun Z9 hZ=>?_⟩
      clear hgt hd9
      simp [Reg.deps,Region.binds] at hd2
      go_simp
      refine Calls.mono (show Calls _ _ _ _ _ from HLA.out) ?_
      rintro e w' ⟨u,rfl,h1,h2⟩
      exact hZ _ _ ⟨_,rfl,h1,h2⟩
    ·simp only [List.getElem?_toArray,List.getElem?_cons_succ,List.getElem?_cons_zero,Option.some.injEq] at ho
     subst ho
     have h5:=hd9 (by decide)
     obtain ⟨v5,hv5⟩:∃v5,a9.eval (.tmp 38)=v5:=⟨_,rfl⟩
     rw [hv5] at h5
     have f38:=Reg.ev_get hv5
     have HSM5:=hideR (HSM.out v5 h5)
     refine ⟨by rw [Reg.wants rfl rfl rfl (hgt 6 (by decide) (by decide))];rfl,Reg.step_k fun Z9 hZ=>?_⟩
     clear hgt hd9 hv5 h5 HSM
     simp [Reg.deps,Region.binds] at hd2
     go_simp
     refine Calls.mono (show Calls _ _ _ _ _ from HSM5.out) ?_
     rintro e w' ⟨rfl,h1⟩
     exact hZ _ _ ⟨_,rfl,h1,rfl⟩
   ·simp only [List.getElem?_toArray,List.getElem?_cons_succ,List.getElem?_cons_zero,Option.some.injEq] at ho
    subst ho
    refine ⟨by rw [Reg.wants rfl rfl rfl (hgt 6 (by decide) (by decide))];rfl,Reg.step_k fun Z9 hZ=>?_⟩
    clear hgt hd9
    simp [Reg.deps,Region.binds] at hd2
    go_simp
    refine Calls.mono (show Calls _ _ _ _ _ from HLI.out) ?_
    rintro e w' ⟨u,rfl,h1,h2⟩
    exact hZ _ _ ⟨_,rfl,h1,h2⟩
  case ht7 =>
   intro a9 u9 hF hB hG
   obtain ⟨xl,hxl,rfl,hev⟩:=hF.lit (by simp)
   obtain ⟨t0,t1,t2,t3,t4,t5,t6,t7,t8,t9,t10,t11,t12,t13,t14,t15,t16,rfl⟩:=plen17 hxl
   obtain rfl:t12=.bool true:=(hev 12 (by decide)).symm.trans (hG 12 (by decide))
   obtain rfl:t13=.pointer (some ⟨w.heap.size,0,none⟩):=(hev 13 (by decide)).symm.trans (hG 13 (by decide))
   obtain rfl:t14=.agg #[.int .i64 2,.string ⟨#[]⟩,.int .i64 1,.slice none 0 0]:=(hev 14 (by decide)).symm.trans (hG 14 (by decide))
   have h16:=hG 16 (by decide)
   rw [if_neg (by decide),if_pos rfl,show _=t16 from hev 16 (by decide)] at h16
   have hs9:=HS8.out.bel hB
   have HU1:=hideR (t_UnifyP (m:=m+6) (f:=f+4) HM.out.1 HM.out.2 u9 hs9 (fun k hk=>Nat.lt_of_lt_of_le (HSL8.out k hk) hB.size) (⟨AtX.tyv (S:=(SX w.heap.size vs)) AtX.lf,few_lf,smV 0⟩:In_ u9 0 (vr 0) (.agg #[.int .i64 2,.string ⟨#[]⟩,.int .i64 1,.slice none 0 0])) (⟨h16.tyv,few1 few_lf,sm1 (smV 0)⟩:In_ u9 1 (lT (vr 0)) t16))
   have HB9:=hideR (HB8.out.trans (hB.mono HB8.out.size))
   clear hev hxl hF hG hB h16 hs9 HS8 HB8 HX8 HXA8 HTY9 HSL8
   simp only [List.take_succ_cons,List.take_zero,List.drop_succ_cons,List.drop_zero,List.cons_append,List.nil_append]
   go_wp2_with fail
   refine Calls.mono (show Calls _ _ _ _ _ from HU1.out) ?_
   rintro e u3 ⟨hsaid,hk3⟩
   obtain ⟨rfl,hh,hs3⟩:e=.returned (.int .i64 150)/\∃hh,SO (SX w.heap.size vs) w.heap.size 2 hh w.heap.size vs u3:=by
    rcases hsaid with ⟨_,h1,h2⟩|⟨h0,_,_⟩
    ·rw [wk4] at h1
     exact ⟨h1,_,h2⟩
    ·rw [tk3,tk4] at h0;cases h0
   have HB10:=hideR (hk3.bel HB9.out HV3.out)
   obtain ⟨ls,hls,hsv⟩:=hs3.sv
   have HVV:=hideR (by have h:=t_Vars hsv;rw [hls] at h;exact h)
   clear hsaid hk3 hs3 HU1 HB9 hsv hls
   go_wp2_with fail
   refine Calls.mono (show Calls _ _ _ _ _ from HVV.out) ?_
   rintro e u4 ⟨rfl,hb4⟩
   have HB11:=hideR (HB10.out.trans (hb4.mono HB10.out.size))
   clear hb4 HVV HB10
   go_wp2
   go_ret
   exact ⟨rfl,HB11.out⟩
namespace Ty
def PrC (w:World) (d b o:Nat) (x:Value × Value):Prop:=TyC 0 w (d+1) b o x.1/\TyC 0 w (d+1) b (o+4) x.2
theorem PrC.on {w w':World} {d b o:Nat} {x:Value × Value} (h:PrC w d b o x) (hb:Below w.heap.size w w'):PrC w' d b o x:=⟨h.1.but (Abv.of hb),h.2.but (Abv.of hb)⟩
theorem tyC_val {d b o:Nat} {w:World} {t:Value} (h:TyC 0 w (d+1) b o t):∃k x n u,w.cell? ⟨b,o,none⟩=some (.int .i64 k)/\w.cell? ⟨b,o+1,none⟩=some (.string x)/\w.cell? ⟨b,o+2,none⟩=some (.int .i64 n)/\w.cell? ⟨b,o+3,none⟩=some u/\TyV 0 d w t (.agg #[.int .i64 k,.string x,.int .i64 n,u]):=by
 obtain ⟨d0,k,x,n,u,hd,h0,h1,h2,h3,h4⟩:=ty_eltd h
 obtain rfl:d=d0:=by omega
 exact ⟨k,x,n,u,h0,h1,h2,h3,h4⟩
end Ty
set_option maxHeartbeats 2000000 in
theorem t_few (w:World) (n:Nat) (hn:n<=255):Calls Try.prog 11 #[.int .u8 (n:Int)] w fun e w'=>e=.returned (.int .i64 ((n%12+1:Nat):Int))/\Below w.heap.size w w':=by
 have h1:IntKind.i64.wrap (n:Int)=(n:Int):=by rw [IntKind.wrap_i64];omega
 have h2:Int.tmod (n:Int) 12=((n%12:Nat):Int):=by rw [Int.tmod_eq_emod_of_nonneg (by omega)];omega
 have h3:IntKind.i64.wrap (Int.tmod (n:Int) 12)=((n%12:Nat):Int):=by rw [h2,IntKind.wrap_i64];omega
 have h4:wrap64 (Int.tmod (n:Int) 12)=((n%12:Nat):Int):=by rw [h2];unfold wrap64;omega
 have h5:wrap64 (((n%12:Nat):Int)+1)=((n%12+1:Nat):Int):=by unfold wrap64;omega
 have h6:wrap64 (n:Int)=(n:Int):=by unfold wrap64;omega
 go_enter Try.func11,Try.ntmps11
 go_wp2
 go_ret
 exact ⟨by simp_all,Below.refl _ _⟩
set_option maxRecDepth 100000 in
set_option maxHeartbeats 8000000 in
theorem t_large (d:Nat) (w:World) (l:List (Value × Value)) (v:Value) (h:Row 8 (PrC w d) v l):Calls Try.prog 9 #[v] w fun e w'=>∃b:Bool,e=.returned (.bool b)/\Below w.heap.size w w'/\(b=false->∀i x,i<12->l[i]?=some x->few d x.1/\few d x.2):=by
 obtain ⟨oR,cR,rfl,hel⟩:=row_at h
 have HEL:=hideR hel
 have HL:=hideR h.1
 clear h hel
 go_enter Try.func9,Try.ntmps9
 go_wp2_with fail
 go_loopw [3] (fun aa wr=>∃i:Nat,aa=.int .i64 i/\i<=l.length/\i<=12/\Hid (Below w.heap.size w wr)/\Hid (∀j x,j<i->l[j]?=some x->few d x.1/\few d x.2)) (fun aa _=>match aa with | .int _ i=>l.length-i.toNat|_=>0)
 case atStart=>exact ⟨0,rfl,Nat.zero_le _,Nat.zero_le _,hideR (Below.refl _ _),hideR (fun j x hj=>absurd hj (Nat.not_lt_zero _))⟩
 case round =>
  obtain ⟨i,rfl,hi,hi2,HB,HF⟩:=hrel
  by_cases hp:i<l.length
  ·have q1:decide ((i:Int)<(l.length:Int))=true:=decide_eq_true (by omega)
   by_cases hp2:i<12
   ·have q2:decide ((i:Int)<12)=true:=decide_eq_true (by omega)
    obtain ⟨x,hx⟩:∃x,l[i]?=some x:=⟨_,List.getElem?_eq_getElem hp⟩
    obtain ⟨b1,off,hoR,hC⟩:=HEL.out i x hx
    subst hoR
    have hw2:wrap64 ((i:Int)+1)=((i+1:Nat):Int):=by unfold wrap64;omega
    have hC':=hC.on HB.out
    obtain ⟨k1,x1,n1,u1,g0,g1,g2,g3,hV1⟩:=tyC_val hC'.1
    obtain ⟨k2,x2,n2,u2,l0,l1,l2,l3,hV2⟩:=tyC_val hC'.2
    have HL1:=hideR (r_LargeType d wr _ _ hV1)
    have HL2:=hideR (fun u (hu:Below wr.heap.size wr u)=>r_LargeType d u _ _ (hV2.but (Abv.of hu)))
    have HLC:=hideR (And.intro l0 (And.intro l1 (And.intro l2 l3)))
    have HX:=hideR hx
    clear hC hC' hV1 hV2 hx l0 l1 l2 l3
    go_wp2_with fail
    refine Calls.mono (show Calls _ _ _ _ _ from HL1.out) ?_
    rintro e w2 ⟨b,rfl,hb,hf1⟩
    have HB2:=hideR (below_go HB.out hb)
    have HL2b:=hideR (HL2.out w2 hb)
    obtain ⟨l0,l1,l2,l3⟩:=HLC.out
    have l0:=cell_on hb l0
    have l1:=cell_on hb l1
    have l2:=cell_on hb l2
    have l3:=cell_on hb l3
    clear hb HL1 HL2 g0 g1 g2 g3 HLC
    cases b with
    | true =>
     clear hf1
     go_wp2
     go_ret
     exact ⟨true,rfl,HB2.out,fun h=>by cases h⟩
    | false =>
     have HF1:=hideR (hf1 rfl)
     clear hf1
     go_wp2_with fail
     refine Calls.mono (show Calls _ _ _ _ _ from HL2b.out) ?_
     rintro e w3 ⟨b,rfl,hb,hf2⟩
     have HB3:=hideR (below_go HB2.out hb)
     clear hb HL2b l0 l1 l2 l3 HB2
     cases b with
     | true =>
      clear hf2
      go_wp2
      go_ret
      exact ⟨true,rfl,HB3.out,fun h=>by cases h⟩
     | false =>
      have HFF:Hid (∀j x,j<i+1->l[j]?=some x->few d x.1/\few d x.2):=hideR (fun j y hj hy=>by
       by_cases hji:j<i
       ·exact HF.out j y hji hy
       ·obtain rfl:j=i:=by omega
        rw [HX.out] at hy
        injection hy with hy
        subst hy
        exact ⟨HF1.out,hf2 rfl⟩)
      clear hf2
      go_wp2
      go_roundw
      case rel=>exact ⟨i+1,by first|rfl|(congr 1),hp,hp2,HB3,HFF⟩
      case measure=>simp;omega
   ·have q2:decide ((i:Int)<12)=false:=decide_eq_false (by omega)
    go_wp2
    go_ret
    exact ⟨false,rfl,HB.out,fun _ j x hj hx=>HF.out j x (by omega) hx⟩
  ·have q1:decide ((i:Int)<(l.length:Int))=false:=decide_eq_false (by omega)
   go_wp2
   go_ret
   exact ⟨false,rfl,HB.out,fun _ j x hj hx=>HF.out j x (by have:=(List.getElem?_eq_some_iff.1 hx).1;omega) hx⟩
namespace Ty
def isP:Nat->Value->Prop
 | 0,_=>False
 | d+1,t=>∃k x m es,t=nd k x e0 m es [] 0/\∀a ∈ es,isP d a
def GP (n d:Nat) (t:Value):Prop:=GT n d t/\isP (d+1) t
theorem TyX.isp {f:Bool} {S:Nat->Prop} {w:World}:∀(d b o:Nat) (t:Value),TyX f S w d b o t->isP d t
 | 0,b,o,t,h=>h
 | d+1,b,o,t,h=>by
  obtain ⟨d0,k,x,n,es,oR,cR,hd,rfl,_,_,_,_,_,hel⟩:=tyX_ptr h
  obtain rfl:d=d0:=by omega
  refine ⟨k,x,n,es,rfl,fun a ha=>?_⟩
  obtain ⟨i,hi⟩:=List.getElem?_of_mem ha
  obtain ⟨b1,off,_,hx⟩:=hel i a hi
  exact TyX.isp d b1 _ a hx
theorem GP.node {n d:Nat} {t:Value} (h:GP n d t):∃k x m es,t=nd k x e0 m es [] 0/\es.length<=200010/\x.size<=281474976710656/\ndOk n k x m es.length=true/\(k=2->∃j,j<n/\t=vr j)/\∀a ∈ es,∃d1,d=d1+1/\GP n d1 a:=by
 obtain ⟨hg,k,x,m,es,rfl,hp⟩:=h
 refine ⟨k,x,m,es,rfl,hg.len,hg.2.2.1,hg.nd_ok.1,fun hk=>?_,fun a ha=>?_⟩
 ·subst hk;exact hg.var
 ·obtain ⟨i,hi⟩:=List.getElem?_of_mem ha
  obtain ⟨d1,hd,h1⟩:=hg.part hi
  subst hd
  exact ⟨d1,rfl,h1,hp a ha⟩
theorem GP.vr {n i:Nat} (hi:i<n):GP n 0 (vr i):=by
 refine ⟨⟨?_,⟨⟨_,_,_,_,_,_,_,rfl⟩,rfl,rfl⟩,⟨smE,fun x hx=>by cases hx⟩⟩,2,e0,_,[],rfl,fun a ha=>by cases ha⟩
 have e:gdT n 1 (Ty.vr i)=(ndOk n 2 e0 ((i:Int)+1) 0 && true):=rfl
 rw [e]
 unfold ndOk
 rw [if_neg (by decide),if_pos rfl]
 simp
 omega
structure Gd (n:Nat) (h:Nat->Value):Prop where
 good:∀j,j<n->∃d,GP n d (h j)
 fin:∀j,j<n->(∃a,a<n/\h j=vr a/\h a=vr a)\/kindV (h j)≠2
theorem LK.good {S:Nat->Prop} {w:World} {n:Nat} {h:Nat->Value} {rk:Nat->Nat} {ls:List Value} (H:LK S w n h rk ls):∀(R i:Nat),rk i<R->i<n->∃d,GP n d (h i)
 | 0,i,hr,_=>by omega
 | R+1,i,hr,hi=>by
  obtain ⟨l,hl⟩:∃l,ls[i]?=some l:=⟨_,List.getElem?_eq_getElem (by rw [H.len];exact hi)⟩
  rcases H.ok i l hl with ⟨_,h1⟩|⟨b,o,t,_,h2,h3,h4,_⟩
  ·rw [h1]
   exact ⟨0,GP.vr hi⟩
  ·rcases h2.cases with ⟨a,ha,rfl,_⟩|⟨k,hk,_,hkk,hnv⟩
   ·rw [endT_vr] at h3
    rw [<- h3]
    exact LK.good H R a (by have:=h4 a rfl;omega) ha
   ·rw [<- h3,hnv]
    obtain ⟨d,hx,hg⟩:=h2
    exact ⟨d,hg,hx.isp⟩
theorem SO.gd {S:Nat->Prop} {B n p:Nat} {h:Nat->Value} {vs:Value} {w:World} (H:SO S B n h p vs w):Gd n h:=by
 obtain ⟨_,ls,rk,_,h2⟩:=H
 exact ⟨fun j hj=>h2.good _ j (Nat.lt_succ_self _) hj,fun j hj=>h2.fin _ j (Nat.lt_succ_self _) hj⟩
theorem Gd.at_ {n:Nat} {h:Nat->Value} (H:Gd n h) {d:Nat} {t:Value} (hg:GP n d t):(∃e,GP n e (endT h t))/\((∃j,j<n/\endT h t=vr j/\h j=vr j)\/kindV (endT h t)≠2):=by
 obtain ⟨k,x,m,es,rfl,_,_,_,hv,_⟩:=hg.node
 by_cases hk:k=2
 ·obtain ⟨j,hj,he⟩:=hv hk
  rw [he,endT_vr]
  refine ⟨H.good j hj,?_⟩
  rcases H.fin j hj with ⟨a,ha,h1,h2⟩|h1
  ·exact .inl ⟨a,ha,h1,h2⟩
  ·exact .inr h1
 ·rw [endT_nv hk]
  exact ⟨⟨d,hg⟩,.inr hk⟩
end Ty
end Go.Proofs.Ytkflfohoinbenaa
