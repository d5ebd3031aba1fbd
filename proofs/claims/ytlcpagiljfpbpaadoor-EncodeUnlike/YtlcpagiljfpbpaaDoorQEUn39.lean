/- Texts that the claim needs. -/
import Derived.Test.YtlcpagiljfpbpaaDoorQEUn38
import Derived.Test.YtlcpagiljfpbpaaDoorQEUn37
namespace Go.Proofs.YtlcpagiljfpbpaaDoor
open Go.RowKit Rep Enc Go.Lib
set_option linter.unusedVariables false
namespace Enc
theorem row_both {α β:Type} {c:Nat} {f:Nat->Nat->α->Prop} {g:Nat->Nat->β->Prop} {P:β->Prop} {Q:α->Prop} {v:Value} {l:List α} {k:List β} (hl:Row c f v l) (hk:Row c g v k) (h:∀b o x y,f b o x->g b o y->P y->Q x) (hP:∀y ∈ k,P y):∀x ∈ l,Q x:=by
 intro x hx
 obtain ⟨i,hi,rfl⟩:=List.getElem_of_mem hx
 obtain ⟨b,off,cap,hv,hc⟩:=Row.some hl (by omega)
 obtain ⟨o2,cap2,hv2⟩:=Row.len hk
 rw [hv] at hv2
 injection hv2 with _ hlen _
 obtain ⟨b',off',cap',hv',hc'⟩:=Row.some hk (by omega)
 rw [hv] at hv'
 injection hv' with ha _ _
 injection ha with ha
 injection ha with hb ho _
 subst hb ho
 obtain ⟨y,hy⟩:∃y,k[i]?=some y:=⟨_,List.getElem?_eq_getElem (by omega)⟩
 exact h _ _ _ _ (hc i _ (List.getElem?_eq_getElem hi)) (hc' i y hy) (hP y (List.mem_of_getElem? hy))
theorem ins_on2 {w:World} {d e:Nat} {b o:Nat} {x:Ins (IL d)} {y:Ins (IL e)} (hX:InsAt w (At w d) b o x) (hY:InsAt w (At w e) b o y) (hN:NR1 (NR e) y):NR1 (NR d) x:=by
 obtain ⟨n1,n2,n3⟩:=hN
 obtain ⟨v5,c5,a5⟩:=hX.body
 obtain ⟨v6,c6,a6⟩:=hX.els
 obtain ⟨u5,d5,b5⟩:=hY.body
 obtain ⟨u6,d6,b6⟩:=hY.els
 have e5:v5=u5:=by rw [c5] at d5;exact Option.some.inj d5
 have e6:v6=u6:=by rw [c6] at d6;exact Option.some.inj d6
 have en:x.n=y.n:=by
  have h1:=hX.n
  rw [hY.n] at h1
  injection h1 with h1
  injection h1 with _ h1
  exact h1.symm
 exact ⟨by rw [en];exact n1,NR_on d e v5 _ y.body a5 (e5 ▸ b5) n2,NR_on d e v6 _ y.els a6 (e6 ▸ b6) n3⟩
theorem NRM_on {w:World} {d e:Nat} {v0 v1 v2 v3 v4 v5 v6 v7 v8 v9:Value} {m:Mod d} {k:Mod e} (hM:ModAt w d v0 v1 v2 v3 v4 v5 v6 v7 v8 v9 m) (hK:ModAt w e v0 v1 v2 v3 v4 v5 v6 v7 v8 v9 k) (hN:NRM k):NRM m:=by
 obtain ⟨N1,N2,N3,N4⟩:=hN
 refine ⟨row_both hM.funcs hK.funcs (fun b o x y hx hy hn=>?_) N1,row_both hM.globals hK.globals (fun b o x y hx hy hn=>ins_on2 hx.init hy.init hn) N2,row_both hM.elems hK.elems (fun b o x y hx hy hn=>ins_on2 hx.offset hy.offset hn) N3,row_both hM.datas hK.datas (fun b o x y hx hy hn=>ins_on2 hx.offset hy.offset hn) N4⟩
 obtain ⟨v,c,a⟩:=hx.body
 obtain ⟨u,c',a'⟩:=hy.body
 have e1:v=u:=by rw [c] at c';exact Option.some.inj c'
 exact NR_on d e v _ y.body a (e1 ▸ a') hn
end Enc
end Go.Proofs.YtlcpagiljfpbpaaDoor

namespace Go.Proofs.YtlcpagiljfpbpaaDoor
open Go.RowKit Rep Enc Go.Lib
set_option linter.unusedVariables false
namespace Enc
def PJ {α:Type} (P:α->Prop) (e:α->List Int):Prop:=∀(x y:α) (r s:List Int),P x->P y->e x++r=e y++s->x=y/\r=s
theorem cons_in {a b:Int} {r s:List Int} (h:a :: r=b :: s):a=b/\r=s:=by injection h with h1 h2;exact ⟨h1,h2⟩
theorem uB_pj1:∀(f:Nat) (a b:Int) (r s:List Int),a.toNat<=f->0<=a->0<=b->Leb.uB a++r=Leb.uB b++s->a=b/\r=s:=by
 intro f
 induction f with
 | zero =>
  intro a b r s hf ha hb h
  rw [Leb.uB_small ha (by omega)] at h
  by_cases h2:b<128
  ·rw [Leb.uB_small hb h2] at h
   exact cons_in h
  ·rw [Leb.uB_great (by omega)] at h
   have:=(cons_in h).1
   omega
 | succ f ih =>
  intro a b r s hf ha hb h
  by_cases h1:a<128
  ·rw [Leb.uB_small ha h1] at h
   by_cases h2:b<128
   ·rw [Leb.uB_small hb h2] at h
    exact cons_in h
   ·rw [Leb.uB_great (by omega)] at h
    have:=(cons_in h).1
    omega
  ·rw [Leb.uB_great (by omega)] at h
   by_cases h2:b<128
   ·rw [Leb.uB_small hb h2] at h
    have:=(cons_in h).1
    omega
   ·rw [Leb.uB_great (n:=b) (by omega)] at h
    have h3:=cons_in h
    have h4:=ih (a / 128) (b / 128) r s (by omega) (by omega) (by omega) h3.2
    exact ⟨by omega,h4.2⟩
theorem uB_pj:PJ (fun n=>0<=n) Leb.uB:=fun a b r s ha hb h=>uB_pj1 _ a b r s (Nat.le_refl _) ha hb h
theorem sB_pj1:∀(f:Nat) (a b:Int) (r s:List Int),a.natAbs<=f->Leb.sB a++r=Leb.sB b++s->a=b/\r=s:=by
 intro f
 induction f with
 | zero =>
  intro a b r s hf h
  rw [Leb.sB_small (by omega)] at h
  by_cases h2:-64<=b/\b<=63
  ·rw [Leb.sB_small h2] at h
   have:=cons_in h
   exact ⟨by omega,this.2⟩
  ·rw [Leb.sB_great h2] at h
   have:=(cons_in h).1
   omega
 | succ f ih =>
  intro a b r s hf h
  by_cases h1:-64<=a/\a<=63
  ·rw [Leb.sB_small h1] at h
   by_cases h2:-64<=b/\b<=63
   ·rw [Leb.sB_small h2] at h
    have:=cons_in h
    exact ⟨by omega,this.2⟩
   ·rw [Leb.sB_great h2] at h
    have:=(cons_in h).1
    omega
  ·rw [Leb.sB_great h1] at h
   by_cases h2:-64<=b/\b<=63
   ·rw [Leb.sB_small h2] at h
    have:=(cons_in h).1
    omega
   ·rw [Leb.sB_great h2] at h
    have h3:=cons_in h
    have h4:=ih (a / 128) (b / 128) r s (by omega) h3.2
    exact ⟨by omega,h4.2⟩
theorem sB_pj:PJ (fun _=>True) Leb.sB:=fun a b r s _ _ h=>sB_pj1 _ a b r s (Nat.le_refl _) h
def isB (n:Int):Prop:=0<=n/\n<=255
theorem by_pj:PJ isB (fun x=>[x%256]):=fun a b r s ha hb h=>by
 have h1:=cons_in h
 unfold isB at ha hb
 exact ⟨by omega,h1.2⟩
theorem fm_pj {α:Type} {P:α->Prop} {e:α->List Int} (hp:PJ P e):∀(l k:List α) (r s:List Int),l.length=k.length->(∀x ∈ l,P x)->(∀x ∈ k,P x)->l.flatMap e++r=k.flatMap e++s->l=k/\r=s
 | [],[],r,s,_,_,_,h=>⟨rfl,h⟩
 | [],_ :: _,_,_,h,_,_,_=>by simp at h
 | _ :: _,[],_,_,h,_,_,_=>by simp at h
 | x :: l,y :: k,r,s,hl,h1,h2,h=>by
  rw [List.flatMap_cons,List.flatMap_cons,List.append_assoc,List.append_assoc] at h
  obtain ⟨e1,h3⟩:=hp x y _ _ (h1 x (List.mem_cons_self ..)) (h2 y (List.mem_cons_self ..)) h
  obtain ⟨e2,h4⟩:=fm_pj hp l k r s (by simpa using hl) (fun z hz=>h1 z (List.mem_cons_of_mem _ hz)) (fun z hz=>h2 z (List.mem_cons_of_mem _ hz)) h3
  exact ⟨by rw [e1,e2],h4⟩
theorem lis_pj {α:Type} {P:α->Prop} {e:α->List Int} (hp:PJ P e):PJ (fun l=>∀x ∈ l,P x) (lisB e):=fun l k r s h1 h2 h=>by
 unfold lisB at h
 rw [List.append_assoc,List.append_assoc] at h
 obtain ⟨e1,h3⟩:=uB_pj _ _ _ _ (by show (0:Int)<=_;omega) (by show (0:Int)<=_;omega) h
 exact fm_pj hp l k r s (by omega) h1 h2 h3
theorem nums_in {x y:ByteArray} (h:nums x=nums y):x=y:=by
 unfold nums at h
 have h2:x.data.toList=y.data.toList:=(List.map_inj_right fun a b hab=>by
  have:a.toNat=b.toNat:=by omega
  exact UInt8.toNat_inj.1 this).1 h
 apply ByteArray.ext
 exact Array.toList_inj.1 h2
theorem len_pj {b c r s:List Int} (h:sizB b++r=sizB c++s):b=c/\r=s:=by
 unfold sizB at h
 rw [List.append_assoc,List.append_assoc] at h
 obtain ⟨e1,h3⟩:=uB_pj _ _ _ _ (by show (0:Int)<=_;omega) (by show (0:Int)<=_;omega) h
 exact List.append_inj h3 (by omega)
theorem tex_pj:PJ (fun _=>True) texB:=fun x y r s _ _ h=>by
 have e:∀z:ByteArray,texB z=sizB (nums z):=fun z=>by unfold texB sizB;rw [nums_len]
 rw [e,e] at h
 obtain ⟨h1,h2⟩:=len_pj h
 exact ⟨nums_in h1,h2⟩
theorem typ_iff {n:Int} (h:typ n=true):n=126\/n=127:=of_decide_eq_true h
theorem typ_isB {n:Int} (h:typ n=true):isB n:=by have:=typ_iff h;unfold isB;omega
def VI:(d:Nat)->IL d->Prop
 | 0,_=>True
 | d+1,l=>∀x,x ∈ (show List (Ins (IL d)) from l)->okS (sn x)=true/\VI d x.body/\VI d x.els
theorem vi_of:∀(d:Nat) (l:IL d) (k:Nat),goI stepForm d l k ()=some ()->VI d l
 | 0,_,_,_=>trivial
 | d+1,l,k,hF=>by
  intro x hx
  obtain ⟨f1,f2,f3⟩:=goL_all (show List (Ins (IL d)) from l) hF x hx
  refine ⟨?_,vi_of d x.body (k+1) f2,vi_of d x.els (k+1) f3⟩
  unfold stepForm at f1
  by_cases h:okS (sn x)=true
  ·exact h
  ·rw [if_neg h] at f1;cases f1
theorem none_eq:∀(d:Nat) (l k:IL d),size d l=0->size d k=0->l=k
 | 0,_,_,_,_=>rfl
 | d+1,l,k,h1,h2=>by
  have e1:(show List (Ins (IL d)) from l) = []:=List.length_eq_zero_iff.1 h1
  have e2:(show List (Ins (IL d)) from k) = []:=List.length_eq_zero_iff.1 h2
  exact e1.trans e2.symm
theorem none_vi:∀(d:Nat) (l:IL d),size d l=0->VI d l
 | 0,_,_=>trivial
 | d+1,l,h=>by
  intro x hx
  have e1:(show List (Ins (IL d)) from l) = []:=List.length_eq_zero_iff.1 h
  rw [e1] at hx;cases hx
theorem none_bytes:∀(d:Nat) (l:IL d),size d l=0->bytesI d l = []
 | 0,_,_=>rfl
 | d+1,l,h=>by
  have e1:(show List (Ins (IL d)) from l) = []:=List.length_eq_zero_iff.1 h
  show insL (bytesI d) (size d) (show List (Ins (IL d)) from l) = []
  rw [e1];rfl
set_option maxHeartbeats 1000000 in
theorem form_byte (op:Int) (h1:1<=form op) (h2:form op<=9):0<=op/\op<=255/\op≠5/\op≠11:=by
 by_cases h:0<=op/\op<=255/\op≠5/\op≠11
 ·exact h
 ·exfalso
  have:op<0\/191<op\/op=5\/op=11:=by omega
  rcases this with h|h|rfl|rfl
  ·unfold form at h1;rw [if_pos (by omega)] at h1;omega
  ·unfold form at h1
   repeat rw [if_neg (by omega)] at h1
   omega
  ·revert h1;decide
  ·revert h1;decide
structure Ok1 {d:Nat} (x:Ins (IL d)):Prop where
 fm:1<=form x.op/\form x.op<=9
 a:form x.op=1\/form x.op=9->x.a=0
 a2:form x.op=2\/form x.op=3->x.a=0\/x.a=126\/x.a=127
 a4:4<=form x.op->form x.op<=8->0<=x.a
 b:form x.op≠8->x.b=0
 b8:form x.op=8->0<=x.b
 n:form x.op≠9->x.n=0
 labels:form x.op≠5->x.labels = []
 l5:form x.op=5->∀y ∈ x.labels,0<=y
 body:form x.op≠2->form x.op≠3->size d x.body=0
 els:form x.op≠3->size d x.els=0
theorem bare_at {a b n:Int} {nl nb ne:Nat} (h:bare a b n nl nb ne=true):a=0/\b=0/\n=0/\nl=0/\nb=0/\ne=0:=of_decide_eq_true h
theorem res_iff {a:Int} (h:res a=true):a=0\/a=126\/a=127:=by
 unfold res at h
 rcases Bool.or_eq_true_iff.1 h with h|h
 ·exact .inl (of_decide_eq_true h)
 ·exact .inr (typ_iff h)
theorem ok1_of {d:Nat} {x:Ins (IL d)} (h:okS (sn x)=true):Ok1 x:=by
 have h':okF (form x.op) x.op x.a x.b x.n x.labels (size d x.body) (size d x.els)=true:=h
 unfold okF at h'
 have l0:∀ {l:List Int},l.length=0->l = []:=fun h=>List.length_eq_zero_iff.1 h
 by_cases f1:form x.op=1
 ·rw [if_pos f1] at h'
  obtain ⟨h1,h2,h3,h4,h5,h6⟩:=bare_at h'
  exact ⟨by omega,fun _=>h1,fun h=>by omega,fun h=>by omega,fun _=>h2,fun h=>by omega,fun _=>h3,fun _=>l0 h4,fun h=>by omega,fun _ _=>h5,fun _=>h6⟩
 rw [if_neg f1] at h'
 by_cases f2:form x.op=2
 ·rw [if_pos f2,Bool.and_eq_true] at h'
  obtain ⟨h1,h2,h3,h4,h5,h6⟩:=bare_at h'.2
  exact ⟨by omega,fun h=>by omega,fun _=>res_iff h'.1,fun h=>by omega,fun _=>h2,fun h=>by omega,fun _=>h3,fun _=>l0 h4,fun h=>by omega,fun h=>absurd f2 h,fun _=>h6⟩
 rw [if_neg f2] at h'
 by_cases f3:form x.op=3
 ·rw [if_pos f3,Bool.and_eq_true] at h'
  obtain ⟨h1,h2,h3,h4,h5,h6⟩:=bare_at h'.2
  exact ⟨by omega,fun h=>by omega,fun _=>res_iff h'.1,fun h=>by omega,fun _=>h2,fun h=>by omega,fun _=>h3,fun _=>l0 h4,fun h=>by omega,fun _ h=>absurd f3 h,fun h=>absurd f3 h⟩
 rw [if_neg f3] at h'
 by_cases f4:form x.op=4\/form x.op=6\/form x.op=7
 ·rw [if_pos f4,Bool.and_eq_true] at h'
  obtain ⟨h1,h2,h3,h4,h5,h6⟩:=bare_at h'.2
  exact ⟨by omega,fun h=>by omega,fun h=>by omega,fun _ _=>(idx_iff h'.1).1,fun _=>h2,fun h=>by omega,fun _=>h3,fun _=>l0 h4,fun h=>by omega,fun _ _=>h5,fun _=>h6⟩
 rw [if_neg f4] at h'
 by_cases f5:form x.op=5
 ·rw [if_pos f5,Bool.and_eq_true,Bool.and_eq_true] at h'
  obtain ⟨h1,h2,h3,h4,h5,h6⟩:=bare_at h'.2
  exact ⟨by omega,fun h=>by omega,fun h=>by omega,fun _ _=>(idx_iff h'.1.1).1,fun _=>h2,fun h=>by omega,fun _=>h3,fun h=>absurd f5 h,fun _ y hy=>(idx_iff (List.all_eq_true.1 h'.1.2 y hy)).1,fun _ _=>h5,fun _=>h6⟩
 rw [if_neg f5] at h'
 by_cases f8:form x.op=8
 ·rw [if_pos f8,Bool.and_eq_true,Bool.and_eq_true] at h'
  obtain ⟨h1,h2,h3,h4,h5,h6⟩:=bare_at h'.2
  exact ⟨by omega,fun h=>by omega,fun h=>by omega,fun _ _=>(idx_iff h'.1.1).1,fun h=>absurd f8 h,fun _=>(idx_iff h'.1.2).1,fun _=>h3,fun _=>l0 h4,fun h=>by omega,fun _ _=>h5,fun _=>h6⟩
 rw [if_neg f8] at h'
 by_cases f9:form x.op=9
 ·rw [if_pos f9,Bool.and_eq_true] at h'
  obtain ⟨h1,h2,h3,h4,h5,h6⟩:=bare_at h'.2
  exact ⟨by omega,fun _=>h1,fun h=>by omega,fun h=>by omega,fun _=>h2,fun h=>by omega,fun h=>absurd f9 h,fun _=>l0 h4,fun h=>by omega,fun _ _=>h5,fun _=>h6⟩
 ·rw [if_neg f9] at h';cases h'
def SeqJ (d:Nat):Prop:=∀(l k:IL d) (t u:Int) (r s:List Int),VI d l->VI d k->(t=5\/t=11)->(u=5\/u=11)->bytesI d l++t :: r=bytesI d k++u :: s->l=k/\t=u/\r=s
theorem ins_eq {d:Nat} {x y:Ins (IL d)} (h1:x.op=y.op) (h2:x.a=y.a) (h3:x.b=y.b) (h4:x.n=y.n) (h5:x.labels=y.labels) (h6:x.body=y.body) (h7:x.els=y.els):x=y:=by
 cases x;cases y;simp only at *;subst h1 h2 h3 h4 h5 h6 h7;rfl
theorem blk_pj {d:Nat} (IH:SeqJ d) {bx ex bY ey:IL d} {r s:List Int} (v1:VI d bx) (v2:VI d ex) (v3:VI d bY) (v4:VI d ey)
  (h:bytesI d bx++((if 0<size d ex then [5]++bytesI d ex else [])++([11]++r))=bytesI d bY++((if 0<size d ey then [5]++bytesI d ey else [])++([11]++s))):bx=bY/\ex=ey/\r=s:=by
 by_cases h1:0<size d ex
 ·rw [if_pos h1] at h
  by_cases h2:0<size d ey
  ·rw [if_pos h2] at h
   obtain ⟨e1,_,h3⟩:=IH bx bY 5 5 (bytesI d ex++11 :: r) (bytesI d ey++11 :: s) v1 v3 (.inl rfl) (.inl rfl) (by simpa using h)
   obtain ⟨e2,_,h4⟩:=IH ex ey 11 11 r s v2 v4 (.inr rfl) (.inr rfl) h3
   exact ⟨e1,e2,h4⟩
  ·rw [if_neg h2] at h
   obtain ⟨_,h3,_⟩:=IH bx bY 5 11 (bytesI d ex++11 :: r) s v1 v3 (.inl rfl) (.inr rfl) (by simpa using h)
   omega
 ·rw [if_neg h1] at h
  by_cases h2:0<size d ey
  ·rw [if_pos h2] at h
   obtain ⟨_,h3,_⟩:=IH bx bY 11 5 r (bytesI d ey++11 :: s) v1 v3 (.inr rfl) (.inl rfl) (by simpa using h)
   omega
  ·rw [if_neg h2] at h
   obtain ⟨e1,_,h3⟩:=IH bx bY 11 11 r s v1 v3 (.inr rfl) (.inr rfl) (by simpa using h)
   exact ⟨e1,none_eq d ex ey (by omega) (by omega),h3⟩
def tlB {α:Type} (rec:α->List Int) (sz:α->Nat) (x:Ins α):List Int :=
 (if form x.op=1 then (if x.op=63\/x.op=64 then [0] else [])
  else if form x.op=2\/form x.op=3 then (if x.a=0 then [64] else [x.a%256])++rec x.body++(if 0<sz x.els then [5]++rec x.els else [])++[11]
  else if form x.op=4\/form x.op=6 then Leb.uB x.a
  else if form x.op=5 then idxB x.labels++Leb.uB x.a
  else if form x.op=7 then Leb.uB x.a++[0]
  else if form x.op=8 then Leb.uB x.a++Leb.uB x.b
  else if form x.op=9 then Leb.sB x.n else [])
theorem insB_tl {α:Type} (rec:α->List Int) (sz:α->Nat) (x:Ins α):insB rec sz x=(x.op%256) :: tlB rec sz x:=rfl
theorem ins_pj {d:Nat} (IH:SeqJ d) {x y:Ins (IL d)} {r s:List Int} (ox:Ok1 x) (oy:Ok1 y) (v1:VI d x.body) (v2:VI d x.els) (v3:VI d y.body) (v4:VI d y.els)
  (h:insB (bytesI d) (size d) x++r=insB (bytesI d) (size d) y++s):x=y/\r=s:=by
 have bx:=form_byte x.op ox.fm.1 ox.fm.2
 have by':=form_byte y.op oy.fm.1 oy.fm.2
 rw [insB_tl,insB_tl,List.cons_append,List.cons_append] at h
 obtain ⟨h1,h⟩:=cons_in h
 unfold tlB at h
 have e:x.op=y.op:=by omega
 have ef:form x.op=form y.op:=by rw [e]
 rw [<- ef,<- e] at h
 have fx:=ox.fm
 have nb:form x.op≠2->form x.op≠3->x.body=y.body:=fun h2 h3=>none_eq d _ _ (ox.body h2 h3) (oy.body (by omega) (by omega))
 have ne:form x.op≠3->x.els=y.els:=fun h3=>none_eq d _ _ (ox.els h3) (oy.els (by omega))
 have nl:form x.op≠5->x.labels=y.labels:=fun h5=>by rw [ox.labels h5,oy.labels (by omega)]
 have nn:form x.op≠9->x.n=y.n:=fun h9=>by rw [ox.n h9,oy.n (by omega)]
 have nbb:form x.op≠8->x.b=y.b:=fun h8=>by rw [ox.b h8,oy.b (by omega)]
 by_cases f1:form x.op=1
 ·rw [if_pos f1,if_pos f1] at h
  have ea:x.a=y.a:=by rw [ox.a (.inl f1),oy.a (.inl (by omega))]
  refine ⟨ins_eq e ea (nbb (by omega)) (nn (by omega)) (nl (by omega)) (nb (by omega) (by omega)) (ne (by omega)),?_⟩
  exact List.append_cancel_left h
 rw [if_neg f1,if_neg f1] at h
 by_cases f2:form x.op=2\/form x.op=3
 ·rw [if_pos f2,if_pos f2] at h
  simp only [List.append_assoc] at h
  have ax:=ox.a2 f2
  have ay:=oy.a2 (by omega)
  have h2:x.a=y.a/\bytesI d x.body++((if 0<size d x.els then [5]++bytesI d x.els else [])++([11]++r))=bytesI d y.body++((if 0<size d y.els then [5]++bytesI d y.els else [])++([11]++s)):=by
   by_cases a1:x.a=0
   ·rw [if_pos a1] at h
    by_cases a2:y.a=0
    ·rw [if_pos a2] at h
     exact ⟨by omega,(cons_in h).2⟩
    ·rw [if_neg a2] at h
     have:=(cons_in h).1
     omega
   ·rw [if_neg a1] at h
    by_cases a2:y.a=0
    ·rw [if_pos a2] at h
     have:=(cons_in h).1
     omega
    ·rw [if_neg a2] at h
     have:=cons_in h
     exact ⟨by omega,this.2⟩
  obtain ⟨ea,h3⟩:=h2
  obtain ⟨e1,e2,h4⟩:=blk_pj IH v1 v2 v3 v4 h3
  exact ⟨ins_eq e ea (nbb (by omega)) (nn (by omega)) (nl (by omega)) e1 e2,h4⟩
 rw [if_neg f2,if_neg f2] at h
 by_cases f4:form x.op=4\/form x.op=6
 ·rw [if_pos f4,if_pos f4] at h
  obtain ⟨ea,h2⟩:=uB_pj _ _ _ _ (ox.a4 (by omega) (by omega)) (oy.a4 (by omega) (by omega)) h
  exact ⟨ins_eq e ea (nbb (by omega)) (nn (by omega)) (nl (by omega)) (nb (by omega) (by omega)) (ne (by omega)),h2⟩
 rw [if_neg f4,if_neg f4] at h
 by_cases f5:form x.op=5
 ·rw [if_pos f5,if_pos f5,List.append_assoc,List.append_assoc] at h
  obtain ⟨el,h2⟩:=lis_pj uB_pj x.labels y.labels _ _ (ox.l5 f5) (oy.l5 (by omega)) h
  obtain ⟨ea,h3⟩:=uB_pj _ _ _ _ (ox.a4 (by omega) (by omega)) (oy.a4 (by omega) (by omega)) h2
  exact ⟨ins_eq e ea (nbb (by omega)) (nn (by omega)) el (nb (by omega) (by omega)) (ne (by omega)),h3⟩
 rw [if_neg f5,if_neg f5] at h
 by_cases f7:form x.op=7
 ·rw [if_pos f7,if_pos f7,List.append_assoc,List.append_assoc] at h
  obtain ⟨ea,h2⟩:=uB_pj _ _ _ _ (ox.a4 (by omega) (by omega)) (oy.a4 (by omega) (by omega)) h
  exact ⟨ins_eq e ea (nbb (by omega)) (nn (by omega)) (nl (by omega)) (nb (by omega) (by omega)) (ne (by omega)),(cons_in h2).2⟩
 rw [if_neg f7,if_neg f7] at h
 by_cases f8:form x.op=8
 ·rw [if_pos f8,if_pos f8,List.append_assoc,List.append_assoc] at h
  obtain ⟨ea,h2⟩:=uB_pj _ _ _ _ (ox.a4 (by omega) (by omega)) (oy.a4 (by omega) (by omega)) h
  obtain ⟨eb,h3⟩:=uB_pj _ _ _ _ (ox.b8 f8) (oy.b8 (by omega)) h2
  exact ⟨ins_eq e ea eb (nn (by omega)) (nl (by omega)) (nb (by omega) (by omega)) (ne (by omega)),h3⟩
 rw [if_neg f8,if_neg f8] at h
 have f9:form x.op=9:=by omega
 rw [if_pos f9,if_pos f9] at h
 obtain ⟨en,h2⟩:=sB_pj _ _ _ _ trivial trivial h
 have ea:x.a=y.a:=by rw [ox.a (.inr f9),oy.a (.inr (by omega))]
 exact ⟨ins_eq e ea (nbb (by omega)) en (nl (by omega)) (nb (by omega) (by omega)) (ne (by omega)),h2⟩
theorem op_head {d:Nat} {y:Ins (IL d)} {k:List (Ins (IL d))} {t u:Int} {r s:List Int} (oy:Ok1 y) (ht:t=5\/t=11) (h:t :: r=insB (bytesI d) (size d) y++s):False:=by
 have by':=form_byte y.op oy.fm.1 oy.fm.2
 rw [insB_tl,List.cons_append] at h
 have:=(cons_in h).1
 omega
theorem seq_pj:∀(d:Nat),SeqJ d
 | 0=>fun l k t u r s _ _ _ _ h=>⟨rfl,cons_in h⟩
 | d+1=>fun l k t u r s hl hk ht hu h=>by
  have key:∀(l k:List (Ins (IL d))),(∀x ∈ l,okS (sn x)=true/\VI d x.body/\VI d x.els)->(∀x ∈ k,okS (sn x)=true/\VI d x.body/\VI d x.els)->insL (bytesI d) (size d) l++t :: r=insL (bytesI d) (size d) k++u :: s->l=k/\t=u/\r=s:=by
   intro l
   induction l with
   | nil =>
    intro k _ h2 h
    cases k with
    | nil=>exact ⟨rfl,cons_in h⟩
    | cons y k =>
     exfalso
     have h':t :: r=insB (bytesI d) (size d) y++(insL (bytesI d) (size d) k++u :: s):=by rw [<- List.append_assoc];exact h
     exact op_head (k:=k) (t:=t) (u:=u) (ok1_of (h2 y (List.mem_cons_self ..)).1) ht h'
   | cons x l ih =>
    intro k h1 h2 h
    cases k with
    | nil =>
     exfalso
     have h':u :: s=insB (bytesI d) (size d) x++(insL (bytesI d) (size d) l++t :: r):=by rw [<- List.append_assoc];exact h.symm
     exact op_head (k:=l) (t:=u) (u:=t) (ok1_of (h1 x (List.mem_cons_self ..)).1) hu h'
    | cons y k =>
     have h':insB (bytesI d) (size d) x++(insL (bytesI d) (size d) l++t :: r)=insB (bytesI d) (size d) y++(insL (bytesI d) (size d) k++u :: s):=by rw [<- List.append_assoc,<- List.append_assoc];exact h
     obtain ⟨o1,v1,v2⟩:=h1 x (List.mem_cons_self ..)
     obtain ⟨o2,v3,v4⟩:=h2 y (List.mem_cons_self ..)
     obtain ⟨e1,h3⟩:=ins_pj (seq_pj d) (ok1_of o1) (ok1_of o2) v1 v2 v3 v4 h'
     obtain ⟨e2,h4⟩:=ih k (fun z hz=>h1 z (List.mem_cons_of_mem _ hz)) (fun z hz=>h2 z (List.mem_cons_of_mem _ hz)) h3
     exact ⟨by rw [e1,e2],h4⟩
  exact key (show List (Ins (IL d)) from l) (show List (Ins (IL d)) from k) hl hk h
theorem cst_pj (d:Nat):PJ (fun x:Ins (IL d)=>cstOk x=true) (fun x=>insB (bytesI d) (size d) x++[11]):=fun x y r s hx hy h=>by
 rw [List.append_assoc,List.append_assoc] at h
 have hx:(cst x.op && okS (sn x))=true:=hx
 have hy:(cst y.op && okS (sn y))=true:=hy
 rw [Bool.and_eq_true] at hx hy
 have c:∀z:Ins (IL d),cst z.op=true->Ok1 z->size d z.body=0/\size d z.els=0:=fun z hz o=>by
  have hf:form z.op=9\/form z.op=6:=by
   unfold cst at hz
   simp only [Bool.or_eq_true,beq_iff_eq] at hz
   rcases hz with (h|h)|h<;>rw [h]<;>decide
  exact ⟨o.body (by omega) (by omega),o.els (by omega)⟩
 have o1:=ok1_of hx.2
 have o2:=ok1_of hy.2
 have c1:=c x hx.1 o1
 have c2:=c y hy.1 o2
 obtain ⟨e,h2⟩:=ins_pj (seq_pj d) o1 o2 (none_vi d _ c1.1) (none_vi d _ c1.2) (none_vi d _ c2.1) (none_vi d _ c2.2) h
 exact ⟨e,(cons_in h2).2⟩
end Enc
end Go.Proofs.YtlcpagiljfpbpaaDoor

