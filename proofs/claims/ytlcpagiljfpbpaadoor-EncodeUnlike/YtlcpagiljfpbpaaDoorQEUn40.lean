/- Texts that the claim needs. -/
import Derived.Test.YtlcpagiljfpbpaaDoorQEUn39
import Derived.Test.YtlcpagiljfpbpaaDoorQEUn15
import Derived.Laws.Strings
namespace Go.Proofs.YtlcpagiljfpbpaaDoor
open Go.RowKit Rep Enc Go.Lib
set_option linter.unusedVariables false
namespace Enc
def unrun (x:Int × Int):List Int:=List.replicate x.1.toNat x.2
theorem rn_all1 (l:List Int):∀j,j<=l.length->(rn (l.take j)).flatMap unrun=l.take j:=by
 intro j
 induction j with
 | zero=>intro _;simp [rn]
 | succ j ih =>
  intro hj
  have ih:=ih (by omega)
  obtain ⟨t,ht⟩:∃t,l[j]?=some t:=⟨_,List.getElem?_eq_getElem (by omega)⟩
  have hb:=(rn_bound (l.take j)).2
  rw [rn_take ht,List.take_add_one,ht]
  unfold rnStep
  split
  ·rename_i c t' hl
   obtain ⟨ys,hy⟩:=List.getLast?_eq_some_iff.1 hl
   rw [hy] at ih hb ⊢
   have hc:=(hb (c,t') (by simp)).1
   rw [List.flatMap_append] at ih
   split
   ·rename_i he
    subst he
    rw [List.dropLast_concat,List.flatMap_append,<- ih,List.append_assoc]
    congr 1
    show unrun (c+1,t')++[]=(unrun (c,t')++[])++[t']
    unfold unrun
    simp only [List.append_nil]
    have:(c+1).toNat=c.toNat+1:=by simp at hc;omega
    rw [this,List.replicate_succ']
   ·rw [List.flatMap_append,List.flatMap_append,<- ih]
    congr 1
  ·rename_i hl
   have:rn (l.take j) = []:=List.getLast?_eq_none_iff.1 hl
   rw [this] at ih
   have ih : []=l.take j:=ih
   rw [<- ih];rfl
theorem rn_in {l k:List Int} (h:rn l=rn k):l=k:=by
 have h1:=rn_all1 l l.length (Nat.le_refl _)
 have h2:=rn_all1 k k.length (Nat.le_refl _)
 rw [List.take_of_length_le (Nat.le_refl _)] at h1 h2
 rw [<- h1,h,h2]
theorem one_in {a b:Bool} (h:one a=one b):a=b:=by
 cases a<;>cases b<;>simp [one] at h ⊢
theorem ft_eq {x y:FT} (h1:x.params=y.params) (h2:x.results=y.results):x=y:=by cases x;cases y;simp only at h1 h2;subst h1 h2;rfl
theorem imp_eq {x y:Imp} (h1:x.mod=y.mod) (h2:x.name=y.name) (h3:x.type=y.type):x=y:=by cases x;cases y;simp only at h1 h2 h3;subst h1 h2 h3;rfl
theorem lim_eq {x y:Lim} (h1:x.min=y.min) (h2:x.max=y.max) (h3:x.has=y.has):x=y:=by cases x;cases y;simp only at h1 h2 h3;subst h1 h2 h3;rfl
theorem glo_eq {d:Nat} {x y:Glo d} (h1:x.type=y.type) (h2:x.mtb=y.mtb) (h3:x.init=y.init):x=y:=by cases x;cases y;simp only at h1 h2 h3;subst h1 h2 h3;rfl
theorem exp_eq {x y:Exp} (h1:x.name=y.name) (h2:x.kind=y.kind) (h3:x.index=y.index):x=y:=by cases x;cases y;simp only at h1 h2 h3;subst h1 h2 h3;rfl
theorem elm_eq {d:Nat} {x y:Elm d} (h1:x.offset=y.offset) (h2:x.funcs=y.funcs):x=y:=by cases x;cases y;simp only at h1 h2;subst h1 h2;rfl
theorem dat_eq {d:Nat} {x y:Dat d} (h1:x.offset=y.offset) (h2:x.bytes=y.bytes):x=y:=by cases x;cases y;simp only at h1 h2;subst h1 h2;rfl
def cstB (d:Nat) (x:Ins (IL d)):List Int:=insB (bytesI d) (size d) x++[11]
theorem typs_pj:PJ (fun l=>∀x ∈ l,isB x) typB:=lis_pj by_pj
theorem ft_pj:PJ (fun x=>(∀y ∈ x.params,isB y)/\∀y ∈ x.results,isB y) ftB:=fun x y r s hx hy h=>by
 unfold ftB at h
 simp only [List.append_assoc] at h
 have h:=(cons_in h).2
 obtain ⟨e1,h⟩:=typs_pj _ _ _ _ hx.1 hy.1 h
 obtain ⟨e2,h⟩:=typs_pj _ _ _ _ hx.2 hy.2 h
 exact ⟨ft_eq e1 e2,h⟩
theorem imp_pj:PJ (fun x=>0<=x.type) impB:=fun x y r s hx hy h=>by
 unfold impB at h
 simp only [List.append_assoc] at h
 obtain ⟨e1,h⟩:=tex_pj _ _ _ _ trivial trivial h
 obtain ⟨e2,h⟩:=tex_pj _ _ _ _ trivial trivial h
 have h:=(cons_in h).2
 obtain ⟨e3,h⟩:=uB_pj _ _ _ _ hx hy h
 exact ⟨imp_eq e1 e2 e3,h⟩
def okL (x:Lim):Prop:=0<=x.min/\0<=x.max/\(x.has=false->x.max=0)
theorem lim_pj:PJ okL limB:=fun x y r s hx hy h=>by
 unfold limB at h
 simp only [List.append_assoc] at h
 obtain ⟨e1,h⟩:=cons_in h
 have e1:=one_in e1
 obtain ⟨e2,h⟩:=uB_pj _ _ _ _ hx.1 hy.1 h
 rw [<- e1] at h
 cases hh:x.has with
 | true =>
  rw [hh] at h
  simp only [if_true] at h
  obtain ⟨e3,h⟩:=uB_pj _ _ _ _ hx.2.1 hy.2.1 h
  exact ⟨lim_eq e2 e3 e1,h⟩
 | false =>
  rw [hh] at h
  have e3:x.max=y.max:=by rw [hx.2.2 hh,hy.2.2 (e1.symm.trans hh)]
  exact ⟨lim_eq e2 e3 e1,by simpa using h⟩
theorem tab_pj:PJ okL (fun x=>[112]++limB x):=fun x y r s hx hy h=>by
 rw [List.append_assoc,List.append_assoc] at h
 exact lim_pj x y r s hx hy (cons_in h).2
theorem glo_pj (d:Nat):PJ (fun x:Glo d=>isB x.type/\cstOk x.init=true) gloB:=fun x y r s hx hy h=>by
 have h : [x.type%256]++[one x.mtb]++cstB d x.init++r = [y.type%256]++[one y.mtb]++cstB d y.init++s:=h
 simp only [List.append_assoc] at h
 obtain ⟨e1,h⟩:=cons_in h
 obtain ⟨e2,h⟩:=cons_in h
 obtain ⟨e3,h⟩:=cst_pj d x.init y.init r s hx.2 hy.2 h
 have e2:=one_in e2
 have e1:x.type=y.type:=by have h1:=hx.1;have h2:=hy.1;unfold isB at h1 h2;omega
 exact ⟨glo_eq e1 e2 e3,h⟩
theorem exp_pj:PJ (fun x:Exp=>isB x.kind/\0<=x.index) expB:=fun x y r s hx hy h=>by
 unfold expB at h
 simp only [List.append_assoc] at h
 obtain ⟨e1,h⟩:=tex_pj _ _ _ _ trivial trivial h
 obtain ⟨e2,h⟩:=by_pj x.kind y.kind _ _ hx.1 hy.1 h
 obtain ⟨e3,h⟩:=uB_pj _ _ _ _ hx.2 hy.2 h
 exact ⟨exp_eq e1 e2 e3,h⟩
theorem elm_pj (d:Nat):PJ (fun x:Elm d=>cstOk x.offset=true/\∀y ∈ x.funcs,0<=y) elmB:=fun x y r s hx hy h=>by
 have h : [0]++cstB d x.offset++idxB x.funcs++r = [0]++cstB d y.offset++idxB y.funcs++s:=h
 simp only [List.append_assoc] at h
 have h:=(cons_in h).2
 obtain ⟨e1,h⟩:=cst_pj d x.offset y.offset _ _ hx.1 hy.1 h
 obtain ⟨e2,h⟩:=lis_pj uB_pj x.funcs y.funcs r s hx.2 hy.2 h
 exact ⟨elm_eq e1 e2,h⟩
theorem dat_pj (d:Nat):PJ (fun x:Dat d=>cstOk x.offset=true) datB:=fun x y r s hx hy h=>by
 have h : [0]++cstB d x.offset++texB x.bytes++r = [0]++cstB d y.offset++texB y.bytes++s:=h
 simp only [List.append_assoc] at h
 have h:=(cons_in h).2
 obtain ⟨e1,h⟩:=cst_pj d x.offset y.offset _ _ hx hy h
 obtain ⟨e2,h⟩:=tex_pj _ _ _ _ trivial trivial h
 exact ⟨dat_eq e1 e2,h⟩
theorem run_pj:PJ (fun x:Int × Int=>0<=x.1/\isB x.2) (fun x=>Leb.uB x.1++[x.2%256]):=fun x y r s hx hy h=>by
 rw [List.append_assoc,List.append_assoc] at h
 obtain ⟨e1,h⟩:=uB_pj _ _ _ _ hx.1 hy.1 h
 obtain ⟨e2,h⟩:=by_pj x.2 y.2 _ _ hx.2 hy.2 h
 exact ⟨Prod.ext e1 e2,h⟩
def cod2 (d:Nat) (p:List Int × IL d):List Int:=sizB (locB p.1++(bytesI d p.2++[11]))
theorem cod_pj (d:Nat):PJ (fun p:List Int × IL d=>(∀y ∈ p.1,isB y)/\VI d p.2) (cod2 d):=fun x y r s hx hy h=>by
 obtain ⟨h1,h2⟩:=len_pj h
 have rb:∀(l:List Int),(∀y ∈ l,isB y)->∀z ∈ rn l,0<=z.1/\isB z.2:=fun l hl z hz=>by
  have:=(rn_bound l).2 z hz
  exact ⟨by omega,hl _ this.2.2⟩
 obtain ⟨e1,h3⟩:=lis_pj run_pj (rn x.1) (rn y.1) _ _ (rb _ hx.1) (rb _ hy.1) h1
 obtain ⟨e2,_,_⟩:=seq_pj d x.2 y.2 11 11 [] [] hx.2 hy.2 (.inr rfl) (.inr rfl) h3
 exact ⟨Prod.ext (rn_in e1) e2,h2⟩
def catS:List (Int × Nat × List Int)->List Int
 | []=>[]
 | x :: r=>secB x.1 x.2.1 x.2.2++catS r
def Asc:Int->List (Int × Nat × List Int)->Prop
 | _,[]=>True
 | i,x :: r=>i<x.1/\Asc x.1 r
def AllS:List (Int × Nat × List Int)->List (Int × Nat × List Int)->Prop
 | x :: r,y :: s=>((x.2.1=0↔y.2.1=0)/\(x.2.1≠0->x.2.2=y.2.2))/\AllS r s
 | _,_=>True
theorem asc_up:∀(A:List (Int × Nat × List Int)) (i:Int),Asc i A->∀x r,catS A=x :: r->i<x
 | [],_,_,_,_,h=>by cases h
 | y :: s,i,ha,x,r,h=>by
  have h':secB y.1 y.2.1 y.2.2++catS s=x :: r:=h
  unfold secB at h'
  by_cases hn:y.2.1=0
  ·rw [if_pos hn] at h'
   have:=asc_up s y.1 ha.2 x r h'
   have:=ha.1
   omega
  ·rw [if_neg hn] at h'
   have:=(cons_in h').1
   have:=ha.1
   omega
theorem cat_pj:∀(A B:List (Int × Nat × List Int)) (i:Int),Asc i A->Asc i B->A.map (·.1)=B.map (·.1)->catS A=catS B->AllS A B
 | [],[],_,_,_,_,_=>trivial
 | [],_ :: _,_,_,_,_,_=>trivial
 | _ :: _,[],_,_,_,_,_=>trivial
 | x :: A,y :: B,i,ha,hb,hm,h=>by
  have hm':x.1=y.1/\A.map (·.1)=B.map (·.1):=by simpa using hm
  have h':secB x.1 x.2.1 x.2.2++catS A=secB y.1 y.2.1 y.2.2++catS B:=h
  rw [<- hm'.1] at h'
  have hb':Asc x.1 B:=by rw [hm'.1];exact hb.2
  unfold secB at h'
  by_cases hx:x.2.1=0
  ·rw [if_pos hx] at h'
   by_cases hy:y.2.1=0
   ·rw [if_pos hy] at h'
    exact ⟨⟨⟨fun _=>hy,fun _=>hx⟩,fun e=>absurd hx e⟩,cat_pj A B x.1 ha.2 hb' hm'.2 h'⟩
   ·rw [if_neg hy] at h'
    have:=asc_up A x.1 ha.2 x.1 _ h'
    omega
  ·rw [if_neg hx] at h'
   by_cases hy:y.2.1=0
   ·rw [if_pos hy] at h'
    have:=asc_up B x.1 hb' x.1 _ h'.symm
    omega
   ·rw [if_neg hy,List.append_assoc,List.append_assoc] at h'
    obtain ⟨e,h2⟩:=len_pj (cons_in h').2
    exact ⟨⟨⟨fun e=>absurd e hx,fun e=>absurd e hy⟩,fun _=>e⟩,cat_pj A B x.1 ha.2 hb' hm'.2 h2⟩
def secs {d : Nat} (m : Mod d) : List (Int × Nat × List Int) :=
  [(1, m.types.length, lisB ftB m.types), (2, m.imports.length, lisB impB m.imports), (3, m.funcs.length, lisB (fun x => Leb.uB x.type) m.funcs), (4, m.tables.length, lisB (fun x => [112] ++ limB x) m.tables),
   (5, m.mems.length, lisB limB m.mems), (6, m.globals.length, lisB gloB m.globals), (7, m.exports.length, lisB expB m.exports), (8, m.start.length, m.start.flatMap Leb.uB), (9, m.elems.length, lisB elmB m.elems),
   (10, m.funcs.length, lisB (fun x => sizB (codB x)) m.funcs), (11, m.datas.length, lisB datB m.datas)]
theorem modB_cat {d:Nat} (m:Mod d):modB m=headB++catS (secs m):=by
 unfold modB secs headB
 simp only [catS,List.append_assoc,List.append_nil]
theorem secs_asc {d:Nat} (m:Mod d):Asc 0 (secs m):=by
 unfold secs
 simp only [Asc]
 decide
theorem sec_lis {α:Type} {P:α->Prop} {e:α->List Int} (hp:PJ P e) {l k:List α} (h1:∀x ∈ l,P x) (h2:∀x ∈ k,P x) (h:(l.length=0↔k.length=0)/\(l.length≠0->lisB e l=lisB e k)):l=k:=by
 by_cases h0:l.length=0
 ·rw [List.length_eq_zero_iff.1 h0,List.length_eq_zero_iff.1 (h.1.1 h0)]
 ·exact (lis_pj hp l k [] [] h1 h2 (by rw [h.2 h0])).1
theorem lis_map {α β:Type} (e:β->List Int) (g:α->β) (l:List α):lisB (fun x=>e (g x)) l=lisB e (l.map g):=by
 unfold lisB
 rw [List.length_map,List.flatMap_map]
theorem funs_eq {d:Nat}:∀ {l k:List (Fun d)},l.map (·.type)=k.map (·.type)->l.map (fun x=>(x.locals,x.body))=k.map (fun x=>(x.locals,x.body))->l=k
 | [],[],_,_=>rfl
 | [],_ :: _,h,_=>by simp at h
 | _ :: _,[],h,_=>by simp at h
 | x :: l,y :: k,h1,h2=>by
  simp only [List.map_cons,List.cons.injEq,Prod.mk.injEq] at h1 h2
  have e:=funs_eq h1.2 h2.2
  obtain ⟨a1,a2,a3⟩:=x
  obtain ⟨b1,b2,b3⟩:=y
  simp only at h1 h2
  rw [h1.1,h2.1.1,h2.1.2,e]
structure WM {d:Nat} (m:Mod d):Prop where
 types:∀x ∈ m.types,(∀y ∈ x.params,isB y)/\∀y ∈ x.results,isB y
 imports:∀x ∈ m.imports,0<=x.type
 ftypes:∀x ∈ m.funcs,0<=x.type
 locals:∀x ∈ m.funcs,∀y ∈ x.locals,isB y
 bodies:∀x ∈ m.funcs,VI d x.body
 tables:∀x ∈ m.tables,okL x
 mems:∀x ∈ m.mems,okL x
 globals:∀x ∈ m.globals,isB x.type/\cstOk x.init=true
 exports:∀x ∈ m.exports,isB x.kind/\0<=x.index
 start:∀x ∈ m.start,0<=x
 elems:∀x ∈ m.elems,cstOk x.offset=true/\∀y ∈ x.funcs,0<=y
 datas:∀x ∈ m.datas,cstOk x.offset=true
 once:m.start.length<=1
theorem goF_each {d:Nat}:∀(l:List (Fun d)),goF stepForm d l ()=some ()->∀x ∈ l,goI stepForm d x.body 0 ()=some ()
 | [],_,x,hx=>by cases hx
 | y :: r,h,x,hx=>by
  have h':((goI stepForm d y.body 0 ()).bind fun s1=>goF stepForm d r s1)=some ():=h
  obtain ⟨s1,e1,h1⟩:=Option.bind_eq_some_iff.1 h'
  rcases List.mem_cons.1 hx with rfl|hx
  ·exact e1
  ·exact goF_each r h1 x hx
theorem wm_of {d:Nat} {m:Mod d} (h:chk m=0):WM m:=by
 obtain ⟨h0,_,_,h3,h4⟩:=chk_zero h
 unfold shM at h3
 simp only [Bool.and_eq_true,List.all_eq_true] at h3
 obtain ⟨t1,t2,t3,t4,t5,t6,t7,t8,t9⟩:=h3
 unfold fewM at h0
 simp only [Bool.and_eq_true] at h0
 have hs:m.start.length<=1:=by
  have h1:few1 (len m.start)=true:=h0.2.2.1
  have h2:len m.start<=1:=of_decide_eq_true h1
  have h3:((m.start.length:Nat):Int)<=1:=h2
  omega
 have lim:∀x:Lim,shL x=true->okL x:=fun x hx=>by
  unfold shL at hx
  simp only [Bool.and_eq_true,Bool.or_eq_true,beq_iff_eq] at hx
  refine ⟨(idx_iff hx.1.1).1,(idx_iff hx.1.2.1).1,fun e=>?_⟩
  rcases hx.2 with h|h
  ·rw [e] at h;cases h
  ·exact h
 refine ⟨fun x hx=>?_,fun x hx=>?_,fun x hx=>?_,fun x hx=>?_,fun x hx=>vi_of d _ 0 (goF_each _ h4 x hx),fun x hx=>lim x (t4 x (List.mem_append.2 (.inl hx))),fun x hx=>lim x (t4 x (List.mem_append.2 (.inr hx))),fun x hx=>?_,fun x hx=>?_,fun x hx=>(idx_iff (t7 x hx)).1,fun x hx=>?_,fun x hx=>t9 x hx,hs⟩
 ·have:=t1 x hx
  unfold shT at this
  simp only [Bool.and_eq_true,List.all_eq_true] at this
  exact ⟨fun y hy=>typ_isB (this.1 y hy),fun y hy=>typ_isB (this.2 y hy)⟩
 ·have:=t2 x hx
  unfold shI at this
  simp only [Bool.and_eq_true] at this
  exact (idx_iff this.2.1).1
 ·have:=t3 x hx
  unfold shF at this
  simp only [Bool.and_eq_true] at this
  exact (idx_iff this.1.1).1
 ·have:=t3 x hx
  unfold shF at this
  simp only [Bool.and_eq_true,List.all_eq_true] at this
  exact fun y hy=>typ_isB (this.2 y hy)
 ·have:=t5 x hx
  unfold shG at this
  simp only [Bool.and_eq_true] at this
  exact ⟨typ_isB this.1.1,this.2⟩
 ·have:=t6 x hx
  unfold shE at this
  simp only [Bool.and_eq_true,decide_eq_true_eq] at this
  exact ⟨by unfold isB;omega,(idx_iff this.2.2.1).1⟩
 ·have:=t8 x hx
  exact ⟨this.1,fun y hy=>(idx_iff (this.2 y hy)).1⟩
theorem modB_in {d:Nat} {m k:Mod d} (hm:WM m) (hk:WM k) (h:modB m=modB k):m=k:=by
 rw [modB_cat,modB_cat] at h
 have h:=List.append_cancel_left h
 obtain ⟨s1,s2,s3,s4,s5,s6,s7,s8,s9,s10,s11,_⟩:=cat_pj (secs m) (secs k) 0 (secs_asc m) (secs_asc k) rfl h
 have e1:=sec_lis ft_pj hm.types hk.types s1
 have e2:=sec_lis imp_pj hm.imports hk.imports s2
 have e4:=sec_lis tab_pj hm.tables hk.tables s4
 have e5:=sec_lis lim_pj hm.mems hk.mems s5
 have e6:=sec_lis (glo_pj d) hm.globals hk.globals s6
 have e7:=sec_lis exp_pj hm.exports hk.exports s7
 have e9:=sec_lis (elm_pj d) hm.elems hk.elems s9
 have e11:=sec_lis (dat_pj d) hm.datas hk.datas s11
 have e8:m.start=k.start:=by
  have h1:(m.start.length=0↔k.start.length=0)/\(m.start.length≠0->m.start.flatMap Leb.uB=k.start.flatMap Leb.uB):=s8
  have a:=hm.once
  have b:=hk.once
  by_cases h0:m.start.length=0
  ·rw [List.length_eq_zero_iff.1 h0,List.length_eq_zero_iff.1 (h1.1.1 h0)]
  ·have h2:¬ k.start.length=0:=fun e=>h0 (h1.1.2 e)
   exact (fm_pj uB_pj m.start k.start [] [] (by omega) hm.start hk.start (by rw [h1.2 h0])).1
 have e3:m.funcs.map (·.type)=k.funcs.map (·.type):=sec_lis (P:=fun n=>0<=n) uB_pj (fun x hx=>by obtain ⟨y,hy,rfl⟩:=List.mem_map.1 hx;exact hm.ftypes y hy) (fun x hx=>by obtain ⟨y,hy,rfl⟩:=List.mem_map.1 hx;exact hk.ftypes y hy)
  ⟨by rw [List.length_map,List.length_map];exact s3.1,fun h=>by rw [<- lis_map,<- lis_map];exact s3.2 (by rw [List.length_map] at h;exact h)⟩
 have e10:m.funcs.map (fun x=>(x.locals,x.body))=k.funcs.map (fun x=>(x.locals,x.body)):=sec_lis (cod_pj d) (fun x hx=>by obtain ⟨y,hy,rfl⟩:=List.mem_map.1 hx;exact ⟨hm.locals y hy,hm.bodies y hy⟩) (fun x hx=>by obtain ⟨y,hy,rfl⟩:=List.mem_map.1 hx;exact ⟨hk.locals y hy,hk.bodies y hy⟩)
  ⟨by rw [List.length_map,List.length_map];exact s10.1,fun h=>by rw [<- lis_map,<- lis_map];exact s10.2 (by rw [List.length_map] at h;exact h)⟩
 have ef:=funs_eq e3 e10
 obtain ⟨a0,a1,a2,a3,a4,a5,a6,a7,a8,a9⟩:=m
 obtain ⟨b0,b1,b2,b3,b4,b5,b6,b7,b8,b9⟩:=k
 simp only at e1 e2 e4 e5 e6 e7 e8 e9 e11 ef
 subst e1 e2 e4 e5 e6 e7 e8 e9 e11 ef
 rfl
end Enc
end Go.Proofs.YtlcpagiljfpbpaaDoor

namespace Go.Proofs.YtlcpagiljfpbpaaDoor
open Go.RowKit Rep Enc Go.Lib
set_option linter.unusedVariables false
namespace Enc
def Bd (l:List Int):Prop:=∀x ∈ l,0<=x/\x<=255
theorem bd_nil:Bd []:=fun x hx=>by cases hx
theorem bd_one {n:Int} (h:0<=n/\n<=255):Bd [n]:=fun x hx=>by rw [List.mem_singleton.1 hx];exact h
theorem bd_mod (n:Int):Bd [n%256]:=bd_one (by omega)
theorem bd_app {a b:List Int} (ha:Bd a) (hb:Bd b):Bd (a++b):=fun x hx=>by
 rcases List.mem_append.1 hx with h|h
 ·exact ha x h
 ·exact hb x h
theorem bd_fm {α:Type} {e:α->List Int} {l:List α} (h:∀x ∈ l,Bd (e x)):Bd (l.flatMap e):=fun x hx=>by
 obtain ⟨y,hy,hx⟩:=List.mem_flatMap.1 hx
 exact h y hy x hx
theorem bd_uB {n:Int} (h:0<=n):Bd (Leb.uB n):=uB_bd _ n h (Nat.le_refl _)
theorem bd_sB (n:Int):Bd (Leb.sB n):=sB_bd _ n (Nat.le_refl _)
theorem bd_lis {α:Type} {e:α->List Int} {l:List α} (h:∀x ∈ l,Bd (e x)):Bd (lisB e l):=bd_app (bd_uB (by omega)) (bd_fm h)
theorem bd_siz {b:List Int} (h:Bd b):Bd (sizB b):=bd_app (bd_uB (by omega)) h
theorem bd_nums (s:ByteArray):Bd (nums s):=fun x hx=>by
 obtain ⟨y,_,rfl⟩:=List.mem_map.1 hx
 have:=y.toNat_lt
 exact ⟨by omega,by omega⟩
theorem bd_tex (s:ByteArray):Bd (texB s):=bd_app (bd_uB (by omega)) (bd_nums s)
theorem bd_sec {id:Int} {n:Nat} {b:List Int} (hi:0<=id/\id<=255) (h:Bd b):Bd (secB id n b):=by
 unfold secB
 split
 ·exact bd_nil
 ·exact bd_app (bd_one hi) (bd_siz h)
theorem bd_ins {d:Nat} {x:Ins (IL d)} (o:Ok1 x) (h1:Bd (bytesI d x.body)) (h2:Bd (bytesI d x.els)):Bd (insB (bytesI d) (size d) x):=by
 refine bd_app (bd_mod x.op) ?_
 have z:Bd [0]:=bd_one (by omega)
 split
 ·split
  ·exact z
  ·exact bd_nil
 split
 ·refine bd_app (bd_app (bd_app ?_ h1) ?_) (bd_one (by omega))
  ·split
   ·exact bd_one (by omega)
   ·exact bd_mod _
  ·split
   ·exact bd_app (bd_one (by omega)) h2
   ·exact bd_nil
 split
 ·exact bd_uB (o.a4 (by omega) (by omega))
 split
 ·exact bd_app (bd_lis fun y hy=>bd_uB (o.l5 (by omega) y hy)) (bd_uB (o.a4 (by omega) (by omega)))
 split
 ·exact bd_app (bd_uB (o.a4 (by omega) (by omega))) z
 split
 ·exact bd_app (bd_uB (o.a4 (by omega) (by omega))) (bd_uB (o.b8 (by omega)))
 split
 ·exact bd_sB _
 ·exact bd_nil
theorem bd_bytesI:∀(d:Nat) (l:IL d),VI d l->Bd (bytesI d l)
 | 0,_,_=>bd_nil
 | d+1,l,h=>bd_fm (l:=(show List (Ins (IL d)) from l)) fun x hx=>bd_ins (ok1_of (h x hx).1) (bd_bytesI d _ (h x hx).2.1) (bd_bytesI d _ (h x hx).2.2)
theorem bd_cst {d:Nat} {x:Ins (IL d)} (h:cstOk x=true):Bd (cstB d x):=by
 have h:(cst x.op && okS (sn x))=true:=h
 rw [Bool.and_eq_true] at h
 have o:=ok1_of h.2
 have hf:form x.op=9\/form x.op=6:=by
  have hz:=h.1
  unfold cst at hz
  simp only [Bool.or_eq_true,beq_iff_eq] at hz
  rcases hz with (h|h)|h<;>rw [h]<;>decide
 refine bd_app (bd_ins o ?_ ?_) (bd_one (by omega))
 ·rw [none_bytes d _ (o.body (by omega) (by omega))];exact bd_nil
 ·rw [none_bytes d _ (o.els (by omega))];exact bd_nil
theorem bd_lim {x:Lim} (h:okL x):Bd (limB x):=by
 unfold limB
 refine bd_app (bd_app (bd_one ?_) (bd_uB h.1)) ?_
 ·unfold one;split<;>omega
 ·split
  ·exact bd_uB h.2.1
  ·exact bd_nil
theorem bd_one' (b:Bool):Bd [one b]:=bd_one (by unfold one;split<;>omega)
theorem bd_modB {d:Nat} {m:Mod d} (h:WM m):Bd (modB m):=by
 have z:Bd [0]:=bd_one (by omega)
 unfold modB
 refine bd_app (bd_app (bd_app (bd_app (bd_app (bd_app (bd_app (bd_app (bd_app (bd_app (bd_app ?_ (bd_sec (by omega) ?_)) (bd_sec (by omega) ?_)) (bd_sec (by omega) ?_)) (bd_sec (by omega) ?_)) (bd_sec (by omega) ?_)) (bd_sec (by omega) ?_)) (bd_sec (by omega) ?_)) (bd_sec (by omega) ?_)) (bd_sec (by omega) ?_)) (bd_sec (by omega) ?_)) (bd_sec (by omega) ?_)
 ·unfold Bd;decide
 ·exact bd_lis fun x hx=>bd_app (bd_app (bd_one (by omega)) (bd_lis fun y hy=>bd_mod y)) (bd_lis fun y hy=>bd_mod y)
 ·exact bd_lis fun x hx=>bd_app (bd_app (bd_app (bd_tex _) (bd_tex _)) z) (bd_uB (h.imports x hx))
 ·exact bd_lis fun x hx=>bd_uB (h.ftypes x hx)
 ·exact bd_lis fun x hx=>bd_app (bd_one (by omega)) (bd_lim (h.tables x hx))
 ·exact bd_lis fun x hx=>bd_lim (h.mems x hx)
 ·exact bd_lis fun x hx=>bd_app (bd_app (bd_mod _) (bd_one' _)) (bd_cst (h.globals x hx).2)
 ·exact bd_lis fun x hx=>bd_app (bd_app (bd_tex _) (bd_mod _)) (bd_uB (h.exports x hx).2)
 ·exact bd_fm fun x hx=>bd_uB (h.start x hx)
 ·exact bd_lis fun x hx=>bd_app (bd_app z (bd_cst (h.elems x hx).1)) (bd_lis fun y hy=>bd_uB ((h.elems x hx).2 y hy))
 ·refine bd_lis fun x hx=>bd_siz (bd_app ?_ (bd_app (bd_bytesI d _ (h.bodies x hx)) (bd_one (by omega))))
  exact bd_app (bd_uB (by omega)) (bd_fm fun y hy=>bd_app (bd_uB (by have:=((rn_bound x.locals).2 y hy).1;omega)) (bd_mod _))
 ·exact bd_lis fun x hx=>bd_app (bd_app z (bd_cst (h.datas x hx))) (bd_tex _)
theorem str_in:∀ {x y:List Int},Bd x->Bd y->strOfNums x=strOfNums y->x=y:=fun {x y} hx hy h=>by
 have h1:(strOfNums x).data.toList=(strOfNums y).data.toList:=by rw [h]
 rw [strOfNums_data,strOfNums_data] at h1
 have key:∀(x y:List Int),Bd x->Bd y->x.map (fun n=>UInt8.ofNat n.toNat)=y.map (fun n=>UInt8.ofNat n.toNat)->x=y:=by
  intro x
  induction x with
  | nil=>intro y _ _ h;cases y with
   | nil=>rfl
   | cons b s=>simp at h
  | cons a r ih =>
   intro y hx hy h
   cases y with
   | nil=>simp at h
   | cons b s =>
    rw [List.map_cons,List.map_cons] at h
    injection h with h2 h3
    have h4:(UInt8.ofNat a.toNat).toNat=(UInt8.ofNat b.toNat).toNat:=by rw [h2]
    rw [UInt8.toNat_ofNat',UInt8.toNat_ofNat'] at h4
    have b1:=hx a (List.mem_cons_self ..)
    have b2:=hy b (List.mem_cons_self ..)
    have e:a=b:=by omega
    rw [e,ih s (fun z hz=>hx z (List.mem_cons_of_mem _ hz)) (fun z hz=>hy z (List.mem_cons_of_mem _ hz)) h3]
 exact key x y hx hy h1
theorem sam1_eq {d:Nat} (IH:∀l k:IL d,samI d l k=true->l=k) {x y:Ins (IL d)} (h:sam1 (samI d) x y=true):x=y:=by
 unfold sam1 at h
 simp only [Bool.and_eq_true,decide_eq_true_eq] at h
 exact ins_eq h.1 h.2.1 h.2.2.1 h.2.2.2.1 h.2.2.2.2.1 (IH _ _ h.2.2.2.2.2.1) (IH _ _ h.2.2.2.2.2.2)
theorem samI_eq:∀(d:Nat) (l k:IL d),samI d l k=true->l=k
 | 0,_,_,_=>rfl
 | d+1,l,k,h=>by
  have key:∀(l k:List (Ins (IL d))),samL (samI d) l k=true->l=k:=by
   intro l
   induction l with
   | nil=>intro k h;cases k with
    | nil=>rfl
    | cons y s=>cases h
   | cons x r ih =>
    intro k h
    cases k with
    | nil=>cases h
    | cons y s =>
     have h':(sam1 (samI d) x y && samL (samI d) r s)=true:=h
     rw [Bool.and_eq_true] at h'
     rw [sam1_eq (samI_eq d) h'.1,ih s h'.2]
  exact key (show List (Ins (IL d)) from l) (show List (Ins (IL d)) from k) h
theorem samB_eq {α:Type} {f:α->α->Bool} (hf:∀x y,f x y=true->x=y):∀(l k:List α),samB f l k=true->l=k
 | [],[],_=>rfl
 | [],_ :: _,h=>by cases h
 | _ :: _,[],h=>by cases h
 | x :: r,y :: s,h=>by
  have h':(f x y && samB f r s)=true:=h
  rw [Bool.and_eq_true] at h'
  rw [hf x y h'.1,samB_eq hf r s h'.2]
theorem bs_eq {a b:ByteArray} (h:(a.toList == b.toList)=true):a=b:=by
 rw [beq_iff_eq,ByteArray.toList_eq,ByteArray.toList_eq] at h
 apply ByteArray.ext
 exact Array.toList_inj.1 h
theorem samM_eq {d:Nat} {m k:Mod d} (h:samM m k=true):m=k:=by
 unfold samM szs at h
 simp only [Bool.and_eq_true] at h
 obtain ⟨hz,h1,h2,h3,h4,h5,h6,h7,h8,h9⟩:=h
 have hs:m.start=k.start:=of_decide_eq_true hz.1.1.2
 have e1:=samB_eq (f:=fT) (fun x y h=>by simp only [fT,Bool.and_eq_true,decide_eq_true_eq] at h;exact ft_eq h.1 h.2) _ _ h1
 have e2:=samB_eq (f:=fI) (fun x y h=>by simp only [fI,Bool.and_eq_true] at h;exact imp_eq (bs_eq h.1) (bs_eq h.2.1) (beq_iff_eq.1 h.2.2)) _ _ h2
 have e3:=samB_eq (f:=fF) (fun x y h=>by
  simp only [fF,Bool.and_eq_true,decide_eq_true_eq,beq_iff_eq] at h
  obtain ⟨a1,a2,a3⟩:=x
  obtain ⟨b1,b2,b3⟩:=y
  simp only at h
  rw [h.1.1,h.1.2,samI_eq d _ _ h.2]) _ _ h3
 have lm:∀x y:Lim,fL x y=true->x=y:=fun x y h=>by simp only [fL,Bool.and_eq_true,beq_iff_eq] at h;exact lim_eq h.1 h.2.1 h.2.2
 have e4:=samB_eq (f:=fL) lm _ _ h4
 have e5:=samB_eq (f:=fL) lm _ _ h5
 have e6:=samB_eq (f:=fG) (fun x y h=>by simp only [fG,Bool.and_eq_true,beq_iff_eq] at h;exact glo_eq h.1.1 h.1.2 (sam1_eq (samI_eq d) h.2)) _ _ h6
 have e7:=samB_eq (f:=fX) (fun x y h=>by simp only [fX,Bool.and_eq_true] at h;exact exp_eq (bs_eq h.1) (beq_iff_eq.1 h.2.1) (beq_iff_eq.1 h.2.2)) _ _ h7
 have e8:=samB_eq (f:=fE) (fun x y h=>by simp only [fE,Bool.and_eq_true,decide_eq_true_eq] at h;exact elm_eq (sam1_eq (samI_eq d) h.1) h.2) _ _ h8
 have e9:=samB_eq (f:=fD) (fun x y h=>by simp only [fD,Bool.and_eq_true] at h;exact dat_eq (sam1_eq (samI_eq d) h.2) (bs_eq h.1)) _ _ h9.1
 obtain ⟨a0,a1,a2,a3,a4,a5,a6,a7,a8,a9⟩:=m
 obtain ⟨b0,b1,b2,b3,b4,b5,b6,b7,b8,b9⟩:=k
 simp only at e1 e2 e3 e4 e5 e6 e7 e8 e9 hs
 subst e1 e2 e3 e4 e5 e6 e7 e8 e9 hs
 rfl
end Enc
end Go.Proofs.YtlcpagiljfpbpaaDoor

