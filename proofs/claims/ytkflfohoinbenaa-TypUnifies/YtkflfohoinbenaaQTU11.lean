/- Texts that the claim needs. -/
import Derived.Test.YtkflfohoinbenaaQTU10
namespace Go.Proofs.Ytkflfohoinbenaa
open Go.RowKit Lx Pz Rep Ty
set_option linter.unusedVariables false
namespace Ty
def TyW (S:Nat->Prop) (w:World) (n:Nat) (t v:Value):Prop:=∃d k x m es u,t=nd k x e0 m es [] 0/\v=.agg #[.int .i64 k,.string x,.int .i64 m,u]/\Row 4 (TyX false S w d) u es/\GT n d t
theorem TyW.on {S S':Nat->Prop} {w w':World} {n:Nat} {t v:Value} (h:TyW S w n t v) (hb:∀k,¬ S k->k<w.heap.size->w'.heap[k]?=w.heap[k]?) (hS:∀k,k<w.heap.size->S' k->S k):TyW S' w' n t v:=by
 obtain ⟨d,k,x,m,es,u,h0,h1,h2,h3⟩:=h
 exact ⟨d,k,x,m,es,u,h0,h1,h2.imp fun b o t _ h=>h.on hb hS,h3⟩
theorem TyW.bel {S:Nat->Prop} {w w':World} {n:Nat} {t v:Value} (h:TyW S w n t v) (hb:Below w.heap.size w w'):TyW S w' n t v:=h.on (fun k _ hl=>hb.block k hl) fun _ _ h=>h
theorem TyW.cases {S:Nat->Prop} {w:World} {n:Nat} {t v:Value} (h:TyW S w n t v):(∃j u,j<n/\t=vr j/\v=.agg #[.int .i64 2,.string e0,.int .i64 ((j:Int)+1),u]/\u.oneCell'=true)\/(∃k x m u,k≠2/\k≠0/\v=.agg #[.int .i64 k,.string x,.int .i64 m,u]/\u.oneCell'=true/\kindV t=k/\∀h,endT h t=t):=by
 obtain ⟨d,k,x,m,es,u,rfl,rfl,h2,h3⟩:=h
 obtain ⟨o1,c1,rfl⟩:=Row.len h2
 by_cases hk:k=2
 ·subst hk
  obtain ⟨j,hj,he⟩:=h3.var
  have h4:namT (nd 2 x e0 m es [] 0)=namT (vr j):=by rw [he]
  have h5:numT (nd 2 x e0 m es [] 0)=numT (vr j):=by rw [he]
  have h6:x=e0:=h4
  have h7:m=(j:Int)+1:=h5
  exact .inl ⟨j,_,hj,he,by rw [h6,h7],rfl⟩
 ·refine .inr ⟨k,x,m,_,hk,?_,rfl,rfl,rfl,fun h=>endT_nv hk⟩
  intro h0
  subst h0
  have h1:=h3.nd_ok.1
  unfold ndOk at h1
  simp at h1
def BdOk (S:Nat->Prop) (u:World) (n:Nat) (h:Nat->Value) (rk:Nat->Nat) (j:Nat) (c:Value):Prop :=
 (c=.agg #[.int .i64 0,.string ⟨#[]⟩,.int .i64 0,.slice none 0 0]/\h j=vr j)\/∃t,TyW S u n t c/\endT h t=h j/\(∀i,t=vr i->rk i<rk j)/\h j≠vr j
structure DL (S:Nat->Prop) (u:World) (n:Nat) (h:Nat->Value) (rk:Nat->Nat) (xs:List Value):Prop where
 len:xs.length=n*4
 ok:∀j,j<n->∃c0 c1 c2 c3,xs[j*4]?=some c0/\xs[j*4+1]?=some c1/\xs[j*4+2]?=some c2/\xs[j*4+3]?=some c3/\BdOk S u n h rk j (.agg #[c0,c1,c2,c3])
def DO (S:Nat->Prop) (B n:Nat) (h:Nat->Value) (r:Nat) (vs:Value) (pr:Int) (u:World):Prop:=(S r/\∀k,vs.ownBlock=some k->S k)/\∃xs rk,DV B r n xs vs pr u/\DL S u n h rk xs
theorem BdOk.on {S S':Nat->Prop} {w w':World} {n:Nat} {h:Nat->Value} {rk:Nat->Nat} {j:Nat} {c:Value} (H:BdOk S w n h rk j c) (hb:∀k,¬ S k->k<w.heap.size->w'.heap[k]?=w.heap[k]?) (hS:∀k,k<w.heap.size->S' k->S k):BdOk S' w' n h rk j c :=
 H.imp id fun ⟨t,a,b⟩=>⟨t,a.on hb hS,b⟩
theorem DL.on {S S':Nat->Prop} {w w':World} {n:Nat} {h:Nat->Value} {rk:Nat->Nat} {xs:List Value} (H:DL S w n h rk xs) (hb:∀k,¬ S k->k<w.heap.size->w'.heap[k]?=w.heap[k]?) (hS:∀k,k<w.heap.size->S' k->S k):DL S' w' n h rk xs :=
 ⟨H.len,fun j hj=>by
  obtain ⟨c0,c1,c2,c3,a0,a1,a2,a3,a4⟩:=H.ok j hj
  exact ⟨c0,c1,c2,c3,a0,a1,a2,a3,a4.on hb hS⟩⟩
theorem DO.bel {S:Nat->Prop} {B n r:Nat} {h:Nat->Value} {vs:Value} {pr:Int} {w w':World} (H:DO S B n h r vs pr w) (hk:Below w.heap.size w w'):DO S B n h r vs pr w':=by
 obtain ⟨h0,xs,rk,h1,h2⟩:=H
 exact ⟨h0,xs,rk,h1.on hk,h2.on (fun k _ hl=>hk.block k hl) fun _ _ h=>h⟩
theorem DV.form {B r n:Nat} {xs:List Value} {vs:Value} {pr:Int} {u:World} (h:DV B r n xs vs pr u) (hl:0<n):∃g cap,vs=.slice (some ⟨g,0,none⟩) n cap/\B<=g:=by
 obtain ⟨_,h1⟩:=h.row
 rcases h1 with ⟨_,h1⟩|⟨g,cap,cur,rfl,hB,_⟩
 ·omega
 ·exact ⟨g,cap,rfl,hB⟩
theorem rkQ {w:World} {q:Nat} {k m:Int} {x u:Value} {rk:Nat->Nat} (h:w.heap[q]?=some (.cells #[.int .i64 k,x,.int .i64 m,u] 34 (0,0))):rkA w rk (.pointer (some ⟨q,0,none⟩))=if k=2 then rk (m-1).toNat+1 else 0:=by
 have c0:=put_cell h 0 _ rfl
 have c2:=put_cell h 2 _ rfl
 unfold rkA
 simp only [c0,c2]
 rfl
theorem tlen9 {l:List Value} (h:l.length=9):∃a0 a1 a2 a3 a4 a5 a6 a7 a8,l = [a0,a1,a2,a3,a4,a5,a6,a7,a8]:=by
 match l,h with
 | [a0,a1,a2,a3,a4,a5,a6,a7,a8],_=>exact ⟨_,_,_,_,_,_,_,_,_,rfl⟩
end Ty
set_option maxRecDepth 100000 in
set_option maxHeartbeats 16000000 in
theorem t_dHead {S:Nat->Prop} {B n r:Nat} {h:Nat->Value} {vs:Value} {pr:Int} {w:World} (hS:DO S B n h r vs pr w) {t v:Value} (hT:TyW S w n t v):Calls Try.prog 61 #[.pointer (some ⟨r,0,none⟩),v] w fun e w'=>∃v',e=.returned v'/\TyW S w n (endT h t) v'/\endT h (endT h t)=endT h t/\Below w.heap.size w w':=by
 obtain ⟨_,xs,rk,hD,hK⟩:=hS
 obtain ⟨k0,x0,m0,u0,rfl,hu0⟩:∃k x m u,v=.agg #[.int .i64 k,.string x,.int .i64 m,u]/\u.oneCell'=true:=by
  rcases hT.cases with ⟨j,u,_,_,h1,h2⟩|⟨k,x,m,u,_,_,h1,h2,_⟩
  ·exact ⟨_,_,_,_,h1,h2⟩
  ·exact ⟨_,_,_,_,h1,h2⟩
 obtain ⟨W1,hW1⟩:∃W1,W1=w.alloc (.cells #[.int .i64 k0,.string x0,.int .i64 m0,u0] 34):=⟨_,rfl⟩
 obtain ⟨W2,hW2⟩:∃W2,W2=W1.alloc (.cells #[.int .i64 0,.string ⟨#[]⟩,.int .i64 0,.slice none 0 0] 34):=⟨_,rfl⟩
 have hs1:W1.heap.size=w.heap.size+1:=by rw [hW1];simp
 have hb1:Below w.heap.size w W1:=by rw [hW1];exact new_on' _ _
 have hb12:Below W1.heap.size W1 W2:=by rw [hW2];exact new_on' _ _
 have hx1:W1.heap[w.heap.size]?=some (.cells #[.int .i64 k0,.string x0,.int .i64 m0,u0] 34 (0,0)):=by rw [hW1];exact heap_alloc_new w _
 have hx2:W2.heap[w.heap.size]?=some (.cells #[.int .i64 k0,.string x0,.int .i64 m0,u0] 34 (0,0)):=(hb12.block _ (by omega)).trans hx1
 have hz2:W2.heap[W1.heap.size]?=some (.cells #[.int .i64 0,.string ⟨#[]⟩,.int .i64 0,.slice none 0 0] 34 (0,0)):=by rw [hW2];exact heap_alloc_new W1 _
 rw [hs1] at hz2
 have HX0:=hideR hx2
 have HZ0:=hideR hz2
 have BB0:Hid (Below w.heap.size w W2):=hideR (below_go hb1 hb12)
 have HT0:=hideR hT
 have HD:=hideR hD
 have HK:=hideR hK
 have HS1:=hideR hs1
 obtain ⟨i0,hi0,hzz0,hzz1,hzz2⟩:=info_parts tyInf
 have HI:=hideR (And.intro hi0 (And.intro hzz0 (And.intro hzz1 hzz2)))
 clear hx1 hx2 hz2 hb1 hb12 hT hD hK hs1 hi0 hzz0 hzz1 hzz2
 go_enter Try.func61,Try.ntmps61
 go_wp2_with fail
 rw [<- hW1,<- hW2]
 clear hW1 hW2
 go_loopw [] (fun wr=>∃(t1:Value) (k1:Int) (x1:ByteArray) (m1:Int) (u1:Value),u1.oneCell'=true/\Hid (TyW S w n t1 (.agg #[.int .i64 k1,.string x1,.int .i64 m1,u1]))/\Hid (endT h t1=endT h t)/\Hid (Below w.heap.size w wr)/\Hid (wr.heap[w.heap.size]?=some (.cells #[.int .i64 k1,.string x1,.int .i64 m1,u1] 34 (0,0)))/\Hid (wr.heap[w.heap.size+1]?=some (.cells #[.int .i64 0,.string ⟨#[]⟩,.int .i64 0,.slice none 0 0] 34 (0,0)))) (fun wr=>rkA wr rk (.pointer (some ⟨w.heap.size,0,none⟩)))
 case atStart=>exact ⟨t,k0,x0,m0,u0,hu0,HT0,hideR rfl,BB0,HX0,HZ0⟩
 case round =>
  obtain ⟨t1,k1,x1,m1,u1,hu1,HT,HE,HB,HX,HZ⟩:=hrel
  clear HT0 BB0 HX0 HZ0 hu0
  have c0:=put_cell HX.out 0 _ rfl
  have c1:=put_cell HX.out 1 _ rfl
  have c2:=put_cell HX.out 2 _ rfl
  have c3:=put_cell HX.out 3 _ rfl
  rcases HT.out.cases with ⟨j,u2,hj,rfl,hv,_⟩|⟨k2,x2,m2,u2,hk2,_,hv,_,hkk,hee⟩
  ·injection hv with hv
   simp only [Array.mk.injEq,List.cons.injEq,Value.int.injEq,Value.string.injEq,and_true,true_and] at hv
   obtain ⟨rfl,rfl,rfl,rfl⟩:=hv
   obtain ⟨g,cap,rfl,hBg⟩:=HD.out.form (by omega)
   obtain ⟨d0,d1,d2,d3,a0,a1,a2,a3,hBd⟩:=HK.out.ok j hj
   have hDr:=HD.out.on HB.out
   have s0:=put_cell hDr.blk 0 _ rfl
   have hlen:=HK.out.len
   have e0':=(hDr.row.cellAt (j*4) (by omega)).trans a0
   have e1':=(hDr.row.cellAt (j*4+1) (by omega)).trans a1
   have e2':=(hDr.row.cellAt (j*4+2) (by omega)).trans a2
   have e3':=(hDr.row.cellAt (j*4+3) (by omega)).trans a3
   have hfew:=hDr.few
   have hwj:=wrapS (j:=j) (by omega)
   have hwj2:IntKind.i64.wrap ((j:Int)+1-1)=(j:Int):=by rw [IntKind.wrap_i64];omega
   rcases hBd with ⟨hbv,hh⟩|⟨t2,hT2,he2,hr2,hn2⟩
   ·injection hbv with hbv
    simp only [Array.mk.injEq,List.cons.injEq,and_true] at hbv
    obtain ⟨rfl,rfl,rfl,rfl⟩:=hbv
    have HF:Hid (TyW S w n (endT h t) (.agg #[.int .i64 2,.string e0,.int .i64 ((j:Int)+1),u1])/\endT h (endT h t)=endT h t):=hideR (by rw [<- HE.out,endT_vr,hh,endT_vr,hh];exact ⟨HT.out,rfl⟩)
    clear HT HE hh a0 a1 a2 a3 HD HK hDr
    go_upto_region 1 with fail
    go_quiet (fail)
    have hbd:=below_drewN' wr nq
    have hZ3:=(hbd.block _ (Array.getElem?_eq_some_iff.1 HZ.out).1).trans HZ.out
    have hX3:=(hbd.block _ (Array.getElem?_eq_some_iff.1 HX.out).1).trans HX.out
    have hB3:=below_go HB.out hbd
    clear c0 c1 c2 c3 HX HZ HB hbd
    generalize wr.drewN nq=u3 at *
    have c0:=put_cell hX3 0 _ rfl
    have c1:=put_cell hX3 1 _ rfl
    have c2:=put_cell hX3 2 _ rfl
    have c3:=put_cell hX3 3 _ rfl
    obtain ⟨W9,hW9,hth,hbk,hbl,hne⟩:=put4 (w:=w) (z:=#[.int .i64 0,.string ⟨#[]⟩,.int .i64 0,.slice none 0 0]) (vs:=#[.int .i64 2,.string e0,.int .i64 ((j:Int)+1),u1]) rfl hZ3 hB3 (Nat.le_succ _)
    have HW9:=hideR hW9;have HTH9:=hideR hth;have HBK9:=hideR hbk;have HBL:=hideR hbl
    clear hth hbk hbl hW9 hne hX3 hZ3 hB3
    go_wp2_with (refine wpList_store_mid rfl 34 (.tmp 4) (.tmp 30) rfl (w.heap.size+1) 0 #[.int .i64 2,.string e0,.int .i64 ((j:Int)+1),u1] rfl rfl HTH9.out sizeTy' (by simp [Value.oneCell'] at hu1 ⊢;exact hu1) ?_;rw [HW9.out])
    have z0:=put_cell HBK9.out 0 _ rfl
    have z1:=put_cell HBK9.out 1 _ rfl
    have z2:=put_cell HBK9.out 2 _ rfl
    have z3:=put_cell HBK9.out 3 _ rfl
    refine bodyPost_ret (v:=.agg #[.int .i64 2,.string e0,.int .i64 ((j:Int)+1),u1]) (by simp [results,Try.results61,go_sem,z0,z1,z2,z3]) rfl ⟨_,rfl,HF.out.1,HF.out.2,HBL.out⟩
   ·have hkk:∃k2 x2 m2 u2,d0=.int .i64 k2/\d1=.string x2/\d2=.int .i64 m2/\d3=u2/\k2≠0/\u2.oneCell'=true/\(k2=2->∃i,t2=vr i/\m2=(i:Int)+1):=by
     rcases hT2.cases with ⟨i,u2,_,h1,h2,h3⟩|⟨k2,x2,m2,u2,h2,h3,h4,h5,_⟩
     ·injection h2 with h2
      simp only [Array.mk.injEq,List.cons.injEq,and_true] at h2
      exact ⟨2,e0,_,u2,h2.1,h2.2.1,h2.2.2.1,h2.2.2.2,by decide,h3,fun _=>⟨i,h1,rfl⟩⟩
     ·injection h4 with h4
      simp only [Array.mk.injEq,List.cons.injEq,and_true] at h4
      exact ⟨k2,x2,m2,u2,h4.1,h4.2.1,h4.2.2.1,h4.2.2.2,h3,h5,fun e=>absurd e h2⟩
    obtain ⟨k2,x2,m2,u2,rfl,rfl,rfl,rfl,hk0,hu2,hvr⟩:=hkk
    have q1:(k2 != 0)=true:=bne_iff_ne.2 hk0
    have HM:Hid (∀W:World,W.heap[w.heap.size]?=some (.cells #[.int .i64 k2,.string x2,.int .i64 m2,d3] 34 (0,0))->rkA W rk (.pointer (some ⟨w.heap.size,0,none⟩))<rkA wr rk (.pointer (some ⟨w.heap.size,0,none⟩))):=hideR (fun W hW=>by
     rw [rkQ hW,rkQ HX.out,if_pos rfl]
     have e1:((j:Int)+1-1).toNat=j:=by omega
     rw [e1]
     by_cases h2:k2=2
     ·obtain ⟨i,hi,hm⟩:=hvr h2
      rw [if_pos h2,hm]
      have e2:((i:Int)+1-1).toNat=i:=by omega
      rw [e2]
      have:=hr2 i hi
      omega
     ·rw [if_neg h2];omega)
    have HT2:=hideR hT2
    have HE2:Hid (endT h t2=endT h t):=hideR (by rw [he2,<- HE.out,endT_vr])
    clear a0 a1 a2 a3 HK hvr hr2 hn2 he2 hT2 HT HE
    go_upto_region 1 with fail
    go_quiet (fail)
    have hbd:=below_drewN' wr nq
    have HZ3:=hideR ((hbd.block _ (Array.getElem?_eq_some_iff.1 HZ.out).1).trans HZ.out)
    have HX3:=hideR ((hbd.block _ (Array.getElem?_eq_some_iff.1 HX.out).1).trans HX.out)
    have HB3:=hideR (below_go HB.out hbd)
    have s0':=cell_on hbd s0
    have c2':=cell_on hbd c2
    have f0':=cell_on hbd e0'
    have f1':=cell_on hbd e1'
    have f2':=cell_on hbd e2'
    have f3':=cell_on hbd e3'
    clear c0 c1 c2 c3 HX HZ HB hbd s0 e0' e1' e2' e3' hDr HD
    generalize wr.drewN nq=u3 at *
    go_upto_region 2 with fail
    obtain ⟨TL,hTL⟩:∃TL:List Value,TL = [.pointer (some ⟨r,0,none⟩),.pointer (some ⟨r,0,none⟩),.pointer (some ⟨r,0,none⟩),.slice (some ⟨g,0,none⟩) n cap,.pointer (some ⟨w.heap.size,2,none⟩),.int .i64 ((j:Int)+1),.int .i64 j,.pointer (some ⟨g,j*4,none⟩),.agg #[.int .i64 k2,.string x2,.int .i64 m2,d3]]:=⟨_,rfl⟩
    have HTL:=hideR hTL
    clear hTL
    refine Reg.wp_region_two 9 (fun i=>21+i) (fun i v u=>v=TL.getD i undef) (by kernel_rfl) (by kernel_rfl) (fun i1 i2 h1 h2 h=>by have h':21+i1=21+i2:=h;omega) (Reg.dst_ok (dst:=fun i=>21+i) (size:=31) (by kernel_rfl)) (fun i v u u' _ h hb=>h) ?hstep ?htail
    case hstep =>
     intro i o' a u9 hi ho hF hB hd
     have f0:a.tmps[0]?.getD undef=.pointer (some ⟨r,0,none⟩):=Reg.ev_get (hF.eval 0 (fun i hi=>by show 21+i≠0;omega))
     have f3:a.tmps[3]?.getD undef=.pointer (some ⟨w.heap.size,0,none⟩):=Reg.ev_get (hF.eval 3 (fun i hi=>by show 21+i≠3;omega))
     have s0:=cell_on hB s0'
     have c2:=cell_on hB c2'
     have e0':=cell_on hB f0'
     have e1':=cell_on hB f1'
     have e2':=cell_on hB f2'
     have e3':=cell_on hB f3'
     have hd2:∀j2 ∈ Reg.deps o',a.tmps[21+j2]?.getD undef=TL.getD j2 undef:=fun j2 hj2=>Reg.ev_get (hd j2 hj2)
     have hTL:=HTL.out
     subst hTL
     clear hd s0' c2' f0' f1' f2' f3'
     rcases (by omega:i=0\/i=1\/i=2\/i=3\/i=4\/i=5\/i=6\/i=7\/i=8) with rfl|rfl|rfl|rfl|rfl|rfl|rfl|rfl|rfl
     all_goals (
      simp only [List.getElem?_toArray,List.getElem?_cons_succ,List.getElem?_cons_zero,Option.some.injEq] at ho
      subst ho
      refine Reg.step_k fun K hK=>?_
      simp [Reg.deps,Region.binds] at hd2
      go_simp
      first
      | exact hK _ _ ⟨_,rfl,Below.refl _ _,rfl⟩
      | exact hK _ _ ⟨_,rfl,Below.refl _ _,by simp [*]⟩)
    case htail =>
     intro a u9 hF hB hG
     obtain ⟨xl,hxl,rfl,hev⟩:=hF.lit (by simp)
     obtain ⟨v0,v1,v2,v3,v4,v5,v6,v7,v8,rfl⟩:=tlen9 hxl
     have h9:=hG 8 (by decide)
     rw [HTL.out] at h9
     have e9:v8=.agg #[.int .i64 k2,.string x2,.int .i64 m2,d3]:=(hev 8 (by decide)).symm.trans h9
     subst e9
     obtain ⟨W9,hW9,hth,hbk,hbl,hne⟩:=put4 (w:=w) (q:=w.heap.size) (z:=#[.int .i64 2,.string e0,.int .i64 ((j:Int)+1),u1]) (vs:=#[.int .i64 k2,.string x2,.int .i64 m2,d3]) rfl ((hB.block _ (Array.getElem?_eq_some_iff.1 HX3.out).1).trans HX3.out) (below_go HB3.out hB) (Nat.le_refl _)
     have HZ9:=hideR ((hne (w.heap.size+1) (by omega)).trans ((hB.block _ (Array.getElem?_eq_some_iff.1 HZ3.out).1).trans HZ3.out))
     have HW9:=hideR hW9;have HTH9:=hideR hth;have HBK9:=hideR hbk;have HBL:=hideR hbl
     clear hev hxl hF hG h9 hB hth hbk hbl hW9 hne HX3 HZ3 HB3 s0' c2' f0' f1' f2' f3' HTL
     simp only [List.take_succ_cons,List.take_zero,List.drop_succ_cons,List.drop_zero,List.cons_append,List.nil_append]
     go_wp2_with (refine wpList_store_mid rfl 34 (.tmp 3) (.tmp 29) rfl w.heap.size 0 #[.int .i64 k2,.string x2,.int .i64 m2,d3] rfl rfl HTH9.out sizeTy' (by simp [Value.oneCell'] at hu2 ⊢;exact hu2) ?_;rw [HW9.out])
     go_roundw
     case rel=>exact ⟨t2,k2,x2,m2,d3,hu2,HT2,HE2,HBK9⟩
     case measure=>exact HM.out _ HBK9.out
  ·injection hv with hv
   simp only [Array.mk.injEq,List.cons.injEq,Value.int.injEq,Value.string.injEq,and_true,true_and] at hv
   obtain ⟨rfl,rfl,rfl,rfl⟩:=hv
   have q1:(k1 == 2)=false:=by simpa using hk2
   have HF:Hid (TyW S w n (endT h t) (.agg #[.int .i64 k1,.string x1,.int .i64 m1,u1])/\endT h (endT h t)=endT h t):=hideR (by rw [<- HE.out,hee,hee];exact ⟨HT.out,rfl⟩)
   clear HT HE HD HK hee hkk
   go_upto_region 1 with fail
   go_quiet (fail)
   have hbd:=below_drewN' wr nq
   have hZ3:=(hbd.block _ (Array.getElem?_eq_some_iff.1 HZ.out).1).trans HZ.out
   have hX3:=(hbd.block _ (Array.getElem?_eq_some_iff.1 HX.out).1).trans HX.out
   have hB3:=below_go HB.out hbd
   clear c0 c1 c2 c3 HX HZ HB hbd
   generalize wr.drewN nq=u3 at *
   have c0:=put_cell hX3 0 _ rfl
   have c1:=put_cell hX3 1 _ rfl
   have c2:=put_cell hX3 2 _ rfl
   have c3:=put_cell hX3 3 _ rfl
   obtain ⟨W9,hW9,hth,hbk,hbl,hne⟩:=put4 (w:=w) (z:=#[.int .i64 0,.string ⟨#[]⟩,.int .i64 0,.slice none 0 0]) (vs:=#[.int .i64 k1,.string x1,.int .i64 m1,u1]) rfl hZ3 hB3 (Nat.le_succ _)
   have HW9:=hideR hW9;have HTH9:=hideR hth;have HBK9:=hideR hbk;have HBL:=hideR hbl
   clear hth hbk hbl hW9 hne hX3 hZ3 hB3
   go_wp2_with (refine wpList_store_mid rfl 34 (.tmp 4) (.tmp 30) rfl (w.heap.size+1) 0 #[.int .i64 k1,.string x1,.int .i64 m1,u1] rfl rfl HTH9.out sizeTy' (by simp [Value.oneCell'] at hu1 ⊢;exact hu1) ?_;rw [HW9.out])
   have z0:=put_cell HBK9.out 0 _ rfl
   have z1:=put_cell HBK9.out 1 _ rfl
   have z2:=put_cell HBK9.out 2 _ rfl
   have z3:=put_cell HBK9.out 3 _ rfl
   refine bodyPost_ret (v:=.agg #[.int .i64 k1,.string x1,.int .i64 m1,u1]) (by simp [results,Try.results61,go_sem,z0,z1,z2,z3]) rfl ⟨_,rfl,HF.out.1,HF.out.2,HBL.out⟩
namespace Ty
theorem TyW.open_ {S:Nat->Prop} {w:World} {n:Nat} {t v:Value} (h:TyW S w n t v):∃k x m oR cR,v=.agg #[.int .i64 k,.string x,.int .i64 m,.slice oR (argsV t).length cR]/\kindV t=k/\numT t=m/\(argsV t).length<=9223372036854775807/\∀i t1,(argsV t)[i]?=some t1->∃b off k1 x1 m1 u1,oR=some ⟨b,off,none⟩/\w.cell? ⟨b,off+i*4,none⟩=some (.int .i64 k1)/\w.cell? ⟨b,off+i*4+1,none⟩=some (.string x1)/\w.cell? ⟨b,off+i*4+2,none⟩=some (.int .i64 m1)/\w.cell? ⟨b,off+i*4+3,none⟩=some u1/\u1.oneCell'=true/\TyW S w n t1 (.agg #[.int .i64 k1,.string x1,.int .i64 m1,u1]):=by
 obtain ⟨d,k,x,m,es,u,rfl,rfl,h2,h3⟩:=h
 obtain ⟨oR,cR,rfl,hel⟩:=row_at h2
 refine ⟨k,x,m,oR,cR,rfl,rfl,rfl,h2.1,fun i t1 ht=>?_⟩
 obtain ⟨b,off,ho,hX⟩:=hel i t1 ht
 obtain ⟨d1,hd1,hG⟩:=h3.part ht
 subst hd1
 obtain ⟨_,k1,x1,m1,es1,u1,h0,g0,g1,g2,g3,hr⟩:=hX
 obtain ⟨o2,c2,hu2⟩:=Row.len hr
 exact ⟨b,off,k1,x1,m1,u1,ho,g0,g1,g2,g3,by rw [hu2];rfl,d1,k1,x1,m1,es1,u1,h0,rfl,hr,hG⟩
theorem DO.grow {S S':Nat->Prop} {B n r:Nat} {h:Nat->Value} {vs:Value} {pr:Int} {w w':World} (H:DO S B n h r vs pr w) (hk:Below w.heap.size w w') (h1:∀k,S k->S' k) (h2:∀k,k<w.heap.size->S' k->S k):DO S' B n h r vs pr w':=by
 obtain ⟨h0,xs,rk,h3,h4⟩:=H
 exact ⟨⟨h1 _ h0.1,fun k e=>h1 k (h0.2 k e)⟩,xs,rk,h3.on hk,h4.on (fun k _ hl=>hk.block k hl) h2⟩
end Ty
set_option maxRecDepth 100000 in
set_option maxHeartbeats 16000000 in
theorem t_dMet {S:Nat->Prop} {B n r:Nat} {h:Nat->Value} {vs:Value} {pr vv:Int}:∀(m:Nat) (w0:World) (t v:Value) (c:Nat),DO S B n h r vs pr w0->TyW S w0 n t v->c<=1024->1025<=m+c->Calls Try.prog 43 #[.pointer (some ⟨r,0,none⟩),v,.int .i64 vv,.int .i64 (c:Int)] w0 fun e w'=>∃c':Nat,e=.returned (.tuple #[.int .i64 (c':Int),.int .i64 (lkT h vv m c t).1])/\((lkT h vv m c t).1=0->c'=(lkT h vv m c t).2)/\Below w0.heap.size w0 w':=by
 intro m
 induction m with
 | zero=>intro _ _ _ c _ _ h1 h2;omega
 | succ m ih =>
  intro w t v c hS hT hc hm
  obtain ⟨R,hR⟩:∃R,R=lkT h vv (m+1) c t:=⟨_,rfl⟩
  rw [<- hR]
  unfold lkT at hR
  obtain ⟨k0,x0,m0,u0,rfl,hu0⟩:∃k x m u,v=.agg #[.int .i64 k,.string x,.int .i64 m,u]/\u.oneCell'=true:=by
   rcases hT.cases with ⟨j,u,_,_,h1,h2⟩|⟨k,x,m,u,_,_,h1,h2,_⟩
   ·exact ⟨_,_,_,_,h1,h2⟩
   ·exact ⟨_,_,_,_,h1,h2⟩
  obtain ⟨W1,hW1⟩:∃W1,W1=w.alloc (.cells #[.int .i64 k0,.string x0,.int .i64 m0,u0] 34):=⟨_,rfl⟩
  have hb1:Below w.heap.size w W1:=by rw [hW1];exact new_on' _ _
  have hx1:W1.heap[w.heap.size]?=some (.cells #[.int .i64 k0,.string x0,.int .i64 m0,u0] 34 (0,0)):=by rw [hW1];exact heap_alloc_new w _
  by_cases h1:c=1024
  ·rw [if_pos (by omega)] at hR
   subst hR
   have q1:((c:Int) == 1024)=true:=by subst h1;rfl
   have HB:=hideR hb1
   clear hS hT ih hb1 hx1
   go_enter Try.func43,Try.ntmps43
   go_upto_region 1 with fail
   rw [<- hW1]
   clear hW1
   go_wp2
   refine bodyPost_ret (v:=.tuple #[.int .i64 (c:Int),.int .i64 3]) (by simp [results,Try.results43,go_sem]) rfl ⟨c,rfl,fun h=>absurd h (by decide),HB.out⟩
  ·have q1:((c:Int) == 1024)=false:=by simp;omega
   rw [if_neg (by omega)] at hR
   have z0:=put_cell hx1 0 _ rfl
   have z1:=put_cell hx1 1 _ rfl
   have z2:=put_cell hx1 2 _ rfl
   have z3:=put_cell hx1 3 _ rfl
   have HC:=hideR (t_dHead (S:=fun k=>S k\/k=w.heap.size) (hS.grow hb1 (fun k=>.inl) (fun k hk h=>h.resolve_right (by omega))) (hT.on (fun k _ hl=>hb1.block k hl) (fun k hk h=>h.resolve_right (by omega))))
   have hs1:W1.heap.size=w.heap.size+1:=by rw [hW1];simp
   have HBK:=hideR (fun (k:Nat) (hk:¬ (S k\/k=w.heap.size)) (hl:k<W1.heap.size)=>(hb1.block k (by have:k≠w.heap.size:=fun e=>hk (.inr e);omega)).symm)
   clear hs1
   generalize endT h t=T at *
   have HB1:=hideR hb1
   have HX1:=hideR hx1
   have HS:=hideR hS
   have HIH:=hideR ih
   have HR:=hideR hR
   have HM:=hideR (And.intro hc hm)
   have hwc:=wrapT (show c<=1024 from hc)
   clear hS hT ih hb1 hx1 hR
   go_enter Try.func43,Try.ntmps43
   go_upto_region 1 with fail
   rw [<- hW1]
   clear hW1
   go_wp2_with fail
   refine Calls.mono (show Calls _ _ _ _ _ from HC.out) ?_
   rintro e w2 ⟨v',rfl,hT2,he2,hb2⟩
   obtain ⟨k1,x1,m1,oR,cR,rfl,hkT,hmT,hlen,hel⟩:=(hT2.on HBK.out (fun _ _ h=>.inl h):TyW S w n T v').open_
   obtain ⟨W9,hW9,hth,hbk,hbl,hne⟩:=put4 (w:=w) (z:=#[.int .i64 k0,.string x0,.int .i64 m0,u0]) (vs:=#[.int .i64 k1,.string x1,.int .i64 m1,.slice oR (argsV T).length cR]) rfl ((hb2.block _ (Array.getElem?_eq_some_iff.1 HX1.out).1).trans HX1.out) (below_go HB1.out hb2) (Nat.le_refl _)
   have HW9:=hideR hW9;have HTH9:=hideR hth;have BB0:=hideR hbl;have HX0:=hideR hbk
   have HL:=hideR hlen
   have HEL:=hideR hel
   have g0:=put_cell hbk 0 _ rfl
   have g1:=put_cell hbk 1 _ rfl
   have g2:=put_cell hbk 2 _ rfl
   have g3:=put_cell hbk 3 _ rfl
   have hR:=HR.out
   rw [hkT,hmT] at hR
   clear HR hW9 hth hbk hbl hne hlen hel hb2 hT2 he2 HC HBK HB1 HX1 z0 z1 z2 z3 hkT hmT
   by_cases k2:k1=2
   ·by_cases k3:m1=vv
    ·have q2:(k1 == 2)=true:=by simpa using k2
     have q3:(m1 == vv)=true:=by simpa using k3
     rw [if_pos ⟨k2,k3⟩] at hR
     clear k2 k3
     subst hR
     go_wp2_with (refine wpList_store_mid rfl 34 (.tmp 5) (.tmp 17) rfl w.heap.size 0 #[.int .i64 k1,.string x1,.int .i64 m1,.slice oR (argsV T).length cR] rfl rfl HTH9.out sizeTy' (by simp [Value.oneCell']) ?_;rw [HW9.out])
     refine bodyPost_ret (v:=.tuple #[.int .i64 ((c+1:Nat):Int),.int .i64 151]) (by simp [results,Try.results43,go_sem]) rfl ?_
     first
     | exact BB0.out
     | exact ⟨rfl,BB0.out⟩
     | exact ⟨c+1,by simp,BB0.out⟩
     | exact ⟨⟨c+1,by simp⟩,BB0.out⟩
     | exact ⟨⟨c+1,rfl⟩,BB0.out⟩
    ·have q3:(m1 == vv)=false:=by simpa using k3
     have q2:(k1 == 2)=true:=by simpa using k2
     rw [if_neg (fun h=>k3 h.2)] at hR
     clear k2 k3
     have ST0:=hideR (show lkL (lkT h vv m) (c+1) ((argsV T).drop 0)=R by rw [hR,List.drop_zero])
     clear hR
     go_wp2_with (refine wpList_store_mid rfl 34 (.tmp 5) (.tmp 17) rfl w.heap.size 0 #[.int .i64 k1,.string x1,.int .i64 m1,.slice oR (argsV T).length cR] rfl rfl HTH9.out sizeTy' (by simp [Value.oneCell']) ?_;rw [HW9.out])
     go_loopw [3,10] (fun cc aa wr=>∃i c1:Nat,aa=.int .i64 i/\cc=.int .i64 c1/\i<=(argsV T).length/\Hid (lkL (lkT h vv m) c1 ((argsV T).drop i)=R)/\Hid (c1<=1024/\1025<=m+c1)/\Hid (Below w.heap.size w wr)/\Hid (wr.heap[w.heap.size]?=some (.cells #[.int .i64 k1,.string x1,.int .i64 m1,.slice oR (argsV T).length cR] 34 (0,0)))) (fun _ aa _=>match aa with | .int _ i=>(argsV T).length-i.toNat|_=>0)
     case atStart=>exact ⟨0,c+1,rfl,by first|rfl|(congr 1),Nat.zero_le _,ST0,hideR (by have:=HM.out;omega),BB0,HX0⟩
     case round =>
      obtain ⟨i,c1,rfl,rfl,hi,HN,HCC,HB,HX⟩:=hrel
      clear ST0 BB0 HX0 g0 g1 g2 g3 hwc
      have y3:=put_cell HX.out 3 _ rfl
      by_cases hp:i<(argsV T).length
      ·have q5:decide ((i:Int)<((argsV T).length:Int))=true:=decide_eq_true (by omega)
       obtain ⟨t1,ht1⟩:∃t1,(argsV T)[i]?=some t1:=⟨_,List.getElem?_eq_getElem hp⟩
       obtain ⟨b1,off,ka,xa,ma,ua,hoR,p0,p1,p2,p3,_,hta⟩:=HEL.out i t1 ht1
       subst hoR
       have e0':=cell_on HB.out p0
       have e1':=cell_on HB.out p1
       have e2':=cell_on HB.out p2
       have e3':=cell_on HB.out p3
       have hw1:=wrapI hp HL.out
       have hIB:=HIH.out wr t1 _ c1 (HS.out.bel HB.out) (hta.bel HB.out) HCC.out.1 HCC.out.2
       have hLS:=(lkL_step (f:=lkT h vv m) (c:=c1) ht1).symm.trans HN.out
       have hLO:=lkT_ok (h:=h) (v:=vv) m c1 t1
       obtain ⟨z,c2,hA⟩:∃z c2,lkT h vv m c1 t1=(z,c2):=⟨_,_,rfl⟩
       rw [hA] at hIB hLS hLO
       have HIB:=hideR hIB
       clear p0 p1 p2 p3 hta ht1 HN hIB hA
       by_cases hz:z=0
       ·subst hz
        rw [if_pos rfl] at hLS
        have HLS:=hideR hLS
        have HLO:=hideR (hLO rfl)
        clear hLS hLO
        go_wp2_with fail
        refine Calls.mono (show Calls _ _ _ _ _ from HIB.out) ?_
        rintro e w3 ⟨c',rfl,hc',hb3⟩
        obtain rfl:c'=c2:=by first|exact hc' rfl|exact hc' trivial|simpa using hc'
        have HB3:=hideR (below_go HB.out hb3)
        have HX3:=hideR ((hb3.block _ (Array.getElem?_eq_some_iff.1 HX.out).1).trans HX.out)
        have HC3:Hid (c'<=1024/\1025<=m+c'):=hideR (by have:=HCC.out;have h2:=HLO.out;have h3:c1<c':=h2.1;have h4:c'<=1024:=h2.2;omega)
        clear HIB hb3 y3 e0' e1' e2' e3' HX HB hc' HCC HLO
        go_wp2
        go_roundw
        case rel=>exact ⟨i+1,c',by first|rfl|(congr 1),rfl,hp,HLS,HC3,HB3,HX3⟩
        case measure=>simp;omega
       ·rw [if_neg hz] at hLS
        have q6:(z != 0)=true:=bne_iff_ne.2 hz
        have HLS:=hideR hLS
        clear hLS hLO
        go_wp2_with fail
        refine Calls.mono (show Calls _ _ _ _ _ from HIB.out) ?_
        rintro e w3 ⟨c',rfl,hc',hb3⟩
        have HB3:=hideR (below_go HB.out hb3)
        clear HIB hb3 y3 e0' e1' e2' e3' HX HB hc' HCC
        go_wp2
        refine bodyPost_ret (v:=.tuple #[.int .i64 (c':Int),.int .i64 z]) (by simp [results,Try.results43,go_sem]) rfl ⟨c',by rw [<- HLS.out],fun h=>absurd (by rw [<- HLS.out] at h;exact h) hz,HB3.out⟩
      ·have q5:decide ((i:Int)<((argsV T).length:Int))=false:=decide_eq_false (by omega)
       have HF:Hid ((0,c1)=R):=hideR (by rw [<- HN.out,List.drop_eq_nil_of_le (by omega)];rfl)
       clear HN hi
       go_wp2
       refine bodyPost_ret (v:=.tuple #[.int .i64 (c1:Int),.int .i64 0]) (by simp [results,Try.results43,go_sem]) rfl ⟨c1,by rw [<- HF.out],fun _=>by rw [<- HF.out],HB.out⟩
   ·have q2:(k1 == 2)=false:=by simpa using k2
    rw [if_neg (fun h=>k2 h.1)] at hR
    clear k2
    have ST0:=hideR (show lkL (lkT h vv m) (c+1) ((argsV T).drop 0)=R by rw [hR,List.drop_zero])
    clear hR
    go_wp2_with (refine wpList_store_mid rfl 34 (.tmp 5) (.tmp 17) rfl w.heap.size 0 #[.int .i64 k1,.string x1,.int .i64 m1,.slice oR (argsV T).length cR] rfl rfl HTH9.out sizeTy' (by simp [Value.oneCell']) ?_;rw [HW9.out])
    go_loopw [3,10] (fun cc aa wr=>∃i c1:Nat,aa=.int .i64 i/\cc=.int .i64 c1/\i<=(argsV T).length/\Hid (lkL (lkT h vv m) c1 ((argsV T).drop i)=R)/\Hid (c1<=1024/\1025<=m+c1)/\Hid (Below w.heap.size w wr)/\Hid (wr.heap[w.heap.size]?=some (.cells #[.int .i64 k1,.string x1,.int .i64 m1,.slice oR (argsV T).length cR] 34 (0,0)))) (fun _ aa _=>match aa with | .int _ i=>(argsV T).length-i.toNat|_=>0)
    case atStart=>exact ⟨0,c+1,rfl,by first|rfl|(congr 1),Nat.zero_le _,ST0,hideR (by have:=HM.out;omega),BB0,HX0⟩
    case round =>
     obtain ⟨i,c1,rfl,rfl,hi,HN,HCC,HB,HX⟩:=hrel
     clear ST0 BB0 HX0 g0 g1 g2 g3 hwc
     have y3:=put_cell HX.out 3 _ rfl
     by_cases hp:i<(argsV T).length
     ·have q5:decide ((i:Int)<((argsV T).length:Int))=true:=decide_eq_true (by omega)
      obtain ⟨t1,ht1⟩:∃t1,(argsV T)[i]?=some t1:=⟨_,List.getElem?_eq_getElem hp⟩
      obtain ⟨b1,off,ka,xa,ma,ua,hoR,p0,p1,p2,p3,_,hta⟩:=HEL.out i t1 ht1
      subst hoR
      have e0':=cell_on HB.out p0
      have e1':=cell_on HB.out p1
      have e2':=cell_on HB.out p2
      have e3':=cell_on HB.out p3
      have hw1:=wrapI hp HL.out
      have hIB:=HIH.out wr t1 _ c1 (HS.out.bel HB.out) (hta.bel HB.out) HCC.out.1 HCC.out.2
      have hLS:=(lkL_step (f:=lkT h vv m) (c:=c1) ht1).symm.trans HN.out
      have hLO:=lkT_ok (h:=h) (v:=vv) m c1 t1
      obtain ⟨z,c2,hA⟩:∃z c2,lkT h vv m c1 t1=(z,c2):=⟨_,_,rfl⟩
      rw [hA] at hIB hLS hLO
      have HIB:=hideR hIB
      clear p0 p1 p2 p3 hta ht1 HN hIB hA
      by_cases hz:z=0
      ·subst hz
       rw [if_pos rfl] at hLS
       have HLS:=hideR hLS
       have HLO:=hideR (hLO rfl)
       clear hLS hLO
       go_wp2_with fail
       refine Calls.mono (show Calls _ _ _ _ _ from HIB.out) ?_
       rintro e w3 ⟨c',rfl,hc',hb3⟩
       obtain rfl:c'=c2:=by first|exact hc' rfl|exact hc' trivial|simpa using hc'
       have HB3:=hideR (below_go HB.out hb3)
       have HX3:=hideR ((hb3.block _ (Array.getElem?_eq_some_iff.1 HX.out).1).trans HX.out)
       have HC3:Hid (c'<=1024/\1025<=m+c'):=hideR (by have:=HCC.out;have h2:=HLO.out;have h3:c1<c':=h2.1;have h4:c'<=1024:=h2.2;omega)
       clear HIB hb3 y3 e0' e1' e2' e3' HX HB hc' HCC HLO
       go_wp2
       go_roundw
       case rel=>exact ⟨i+1,c',by first|rfl|(congr 1),rfl,hp,HLS,HC3,HB3,HX3⟩
       case measure=>simp;omega
      ·rw [if_neg hz] at hLS
       have q6:(z != 0)=true:=bne_iff_ne.2 hz
       have HLS:=hideR hLS
       clear hLS hLO
       go_wp2_with fail
       refine Calls.mono (show Calls _ _ _ _ _ from HIB.out) ?_
       rintro e w3 ⟨c',rfl,hc',hb3⟩
       have HB3:=hideR (below_go HB.out hb3)
       clear HIB hb3 y3 e0' e1' e2' e3' HX HB hc' HCC
       go_wp2
       refine bodyPost_ret (v:=.tuple #[.int .i64 (c':Int),.int .i64 z]) (by simp [results,Try.results43,go_sem]) rfl ⟨c',by rw [<- HLS.out],fun h=>absurd (by rw [<- HLS.out] at h;exact h) hz,HB3.out⟩
     ·have q5:decide ((i:Int)<((argsV T).length:Int))=false:=decide_eq_false (by omega)
      have HF:Hid ((0,c1)=R):=hideR (by rw [<- HN.out,List.drop_eq_nil_of_le (by omega)];rfl)
      clear HN hi
      go_wp2
      refine bodyPost_ret (v:=.tuple #[.int .i64 (c1:Int),.int .i64 0]) (by simp [results,Try.results43,go_sem]) rfl ⟨c1,by rw [<- HF.out],fun _=>by rw [<- HF.out],HB.out⟩
namespace Ty
def setL:List Value->Nat->List Value->List Value
 | xs,_,[]=>xs
 | xs,o,v :: r=>setL (xs.set o v) (o+1) r
theorem setL_len:∀(ns xs:List Value) (o:Nat),(setL xs o ns).length=xs.length
 | [],xs,o=>rfl
 | v :: r,xs,o=>by unfold setL;rw [setL_len r];simp
theorem setL_lo:∀(ns xs:List Value) (o i:Nat),i<o->(setL xs o ns)[i]?=xs[i]?
 | [],xs,o,i,_=>rfl
 | v :: r,xs,o,i,h=>by unfold setL;rw [setL_lo r _ _ _ (by omega),List.getElem?_set,if_neg (by omega)]
theorem setL_hi:∀(ns xs:List Value) (o i:Nat),o+ns.length<=i->(setL xs o ns)[i]?=xs[i]?
 | [],xs,o,i,_=>rfl
 | v :: r,xs,o,i,h=>by
  have h':o+(r.length+1)<=i:=h
  unfold setL;rw [setL_hi r _ _ _ (by omega),List.getElem?_set,if_neg (by omega)]
theorem setL_at:∀(ns xs:List Value) (o i:Nat) (v:Value),o+ns.length<=xs.length->ns[i]?=some v->(setL xs o ns)[o+i]?=some v
 | [],xs,o,i,v,_,h=>by cases h
 | a :: r,xs,o,0,v,h,h1=>by
  have h':o+(r.length+1)<=xs.length:=h
  have h2:a=v:=Option.some.inj h1
  unfold setL;rw [setL_lo r _ _ _ (by omega),List.getElem?_set,if_pos (by omega),if_pos (by omega),h2]
 | a :: r,xs,o,i+1,v,h,h1=>by
  have h':o+(r.length+1)<=xs.length:=h
  unfold setL
  rw [show o+(i+1)=(o+1)+i by omega]
  exact setL_at r _ _ _ _ (by rw [List.length_set];omega) h1
theorem row_put {w:World} {B n size g o:Nat} {e:TypeId} {v x:Value} {xs:List Value} (h:w.ownsRow B e size v n xs) (hg:v.ownBlock=some g) (ho:o<xs.length):(w.setCell ⟨g,o,none⟩ x).ownsRow B e size v n (xs.set o x):=by
 obtain ⟨hxl,h1⟩:=h
 rcases h1 with ⟨h1,h2⟩|⟨g',cap,cur,hv,hB,hgg,hc1,hc2,hc3,hc4⟩
 ·rw [h1] at hg;cases hg
 ·subst hv
  injection hg with hg
  subst hg
  refine ⟨by rw [List.length_set];exact hxl,.inr ⟨g',cap,_,rfl,hB,heap_setCell_same w g' o cur _ x hgg,by simpa using hc1,hc2,by simpa using hc3,?_⟩⟩
  first
  | rw [Array.toList_setIfInBounds,List.take_set,hc4]
  | (rw [List.length_set,Array.toList_setIfInBounds,List.take_set,hc4])
theorem row_cells {B n size g:Nat} {e:TypeId} {v:Value}:∀(ns xs:List Value) (o:Nat) (w:World),w.ownsRow B e size v n xs->v.ownBlock=some g->o+ns.length<=xs.length->(w.setCells g o ns).ownsRow B e size v n (setL xs o ns)
 | [],xs,o,w,h,_,_=>h
 | x :: r,xs,o,w,h,hg,hl=>by
  have h':o+(r.length+1)<=xs.length:=hl
  unfold setL World.setCells
  exact row_cells r _ _ _ (row_put h hg (by omega)) hg (by rw [List.length_set];omega)
theorem Kv.cells_in {vs:Value} {a:World} {g:Nat} (hg:vs.ownBlock=some g):∀(ns:List Value) (o:Nat) (w:World),Kv vs a w->Kv vs a (w.setCells g o ns)
 | [],o,w,h=>h
 | x :: r,o,w,h=>by unfold World.setCells;exact Kv.cells_in hg r _ _ (h.set hg o x)
theorem DL.fin {S:Nat->Prop} {w:World} {n:Nat} {h:Nat->Value} {rk:Nat->Nat} {xs:List Value} (H:DL S w n h rk xs):∀(R i:Nat),rk i<R->i<n->(∃a,a<n/\h i=vr a/\h a=vr a)\/kindV (h i)≠2
 | 0,i,hr,_=>by omega
 | R+1,i,hr,hi=>by
  obtain ⟨c0,c1,c2,c3,_,_,_,_,hb⟩:=H.ok i hi
  rcases hb with ⟨_,h1⟩|⟨t,h2,h3,h4,_⟩
  ·exact .inl ⟨i,hi,h1,h1⟩
  ·rcases h2.cases with ⟨a,_,ha,rfl,_⟩|⟨k,_,_,_,hk,_,_,_,hkk,hnv⟩
   ·rw [endT_vr] at h3
    rw [<- h3]
    exact DL.fin H R a (by have:=h4 a rfl;omega) ha
   ·rw [<- h3,hnv]
    exact .inr (by rw [hkk];exact hk)
theorem DL.isv {S:Nat->Prop} {w:World} {n:Nat} {h:Nat->Value} {rk:Nat->Nat} {xs:List Value} (H:DL S w n h rk xs) (j:Nat) {i:Nat} (hi:i<n):isV j (h i)=true↔h i=vr j:=by
 rcases H.fin (rk i+1) i (Nat.lt_succ_self _) hi with ⟨a,_,h1,_⟩|h1
 ·rw [h1,isV_vr]
  exact ⟨fun e=>by rw [e],vr_inj⟩
 ·rw [isV_nv h1]
  exact ⟨fun e=>(by cases e),fun e=>absurd (by rw [e];exact kind_vr j) h1⟩
theorem DL.bind {S:Nat->Prop} {w:World} {n:Nat} {h:Nat->Value} {rk:Nat->Nat} {xs:List Value} (H:DL S w n h rk xs) {j:Nat} {t c0 c1 c2 c3:Value} (hj:j<n) (hu:h j=vr j) (hz:TyW S w n t (.agg #[c0,c1,c2,c3])) (ht:endT h t=t) (hne:t≠vr j):∃rk',DL S w n (bdH h j t) rk' (setL xs (j*4) [c0,c1,c2,c3]):=by
 have hb1:∀i,i<n->h i=vr j->bdH h j t i=t:=fun i hi e=>if_pos ((H.isv j hi).2 e)
 have hb2:∀i,i<n->h i≠vr j->bdH h j t i=h i:=fun i hi e=>if_neg (fun e2=>e ((H.isv j hi).1 e2))
 have hx:∃X:Nat,∀i,t=vr i->rk i<X:=by
  rcases hz.cases with ⟨i,_,_,rfl,_⟩|⟨k,_,_,_,hk,_,_,_,hkk,_⟩
  ·exact ⟨rk i+1,fun i' e=>by rw [vr_inj e];omega⟩
  ·exact ⟨0,fun i e=>by rw [e] at hkk;exact absurd hkk.symm hk⟩
 obtain ⟨X,hX⟩:=hx
 have hti:∀i,t=vr i->h i=vr i:=fun i e=>by have h1:=ht;rw [e,endT_vr] at h1;exact h1
 have hlen:=H.len
 refine ⟨fun i=>if isV j (h i)=true then rk i+X else rk i,by rw [setL_len];exact H.len,fun i hi=>?_⟩
 by_cases hij:j=i
 ·subst hij
  have hl4:j*4+([c0,c1,c2,c3]:List Value).length<=xs.length:=by show j*4+4<=_;omega
  refine ⟨c0,c1,c2,c3,by have:=setL_at [c0,c1,c2,c3] xs (j*4) 0 _ hl4 rfl;exact this,setL_at [c0,c1,c2,c3] xs (j*4) 1 _ hl4 rfl,setL_at [c0,c1,c2,c3] xs (j*4) 2 _ hl4 rfl,setL_at [c0,c1,c2,c3] xs (j*4) 3 _ hl4 rfl,.inr ⟨t,hz,?_,fun i e=>?_,?_⟩⟩
  ·rw [hb1 j hj hu]
   rcases hz.cases with ⟨i,_,hi,rfl,_⟩|⟨k,_,_,_,hk,_,_,_,_,hnv⟩
   ·rw [endT_vr,hb2 i hi (by rw [hti i rfl];exact hne),hti i rfl]
   ·exact hnv _
  ·have hi:i<n:=by
    rcases hz.cases with ⟨i',_,hi',e',_⟩|⟨k,_,_,_,hk,_,_,_,hkk,_⟩
    ·rw [e] at e';rw [vr_inj e'];exact hi'
    ·rw [e] at hkk;exact absurd hkk.symm hk
   show (if isV j (h i)=true then rk i+X else rk i)<(if isV j (h j)=true then rk j+X else rk j)
   rw [if_neg (fun e2=>hne (by rw [e,<- hti i e];exact (H.isv j hi).1 e2)),if_pos ((H.isv j hj).2 hu)]
   have:=hX i e
   omega
  ·rw [hb1 j hj hu];exact hne
 ·obtain ⟨d0,d1,d2,d3,a0,a1,a2,a3,hb⟩:=H.ok i hi
  have hq:∀c,c<4->(setL xs (j*4) [c0,c1,c2,c3])[i*4+c]?=xs[i*4+c]?:=fun c hc=>by
   by_cases hlt:i<j
   ·exact setL_lo _ _ _ _ (by omega)
   ·exact setL_hi _ _ _ _ (by show j*4+4<=_;omega)
  refine ⟨d0,d1,d2,d3,(hq 0 (by omega)).trans a0,(hq 1 (by omega)).trans a1,(hq 2 (by omega)).trans a2,(hq 3 (by omega)).trans a3,?_⟩
  rcases hb with ⟨h1,h2⟩|⟨t3,h2,h3,h4,h5⟩
  ·refine .inl ⟨h1,?_⟩
   rw [hb2 i hi (by rw [h2];exact fun e=>hij (vr_inj e).symm),h2]
  ·have h6:∀a,t3=vr a->a<n/\h a=h i:=fun a e=>by
    subst e
    rcases h2.cases with ⟨a',_,ha',e',_⟩|⟨k,_,_,_,hk,_,_,_,hkk,_⟩
    ·obtain rfl:=vr_inj e'
     exact ⟨ha',by rw [<- h3,endT_vr]⟩
    ·exact absurd hkk.symm hk
   refine .inr ⟨t3,h2,?_,fun a e=>?_,?_⟩
   ·rcases h2.cases with ⟨a,_,ha,rfl,_⟩|⟨k,_,_,_,hk,_,_,_,hkk,hnv⟩
    ·rw [endT_vr]
     show (if isV j (h a)=true then t else h a)=(if isV j (h i)=true then t else h i)
     rw [(h6 a rfl).2]
    ·have h7:h i=t3:=h3.symm.trans (hnv h)
     rw [hnv,hb2 i hi (fun e=>by rw [<- h7,e] at hkk;exact hk hkk.symm),h7]
   ·show (if isV j (h a)=true then rk a+X else rk a)<(if isV j (h i)=true then rk i+X else rk i)
    rw [(h6 a e).2]
    have:=h4 a e
    split<;>omega
   ·by_cases h7:h i=vr j
    ·rw [hb1 i hi h7];exact fun e=>h5 (hti i e)
    ·rw [hb2 i hi h7];exact h5
theorem DV.kpW {B r n:Nat} {xs:List Value} {vs:Value} {pr:Int} {w w':World} (h:DV B r n xs vs pr w) (hr:w'.heap[r]?=w.heap[r]?) (hg:∀k,vs.ownBlock=some k->w'.heap[k]?=w.heap[k]?):DV B r n xs vs pr w':=by
 refine ⟨hr.trans h.blk,⟨h.row.1,h.row.2.imp id ?_⟩,h.apart,h.few⟩
 rintro ⟨g,cap,cur,rfl,hB,hg1,hc⟩
 exact ⟨g,cap,cur,rfl,hB,(hg g rfl).trans hg1,hc⟩
theorem DO.kpW {S:Nat->Prop} {B n r:Nat} {h:Nat->Value} {vs:Value} {pr:Int} {w w':World} (H:DO S B n h r vs pr w) (hr:w'.heap[r]?=w.heap[r]?) (hg:∀k,vs.ownBlock=some k->w'.heap[k]?=w.heap[k]?) (hb:∀k,¬ S k->k<w.heap.size->w'.heap[k]?=w.heap[k]?):DO S B n h r vs pr w':=by
 obtain ⟨h0,xs,rk,h1,h2⟩:=H
 exact ⟨h0,xs,rk,h1.kpW hr hg,h2.on hb fun _ _ h=>h⟩
theorem DO.count {S:Nat->Prop} {B n r:Nat} {h:Nat->Value} {vs:Value} {pr:Int} {w:World} (H:DO S B n h r vs pr w) (c:Int):w.frozen? ⟨r,1,none⟩=false/\DO S B n h r vs c (w.setCell ⟨r,1,none⟩ (.int .i64 c))/\Kp r vs.ownBlock w (w.setCell ⟨r,1,none⟩ (.int .i64 c)):=by
 obtain ⟨h0,xs,rk,h1,h2⟩:=H
 have hk:Kp r vs.ownBlock w (w.setCell ⟨r,1,none⟩ (.int .i64 c)):=(Kp.refl _ _ w).set _ _
 refine ⟨by unfold World.frozen?;rw [h1.blk];simp,⟨h0,xs,rk,⟨by rw [heap_setCell_same w r 1 _ _ _ h1.blk];rfl,row_set h1.row h1.apart,h1.apart,h1.few⟩,h2.on (hk.x h0.1 h0.2) fun _ _ h=>h⟩,hk⟩
theorem DO.bind {S:Nat->Prop} {B n r g:Nat} {h:Nat->Value} {vs:Value} {pr:Int} {w:World} (H:DO S B n h r vs pr w) {j:Nat} {t c0 c1 c2 c3:Value} (hj:j<n) (hu:h j=vr j) (hz:TyW S w n t (.agg #[c0,c1,c2,c3])) (ht:endT h t=t) (hne:t≠vr j) (hg:vs.ownBlock=some g):DO S B n (bdH h j t) r vs pr (w.setCells g (j*4) [c0,c1,c2,c3])/\Kv vs w (w.setCells g (j*4) [c0,c1,c2,c3]):=by
 have hkv:=Kv.cells_in hg [c0,c1,c2,c3] (j*4) w (Kv.refl vs w)
 obtain ⟨h0,xs,rk,hv,hk⟩:=H
 obtain ⟨rk',hk'⟩:=hk.bind hj hu hz ht hne
 have hlen:=hk.len
 have hgr:g≠r:=fun e=>hv.apart (by rw [hg,e])
 refine ⟨⟨h0,_,rk',⟨(cells_ne g r (Ne.symm hgr) _ _ w).trans hv.blk,row_cells _ _ _ _ hv.row hg (by show j*4+4<=_;omega),hv.apart,hv.few⟩,hk'.on (hkv.x h0.2) fun _ _ h=>h⟩,hkv⟩
theorem DO.lt {S:Nat->Prop} {B n r:Nat} {h:Nat->Value} {vs:Value} {pr:Int} {w:World} (H:DO S B n h r vs pr w):r<w.heap.size/\(∀k,vs.ownBlock=some k->k<w.heap.size)/\vs.ownBlock≠some r:=by
 obtain ⟨_,xs,rk,hv,_⟩:=H
 exact ⟨(Array.getElem?_eq_some_iff.1 hv.blk).1,fun k hk=>(hv.row.lt k hk).2,hv.apart⟩
theorem DO.form {S:Nat->Prop} {B n r:Nat} {h:Nat->Value} {vs:Value} {pr:Int} {w:World} (H:DO S B n h r vs pr w) (hn:0<n):w.heap[r]?=some (.cells #[vs,.int .i64 pr] 65 (0,0))/\∃g cap cur,vs=.slice (some ⟨g,0,none⟩) n cap/\w.heap[g]?=some (.cells cur 34 (0,0))/\n*4<=cur.size/\n<=4096:=by
 obtain ⟨_,xs,rk,hv,hl⟩:=H
 obtain ⟨hxl,h1⟩:=hv.row
 rcases h1 with ⟨h1,h2⟩|⟨g',cap,cur,hv',hB,hgg,hc1,hc2,hc3,hc4⟩
 ·omega
 ·refine ⟨hv.blk,g',cap,cur,hv',hgg,?_,hv.few⟩
  have h3:=congrArg List.length hc4
  rw [List.length_take,Array.length_toList,hxl] at h3
  omega
theorem there_at {u:World} {b o n:Nat} {T:TypeId} {cs:Array Value} (h:u.heap[b]?=some (.cells cs T (0,0))) (hn:o+n<=cs.size):u.there b o n:=fun j hj=>by
 refine ⟨?_,?_⟩
 ·unfold World.cell?;rw [h]
  show (cs[o+j]?).isSome=true
  rw [Array.getElem?_eq_getElem (by omega)];rfl
 ·unfold World.frozen?;rw [h];simp
theorem Kp.cells {p:Nat} {q:Option Nat} {w u:World} (h:Kp p q w u) {g:Nat} (hg:w.heap.size<=g) (o:Nat) (vs:List Value):Kp p q w (u.setCells g o vs):=by
 have hcb:=cells_below g g (Nat.le_refl _) vs o u u (Below.refl _ _)
 exact ⟨hcb.os.trans h.os,hcb.tape.trans h.tape,hcb.output.trans h.output,Nat.le_trans h.size hcb.size,fun k hk h1 h2=>(cells_ne g k (by omega) _ o u).trans (h.block k hk h1 h2)⟩
theorem put4k {p:Nat} {qo:Option Nat} {w u:World} {q:Nat} {z vs:Array Value} (hz:z.size=vs.size) (hq:u.heap[q]?=some (.cells z 34 (0,0))) (hb:Kp p qo w u) (hw:w.heap.size<=q) :
  ∃W,u.setCells q 0 vs.toList=W/\u.there q 0 vs.size/\W.heap[q]?=some (.cells vs 34 (0,0))/\Kp p qo w W/\(∀k,k≠q->W.heap[k]?=u.heap[k]?)/\W.heap.size=u.heap.size :=
 ⟨_,rfl,by have:=put_there hq;rw [hz] at this;exact this,put_heap hq hz,hb.cells hw 0 _,fun k hk=>cells_ne q k hk _ 0 u,cells_size q _ 0 u⟩
theorem TyW.nam {S:Nat->Prop} {w:World} {n:Nat} {t u:Value} {k m:Int} {x:ByteArray} (h:TyW S w n t (.agg #[.int .i64 k,.string x,.int .i64 m,u])):kindV t=k/\namT t=x/\numT t=m:=by
 obtain ⟨d,k',x',m',es,u',rfl,h1,_⟩:=h
 injection h1 with h1
 simp only [Array.mk.injEq,List.cons.injEq,Value.int.injEq,Value.string.injEq,and_true,true_and] at h1
 obtain ⟨rfl,rfl,rfl,_⟩:=h1
 exact ⟨rfl,rfl,rfl⟩
theorem TyW.kp {S:Nat->Prop} {K:Nat} {vs:Value} {w w':World} {n:Nat} {t v:Value} (h:TyW S w n t v) (hk:Kp K vs.ownBlock w w') (hK:S K) (hs:∀k,vs.ownBlock=some k->S k):TyW S w' n t v:=h.on (hk.x hK hs) fun _ _ h=>h
theorem TyW.less {S S':Nat->Prop} {w:World} {n:Nat} {t v:Value} (h:TyW S' w n t v) (hs:∀k,S k->S' k):TyW S w n t v:=h.on (fun _ _ _=>rfl) fun k _ hk=>hs k hk
theorem DO.back {S S':Nat->Prop} {B n r:Nat} {h:Nat->Value} {vs:Value} {pr:Int} {w:World} (H:DO S' B n h r vs pr w) (h0:S r/\∀k,vs.ownBlock=some k->S k) (h1:∀k,S k->S' k):DO S B n h r vs pr w:=by
 obtain ⟨_,xs,rk,hv,hk⟩:=H
 exact ⟨h0,xs,rk,hv,hk.on (fun k _ _=>rfl) fun k _ hs=>h1 k hs⟩
theorem TyW.split {S:Nat->Prop} {w:World} {n:Nat} {t v:Value} (h:TyW S w n t v):(∃j u,j<n/\t=vr j/\v=.agg #[.int .i64 2,.string e0,.int .i64 ((j:Int)+1),u]/\u.oneCell'=true)\/(∃k x m oR cR,k≠2/\v=.agg #[.int .i64 k,.string x,.int .i64 m,.slice oR (argsV t).length cR]/\kindV t≠2/\kindV t=k/\namT t=x):=by
 rcases h.cases with ⟨j,u,h1,h2,h3,h4⟩|⟨k,x,m,u,h1,_,h3,_,h5,_⟩
 ·exact .inl ⟨j,u,h1,h2,h3,h4⟩
 ·obtain ⟨k',x',m',oR,cR,h6,h7,_⟩:=h.open_
  rw [h6] at h
  refine .inr ⟨k',x',m',oR,cR,?_,h6,by rw [h5];exact h1,h7,h.nam.2.1⟩
  rw [<- h7,h5];exact h1
theorem kp_ne {p:Nat} {q:Option Nat} {w u:World} (h:Kp p q w u) {k:Nat} {o:Obj} (hk:w.heap[k]?=some o) (h1:k≠p) (h2:q≠some k):u.heap[k]?=some o:=(h.block k (Array.getElem?_eq_some_iff.1 hk).1 h1 h2).trans hk
theorem tlen6 {l:List Value} (h:l.length=6):∃a0 a1 a2 a3 a4 a5,l = [a0,a1,a2,a3,a4,a5]:=by
 match l,h with
 | [a0,a1,a2,a3,a4,a5],_=>exact ⟨_,_,_,_,_,_,rfl⟩
theorem tlen11 {l:List Value} (h:l.length=11):∃a0 a1 a2 a3 a4 a5 a6 a7 a8 a9 b0,l = [a0,a1,a2,a3,a4,a5,a6,a7,a8,a9,b0]:=by
 match l,h with
 | [a0,a1,a2,a3,a4,a5,a6,a7,a8,a9,b0],_=>exact ⟨_,_,_,_,_,_,_,_,_,_,_,rfl⟩
theorem cases11 {j:Nat} (h:j<11):j=0\/j=1\/j=2\/j=3\/j=4\/j=5\/j=6\/j=7\/j=8\/j=9\/j=10:=by omega
end Ty
end Go.Proofs.Ytkflfohoinbenaa
