/- Texts that the claim needs. -/
import Derived.Test.YtkflfohoinbenaaQTU14
import Derived.Test.YtkflfohoinbenaaQTU5
import Derived.SizedLaws
namespace Go.Proofs.Ytkflfohoinbenaa
open Go.RowKit Lx Pz Rep Ty
set_option linter.unusedVariables false
namespace Ty
def unTr (r:Nat) (vs bs:Value) (k:Nat) (u u':World):Prop:=if k=13 then Kv vs u u' else if k=25 then Kp r bs.ownBlock u u' else Below u.heap.size u u'
def unRe (S:Nat->Prop) (B n p r:Nat) (vs bs:Value) (h:Nat->Value) (i:Nat) (u:World):Prop:=(i=13->SO S B n h p vs u)/\(i=25->∃pr,DO S B n h r bs pr u)
def unGi (S:Nat->Prop) (B n p r C:Nat) (vs bs a b:Value) (h':Nat->Value) (z:Int) (TL:List Value) (i:Nat) (v:Value) (u:World):Prop:=if i=6 then tyO C a v u else if i=12 then tyO C b v u else if i=13 then v=.int .i64 z/\SO S B n h' p vs u else if i=25 then v=.int .i64 z/\∃pr,DO S B n h' r bs pr u else v=TL.getD i undef
theorem Kp.abv {p:Nat} {q:Option Nat} {w u:World} (h:Kp p q w u) {C:Nat} (hp:p<C) (hC:∀k,q=some k->k<C):Abv C w u:=fun k hk hl=>h.block k hl (by omega) (fun e=>by have:=hC k e;omega)
section
variable {S:Nat->Prop} {B n p r C:Nat} {vs bs a b:Value} {h h':Nat->Value} {z:Int} {TL:List Value}
theorem unTr.abv {k:Nat} {u u':World} (h:unTr r vs bs k u u') (h0:∀k,S k->k<C) (hr:S r) (hv:∀k,vs.ownBlock=some k->S k) (hb:∀k,bs.ownBlock=some k->S k) (hC:C<=u.heap.size):Abv C u u':=by
 unfold unTr at h
 split at h
 ·exact h.abv fun k e=>h0 k (hv k e)
 ·split at h
  ·exact h.abv (h0 r hr) fun k e=>h0 k (hb k e)
  ·exact Abv.lo (Abv.of h) (Nat.zero_le _)
theorem unTr.size {k:Nat} {u u':World} (h:unTr r vs bs k u u'):u.heap.size<=u'.heap.size:=by
 unfold unTr at h
 split at h
 ·exact h.size
 ·split at h
  ·exact h.size
  ·exact h.size
theorem unTr.bel {k:Nat} {W u u':World} (h:unTr r vs bs k u u') (hb:Below W.heap.size W u) (h0:∀k,S k->W.heap.size<=k) (hr:S r) (hv:∀k,vs.ownBlock=some k->S k) (hbs:∀k,bs.ownBlock=some k->S k):Below W.heap.size W u':=by
 unfold unTr at h
 split at h
 ·exact h.bel hb fun k e=>h0 k (hv k e)
 ·split at h
  ·exact h.bel hb (h0 r hr) fun k e=>h0 k (hbs k e)
  ·exact below_go hb h
theorem unTr.so {k:Nat} {u u':World} (hk:k≠13) (t:unTr r vs bs k u u') (hA:Apt p r vs bs) (hr:S r) (hbs:∀k,bs.ownBlock=some k->S k) (H:SO S B n h p vs u):SO S B n h p vs u':=by
 unfold unTr at t
 rw [if_neg hk] at t
 split at t
 ·exact H.kpD t hA hr hbs
 ·exact H.bel t
theorem unTr.do_ {k:Nat} {u u':World} (hk:k≠25) (t:unTr r vs bs k u u') (hA:Apt p r vs bs) (hv:∀k,vs.ownBlock=some k->S k) (H:∃pr,DO S B n h r bs pr u):∃pr,DO S B n h r bs pr u':=by
 obtain ⟨pr,H⟩:=H
 unfold unTr at t
 rw [if_neg hk] at t
 split at t
 ·exact ⟨pr,H.kv t hA hv⟩
 ·exact ⟨pr,H.bel t⟩
theorem unRe.stab {i k:Nat} {u u':World} (hik:i≠k) (t:unTr r vs bs k u u') (hA:Apt p r vs bs) (hr:S r) (hv:∀k,vs.ownBlock=some k->S k) (hbs:∀k,bs.ownBlock=some k->S k) (H:unRe S B n p r vs bs h i u):unRe S B n p r vs bs h i u' :=
 ⟨fun e=>t.so (fun e2=>hik (by omega)) hA hr hbs (H.1 e),fun e=>t.do_ (fun e2=>hik (by omega)) hA hv (H.2 e)⟩
theorem unGi.stab {i k:Nat} {v:Value} {u u':World} (hik:i≠k) (t:unTr r vs bs k u u') (h0:∀k,S k->k<C) (hA:Apt p r vs bs) (hr:S r) (hv:∀k,vs.ownBlock=some k->S k) (hbs:∀k,bs.ownBlock=some k->S k) (hC:C<=u.heap.size) (H:unGi S B n p r C vs bs a b h' z TL i v u):unGi S B n p r C vs bs a b h' z TL i v u':=by
 unfold unGi at H ⊢
 split
 ·rename_i e;rw [if_pos e] at H;exact H.on (t.abv h0 hr hv hbs hC) (Nat.le_refl _)
 ·rename_i e;rw [if_neg e] at H
  split
  ·rename_i e;rw [if_pos e] at H;exact H.on (t.abv h0 hr hv hbs hC) (Nat.le_refl _)
  ·rename_i e;rw [if_neg e] at H
   split
   ·rename_i e;rw [if_pos e] at H;exact ⟨H.1,t.so (fun e2=>hik (by omega)) hA hr hbs H.2⟩
   ·rename_i e;rw [if_neg e] at H
    split
    ·rename_i e;rw [if_pos e] at H;exact ⟨H.1,t.do_ (fun e2=>hik (by omega)) hA hv H.2⟩
    ·rename_i e;rw [if_neg e] at H;exact H
end
theorem tlen26 {l:List Value} (h:l.length=26):∃a0 a1 a2 a3 a4 a5 a6 a7 a8 a9 b0 b1 b2 b3 b4 b5 b6 b7 b8 b9 c0 c1 c2 c3 c4 c5,l = [a0,a1,a2,a3,a4,a5,a6,a7,a8,a9,b0,b1,b2,b3,b4,b5,b6,b7,b8,b9,c0,c1,c2,c3,c4,c5]:=by
 match l,h with
 | [a0,a1,a2,a3,a4,a5,a6,a7,a8,a9,b0,b1,b2,b3,b4,b5,b6,b7,b8,b9,c0,c1,c2,c3,c4,c5],_=>exact ⟨_,_,_,_,_,_,_,_,_,_,_,_,_,_,_,_,_,_,_,_,_,_,_,_,_,_,rfl⟩
theorem inc1 {j n:Nat} (h:j<n) (hn:n<=12):wrap64 ((j:Int)+1+1)=((j+1:Nat):Int)+1:=by unfold wrap64;omega
end Ty
set_option maxRecDepth 100000 in
set_option maxHeartbeats 16000000 in
theorem unifiesC (N dl:Nat) (l:List (Value × Value)) (vl:Value) (w:World) (hN:N<=255) (hl:Row 8 (PrC w dl) vl l) (hsl:∀x ∈ l,(∀e,smT e x.1)/\∀e,smT e x.2):Calls Try.prog 3 #[.int .u8 (N:Int),vl] w fun e w'=>e=.returned (.bool true)/\Below w.heap.size w w':=by
 obtain ⟨m,hm⟩:∃m,1025<=m:=⟨1025,Nat.le_refl _⟩
 obtain ⟨f,hf⟩:∃f,65537<=f:=⟨65537,Nat.le_refl _⟩
 obtain ⟨oR,cR,rfl,hel⟩:=row_at hl
 have HLG:=hideR (t_large dl w l _ hl)
 have HEL:=hideR (fun i x (hi:l[i]?=some x)=>(hel i x hi:∃b1 off,oR=some ⟨b1,off,none⟩/\PrC w dl b1 (off+i*8) x))
 have HSM:=hideR hsl
 have HM:=hideR (And.intro hm hf)
 have HNN:=hideR hN
 have HLN:=hideR hl.1
 clear hl hel hN hm hf hsl
 go_enter Try.func3,Try.ntmps3
 go_wp2_with fail
 refine Calls.mono (show Calls _ _ _ _ _ from HLG.out) ?_
 rintro e w1 ⟨b,rfl,hb1,hfl⟩
 have HB1:=hideR hb1
 clear hb1 HLG
 cases b with
 | true =>
  clear hfl
  have HWK:=hideR (wakesC w1)
  go_wp2_with fail
  refine Calls.mono (show Calls _ _ _ _ _ from HWK.out) ?_
  rintro e w2 ⟨rfl,hb2⟩
  have HB2:=hideR (below_go HB1.out hb2)
  clear hb2 HWK
  go_wp2
  go_ret
  exact ⟨rfl,HB2.out⟩
 | false =>
  have HFL:=hideR (hfl rfl)
  have HFW:=hideR (t_few w1 N HNN.out)
  clear hfl
  go_wp2_with fail
  refine Calls.mono (show Calls _ _ _ _ _ from HFW.out) ?_
  rintro e w3 ⟨rfl,hb3⟩
  have HB3:=hideR (below_go HB1.out hb3)
  have HBT:=hideR (t_both w3 (N%12+1) (by omega))
  clear hb3 HFW HB1
  obtain ⟨n,hn⟩:∃n,n=N%12+1:=⟨_,rfl⟩
  have HN12:Hid (n<=12):=hideR (by omega)
  rw [<- hn] at HBT
  rw [<- hn]
  clear hn
  go_wp2_with fail
  refine Calls.mono (show Calls _ _ _ _ _ from HBT.out) ?_
  rintro e w4 ⟨p,r,xs,vs,bs,rfl,hb4,hbo⟩
  have HLO:=hideR (show ∀k,SB p r vs bs k->w.heap.size<=k by
   have h1:=HB3.out.size
   have h2:=hbo.lo
   obtain ⟨ys,ho,_⟩:=hbo.sv.row
   have h3:=hbo.hir
   intro k hk
   rcases hk with rfl|rfl|hk|hk
   ·omega
   ·omega
   ·have:=(ho.lt k hk).1;omega
   ·have:=(hbo.dv.row.lt k hk).1;omega)
  have HAP:Hid (Apt p r vs bs):=hideR ⟨hbo.ne,hbo.a1,hbo.a2,hbo.a3⟩
  have HS4:Hid (SO (SB p r vs bs) w3.heap.size n vr p vs w4):=hideR (SO.newS hbo.sv (.inl rfl) (fun k e=>.inr (.inr (.inl e))))
  have HD4:Hid (∃pr,DO (SB p r vs bs) w3.heap.size n vr r bs pr w4):=hideR ⟨0,DO.newS hbo.dv hbo.zr (.inr (.inl rfl)) (fun k e=>.inr (.inr (.inr e)))⟩
  have HB4:=hideR (below_go HB3.out hb4)
  obtain ⟨S,hSd⟩:∃S,S=SB p r vs bs:=⟨_,rfl⟩
  rw [<- hSd] at HLO HS4 HD4
  have HSD:Hid (S p/\S r/\(∀k,vs.ownBlock=some k->S k)/\∀k,bs.ownBlock=some k->S k):=hideR (by rw [hSd];exact ⟨.inl rfl,.inr (.inl rfl),fun k e=>.inr (.inr (.inl e)),fun k e=>.inr (.inr (.inr e))⟩)
  have HSL:Hid (∀(h h':Nat->Value) (pr:Int) (u:World),SO S w3.heap.size n h p vs u->DO S w3.heap.size n h' r bs pr u->∀k,S k->k<u.heap.size):=hideR (by
   intro h h' pr u h1 h2 k hk
   rw [hSd] at hk
   rcases hk with rfl|rfl|hk|hk
   ·exact h1.lt.1
   ·exact h2.lt.1
   ·exact h1.lt.2 k hk
   ·exact h2.lt.2.1 k hk)
  clear hb4 hbo HBT HB3 hSd
  go_wp2_with fail
  go_loopw [8] (fun aa wr=>∃(i:Nat) (h:Nat->Value),aa=.int .i64 i/\i<=l.length/\i<=12/\Hid (SO S w3.heap.size n h p vs wr)/\Hid (∃pr,DO S w3.heap.size n h r bs pr wr)/\Hid (Below w.heap.size w wr)) (fun aa _=>match aa with | .int _ i=>l.length-i.toNat|_=>0)
  case atStart=>exact ⟨0,vr,rfl,Nat.zero_le _,Nat.zero_le _,HS4,HD4,HB4⟩
  case round =>
   obtain ⟨i,h,rfl,hi,hi2,HS,HD,HW⟩:=hrel
   clear HS4 HD4 HB4
   by_cases hp:i<l.length/\i<12
   ·have q1:decide ((i:Int)<(l.length:Int))=true:=decide_eq_true (by omega)
    have q2:decide ((i:Int)<12)=true:=decide_eq_true (by omega)
    have hw2:wrap64 ((i:Int)+1)=((i+1:Nat):Int):=by unfold wrap64;omega
    obtain ⟨pr,hpr⟩:∃pr,l[i]?=some pr:=⟨_,List.getElem?_eq_getElem hp.1⟩
    obtain ⟨b1,off,hoR,hCW⟩:=HEL.out i pr hpr
    subst hoR
    obtain ⟨k1,x1,n1,u1,c0,c1,c2,c3,hV1⟩:=tyC_val hCW.1
    obtain ⟨k2,x2,n2,u2,e0',e1',e2',e3',hV2⟩:=tyC_val hCW.2
    obtain ⟨hf1,hf2⟩:=HFL.out i pr hp.2 hpr
    have HG:=hideR (And.intro c0 (And.intro c1 (And.intro c2 (And.intro c3 (And.intro e0' (And.intro e1' (And.intro e2' e3')))))))
    have HSS:=hideR (HSM.out pr (List.mem_of_getElem? hpr))
    have HFF:=hideR (And.intro hf1 hf2)
    have HC1:=hideR (fun (u9:World) (hu:Below w.heap.size w u9)=>t_copied dl u9 pr.1 _ (hV1.but (Abv.of hu)) hf1)
    have HC2:=hideR (fun (u9:World) (hu:Below w.heap.size w u9)=>t_copied dl u9 pr.2 _ (hV2.but (Abv.of hu)) hf2)
    have HI1:=hideR (fun (u9:World) (hu:Below w.heap.size w u9)=>InX.low (S:=S) hV1 hu (fun k hk hs=>by have:=HLO.out k hs;omega) hf1 HSS.out.1)
    have HI2:=hideR (fun (u9:World) (hu:Below w.heap.size w u9)=>InX.low (S:=S) hV2 hu (fun k hk hs=>by have:=HLO.out k hs;omega) hf2 HSS.out.2)
    obtain ⟨C,hC⟩:∃C,C=wr.heap.size:=⟨_,rfl⟩
    have HSC:Hid (∀k,S k->k<C):=hideR (by obtain ⟨_,h9⟩:=HD.out;rw [hC];exact HSL.out _ _ _ wr HS.out h9)
    have HCC:=hideR hC
    clear c0 c1 c2 c3 e0' e1' e2' e3' hV1 hV2 hf1 hf2 hCW hpr hC
    go_upto_region 8 with fail
    obtain ⟨TL,hTL⟩:∃TL:List Value,TL = [.pointer (some ⟨p,0,none⟩),.slice (some ⟨b1,off,none⟩) l.length cR,.int .i64 i,.pointer (some ⟨b1,off+i*8,none⟩),.pointer (some ⟨b1,off+i*8,none⟩),.agg #[.int .i64 k1,.string x1,.int .i64 n1,u1],undef,.slice (some ⟨b1,off,none⟩) l.length cR,.int .i64 i,.pointer (some ⟨b1,off+i*8,none⟩),.pointer (some ⟨b1,off+i*8+4,none⟩),.agg #[.int .i64 k2,.string x2,.int .i64 n2,u2],undef,undef,.pointer (some ⟨r,0,none⟩),.slice (some ⟨b1,off,none⟩) l.length cR,.int .i64 i,.pointer (some ⟨b1,off+i*8,none⟩),.pointer (some ⟨b1,off+i*8,none⟩),.agg #[.int .i64 k1,.string x1,.int .i64 n1,u1],.slice (some ⟨b1,off,none⟩) l.length cR,.int .i64 i,.pointer (some ⟨b1,off+i*8,none⟩),.pointer (some ⟨b1,off+i*8+4,none⟩),.agg #[.int .i64 k2,.string x2,.int .i64 n2,u2],undef]:=⟨_,rfl⟩
    have HTL:=hideR hTL
    clear hTL
    refine Reg.wp_region_efft 26 (fun j=>34+j) (unTr r vs bs) (fun u=>Below w.heap.size w u/\C<=u.heap.size) (unRe S w3.heap.size n p r vs bs h) (unGi S w3.heap.size n p r C vs bs pr.1 pr.2 (nxH m f n dl h pr.1 pr.2) (nxZ m f n dl h pr.1 pr.2) TL) (by kernel_rfl) (by kernel_rfl) (fun i1 i2 h1 h2 h=>by have h':34+i1=34+i2:=h;omega) (Reg.dst_ok (dst:=fun j=>34+j) (size:=96) (by kernel_rfl)) (fun i k v u u' _ _ hik hK hg ht=>hg.stab hik ht HSC.out HAP.out HSD.out.2.1 HSD.out.2.2.1 HSD.out.2.2.2 hK.2) (fun i k u u' _ _ hik hr ht=>hr.stab hik ht HAP.out HSD.out.2.1 HSD.out.2.2.1 HSD.out.2.2.2) (fun k u u' _ hK ht=>⟨ht.bel hK.1 HLO.out HSD.out.2.1 HSD.out.2.2.1 HSD.out.2.2.2,Nat.le_trans hK.2 ht.size⟩) ?hs8 ?ht8 ⟨below_go HW.out (below_drewN' wr 1),by rw [HCC.out];exact (below_drewN' wr 1).size⟩ (fun i _=>⟨fun _=>HS.out.bel (below_drewN' wr 1),fun _=>by obtain ⟨pr9,h9⟩:=HD.out;exact ⟨pr9,h9.bel (below_drewN' wr 1)⟩⟩)
    case hs8 =>
     intro j o' a9 u9 hj ho hF hK hR hd
     have f1:a9.tmps[1]?.getD undef=.slice (some ⟨b1,off,none⟩) l.length cR:=Reg.ev_get (hF.eval 1 (fun i hi=>by show 34+i≠1;omega))
     have f6:a9.tmps[6]?.getD undef=.pointer (some ⟨p,0,none⟩):=Reg.ev_get (hF.eval 6 (fun i hi=>by show 34+i≠6;omega))
     have f7:a9.tmps[7]?.getD undef=.pointer (some ⟨r,0,none⟩):=Reg.ev_get (hF.eval 7 (fun i hi=>by show 34+i≠7;omega))
     have f8:a9.tmps[8]?.getD undef=.int .i64 (i:Int):=Reg.ev_get (hF.eval 8 (fun i hi=>by show 34+i≠8;omega))
     have hBW:=hK.1
     have hd2:∀j2 ∈ Reg.deps o',(j2≠6/\j2≠12/\j2≠13/\j2≠25)->a9.tmps[34+j2]?.getD undef=TL.getD j2 undef:=fun j2 hj2 h3=>by
      have h:=hd j2 hj2
      unfold unGi at h
      rw [if_neg h3.1,if_neg h3.2.1,if_neg h3.2.2.1,if_neg h3.2.2.2] at h
      exact Reg.ev_get h
     have hTL:=HTL.out
     rcases (by omega:j=6\/j=12\/j=13\/j=25\/(j≠6/\j≠12/\j≠13/\j≠25)) with rfl|rfl|rfl|rfl|hn6
     ·simp only [List.getElem?_toArray,List.getElem?_cons_succ,List.getElem?_cons_zero,Option.some.injEq] at ho
      subst ho
      have HCA:=hideR (HC1.out u9 hBW)
      have hsz:=hK.2
      refine Reg.step_k fun Z9 hZ=>?_
      clear hd hR
      subst hTL
      simp [Reg.deps,Region.binds] at hd2
      go_simp
      refine Calls.mono (show Calls _ _ _ _ _ from HCA.out) ?_
      rintro e w' ⟨v9,rfl,h1,h2⟩
      exact hZ _ _ ⟨_,rfl,h1,h2.on (fun _ _ _=>rfl) hsz⟩
     ·simp only [List.getElem?_toArray,List.getElem?_cons_succ,List.getElem?_cons_zero,Option.some.injEq] at ho
      subst ho
      have HCA:=hideR (HC2.out u9 hBW)
      have hsz:=hK.2
      refine Reg.step_k fun Z9 hZ=>?_
      clear hd hR
      subst hTL
      simp [Reg.deps,Region.binds] at hd2
      go_simp
      refine Calls.mono (show Calls _ _ _ _ _ from HCA.out) ?_
      rintro e w' ⟨v9,rfl,h1,h2⟩
      exact hZ _ _ ⟨_,rfl,h1,h2.on (fun _ _ _=>rfl) hsz⟩
     ·simp only [List.getElem?_toArray,List.getElem?_cons_succ,List.getElem?_cons_zero,Option.some.injEq] at ho
      subst ho
      have h6:tyO C pr.1 (a9.eval (.tmp 40)) u9:=hd 6 (by decide)
      have h12:tyO C pr.2 (a9.eval (.tmp 46)) u9:=hd 12 (by decide)
      obtain ⟨v6,hv6⟩:∃v6,a9.eval (.tmp 40)=v6:=⟨_,rfl⟩
      obtain ⟨v12,hv12⟩:∃v12,a9.eval (.tmp 46)=v12:=⟨_,rfl⟩
      rw [hv6] at h6
      rw [hv12] at h12
      have f40:=Reg.ev_get hv6
      have f46:=Reg.ev_get hv12
      have hs9:=hR.1 rfl
      obtain ⟨q1',hq1,hI1⟩:=InX.of2 (S:=fun _=>False) h6 (fun _ _ h=>h) HFF.out.1 HSS.out.1
      obtain ⟨q2',hq2,hI2⟩:=InX.of2 (S:=fun _=>False) h12 (fun _ _ h=>h) HFF.out.2 HSS.out.2
      have HU1:=hideR (t_UnifyP HM.out.1 HM.out.2 u9 hs9 (fun k hk=>Nat.lt_of_lt_of_le (HSC.out k hk) hK.2) hI1.in_ hI2.in_)
      have HQ:=hideR (And.intro hq1 hq2)
      refine Reg.step_k fun Z9 hZ=>?_
      clear hd hR hv6 hv12 h6 h12 hs9 hI1 hI2 hq1 hq2 hK hBW
      subst hTL
      simp [Reg.deps,Region.binds] at hd2
      go_simp
      refine Calls.mono (show Calls _ _ _ _ _ from HU1.out) ?_
      rintro e w' ⟨hsaid,hk3⟩
      obtain ⟨rfl,hs3⟩:=unP_said HFF.out.1 HFF.out.2 HQ.out.1 HQ.out.2 hsaid
      exact hZ _ _ ⟨_,rfl,hk3,rfl,hs3⟩
     ·simp only [List.getElem?_toArray,List.getElem?_cons_succ,List.getElem?_cons_zero,Option.some.injEq] at ho
      subst ho
      obtain ⟨pr9,hd9⟩:=hR.2 rfl
      have HU2:=hideR (t_dUnify HM.out.1 HM.out.2 u9 hd9 (fun k hk=>Nat.lt_of_lt_of_le (HSC.out k hk) hK.2) (HI1.out u9 hBW) (HI2.out u9 hBW))
      refine Reg.step_k fun Z9 hZ=>?_
      clear hd hR hd9 hK hBW
      subst hTL
      simp [Reg.deps,Region.binds] at hd2
      go_simp
      refine Calls.mono (show Calls _ _ _ _ _ from HU2.out) ?_
      rintro e w' ⟨pr4,rfl,hd4,hk4⟩
      exact hZ _ _ ⟨_,rfl,hk4,rfl,pr4,hd4⟩
     ·obtain ⟨g0,g1,g2,g3,l0,l1,l2,l3⟩:=HG.out
      have g0:=cell_on hBW g0
      have g1:=cell_on hBW g1
      have g2:=cell_on hBW g2
      have g3:=cell_on hBW g3
      have l0:=cell_on hBW l0
      have l1:=cell_on hBW l1
      have l2:=cell_on hBW l2
      have l3:=cell_on hBW l3
      clear hd hR hK hBW
      subst hTL
      rcases (by omega:j=0\/j=1\/j=2\/j=3\/j=4\/j=5\/j=7\/j=8\/j=9\/j=10\/j=11\/j=14\/j=15\/j=16\/j=17\/j=18\/j=19\/j=20\/j=21\/j=22\/j=23\/j=24) with rfl|rfl|rfl|rfl|rfl|rfl|rfl|rfl|rfl|rfl|rfl|rfl|rfl|rfl|rfl|rfl|rfl|rfl|rfl|rfl|rfl|rfl
      all_goals (
       simp only [List.getElem?_toArray,List.getElem?_cons_succ,List.getElem?_cons_zero,Option.some.injEq] at ho
       subst ho
       refine Reg.step_k fun Z9 hZ=>?_
       clear hn6
       simp [Reg.deps,Region.binds] at hd2
       go_simp
       first
       | exact hZ _ _ ⟨_,rfl,Below.refl _ _,rfl⟩
       | exact hZ _ _ ⟨_,rfl,Below.refl _ _,by simp [unGi, *]⟩)
    case ht8 =>
     intro a9 u9 hF hK hG
     obtain ⟨xl,hxl,rfl,hev⟩:=hF.lit (by simp)
     obtain ⟨s0,s1,s2,s3,s4,s5,s6,s7,s8,s9,s10,s11,s12,s13,s14,s15,s16,s17,s18,s19,s20,s21,s22,s23,s24,s25,rfl⟩:=tlen26 hxl
     obtain ⟨h13,hs9⟩:_/\_:=hG 13 (by decide)
     obtain ⟨h25,hd9⟩:_/\_:=hG 25 (by decide)
     obtain ⟨zz,hzz⟩:∃zz,zz=nxZ m f n dl h pr.1 pr.2:=⟨_,rfl⟩
     rw [<- hzz] at h13 h25
     obtain rfl:s13=.int .i64 zz:=(hev 13 (by decide)).symm.trans h13
     obtain rfl:s25=.int .i64 zz:=(hev 25 (by decide)).symm.trans h25
     have HS9:=hideR hs9
     have HD9:=hideR hd9
     have HW9:=hideR hK.1
     have q3:(zz != zz)=false:=by simp
     clear hev hxl hF hK hG h13 h25 hs9 hd9 hzz HC1 HC2 HI1 HI2 HG HTL HS HD HW
     simp only [List.take_succ_cons,List.take_zero,List.drop_succ_cons,List.drop_zero,List.cons_append,List.nil_append]
     go_wp2
     go_roundw
     case rel=>exact ⟨i+1,nxH m f n dl h pr.1 pr.2,by first|rfl|(congr 1),hp.1,hp.2,HS9,HD9,HW9⟩
     case measure=>(simp;omega)
   ·have HE:Hid (i<l.length->¬ i<12):=hideR (fun h1 h2=>hp ⟨h1,h2⟩)
    clear hp
    by_cases hp1:i<l.length
    ·have q1:decide ((i:Int)<(l.length:Int))=true:=decide_eq_true (by omega)
     have q2:decide ((i:Int)<12)=false:=decide_eq_false (by have:=HE.out hp1;omega)
     clear HE
     have HS0:=HS;have HD0:=HD;have HW0:=HW
     clear HS HD HW
     go_wp2_with fail
     go_loopw [9] (fun aa wr=>∃j:Nat,aa=.int .i64 ((j:Int)+1)/\j<=n/\Hid (SO S w3.heap.size n h p vs wr)/\Hid (∃pr,DO S w3.heap.size n h r bs pr wr)/\Hid (Below w.heap.size w wr)) (fun aa _=>match aa with | .int _ i=>n+1-i.toNat|_=>0)
     case atStart=>exact ⟨0,rfl,Nat.zero_le _,HS0,HD0,HW0⟩
     case round =>
      obtain ⟨j,rfl,hj,HS,HD,HW⟩:=hrel
      clear HS0 HD0 HW0
      by_cases hjn:j<n
      ·have q1:decide ((j:Int)+1<=(n:Int))=true:=decide_eq_true (by omega)
       have hw2:=inc1 hjn HN12.out
       have hI1:InX S wr 0 (vr j) (.agg #[.int .i64 2,.string ⟨#[]⟩,.int .i64 ((j:Int)+1),.slice none 0 0]):=⟨AtX.lf,few_lf,smV j⟩
       have hslr:∀k,S k->k<wr.heap.size:=by obtain ⟨_,h9⟩:=HD.out;exact HSL.out _ _ _ wr HS.out h9
       have HA1:=hideR (t_ApplyP HM.out.1 wr HS.out hslr hI1)
       have HI1:=hideR (fun (g:tkT n 0 (vr j)=true)=>hI1.gp g)
       have HGD:=hideR HS.out.gd
       clear hI1 hslr
       go_wp2_with fail
       refine Calls.mono (show Calls _ _ _ _ _ from HA1.out) ?_
       rintro e u2 ⟨va,za,rfl,hs2,hk2,hsaid⟩
       have HW2:=hideR (hk2.bel HW.out (fun k e=>HLO.out k (HSD.out.2.2.1 k e)))
       obtain ⟨pr9,hd2⟩:∃pr,DO S w3.heap.size n h r bs pr u2:=by
        obtain ⟨pr9,h9⟩:=HD.out
        exact ⟨pr9,h9.kv hk2 HAP.out HSD.out.2.2.1⟩
       obtain ⟨k2,x2,n2,r2,rfl,hone2⟩:∃k x n u,va=.agg #[.int .i64 k,.string x,.int .i64 n,u]/\u.oneCell'=true:=by
        rcases hsaid with ⟨_,_,h1⟩|⟨_,_,_,h1⟩|⟨_,_,_,h1⟩
        ·exact ⟨_,_,_,_,h1,rfl⟩
        ·exact ⟨_,_,_,_,h1,rfl⟩
        ·exact h1.val
       obtain ⟨W4,hW4⟩:∃W4,W4=u2.alloc (.cells #[.int .i64 0,.string ⟨#[]⟩,.int .i64 0,.slice none 0 0] 34):=⟨_,rfl⟩
       have hb4:Below u2.heap.size u2 W4:=by rw [hW4];exact new_on' _ _
       have hx4:W4.heap[u2.heap.size]?=some (.cells #[.int .i64 0,.string ⟨#[]⟩,.int .i64 0,.slice none 0 0] 34 (0,0)):=by rw [hW4];exact heap_alloc_new u2 _
       obtain ⟨W5,hW5,hth5,hbk5,hbl5,hne5⟩:=put4 (w:=u2) (z:=#[.int .i64 0,.string ⟨#[]⟩,.int .i64 0,.slice none 0 0]) (vs:=#[.int .i64 k2,.string x2,.int .i64 n2,r2]) rfl hx4 hb4 (Nat.le_refl _)
       have HT5:=hideR hth5;have HW5:=hideR hW5;have HX5:=hideR hbk5
       have HB5:=hideR (below_go HW2.out hbl5)
       have HL5:=hideR hbl5
       have HAD:=hideR (t_dApply HM.out.1 W5 (hd2.bel hbl5) (⟨AtX.lf,few_lf,smV j⟩:InX S W5 0 (vr j) (.agg #[.int .i64 2,.string ⟨#[]⟩,.int .i64 ((j:Int)+1),.slice none 0 0])))
       have HSP:=hideR hsaid
       have HS5:=hideR (hs2.bel hbl5)
       have HD5:=hideR (hd2.bel hbl5)
       clear hk2 hsaid hs2 hd2 hb4 hx4 hth5 hbk5 hbl5 hne5 hW5 HA1 HS HD HW HW2
       go_upto_region 14 with (first|(rw [<- hW4];refine wpList_store_mid rfl 34 (.tmp 10) (.tmp 71) rfl u2.heap.size 0 #[.int .i64 k2,.string x2,.int .i64 n2,r2] rfl rfl HT5.out sizeTy' (by simp [Value.oneCell'] at hone2 ⊢;exact hone2) ?_;rw [HW5.out])|fail)
       clear hW4 HT5 HW5
       go_wp2_with fail
       refine Calls.mono (show Calls _ _ _ _ _ from HAD.out) ?_
       rintro e u6 ⟨hb6,vb,zb,rfl,hsd⟩
       obtain ⟨k4,x4,n4,r4,rfl,hone4⟩:∃k x n u,vb=.agg #[.int .i64 k,.string x,.int .i64 n,u]/\u.oneCell'=true:=by
        rcases hsd with ⟨_,_,h1⟩|⟨_,_,_,h1⟩|⟨_,_,_,h1⟩
        ·exact ⟨_,_,_,_,h1,rfl⟩
        ·exact ⟨_,_,_,_,h1,rfl⟩
        ·exact h1.val
       obtain ⟨W6,hW6⟩:∃W6,W6=u6.alloc (.cells #[.int .i64 0,.string ⟨#[]⟩,.int .i64 0,.slice none 0 0] 34):=⟨_,rfl⟩
       have hb7:Below u6.heap.size u6 W6:=by rw [hW6];exact new_on' _ _
       have hx6:W6.heap[u6.heap.size]?=some (.cells #[.int .i64 0,.string ⟨#[]⟩,.int .i64 0,.slice none 0 0] 34 (0,0)):=by rw [hW6];exact heap_alloc_new u6 _
       obtain ⟨W7,hW7,hth7,hbk7,hbl7,hne7⟩:=put4 (w:=u6) (z:=#[.int .i64 0,.string ⟨#[]⟩,.int .i64 0,.slice none 0 0]) (vs:=#[.int .i64 k4,.string x4,.int .i64 n4,r4]) rfl hx6 hb7 (Nat.le_refl _)
       obtain ⟨hz,X,dd,hV2,hV4⟩:=ap_both (W7:=W7) HGD.out few_lf (Nat.le_refl 0) HI1.out HSP.out hsd (below_go HL5.out (below_go hb6 hbl7)) hbl7
       subst hz
       have q4:(za != za)=false:=by simp
       have hb57:=below_go hb6 hbl7
       have HT7:=hideR hth7;have HW7:=hideR hW7
       have HB7:=hideR (below_go HB5.out hb57)
       have HS7:=hideR (HS5.out.bel hb57)
       have HD7:Hid (∃pr,DO S w3.heap.size n h r bs pr W7):=hideR ⟨_,HD5.out.bel hb57⟩
       have hxu:=(hb57.block _ (Array.getElem?_eq_some_iff.1 HX5.out).1).trans HX5.out
       have c0:=put_cell hxu 0 _ rfl
       have c1:=put_cell hxu 1 _ rfl
       have c2:=put_cell hxu 2 _ rfl
       have c3:=put_cell hxu 3 _ rfl
       have b0:=put_cell hbk7 0 _ rfl
       have b1:=put_cell hbk7 1 _ rfl
       have b2:=put_cell hbk7 2 _ rfl
       have b3:=put_cell hbk7 3 _ rfl
       have HSM7:=hideR (t_dSame0 hV2 hV4)
       clear hb6 hsd hb7 hx6 hth7 hbk7 hbl7 hne7 hW7 hV2 hV4 hb57 hxu HSP HAD HGD HX5 HL5 HB5 HS5 HD5 HI1
       go_upto_region 15 with (first|(rw [<- hW6];refine wpList_store_mid rfl 34 (.tmp 12) (.tmp 78) rfl u6.heap.size 0 #[.int .i64 k4,.string x4,.int .i64 n4,r4] rfl rfl HT7.out sizeTy' (by simp [Value.oneCell'] at hone4 ⊢;exact hone4) ?_;rw [HW7.out])|fail)
       clear hW6 HT7 HW7
       go_wp2_with fail
       refine Calls.mono (show Calls _ _ _ _ _ from HSM7.out) ?_
       rintro e w9 ⟨rfl,hb9⟩
       have HS9:=hideR (HS7.out.bel hb9)
       have HD9:Hid (∃pr,DO S w3.heap.size n h r bs pr w9):=hideR (by obtain ⟨pr8,h9⟩:=HD7.out;exact ⟨pr8,h9.bel hb9⟩)
       have HW9:=hideR (below_go HB7.out hb9)
       clear hb9 HSM7 HS7 HD7 HB7 c0 c1 c2 c3 b0 b1 b2 b3
       go_wp2
       go_roundw
       case rel=>exact ⟨j+1,by first|rfl|(congr 1),hjn,HS9,HD9,HW9⟩
       case measure=>(first|rw [hw2]|skip);simp;omega
      ·have q1:decide ((j:Int)+1<=(n:Int))=false:=decide_eq_false (by omega)
       obtain ⟨ls,hls,hsv⟩:=HS.out.sv
       have HVV:=hideR (by have h:=t_Vars hsv;rw [hls] at h;exact h)
       clear hls hsv
       go_wp2_with fail
       refine Calls.mono (show Calls _ _ _ _ _ from HVV.out) ?_
       rintro e u2 ⟨rfl,hb2⟩
       have HB2:=hideR (below_go HW.out hb2)
       have HWK:=hideR (wakesC u2)
       clear hb2 HVV HW
       go_wp2_with fail
       refine Calls.mono (show Calls _ _ _ _ _ from HWK.out) ?_
       rintro e u3 ⟨rfl,hb3⟩
       have HB3:=hideR (below_go HB2.out hb3)
       clear hb3 HWK
       go_wp2
       go_ret
       exact ⟨rfl,HB3.out⟩
    ·have q1:decide ((i:Int)<(l.length:Int))=false:=decide_eq_false (by omega)
     clear HE
     have HS0:=HS;have HD0:=HD;have HW0:=HW
     clear HS HD HW
     go_wp2_with fail
     go_loopw [9] (fun aa wr=>∃j:Nat,aa=.int .i64 ((j:Int)+1)/\j<=n/\Hid (SO S w3.heap.size n h p vs wr)/\Hid (∃pr,DO S w3.heap.size n h r bs pr wr)/\Hid (Below w.heap.size w wr)) (fun aa _=>match aa with | .int _ i=>n+1-i.toNat|_=>0)
     case atStart=>exact ⟨0,rfl,Nat.zero_le _,HS0,HD0,HW0⟩
     case round =>
      obtain ⟨j,rfl,hj,HS,HD,HW⟩:=hrel
      clear HS0 HD0 HW0
      by_cases hjn:j<n
      ·have q1:decide ((j:Int)+1<=(n:Int))=true:=decide_eq_true (by omega)
       have hw2:=inc1 hjn HN12.out
       have hI1:InX S wr 0 (vr j) (.agg #[.int .i64 2,.string ⟨#[]⟩,.int .i64 ((j:Int)+1),.slice none 0 0]):=⟨AtX.lf,few_lf,smV j⟩
       have hslr:∀k,S k->k<wr.heap.size:=by obtain ⟨_,h9⟩:=HD.out;exact HSL.out _ _ _ wr HS.out h9
       have HA1:=hideR (t_ApplyP HM.out.1 wr HS.out hslr hI1)
       have HI1:=hideR (fun (g:tkT n 0 (vr j)=true)=>hI1.gp g)
       have HGD:=hideR HS.out.gd
       clear hI1 hslr
       go_wp2_with fail
       refine Calls.mono (show Calls _ _ _ _ _ from HA1.out) ?_
       rintro e u2 ⟨va,za,rfl,hs2,hk2,hsaid⟩
       have HW2:=hideR (hk2.bel HW.out (fun k e=>HLO.out k (HSD.out.2.2.1 k e)))
       obtain ⟨pr9,hd2⟩:∃pr,DO S w3.heap.size n h r bs pr u2:=by
        obtain ⟨pr9,h9⟩:=HD.out
        exact ⟨pr9,h9.kv hk2 HAP.out HSD.out.2.2.1⟩
       obtain ⟨k2,x2,n2,r2,rfl,hone2⟩:∃k x n u,va=.agg #[.int .i64 k,.string x,.int .i64 n,u]/\u.oneCell'=true:=by
        rcases hsaid with ⟨_,_,h1⟩|⟨_,_,_,h1⟩|⟨_,_,_,h1⟩
        ·exact ⟨_,_,_,_,h1,rfl⟩
        ·exact ⟨_,_,_,_,h1,rfl⟩
        ·exact h1.val
       obtain ⟨W4,hW4⟩:∃W4,W4=u2.alloc (.cells #[.int .i64 0,.string ⟨#[]⟩,.int .i64 0,.slice none 0 0] 34):=⟨_,rfl⟩
       have hb4:Below u2.heap.size u2 W4:=by rw [hW4];exact new_on' _ _
       have hx4:W4.heap[u2.heap.size]?=some (.cells #[.int .i64 0,.string ⟨#[]⟩,.int .i64 0,.slice none 0 0] 34 (0,0)):=by rw [hW4];exact heap_alloc_new u2 _
       obtain ⟨W5,hW5,hth5,hbk5,hbl5,hne5⟩:=put4 (w:=u2) (z:=#[.int .i64 0,.string ⟨#[]⟩,.int .i64 0,.slice none 0 0]) (vs:=#[.int .i64 k2,.string x2,.int .i64 n2,r2]) rfl hx4 hb4 (Nat.le_refl _)
       have HT5:=hideR hth5;have HW5:=hideR hW5;have HX5:=hideR hbk5
       have HB5:=hideR (below_go HW2.out hbl5)
       have HL5:=hideR hbl5
       have HAD:=hideR (t_dApply HM.out.1 W5 (hd2.bel hbl5) (⟨AtX.lf,few_lf,smV j⟩:InX S W5 0 (vr j) (.agg #[.int .i64 2,.string ⟨#[]⟩,.int .i64 ((j:Int)+1),.slice none 0 0])))
       have HSP:=hideR hsaid
       have HS5:=hideR (hs2.bel hbl5)
       have HD5:=hideR (hd2.bel hbl5)
       clear hk2 hsaid hs2 hd2 hb4 hx4 hth5 hbk5 hbl5 hne5 hW5 HA1 HS HD HW HW2
       go_upto_region 14 with (first|(rw [<- hW4];refine wpList_store_mid rfl 34 (.tmp 10) (.tmp 71) rfl u2.heap.size 0 #[.int .i64 k2,.string x2,.int .i64 n2,r2] rfl rfl HT5.out sizeTy' (by simp [Value.oneCell'] at hone2 ⊢;exact hone2) ?_;rw [HW5.out])|fail)
       clear hW4 HT5 HW5
       go_wp2_with fail
       refine Calls.mono (show Calls _ _ _ _ _ from HAD.out) ?_
       rintro e u6 ⟨hb6,vb,zb,rfl,hsd⟩
       obtain ⟨k4,x4,n4,r4,rfl,hone4⟩:∃k x n u,vb=.agg #[.int .i64 k,.string x,.int .i64 n,u]/\u.oneCell'=true:=by
        rcases hsd with ⟨_,_,h1⟩|⟨_,_,_,h1⟩|⟨_,_,_,h1⟩
        ·exact ⟨_,_,_,_,h1,rfl⟩
        ·exact ⟨_,_,_,_,h1,rfl⟩
        ·exact h1.val
       obtain ⟨W6,hW6⟩:∃W6,W6=u6.alloc (.cells #[.int .i64 0,.string ⟨#[]⟩,.int .i64 0,.slice none 0 0] 34):=⟨_,rfl⟩
       have hb7:Below u6.heap.size u6 W6:=by rw [hW6];exact new_on' _ _
       have hx6:W6.heap[u6.heap.size]?=some (.cells #[.int .i64 0,.string ⟨#[]⟩,.int .i64 0,.slice none 0 0] 34 (0,0)):=by rw [hW6];exact heap_alloc_new u6 _
       obtain ⟨W7,hW7,hth7,hbk7,hbl7,hne7⟩:=put4 (w:=u6) (z:=#[.int .i64 0,.string ⟨#[]⟩,.int .i64 0,.slice none 0 0]) (vs:=#[.int .i64 k4,.string x4,.int .i64 n4,r4]) rfl hx6 hb7 (Nat.le_refl _)
       obtain ⟨hz,X,dd,hV2,hV4⟩:=ap_both (W7:=W7) HGD.out few_lf (Nat.le_refl 0) HI1.out HSP.out hsd (below_go HL5.out (below_go hb6 hbl7)) hbl7
       subst hz
       have q4:(za != za)=false:=by simp
       have hb57:=below_go hb6 hbl7
       have HT7:=hideR hth7;have HW7:=hideR hW7
       have HB7:=hideR (below_go HB5.out hb57)
       have HS7:=hideR (HS5.out.bel hb57)
       have HD7:Hid (∃pr,DO S w3.heap.size n h r bs pr W7):=hideR ⟨_,HD5.out.bel hb57⟩
       have hxu:=(hb57.block _ (Array.getElem?_eq_some_iff.1 HX5.out).1).trans HX5.out
       have c0:=put_cell hxu 0 _ rfl
       have c1:=put_cell hxu 1 _ rfl
       have c2:=put_cell hxu 2 _ rfl
       have c3:=put_cell hxu 3 _ rfl
       have b0:=put_cell hbk7 0 _ rfl
       have b1:=put_cell hbk7 1 _ rfl
       have b2:=put_cell hbk7 2 _ rfl
       have b3:=put_cell hbk7 3 _ rfl
       have HSM7:=hideR (t_dSame0 hV2 hV4)
       clear hb6 hsd hb7 hx6 hth7 hbk7 hbl7 hne7 hW7 hV2 hV4 hb57 hxu HSP HAD HGD HX5 HL5 HB5 HS5 HD5 HI1
       go_upto_region 15 with (first|(rw [<- hW6];refine wpList_store_mid rfl 34 (.tmp 12) (.tmp 78) rfl u6.heap.size 0 #[.int .i64 k4,.string x4,.int .i64 n4,r4] rfl rfl HT7.out sizeTy' (by simp [Value.oneCell'] at hone4 ⊢;exact hone4) ?_;rw [HW7.out])|fail)
       clear hW6 HT7 HW7
       go_wp2_with fail
       refine Calls.mono (show Calls _ _ _ _ _ from HSM7.out) ?_
       rintro e w9 ⟨rfl,hb9⟩
       have HS9:=hideR (HS7.out.bel hb9)
       have HD9:Hid (∃pr,DO S w3.heap.size n h r bs pr w9):=hideR (by obtain ⟨pr8,h9⟩:=HD7.out;exact ⟨pr8,h9.bel hb9⟩)
       have HW9:=hideR (below_go HB7.out hb9)
       clear hb9 HSM7 HS7 HD7 HB7 c0 c1 c2 c3 b0 b1 b2 b3
       go_wp2
       go_roundw
       case rel=>exact ⟨j+1,by first|rfl|(congr 1),hjn,HS9,HD9,HW9⟩
       case measure=>(first|rw [hw2]|skip);simp;omega
      ·have q1:decide ((j:Int)+1<=(n:Int))=false:=decide_eq_false (by omega)
       obtain ⟨ls,hls,hsv⟩:=HS.out.sv
       have HVV:=hideR (by have h:=t_Vars hsv;rw [hls] at h;exact h)
       clear hls hsv
       go_wp2_with fail
       refine Calls.mono (show Calls _ _ _ _ _ from HVV.out) ?_
       rintro e u2 ⟨rfl,hb2⟩
       have HB2:=hideR (below_go HW.out hb2)
       have HWK:=hideR (wakesC u2)
       clear hb2 HVV HW
       go_wp2_with fail
       refine Calls.mono (show Calls _ _ _ _ _ from HWK.out) ?_
       rintro e u3 ⟨rfl,hb3⟩
       have HB3:=hideR (below_go HB2.out hb3)
       clear hb3 HWK
       go_wp2
       go_ret
       exact ⟨rfl,HB3.out⟩
namespace Ty
end Ty
namespace Ty
section Of
variable {H:Type} {enc:TypeId × Value->H} {w:World} {base:Nat} {spare:Nat->Bool} {held:Bool} {P:Program}
theorem weightsAll_mem {e:TypeId}:∀ {l:List (DataW H)} {d:DataW H},d ∈ l->∀n ∈ d.weights P e,n ∈ DataW.weightsAll P e l
 | d0 :: l,d,hd,n,hn=>by
  unfold DataW.weightsAll
  rw [List.mem_append]
  rcases List.mem_cons.1 hd with h|h
  ·subst h;exact .inl hn
  ·exact .inr (weightsAll_mem h n hn)
theorem row_of_trodW {α:Type} {t e:TypeId} {v:Value} {x:DataW H × List MemPlace} {fuel:Nat} (c:Nat) (hc:0<c) (f:Nat->Nat->α->Prop) (ht:P.underlying t=some (.slice e)) (hce:P.cellsOf e=c)
  (h:DataW.trod enc P w base spare held fuel t [v]=some x) (hw:∀n ∈ x.1.weights P t,n<=reachBytes)
  (hel:∀n cs y b o,fuel=n+1->DataW.trod enc P w base spare held n e cs=some y->(∀n ∈ y.1.weights P e,n<=reachBytes)->cs.length=c->(∀j,j<c->w.cell? ⟨b,o+j,none⟩=cs[j]?)->∃z,f b o z) :
  ∃l,Row c f v l:=by
 rcases DataW.trod_slice ht h with ⟨hv,_⟩|⟨a,len,cap,elems,rest,n,hfu,hv,hxx,_,hlc,hcm,hlen,hget,_,_⟩
 ·obtain rfl:v=.slice none 0 0:=by simpa using hv
  exact ⟨[],by simp,.inl ⟨rfl,none,0,rfl⟩⟩
 ·obtain rfl:v=.slice (some a) len cap:=by simpa using hv
  have hwe:∀y ∈ elems,∀n ∈ y.1.weights P e,n<=reachBytes:=fun y hy n hn=>hw n (by
   rw [hxx]
   simp only [DataW.weights,ht]
   exact List.mem_cons_of_mem _ (List.mem_append_left _ (weightsAll_mem (List.mem_map_of_mem hy) n hn)))
  by_cases h0:len=0
  ·subst h0
   exact ⟨[],by simp,.inl ⟨rfl,_,_,rfl⟩⟩
  ·have hbind:∀i,i<len->∃cs y,w.cells? base (a.add (i*c)) c=some cs/\DataW.trod enc P w base spare held n e cs=some y/\y ∈ elems:=fun i hi=>by
    have hg:=hget i hi
    rw [hce] at hg
    obtain ⟨y,hy⟩:∃y,elems[i]?=some y:=⟨_,List.getElem?_eq_getElem (by omega)⟩
    rw [hy] at hg
    obtain ⟨cs,h1,h2⟩:=Option.bind_eq_some_iff.1 hg
    exact ⟨cs,y,h1,h2,List.mem_of_getElem? hy⟩
   have hsp:a.spot=none:=by
    obtain ⟨cs,y,h1,h2,_⟩:=hbind 0 (by omega)
    obtain ⟨_,hl,hcell⟩:=World.cells?_some h1
    have h3:=hcell 0 hc
    rw [Nat.zero_mul] at h3
    have:cs[0]?=some (cs[0]'(by omega)):=List.getElem?_eq_getElem (by omega)
    rw [this] at h3
    have:=spot_none h3
    simpa [Addr.add] using this
   obtain ⟨b,off,sp⟩:=a
   simp only at hsp
   subst hsp
   obtain ⟨l,hl,hf⟩:=choose_list len (fun i z=>f b (off+i*c) z) fun i hi=>by
    obtain ⟨cs,y,h1,h2,hy⟩:=hbind i hi
    obtain ⟨_,hl,hcell⟩:=World.cells?_some h1
    refine hel n cs y b (off+i*c) hfu h2 (hwe y hy) hl fun j hj=>?_
    have:=hcell j hj
    rw [add_addr,add_addr] at this
    exact this
   subst hl
   exact ⟨l,by unfold maxLen at hcm;omega,.inr ⟨b,off,cap,rfl,hf⟩⟩
theorem str_fieldW {t:TypeId} {n:Nat} {cs:List Value} {o:Nat} {y:DataW H × List MemPlace} (ht:P.underlying t=some .string) (hc:P.cellsOf t=1) (h:DataW.trod enc P w base spare held n t ((cs.drop o).take (P.cellsOf t))=some y):∃z:ByteArray,cs[o]?=some (.string z)/\y=(.lit (.string z.data.toList),[]):=by
 rw [hc] at h
 obtain ⟨z,h1,h2,_⟩:=DataW.trod_string ht h
 exact ⟨z,take_one h1,h2⟩
theorem reach48 {n:Nat} (h:n<=reachBytes):n<=281474976710656:=by have:=reachBytes_lt;omega
theorem tyC_ofW {n d:Nat} {cs:List Value} {y:DataW H × List MemPlace} (hy:DataW.trod enc Try.prog w base spare held n 34 cs=some y) (hw:∀k ∈ y.1.weights Try.prog 34,k<=reachBytes)
  (ih:∀m v x,n=m+1->DataW.trod enc Try.prog w base spare held m 32 [v]=some x->(∀k ∈ x.1.weights Try.prog 32,k<=reachBytes)->∃l,Row 4 (fun b o t=>TyC 0 w d b o t/\∀e,smT e t) v l):∃k x n es v t,t=nd k x e0 n es [] 0/\cs[0]?=some (.int .i64 k)/\cs[1]?=some (.string x)/\cs[2]?=some (.int .i64 n)/\cs[3]?=some v/\Row 4 (TyC 0 w d) v es/\∀e,smT e t:=by
 obtain ⟨xs,m,hn,hyx,_,hxl,hall⟩:=DataW.trod_struct Try.underlying34 hy
 have hx1:=hall 1 _ rfl
 have hx3:=hall 3 _ rfl
 obtain ⟨y0,g0⟩:=field_get hxl hall 0 _ rfl
 obtain ⟨y1,g1⟩:=field_get hxl hall 1 _ rfl
 obtain ⟨y2,g2⟩:=field_get hxl hall 2 _ rfl
 obtain ⟨y3,g3⟩:=field_get hxl hall 3 _ rfl
 rw [g1] at hx1
 rw [g3] at hx3
 obtain ⟨z0,e0',_⟩:=int_field Try.underlying3 cInt g0
 obtain ⟨z1,e1,hy1⟩:=str_fieldW Try.underlying9 cStr g1
 obtain ⟨z2,e2,_⟩:=int_field Try.underlying3 cInt g2
 obtain ⟨v3,e3,t3⟩:=slice_field Try.underlying32 cTyps g3
 have hmem:∀(j:Nat) (tt:TypeId) (yy:DataW H × List MemPlace),xs[j]?=some yy->([3,9,3,32]:List TypeId)[j]?=some tt->∀k ∈ yy.1.weights Try.prog tt,k<=reachBytes:=fun j tt yy hj htt k hk=>hw k (by
  rw [hyx]
  simp only [DataW.weights,Try.underlying34]
  exact DataW.weights_mem_each (j:=j) htt (by rw [List.getElem?_map,hj];rfl) k hk)
 have hw3:=hmem 3 _ y3 hx3.symm rfl
 obtain ⟨l3,h3⟩:=ih m v3 _ hn t3 hw3
 have hsz:z1.size<=281474976710656:=by
  have:=hmem 1 _ y1 hx1.symm rfl z1.data.toList.length (by rw [hy1];simp [DataW.weights])
  exact reach48 (by simpa using this)
 exact ⟨z0,z1,z2,l3,v3,_,rfl,e0',e1,e2,e3,h3.imp fun b o t _ h=>h.1,smT_nd hsz fun z hz=>row_mem h3 z hz⟩
theorem tys_ofW (fuel:Nat):∀(d:Nat) (v:Value) (x:DataW H × List MemPlace),fuel<=d->DataW.trod enc Try.prog w base spare held fuel 32 [v]=some x->(∀k ∈ x.1.weights Try.prog 32,k<=reachBytes)->∃l,Row 4 (fun b o t=>TyC 0 w d b o t/\∀e,smT e t) v l:=by
 induction fuel using Nat.strongRecOn with
 | _ fuel ih =>
  intro d v x hd h hw
  cases d with
  | zero =>
   obtain rfl:fuel=0:=by omega
   simp [DataW.trod] at h
  | succ d =>
   exact row_of_trodW 4 (by omega) (fun b o t=>TyC 0 w (d+1) b o t/\∀e,smT e t) Try.underlying32 cTyp h hw fun n cs y b o hn hy hwy _ hc=>by
    obtain ⟨k,x,n',es,v',t,ht,h0,h1,h2,h3,h4,h5⟩:=tyC_ofW (d:=d) hy hwy fun m' v x hm hx hwx=>ih m' (by omega) d v x (by omega) hx hwx
    exact ⟨t,⟨Nat.zero_le _,k,x,n',es,v',ht,(hc 0 (by omega)).trans h0,(hc 1 (by omega)).trans h1,(hc 2 (by omega)).trans h2,(hc 3 (by omega)).trans h3,h4⟩,h5⟩
theorem cPair:Try.prog.cellsOf 37=8:=by kernel_rfl
theorem prs_ofW (fuel d:Nat) (v:Value) (x:DataW H × List MemPlace) (hd:fuel<=d) (h:DataW.trod enc Try.prog w base spare held fuel 22 [v]=some x) (hw:∀k ∈ x.1.weights Try.prog 22,k<=reachBytes):∃l,Row 8 (fun b o z=>PrC w d b o z/\(∀e,smT e z.1)/\∀e,smT e z.2) v l:=by
 refine row_of_trodW 8 (by omega) (fun b o z=>PrC w d b o z/\(∀e,smT e z.1)/\∀e,smT e z.2) Try.underlying22 cPair h hw fun n cs y b o hn hy hwy _ hc=>?_
 obtain ⟨xs,m,hn2,hyx,_,hxl,hall⟩:=DataW.trod_struct Try.underlying37 hy
 have hx0:=hall 0 _ rfl
 have hx1:=hall 1 _ rfl
 obtain ⟨y0,g0⟩:=field_get hxl hall 0 _ rfl
 obtain ⟨y1,g1⟩:=field_get hxl hall 1 _ rfl
 rw [g0] at hx0
 rw [g1] at hx1
 have hmem:∀(j:Nat) (tt:TypeId) (yy:DataW H × List MemPlace),xs[j]?=some yy->([34,34]:List TypeId)[j]?=some tt->∀k ∈ yy.1.weights Try.prog tt,k<=reachBytes:=fun j tt yy hj htt k hk=>hwy k (by
  rw [hyx]
  simp only [DataW.weights,Try.underlying37]
  exact DataW.weights_mem_each (j:=j) htt (by rw [List.getElem?_map,hj];rfl) k hk)
 obtain ⟨k,x,n',es,v',t,ht,h0,h1,h2,h3,h4,h5⟩:=tyC_ofW (d:=d) g0 (hmem 0 _ y0 hx0.symm rfl) fun m' v x hm hx hwx=>tys_ofW m' d v x (by omega) hx hwx
 obtain ⟨k2,x2,n2,es2,v2,t2,ht2,l0,l1,l2,l3,l4,l5⟩:=tyC_ofW (d:=d) g1 (hmem 1 _ y1 hx1.symm rfl) fun m' v x hm hx hwx=>tys_ofW m' d v x (by omega) hx hwx
 have cut:∀(o' j:Nat),j<4->((cs.drop o').take (Try.prog.cellsOf 34))[j]?=cs[o'+j]?:=fun o' j hj=>by
  rw [cTyp,List.getElem?_take_of_lt hj,List.getElem?_drop]
 have a0:=(cut 0 0 (by omega)).symm.trans h0
 have a1:=(cut 0 1 (by omega)).symm.trans h1
 have a2:=(cut 0 2 (by omega)).symm.trans h2
 have a3:=(cut 0 3 (by omega)).symm.trans h3
 have b0:=(cut 4 0 (by omega)).symm.trans l0
 have b1:=(cut 4 1 (by omega)).symm.trans l1
 have b2:=(cut 4 2 (by omega)).symm.trans l2
 have b3:=(cut 4 3 (by omega)).symm.trans l3
 exact ⟨(t,t2),⟨⟨Nat.zero_le _,k,x,n',es,v',ht,(hc 0 (by omega)).trans a0,(hc 1 (by omega)).trans a1,(hc 2 (by omega)).trans a2,(hc 3 (by omega)).trans a3,h4⟩,⟨Nat.zero_le _,k2,x2,n2,es2,v2,ht2,(hc 4 (by omega)).trans b0,(hc 5 (by omega)).trans b1,(hc 6 (by omega)).trans b2,(hc 7 (by omega)).trans b3,l4⟩⟩,h5,l5⟩
end Of
end Ty
end Go.Proofs.Ytkflfohoinbenaa
