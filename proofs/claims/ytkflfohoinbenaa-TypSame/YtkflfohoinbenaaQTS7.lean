/- Texts that the claim needs. -/
import Derived.Test.YtkflfohoinbenaaQTS6
namespace Go.Proofs.Ytkflfohoinbenaa
open Go.RowKit Lx Pz Rep Ty
set_option linter.unusedVariables false
set_option maxRecDepth 100000
set_option maxHeartbeats 8000000
namespace Ty
def btT (h:Nat->Value):Nat->Value->Value
 | 0,t=>t
 | e+1,t=>nd (kindV (endT h t)) (namT (endT h t)) e0 (numT (endT h t)) ((argsV (endT h t)).map (btT h e)) [] 0
def exT (h:Nat->Value):Nat->Value->Prop
 | 0,_=>False
 | e+1,t=>∀a ∈ argsV (endT h t),exT h e a
theorem cells_size (g:Nat):∀(vs:List Value) (o:Nat) (w:World),(w.setCells g o vs).heap.size=w.heap.size
 | [],_,_=>rfl
 | v :: r,o,w=>by rw [World.setCells,cells_size g r];simp
theorem Kv.cells {vl:Value} {w u:World} (h:Kv vl w u) {g:Nat} (hg:w.heap.size<=g) (o:Nat) (vs:List Value):Kv vl w (u.setCells g o vs):=by
 have hcb:=cells_below g g (Nat.le_refl _) vs o u u (Below.refl _ _)
 exact ⟨hcb.os.trans h.os,hcb.tape.trans h.tape,hcb.output.trans h.output,Nat.le_trans h.size hcb.size,fun k hk hn=>(cells_ne g k (by omega) _ o u).trans (h.block k hk hn)⟩
theorem put4v {vl:Value} {w u:World} {q:Nat} {z vs:Array Value} (hz:z.size=vs.size) (hq:u.heap[q]?=some (.cells z 34 (0,0))) (hb:Kv vl w u) (hw:w.heap.size<=q) :
  ∃W,u.setCells q 0 vs.toList=W/\u.there q 0 vs.size/\W.heap[q]?=some (.cells vs 34 (0,0))/\Kv vl w W/\∀k,k≠q->W.heap[k]?=u.heap[k]?:=by
 have hcb:=cells_below q q (Nat.le_refl _) vs.toList 0 u u (Below.refl _ _)
 exact ⟨_,rfl,by have:=put_there hq;rw [hz] at this;exact this,put_heap hq hz,⟨hcb.os.trans hb.os,hcb.tape.trans hb.tape,hcb.output.trans hb.output,Nat.le_trans hb.size hcb.size,fun k hk hn=>(cells_ne q k (by omega) _ 0 u).trans (hb.block k hk hn)⟩,fun k hk=>cells_ne q k hk _ 0 u⟩
theorem Kv.put {vl:Value} {w u:World} (h:Kv vl w u) {g:Nat} (hg:w.heap.size<=g) (o:Nat) (v:Value):Kv vl w (u.setCell ⟨g,o,none⟩ v):=⟨h.os,h.tape,h.output,Nat.le_trans h.size (by simp),fun k hk hn=>(Below.heap_setCell _ _ _ _ (by show k≠g;omega)).trans (h.block k hk hn)⟩
theorem Kv.abv {vl:Value} {w u:World} (h:Kv vl w u) {C:Nat} (hC:∀k,vl.ownBlock=some k->k<C):Abv C w u:=fun k hk hl=>h.block k hl (fun e=>by have:=hC k e;omega)
theorem Don.abv {e i:Nat} {es:List Value} {u u':World} (h:Don e i es u) (hb:Abv e u u'):Don e i es u':=by
 obtain ⟨cur,h1,h2,h3⟩:=h
 exact ⟨cur,(hb e (Nat.le_refl _) (Array.getElem?_eq_some_iff.1 h1).1).trans h1,h2,fun j t hj ht=>by
  obtain ⟨cs,a,b,c⟩:=h3 j t hj ht
  exact ⟨cs,a,b.on (fun k hk hl=>hb k (by omega) hl) (Nat.le_refl _),c⟩⟩
theorem SO.other {S:Nat->Prop} {B n p K:Nat} {h:Nat->Value} {vs:Value} {w w':World} (H:SO S B n h p vs w) (hne:∀k,k≠K->w'.heap[k]?=w.heap[k]?) (hK:S K) (hp:K≠p) (hq:vs.ownBlock≠some K) (hs:w.heap.size<=w'.heap.size):SO S B n h p vs w':=by
 obtain ⟨h0,ls,rk,h1,h2⟩:=H
 refine ⟨h0,ls,rk,?_,h2.on (fun k hk hl=>hne k (fun e=>hk (e ▸ hK))) fun _ _ h=>h⟩
 obtain ⟨xs,⟨hl,h3⟩,h4⟩:=h1.row
 refine ⟨(hne p (Ne.symm hp)).trans h1.blk,⟨xs,⟨hl,h3.imp id ?_⟩,h4⟩,h1.few,h1.apart⟩
 rintro ⟨g,cap,cur,rfl,hB,hg,hr⟩
 exact ⟨g,cap,cur,rfl,hB,(hne g (fun e=>hq (by rw [e];rfl))).trans hg,hr⟩
end Ty
set_option maxRecDepth 100000 in
set_option maxHeartbeats 16000000 in
theorem t_builtE {f:Bool} {B p n:Nat} {h:Nat->Value} {vs:Value}:∀(e:Nat) (S:Nat->Prop) (w:World) (t:Value) (b o:Nat),SO S B n h p vs w->(∀k,S k->k<w.heap.size)->TyE f S w n b o t->exT h e t->Calls Try.prog 35 #[.pointer (some ⟨b,o,none⟩),.func (.func 42) #[.pointer (some ⟨p,0,none⟩)] #[]] w fun r w'=>∃v',r=.returned v'/\tyU w.heap.size (btT h e t) v' w'/\SO S B n h p vs w'/\Kv vs w w':=by
 intro e
 induction e with
 | zero=>intro S w t b o _ _ _ hx;exact hx.elim
 | succ e ih =>
  intro S w t b o hS hSl hT hx
  obtain ⟨RT,hRT⟩:∃RT,RT=btT h (e+1) t:=⟨_,rfl⟩
  rw [<- hRT]
  have HRT:Hid (RT=nd (kindV (endT h t)) (namT (endT h t)) e0 (numT (endT h t)) ((argsV (endT h t)).map (btT h e)) [] 0):=hideR hRT
  clear hRT
  obtain ⟨q,hq⟩:∃q,q=w.heap.size:=⟨_,rfl⟩
  obtain ⟨W,hW⟩:∃W,W=w.alloc (.cells #[.int .i64 0,.string ⟨#[]⟩,.int .i64 0,.slice none 0 0] 34):=⟨_,rfl⟩
  have hb0:Below w.heap.size w W:=by rw [hW];exact new_on' _ _
  have HX0:Hid (W.heap[q]?=some (.cells #[.int .i64 0,.string ⟨#[]⟩,.int .i64 0,.slice none 0 0] 34 (0,0))):=hideR (by rw [hW,hq];exact heap_alloc_new w _)
  have HB0:=hideR hb0
  have hlt:=hS.lt
  have hgr:∀k,k<w.heap.size->(S k\/k=q)->S k:=fun k hk h=>h.resolve_right (by omega)
  have hS1:SO (fun k=>S k\/k=q) B n h p vs W:=hS.grow hb0 (fun k=>.inl) hgr
  have hT1:TyE f (fun k=>S k\/k=q) W n b o t:=hT.grow hb0 hgr
  have HI:=hideR (t_end hS1 hT1)
  have HQ:=hideR hq
  have HSL:=hideR (And.intro hSl hlt)
  have HS0:=hideR hS.1
  have HIH:=hideR ih
  have HX:=hideR hx
  clear hS hT hS1 hT1 hgr hlt hSl ih hx hq hb0
  go_enter Try.func35,Try.ntmps35
  go_upto_region 1 with fail
  rw [<- hW,<- HQ.out]
  clear hW
  go_wp2_with fail
  refine Calls.mono (show Calls _ _ _ _ _ from HI.out) ?_
  rintro r w1 ⟨bE,oE,rfl,hT1,hid,hS1,hk1⟩
  have hR:=HRT.out
  have hxx:∀a ∈ argsV (endT h t),exT h e a:=HX.out
  clear hid HX HRT
  generalize endT h t=X at *
  obtain ⟨k,x,nn,es,oR,cR,rfl,y0,y1,y2,y3,hle,_⟩:=hT1.ptr
  have hsx:x.size<=281474976710656:=by obtain ⟨d,_,hg⟩:=hT1;exact hg.2.2.1
  have HCL:=hideR (fun (u9:World)=>pClone x u9 hsx)
  have HXX:Hid (∀a ∈ es,exT h e a):=hideR hxx
  have HB1:=hideR ((Kv.of (vs:=vs) HB0.out).trans hk1)
  have HX1:=hideR ((hk1.block q (Array.getElem?_eq_some_iff.1 HX0.out).1 (fun e=>by have:=HSL.out.2.2 q e;have:=HQ.out;omega)).trans HX0.out)
  have HS1:=hideR hS1
  have HT1:=hideR hT1
  obtain ⟨ER,hER⟩:∃ER:List Value,ER=es.map (btT h e):=⟨_,rfl⟩
  have hRR:nd (kindV (nd k x e0 nn es [] 0)) (namT (nd k x e0 nn es [] 0)) e0 (numT (nd k x e0 nn es [] 0)) ((argsV (nd k x e0 nn es [] 0)).map (btT h e)) [] 0=nd k x e0 nn ER [] 0:=by rw [hER];rfl
  have HRT:=hideR (hR.trans hRR)
  have HER:=hideR hER
  have hEl:ER.length=es.length:=by rw [hER];simp
  have HEL:=hideR hEl
  clear hR hRR hER hk1 hS1 hT1 hxx hsx HI HX0 HB0 hEl
  go_upto_region 2 with fail
  obtain ⟨TL,hTL⟩:∃TL:List Value,TL = [.pointer (some ⟨bE,oE,none⟩),.pointer (some ⟨bE,oE,none⟩),.pointer (some ⟨bE,oE,none⟩),.int .i64 k,.pointer (some ⟨bE,oE,none⟩),.pointer (some ⟨bE,oE,none⟩),.pointer (some ⟨bE,oE+1,none⟩),.string x,.string x,.pointer (some ⟨bE,oE,none⟩),.pointer (some ⟨bE,oE,none⟩),.pointer (some ⟨bE,oE+2,none⟩),.int .i64 nn,.agg #[.int .i64 k,.string x,.int .i64 nn,.slice none 0 0]]:=⟨_,rfl⟩
  have HTL:=hideR hTL
  clear hTL
  refine Reg.wp_region_two 15 (fun i=>if i<14 then 11+i else 5) (fun i v u=>if i<14 then v=TL.getD i undef else ∃g,v=.pointer (some ⟨g,0,none⟩)/\w1.heap.size<=g/\u.heap[g]?=some (.cells #[.int .i64 0,.string ⟨#[]⟩,.int .i64 0,.slice none 0 0] 34 (0,0))) (by kernel_rfl) (by kernel_rfl) (fun i j h1 h2 h=>by have h':(if i<14 then 11+i else 5)=(if j<14 then 11+j else 5):=h;split at h'<;>split at h'<;>omega) (Reg.dst_ok (dst:=fun i=>if i<14 then 11+i else 5) (size:=57) (by kernel_rfl)) (fun i v w w' _ h hb=>by
   split at h
   ·rename_i hi;rw [if_pos hi];exact h
   ·rename_i hi
    rw [if_neg hi]
    obtain ⟨g,h1,h2,h3⟩:=h
    exact ⟨g,h1,h2,(hb.block g (Array.getElem?_eq_some_iff.1 h3).1).trans h3⟩) ?hstep ?htail
  case hstep =>
   intro i o' a u9 hi ho hF hB hd
   have f0:a.tmps[0]?.getD undef=.pointer (some ⟨bE,oE,none⟩):=Reg.ev_get (hF.eval 0 (fun i hi=>by show (if i<14 then 11+i else 5)≠0;split<;>omega))
   have y0:=cell_on hB y0
   have y1:=cell_on hB y1
   have y2:=cell_on hB y2
   have HC9:=HCL.out u9
   have hTL:=HTL.out
   subst hTL
   have hd2:∀j ∈ Reg.deps o',j<14->a.tmps[11+j]?.getD undef=([.pointer (some ⟨bE,oE,none⟩),.pointer (some ⟨bE,oE,none⟩),.pointer (some ⟨bE,oE,none⟩),.int .i64 k,.pointer (some ⟨bE,oE,none⟩),.pointer (some ⟨bE,oE,none⟩),.pointer (some ⟨bE,oE+1,none⟩),.string x,.string x,.pointer (some ⟨bE,oE,none⟩),.pointer (some ⟨bE,oE,none⟩),.pointer (some ⟨bE,oE+2,none⟩),.int .i64 nn,.agg #[.int .i64 k,.string x,.int .i64 nn,.slice none 0 0]]:List Value).getD j undef:=fun j hj hj2=>by
    have h:=hd j hj
    have e:(if j<14 then 11+j else 5)=11+j:=if_pos hj2
    rw [e,if_pos hj2] at h
    exact Reg.ev_get h
   clear hd
   rcases cases15 hi with rfl|rfl|rfl|rfl|rfl|rfl|rfl|rfl|rfl|rfl|rfl|rfl|rfl|rfl|rfl
   all_goals (
    simp only [List.getElem?_toArray,List.getElem?_cons_succ,List.getElem?_cons_zero,Option.some.injEq] at ho
    subst ho
    refine Reg.step_k fun K hK=>?_
    simp [Reg.deps,Region.binds] at hd2
    go_simp
    first
    | exact hK _ _ ⟨_,rfl,Below.refl _ _,rfl⟩
    | exact hK _ _ ⟨_,rfl,Below.refl _ _,by simp [*]⟩
    | exact hK _ _ ⟨_,rfl,new_on' _ _,_,rfl,hB.size,heap_alloc_new _ _⟩
    | (refine Calls.mono HC9 ?_;rintro r w' ⟨rfl,hw⟩;exact hK _ _ ⟨.string x,rfl,hw,rfl⟩))
  case htail =>
   intro a u9 hF hB hG
   obtain ⟨vp,xl,hxl,rfl,hev5,hev⟩:=hF.lit2 (by omega) (by simp)
   obtain ⟨v0,v1,v2,v3,v4,v5,v6,v7,v8,v9,v10,v11,v12,v13,rfl⟩:=plen14 hxl
   have h13:=hG 13 (by decide)
   have h14:=hG 14 (by decide)
   rw [if_pos (by decide)] at h13
   rw [if_neg (by decide)] at h14
   obtain ⟨g,hg1,hg2,hg3⟩:=h14
   have e13:v13=.agg #[.int .i64 k,.string x,.int .i64 nn,.slice none 0 0]:=(hev 13 (by decide)).symm.trans (by rw [HTL.out] at h13;exact h13)
   have e5:vp=.pointer (some ⟨g,0,none⟩):=hev5.symm.trans hg1
   subst e13 e5
   obtain ⟨W2,hW2,hth,hbk,hbl,hne⟩:=put4 (w:=w1) (z:=#[.int .i64 0,.string ⟨#[]⟩,.int .i64 0,.slice none 0 0]) (vs:=#[.int .i64 k,.string x,.int .i64 nn,.slice none 0 0]) rfl hg3 hB hg2
   have y3:=cell_on hbl y3
   have HB9:=hideR (HB1.out.trans (Kv.of hbl))
   have hqw1:q<w1.heap.size:=(Array.getElem?_eq_some_iff.1 HX1.out).1
   have hS2:SO (fun k=>(S k\/k=q)\/k=g) B n h p vs W2:=HS1.out.grow hbl (fun k=>.inl) (fun k hk h=>h.resolve_right (by omega))
   have hT2:TyE f (fun k=>(S k\/k=q)\/k=g) W2 n bE oE (nd k x e0 nn es [] 0):=HT1.out.grow hbl (fun k hk h=>h.resolve_right (by omega))
   have HS2:=hideR hS2
   have HT2:=hideR hT2
   have HWQ:Hid (w.heap.size=q/\q<g):=hideR ⟨HQ.out.symm,by omega⟩
   have HX9:=hideR ((hbl.block _ (Array.getElem?_eq_some_iff.1 HX1.out).1).trans HX1.out)
   have HBK:=hideR hbk
   have HTH:=hideR hth
   have HW2:=hideR hW2
   have HG2:=hideR hg2
   clear hev hev5 hxl hF hG hB y0 y1 y2 h13 hg1 hg3 hth hbk hbl hne hW2 hg2 hS2 hT2 hqw1 HCL HS1 HT1 HB1
   simp only [List.take_succ_cons,List.take_zero,List.drop_succ_cons,List.drop_zero,List.cons_append,List.nil_append]
   refine wpList_store_mid rfl 34 (.tmp 5) (.tmp 24) rfl g 0 #[.int .i64 k,.string x,.int .i64 nn,.slice none 0 0] rfl rfl HTH.out sizeTy' (by simp [Value.oneCell']) ?_
   rw [HW2.out]
   have hqg:q<g:=HWQ.out.2
   clear HX1
   have hgw:g<W2.heap.size:=(Array.getElem?_eq_some_iff.1 HBK.out).1
   by_cases hz:es.length=0
   ·rw [hz] at y3
    have HY3:=hideR y3
    go_wp2_with fail
    go_loopw [40] (fun aa wr=>aa=.int .i64 0/\wr=W2) (fun _ _=>0)
    case atStart=>exact ⟨rfl,rfl⟩
    case round =>
     obtain ⟨rfl,rfl⟩:=hrel
     have kc0:=put_cell HBK.out 0 _ rfl
     have kc1:=put_cell HBK.out 1 _ rfl
     have kc2:=put_cell HBK.out 2 _ rfl
     have kc3:=put_cell HBK.out 3 _ rfl
     have hrow:RowU (q+1) (.slice none 0 0) ER wr:=by rw [List.length_eq_zero_iff.1 (HEL.out.trans hz)];exact RowU.nil _ _
     obtain ⟨W9,hW9,hth,hbk,hbl,hne⟩:=put4v (w:=w) (z:=#[.int .i64 0,.string ⟨#[]⟩,.int .i64 0,.slice none 0 0]) (vs:=#[.int .i64 k,.string x,.int .i64 nn,.slice none 0 0]) rfl HX9.out HB9.out (by rw [HQ.out];exact Nat.le_refl _)
     have HTY:Hid (tyU w.heap.size (nd k x e0 nn ER [] 0) (.agg #[.int .i64 k,.string x,.int .i64 nn,.slice none 0 0]) W9):=hideR ((tyNU k x nn hrow).on (fun kk hk hl=>hne kk (by omega)) (by have:=HQ.out;omega))
     have hSf:SO S B n h p vs W9:=(HS2.out.other hne (.inl (.inr rfl)) (by have:=HSL.out.2.1;have:=HWQ.out;omega) (fun e=>by have:=HSL.out.2.2 _ e;have:=HWQ.out;omega) (by rw [<- hW9];exact Nat.le_of_eq (cells_size _ _ _ _).symm)).back HS0.out (fun k hk=>.inl (.inl hk))
     have HSF:=hideR hSf
     have HW9:=hideR hW9;have HTH9:=hideR hth;have HBK9:=hideR hbk;have HBL:=hideR hbl
     clear hth hbk hbl hW9 hne hSf
     go_wp2_with (refine wpList_store_mid rfl 34 (.tmp 4) (.tmp 56) rfl q 0 #[.int .i64 k,.string x,.int .i64 nn,.slice none 0 0] rfl rfl HTH9.out sizeTy' (by simp [Value.oneCell']) ?_;rw [HW9.out])
     have m0:=put_cell HBK9.out 0 _ rfl
     have m1:=put_cell HBK9.out 1 _ rfl
     have m2:=put_cell HBK9.out 2 _ rfl
     have m3:=put_cell HBK9.out 3 _ rfl
     refine bodyPost_ret (v:=.agg #[.int .i64 k,.string x,.int .i64 nn,.slice none 0 0]) (by simp [results,Try.results35,go_sem,m0,m1,m2,m3]) rfl ⟨_,rfl,HRT.out.symm ▸ HTY.out,HSF.out,HBL.out⟩
   ·have hz1:0<es.length:=by omega
    have hgt:decide ((es.length:Int) > 0)=true:=decide_eq_true (by omega)
    obtain ⟨E,hE⟩:∃E,E=W2.heap.size:=⟨_,rfl⟩
    obtain ⟨i0,hi,hz0,hz1,hz2⟩:=info_parts tyInf
    obtain ⟨W3,hrun,hrow,hgr⟩:=run_make_full (P:=Try.prog) W2 W2.heap.size 32 34 i0 _ 4 (by kernel_rfl) hi hz0 hz1 .i64 .i64 es.length (by rw [hz2];omega) (by unfold maxLen;omega) (Nat.le_refl _)
    have hb3:Below W2.heap.size W2 W3:=⟨hgr.os,hgr.tape,hgr.output,hgr.size,fun k hk=>hgr.block k hk (by simp)⟩
    rw [<- hE] at hrun hrow hgw
    obtain ⟨cur,hcur,hcs⟩:∃cur:Array Value,W3.heap[E]?=some (.cells cur 34 (0,0))/\cur.size=es.length*4:=by
     rcases hrow.2 with ⟨h,_⟩|⟨g',cap,cur,h1,_,h3,_,_,h5,_⟩
     ·cases h
     ·injection h1 with h1 h1' h1''
      injection h1 with h1
      injection h1 with h1
      subst h1
      subst h1''
      exact ⟨cur,h3,h5⟩
    have hx3:=(hb3.block g (by rw [<- hE];exact hgw)).trans HBK.out
    have f3:W3.frozen? ⟨g,3,none⟩=false:=by unfold World.frozen?;rw [hx3];simp
    have z3:=put_cell hx3 3 _ rfl
    obtain ⟨W4,hW4⟩:∃W4,W4=W3.setCell ⟨g,3,none⟩ (.slice (some ⟨E,0,none⟩) es.length es.length):=⟨_,rfl⟩
    have hn4:∀k,k≠g->W4.heap[k]?=W3.heap[k]?:=fun k hk=>by rw [hW4];exact Below.heap_setCell _ _ _ _ hk
    have HX4:Hid (W4.heap[g]?=some (.cells #[.int .i64 k,.string x,.int .i64 nn,.slice (some ⟨E,0,none⟩) es.length es.length] 34 (0,0))):=hideR (by rw [hW4];exact heap_setCell_same W3 g 3 _ _ _ hx3)
    have hEk:W2.heap.size=E:=hE.symm
    have hsl:∀k,k<W2.heap.size->(((S k\/k=q)\/k=g)\/k=E)->((S k\/k=q)\/k=g):=fun k hk h=>h.resolve_right (by omega)
    have hS3:SO (fun k=>((S k\/k=q)\/k=g)\/k=E) B n h p vs W3:=HS2.out.grow hb3 (fun k=>.inl) hsl
    have hT3:TyE f (fun k=>((S k\/k=q)\/k=g)\/k=E) W3 n bE oE (nd k x e0 nn es [] 0):=HT2.out.grow hb3 hsl
    have hgw0:w.heap.size<=g:=by have:=HWQ.out;omega
    have hgp:g≠p:=by have:=HSL.out.2.1;omega
    have hgo:vs.ownBlock≠some g:=fun e=>by have:=HSL.out.2.2 _ e;omega
    have HS4:Hid (SO (fun k=>((S k\/k=q)\/k=g)\/k=E) B n h p vs W4):=hideR (by rw [hW4];exact hS3.set (.inl (.inr rfl)) hgp hgo _ _)
    have HT4:Hid (TyE f (fun k=>((S k\/k=q)\/k=g)\/k=E) W4 n bE oE (nd k x e0 nn es [] 0)):=hideR (hT3.on (fun k hk _=>hn4 k (fun e=>hk (.inl (.inr e)))) fun _ _ h=>h)
    have HB4:Hid (Kv vs w W4):=hideR (by rw [hW4];exact (HB9.out.trans (Kv.of hb3)).put (by omega) _ _)
    have HEE:Hid (g<E):=hideR (by omega)
    have hyy:W4.cell? ⟨bE,oE+3,none⟩=some (.slice oR es.length cR):=hT3.keep (fun k hk _=>hn4 k (fun e=>hk (.inl (.inr e)))) (cell_on hb3 y3)
    have HY4:=hideR hyy
    have HQ4:Hid (W4.heap[q]?=some (.cells #[.int .i64 0,.string ⟨#[]⟩,.int .i64 0,.slice none 0 0] 34 (0,0))):=hideR ((hn4 q (by omega)).trans ((hb3.block q (by rw [<- hE];omega)).trans HX9.out))
    have HD4:Hid (Don E 0 ER W4):=hideR ⟨cur,(hn4 E (by omega)).trans hcur,by rw [HEL.out];exact hcs,fun j t hj _=>absurd hj (Nat.not_lt_zero _)⟩
    have HH:=hideR hW4
    clear hW4 hn4 hx3 hcur hcs hb3 hrow hgr HB9 HX9 HBK hEk hsl hS3 hT3 hgw0 hgp hgo hyy HS2 HT2
    go_upto_region 6 with fail
    rw [<- hE,<- HH.out]
    clear hrun hi hz0 hz2 f3 z3 HH y3 hE
    have y3:=HY4.out
    go_wp2_with fail
    go_loopw [40] (fun aa wr=>∃i:Nat,aa=.int .i64 i/\i<=es.length/\Hid (Don E i ER wr)/\Hid (wr.heap[g]?=some (.cells #[.int .i64 k,.string x,.int .i64 nn,.slice (some ⟨E,0,none⟩) es.length es.length] 34 (0,0)))/\Hid (wr.heap[q]?=some (.cells #[.int .i64 0,.string ⟨#[]⟩,.int .i64 0,.slice none 0 0] 34 (0,0)))/\Hid (Kv vs w wr)/\Hid (SO (fun k=>((S k\/k=q)\/k=g)\/k=E) B n h p vs wr)/\Hid (TyE f (fun k=>((S k\/k=q)\/k=g)\/k=E) wr n bE oE (nd k x e0 nn es [] 0)/\wr.cell? ⟨bE,oE+3,none⟩=some (.slice oR es.length cR))) (fun aa _=>match aa with | .int _ i=>es.length-i.toNat|_=>0)
    case atStart=>exact ⟨0,rfl,Nat.zero_le _,HD4,HX4,HQ4,HB4,HS4,hideR ⟨HT4.out,HY4.out⟩⟩
    case round =>
     obtain ⟨i,rfl,hi,HD,HXg,HXq,HB,HSr,HTY0⟩:=hrel
     clear HD4 HX4 HQ4 HB4 HS4 HT4 HY4 y3
     have HTr:=hideR HTY0.out.1
     have HYr:=hideR HTY0.out.2
     clear HTY0
     have y3:=HYr.out
     by_cases hp:i<es.length
     ·have q1:decide ((i:Int)<(es.length:Int))=true:=decide_eq_true (by omega)
      obtain ⟨t1,ht1⟩:∃t1,es[i]?=some t1:=⟨_,List.getElem?_eq_getElem hp⟩
      obtain ⟨b1,off,hoR,hC1⟩:=tyE_part HTr.out HYr.out ht1
      subst hoR
      have hw1:IntKind.i64.wrap ((i:Int)+1)=(i:Int)+1:=by rw [IntKind.wrap_i64];omega
      have hw2:wrap64 ((i:Int)+1)=((i+1:Nat):Int):=by unfold wrap64;omega
      have hxt:exT h e t1:=HXX.out t1 (List.mem_of_getElem? ht1)
      have hEw:E<wr.heap.size:=by obtain ⟨cur,h,_⟩:=HD.out;exact (Array.getElem?_eq_some_iff.1 h).1
      have HC:=hideR (fun u (hk:Kv vs wr u) (hs:SO (fun k=>((S k\/k=q)\/k=g)\/k=E) B n h p vs u)=>HIH.out (fun k=>((S k\/k=q)\/k=g)\/k=E) u t1 b1 (off+i*4) hs (fun k hk'=>by
       have h1:=hk.size
       have h2:=HEE.out
       have h3:=HWQ.out
       rcases hk' with ((h4|h4)|h4)|h4
       ·have:=HSL.out.1 k h4;omega
       ·omega
       ·omega
       ·omega) (hC1.kv hk (fun k e=>.inl (.inl (.inl (HS0.out.2 k e))))) hxt)
      have HT1:=hideR (show ER[i]?=some (btT h e t1) by rw [HER.out,List.getElem?_map,ht1];rfl)
      clear hC1 hxt ht1
      generalize btT h e t1=r1 at *
      obtain ⟨TL9,hTL9⟩:∃TL9:List Value,TL9 = [.pointer (some ⟨g,3,none⟩),.slice (some ⟨E,0,none⟩) es.length es.length,.int .i64 i,.pointer (some ⟨bE,oE,none⟩),.pointer (some ⟨bE,oE,none⟩),.pointer (some ⟨bE,oE+3,none⟩),.slice (some ⟨b1,off,none⟩) es.length cR,.int .i64 i,.pointer (some ⟨b1,off+i*4,none⟩),.func (.func 42) #[.pointer (some ⟨p,0,none⟩)] #[],undef,.pointer (some ⟨E,i*4,none⟩)]:=⟨_,rfl⟩
      have HTL9:=hideR hTL9
      have hEr:=hideR hEw
      clear hTL9
      go_upto_region 9 with fail
      refine Reg.wp_region_efft 12 (fun i'=>43+i') (fun _ u u'=>Kv vs u u'/\(SO (fun k=>((S k\/k=q)\/k=g)\/k=E) B n h p vs u->SO (fun k=>((S k\/k=q)\/k=g)\/k=E) B n h p vs u')) (fun u=>Kv vs wr u/\SO (fun k=>((S k\/k=q)\/k=g)\/k=E) B n h p vs u) (fun _ _=>True) (fun i' v u=>if i'=10 then tyU (E+1) r1 v u else v=TL9.getD i' undef) (by kernel_rfl) (by kernel_rfl) (fun i1 i2 h1 h2 h=>by have h':43+i1=43+i2:=h;omega) (Reg.dst_ok (dst:=fun i'=>43+i') (size:=57) (by kernel_rfl)) (fun i' k v u u' _ _ _ _ h hb=>by
       split at h
       ·rename_i hi';rw [if_pos hi'];exact h.on (hb.1.abv (fun k e=>by have:=HSL.out.2.2 k e;have:=HEE.out;have:=HWQ.out;omega)) (Nat.le_refl _)
       ·rename_i hi';rw [if_neg hi'];exact h) (fun _ _ _ _ _ _ _ _ _=>trivial) (fun k u u' _ hk hT=>⟨hk.1.trans hT.1,hT.2 hk.2⟩) ?hstep ?htail ⟨Kv.of (below_drewN' wr 1),HSr.out.bel (below_drewN' wr 1)⟩ (fun _ _=>trivial)
      case hstep =>
       intro j o9 a u9 hj ho hF hKK _ hd
       have f0:a.tmps[0]?.getD undef=.pointer (some ⟨bE,oE,none⟩):=Reg.ev_get (hF.eval 0 (fun i hi=>by show 43+i≠0;omega))
       have f1:a.tmps[1]?.getD undef=.func (.func 42) #[.pointer (some ⟨p,0,none⟩)] #[]:=Reg.ev_get (hF.eval 1 (fun i hi=>by show 43+i≠1;omega))
       have f5:a.tmps[5]?.getD undef=.pointer (some ⟨g,0,none⟩):=Reg.ev_get (hF.eval 5 (fun i hi=>by show 43+i≠5;omega))
       have f7:a.tmps[7]?.getD undef=.int .i64 (i:Int):=Reg.ev_get (hF.eval 7 (fun i hi=>by show 43+i≠7;omega))
       have y3:=HTr.out.keep (hKK.1.x (fun k e=>.inl (.inl (.inl (HS0.out.2 k e))))) HYr.out
       have kc3:=cell_same (fun hl=>hKK.1.block g hl (fun e=>by have:=HSL.out.2.2 _ e;have:=HWQ.out;omega)) (put_cell HXg.out 3 _ rfl)
       have hCu:=HC.out u9 hKK.1 hKK.2
       have hd2:∀j2 ∈ Reg.deps o9,j2≠10->a.tmps[43+j2]?.getD undef=([.pointer (some ⟨g,3,none⟩),.slice (some ⟨E,0,none⟩) es.length es.length,.int .i64 i,.pointer (some ⟨bE,oE,none⟩),.pointer (some ⟨bE,oE,none⟩),.pointer (some ⟨bE,oE+3,none⟩),.slice (some ⟨b1,off,none⟩) es.length cR,.int .i64 i,.pointer (some ⟨b1,off+i*4,none⟩),.func (.func 42) #[.pointer (some ⟨p,0,none⟩)] #[],undef,.pointer (some ⟨E,i*4,none⟩)]:List Value).getD j2 undef:=fun j2 hj2 hj3=>by
        have h:=hd j2 hj2
        rw [if_neg hj3,HTL9.out] at h
        exact Reg.ev_get h
       have hTL9:=HTL9.out
       subst hTL9
       clear hd
       rcases cases12 hj with rfl|rfl|rfl|rfl|rfl|rfl|rfl|rfl|rfl|rfl|rfl|rfl
       all_goals (
        simp only [List.getElem?_toArray,List.getElem?_cons_succ,List.getElem?_cons_zero,Option.some.injEq] at ho
        subst ho
        refine Reg.step_k fun K hK=>?_
        simp [Reg.deps,Region.binds] at hd2
        go_simp
        first
        | exact hK _ _ ⟨_,rfl,⟨Kv.refl _ _,id⟩,rfl⟩
        | exact hK _ _ ⟨_,rfl,⟨Kv.refl _ _,id⟩,by simp [*]⟩
        | (refine Calls.mono (show Calls _ _ _ _ _ from hCu) ?_;rintro r w' ⟨v',rfl,hty,hs9,hk9⟩;exact hK _ _ ⟨_,rfl,⟨hk9,fun _=>hs9⟩,hty.on (C:=E+1) (fun _ _ _=>rfl) (by have:=hKK.1.size;have:=hEr.out;omega)⟩))
      case htail =>
       intro a u9 hF hKK hG
       obtain ⟨xl,hxl,rfl,hev⟩:=hF.lit (by simp)
       obtain ⟨s0,s1,s2,s3,s4,s5,s6,s7,s8,s9,s10,s11,rfl⟩:=plen12 hxl
       have h10:=hG 10 (by decide)
       have h11:=hG 11 (by decide)
       rw [if_pos rfl] at h10
       rw [if_neg (by decide),HTL9.out] at h11
       have e11:s11=.pointer (some ⟨E,i*4,none⟩):=(hev 11 (by decide)).symm.trans h11
       have e10:tyU (E+1) r1 s10 u9:=by rw [<- show _=s10 from hev 10 (by decide)];exact h10
       obtain ⟨k9,x9,n9,v9,rfl,hone9⟩:=e10.val
       subst e11
       have hown:∀k,vs.ownBlock=some k->k<E:=fun k e=>by have:=HSL.out.2.2 k e;have:=HEE.out;have:=HWQ.out;omega
       have hdu:Don E i ER u9:=HD.out.abv (hKK.1.abv hown)
       obtain ⟨hth,hdon,hne⟩:=hdu.put (cs:=#[.int .i64 k9,.string x9,.int .i64 n9,v9]) HT1.out rfl e10
       obtain ⟨W9,hW9⟩:∃W9,W9=u9.setCells E (i*4) [.int .i64 k9,.string x9,.int .i64 n9,v9]:=⟨_,rfl⟩
       have hdon':Don E (i+1) ER W9:=by rw [hW9];exact hdon
       have hne':∀kk,kk≠E->W9.heap[kk]?=u9.heap[kk]?:=by rw [hW9];exact hne
       have hbl:Kv vs w W9:=by rw [hW9];exact (HB.out.trans hKK.1).cells (by have:=HWQ.out;have:=HEE.out;omega) _ _
       have hsE:∀k,¬ (((S k\/k=q)\/k=g)\/k=E)->k<u9.heap.size->W9.heap[k]?=u9.heap[k]?:=fun k hk _=>hne' k (fun e=>hk (.inr e))
       have hTu:=HTr.out.kv hKK.1 (fun k e=>.inl (.inl (.inl (HS0.out.2 k e))))
       have hYu:=HTr.out.keep (hKK.1.x (fun k e=>.inl (.inl (.inl (HS0.out.2 k e))))) HYr.out
       have HTY9:=hideR (And.intro (hTu.on hsE fun _ _ h=>h) (hTu.keep hsE hYu))
       have hgu:=hKK.1.block g (by have:=hEr.out;omega) (fun e=>by have:=hown _ e;have:=HSL.out.2.2 _ e;have:=HWQ.out;omega)
       have hqu:=hKK.1.block q (by have:=hEr.out;omega) (fun e=>by have:=HSL.out.2.2 _ e;have:=HWQ.out;omega)
       have hS9:SO (fun k=>((S k\/k=q)\/k=g)\/k=E) B n h p vs W9:=hKK.2.other hne' (.inr rfl) (by have:=HSL.out.2.1;have:=HWQ.out;have:=HEE.out;omega) (fun e=>by have:=hown _ e;omega) (by rw [hW9];exact Nat.le_of_eq (cells_size _ _ _ _).symm)
       have HDN:=hideR hdon'
       have HXg2:=hideR ((hne' g (by have:=HEE.out;omega)).trans (hgu.trans HXg.out))
       have HXq2:=hideR ((hne' q (by have:=HEE.out;omega)).trans (hqu.trans HXq.out))
       have HBL:=hideR hbl
       have HS9:=hideR hS9
       have HTH:=hideR hth
       have HW9:=hideR hW9
       clear hev hxl hF hG hKK h10 h11 e10 hth hdon hne hdon' hne' hbl hgu hqu hS9 hown hdu hsE hTu hYu hW9 HC HTL9 HD HXg HXq HB HSr HTr HYr
       simp only [List.take_succ_cons,List.take_zero,List.drop_succ_cons,List.drop_zero,List.cons_append,List.nil_append]
       refine wpList_store_mid rfl 34 (.tmp 54) (.tmp 53) rfl E (i*4) #[.int .i64 k9,.string x9,.int .i64 n9,v9] rfl rfl HTH.out sizeTy' (by simp [Value.oneCell'] at hone9 ⊢;exact hone9) ?_
       rw [<- HW9.out]
       go_wp2
       go_roundw
       case rel=>exact ⟨i+1,by first|rfl|(congr 1),hp,HDN,HXg2,HXq2,HBL,HS9,HTY9⟩
       case measure=>simp;omega
     ·have q1:decide ((i:Int)<(es.length:Int))=false:=decide_eq_false (by omega)
      obtain rfl:i=es.length:=by omega
      have kc0:=put_cell HXg.out 0 _ rfl
      have kc1:=put_cell HXg.out 1 _ rfl
      have kc2:=put_cell HXg.out 2 _ rfl
      have kc3:=put_cell HXg.out 3 _ rfl
      have hrow:RowU E (.slice (some ⟨E,0,none⟩) es.length es.length) ER wr:=by
       have h1:Don E ER.length ER wr:=by rw [HEL.out];exact HD.out
       have h2:=h1.row (by rw [HEL.out];omega) es.length
       rw [HEL.out] at h2
       exact h2
      obtain ⟨W9,hW9,hth,hbk,hbl,hne⟩:=put4v (w:=w) (z:=#[.int .i64 0,.string ⟨#[]⟩,.int .i64 0,.slice none 0 0]) (vs:=#[.int .i64 k,.string x,.int .i64 nn,.slice (some ⟨E,0,none⟩) es.length es.length]) rfl HXq.out HB.out (by rw [HQ.out];exact Nat.le_refl _)
      have HTY:Hid (tyU w.heap.size (nd k x e0 nn ER [] 0) (.agg #[.int .i64 k,.string x,.int .i64 nn,.slice (some ⟨E,0,none⟩) es.length es.length]) W9):=hideR ((tyNU k x nn hrow).on (fun kk hk hl=>hne kk (by omega)) (by have:=HQ.out;omega))
      have hSf:SO S B n h p vs W9:=(HSr.out.other hne (.inl (.inl (.inr rfl))) (by have:=HSL.out.2.1;have:=HWQ.out;omega) (fun e=>by have:=HSL.out.2.2 _ e;have:=HWQ.out;omega) (by rw [<- hW9];exact Nat.le_of_eq (cells_size _ _ _ _).symm)).back HS0.out (fun k hk=>.inl (.inl (.inl hk)))
      have HSF:=hideR hSf
      have HW9:=hideR hW9;have HTH9:=hideR hth;have HBK9:=hideR hbk;have HBL:=hideR hbl
      clear hth hbk hbl hW9 hne hSf
      have hone:(#[.int .i64 k,.string x,.int .i64 nn,.slice (some ⟨E,0,none⟩) es.length es.length]:Array Value).all (·.oneCell')=true:=by simp [Value.oneCell']
      go_wp2_with (refine wpList_store_mid rfl 34 (.tmp 4) (.tmp 56) rfl q 0 #[.int .i64 k,.string x,.int .i64 nn,.slice (some ⟨E,0,none⟩) es.length es.length] rfl rfl HTH9.out sizeTy' hone ?_;rw [HW9.out])
      have m0:=put_cell HBK9.out 0 _ rfl
      have m1:=put_cell HBK9.out 1 _ rfl
      have m2:=put_cell HBK9.out 2 _ rfl
      have m3:=put_cell HBK9.out 3 _ rfl
      refine bodyPost_ret (v:=.agg #[.int .i64 k,.string x,.int .i64 nn,.slice (some ⟨E,0,none⟩) es.length es.length]) (by simp [results,Try.results35,go_sem,m0,m1,m2,m3]) rfl ⟨_,rfl,HRT.out.symm ▸ HTY.out,HSF.out,HBL.out⟩
namespace Ty
theorem lkL_all {f:Nat->Value->Int × Nat}:∀(l:List Value) (c:Nat),(lkL f c l).1=0->∀a ∈ l,∃c',(f c' a).1=0
 | [],c,_,a,ha=>by cases ha
 | t :: l,c,h,a,ha=>by
  unfold lkL at h
  by_cases h0:(f c t).1=0
  ·rw [if_pos h0] at h
   rcases List.mem_cons.1 ha with e|h1
   ·subst e;exact ⟨c,h0⟩
   ·exact lkL_all l _ h a h1
  ·rw [if_neg h0] at h;exact absurd h h0
theorem lkT_ex {h:Nat->Value} {v:Int}:∀(m c:Nat) (t:Value),(lkT h v m c t).1=0->exT h m t
 | 0,c,t,h0=>by unfold lkT at h0;cases h0
 | m+1,c,t,h0=>by
  unfold lkT at h0
  by_cases h1:1024<c+1
  ·rw [if_pos h1] at h0;cases h0
  ·rw [if_neg h1] at h0
   by_cases h2:kindV (endT h t)=2/\numT (endT h t)=v
   ·rw [if_pos h2] at h0;cases h0
   ·rw [if_neg h2] at h0
    intro a ha
    obtain ⟨c',hc⟩:=lkL_all _ _ h0 a ha
    exact lkT_ex m c' a hc
structure InX (S:Nat->Prop) (w:World) (d:Nat) (t v:Value):Prop where
 at_:∃k x n es u,t=nd k x e0 n es [] 0/\v=.agg #[.int .i64 k,.string x,.int .i64 n,u]/\Row 4 (TyX false S w d) u es
 few:few d t
 sm:∀e,smT e t
theorem InX.in_ {S:Nat->Prop} {w:World} {d:Nat} {t v:Value} (h:InX S w d t v):In_ w d t v:=by
 obtain ⟨⟨k,x,n,es,u,h1,h2,h3⟩,h4,h5⟩:=h
 exact ⟨⟨k,x,n,es,u,h1,h2,h3.imp fun b o t _ h=>h.toC⟩,h4,h5⟩
theorem InX.of {S:Nat->Prop} {w:World} {C d:Nat} {t v:Value} (h:tyO C t v w) (hS:∀k,C<=k->¬ S k) (hf:Pz.few d t) (hs:∀e,smT e t):∃e,InX S w e t v:=by
 obtain ⟨d1,k,x,n,es,u,h1,h2,h3⟩:=h
 have hf2:∀e,Pz.few d t->Pz.few (d+e) t:=fun e hf=>by
  induction e with
  | zero=>exact hf
  | succ e ih=>exact few_up _ _ ih
 exact ⟨d+d1,⟨k,x,n,es,u,h1,h2,h3.imp fun b o t _ h=>up_le (F:=TyX false S w) (d:=d1) TyX.up (by omega) (TyX.of hS d1 b o t h)⟩,hf2 d1 hf,hs⟩
theorem InX.box {S:Nat->Prop} {w u:World} {d K:Nat} {t:Value} {cs:Array Value} (h:InX S w d t (.agg cs)) (hb:Below w.heap.size w u) (hx:u.heap[K]?=some (.cells cs 34 (0,0))) (hK:¬ S K):TyX false S u (d+1) K 0 t:=by
 obtain ⟨k,x,n,es,v,h0,h1,h2⟩:=h.at_
 injection h1 with h1
 subst h1
 exact ⟨⟨hK,fun h=>by cases h⟩,k,x,n,es,v,h0,put_cell hx 0 _ rfl,put_cell hx 1 _ rfl,put_cell hx 2 _ rfl,put_cell hx 3 _ rfl,h2.imp fun b o t _ h=>h.on (fun k _ hl=>hb.block k hl) fun _ _ h=>h⟩
end Ty
set_option maxRecDepth 100000 in
set_option maxHeartbeats 8000000 in
theorem t_ApplyP {m:Nat} (hm:1025<=m) {S:Nat->Prop} {B n p:Nat} {h:Nat->Value} {vs:Value} (w:World) {d:Nat} {t v:Value} (hS:SO S B n h p vs w) (hSl:∀k,S k->k<w.heap.size) (ht:InX S w d t v):Calls Try.prog 16 #[.pointer (some ⟨p,0,none⟩),v] w fun e w'=>∃u z,e=.returned (.tuple #[u,.int .i64 z])/\SO S B n h p vs w'/\Kv vs w w'/\((tkT n d t=false/\z=1/\u=.agg #[.int .i64 0,.string ⟨#[]⟩,.int .i64 0,.slice none 0 0])\/(tkT n d t=true/\(lkT h 0 m 0 t).1≠0/\z=(lkT h 0 m 0 t).1/\u=.agg #[.int .i64 0,.string ⟨#[]⟩,.int .i64 0,.slice none 0 0])\/(tkT n d t=true/\(lkT h 0 m 0 t).1=0/\z=0/\tyU w.heap.size (btT h m t) u w')):=by
 obtain ⟨k1,x1,n1,es1,u1,hta,hva,hr1⟩:=id ht.at_
 obtain ⟨oR1,cR1,hu1,_⟩:=row_at hr1
 subst hu1
 clear hr1 hta
 subst hva
 obtain ⟨W1,hW1⟩:∃W1,W1=w.alloc (.cells #[.int .i64 k1,.string x1,.int .i64 n1,.slice oR1 es1.length cR1] 34):=⟨_,rfl⟩
 have hb1:Below w.heap.size w W1:=by rw [hW1];exact new_on' _ _
 have hx1:W1.heap[w.heap.size]?=some (.cells #[.int .i64 k1,.string x1,.int .i64 n1,.slice oR1 es1.length cR1] 34 (0,0)):=by rw [hW1];exact heap_alloc_new w _
 have hsz:W1.heap.size=w.heap.size+1:=by rw [hW1];simp
 obtain ⟨W,hW⟩:∃W,W=W1.alloc (.cells #[.int .i64 0,.string ⟨#[]⟩,.int .i64 0,.slice none 0 0] 34):=⟨_,rfl⟩
 have hb2:Below W1.heap.size W1 W:=by rw [hW];exact new_on' _ _
 have hx2:W.heap[w.heap.size+1]?=some (.cells #[.int .i64 0,.string ⟨#[]⟩,.int .i64 0,.slice none 0 0] 34 (0,0)):=by rw [<- hsz,hW];exact heap_alloc_new W1 _
 have hx1':W.heap[w.heap.size]?=some (.cells #[.int .i64 k1,.string x1,.int .i64 n1,.slice oR1 es1.length cR1] 34 (0,0)):=(hb2.block _ (by omega)).trans hx1
 have hb:Below w.heap.size w W:=below_go hb1 hb2
 have hWs:W.heap.size=w.heap.size+1+1:=by rw [hW,<- hsz];simp
 rw [hW1] at hW
 have hSl2:∀k,S k->k<w.heap.size:=hSl
 have hQX:TyX false S W (d+1) w.heap.size 0 t:=ht.box hb hx1' (fun hk=>by have:=hSl2 _ hk;omega)
 have hgr:∀k,k<W1.heap.size->(S k\/k=w.heap.size+1)->S k:=fun k hk h=>h.resolve_right (by omega)
 have hS1:SO (fun k=>S k\/k=w.heap.size+1) B n h p vs W:=(hS.bel hb1).grow hb2 (fun k=>.inl) hgr
 have hT1:∀(e:tkT n d t=true),TyE false (fun k=>S k\/k=w.heap.size+1) W n w.heap.size 0 t:=fun e=>⟨d,(ht.box hb1 hx1 (fun hk=>by have:=hSl2 _ hk;omega)).on (fun k _ hl=>hb2.block k hl) (fun k hk h=>h.resolve_right (by omega)),ht.in_.good e⟩
 have HTA:=hideR (hS1.takes hQX.toC)
 have HS1:=hideR hS1
 have HTT:=hideR hT1
 have HB:=hideR hb
 have HX2:=hideR hx2
 have HSZ:=hideR hWs
 have HSL:=hideR hSl
 have HS0:=hideR hS.1
 have HLT:=hideR hS.lt
 clear hS hS1 hT1 ht hQX hx1 hx2 hx1' hb hb1 hb2 hsz hWs hSl hSl2 hgr
 cases hA:tkT n d t with
 | false =>
  rw [hA] at HTA
  clear hA HTT
  go_enter Try.func16,Try.ntmps16
  go_upto_region 1 with fail
  rw [<- hW]
  clear hW
  go_wp2_with fail
  refine Calls.mono (show Calls _ _ _ _ _ from HTA.out) ?_
  rintro e u1 ⟨rfl,hb⟩
  have hX2:=(hb.block _ (Array.getElem?_eq_some_iff.1 HX2.out).1).trans HX2.out
  obtain ⟨W9,hW9,hth,hbk,hbl,hne⟩:=put4v (vl:=vs) (w:=w) (z:=#[.int .i64 0,.string ⟨#[]⟩,.int .i64 0,.slice none 0 0]) (vs:=#[.int .i64 0,.string ⟨#[]⟩,.int .i64 0,.slice none 0 0]) rfl hX2 (Kv.of (below_go HB.out hb)) (by omega)
  have HSF:=hideR (((HS1.out.bel hb).other hne (.inr rfl) (by have:=HLT.out.1;omega) (fun e=>by have:=HLT.out.2 _ e;omega) (by rw [<- hW9];exact Nat.le_of_eq (cells_size _ _ _ _).symm)).back HS0.out fun k=>.inl)
  have HW9:=hideR hW9;have HTH9:=hideR hth;have HBK9:=hideR hbk;have HBL:=hideR hbl
  clear hb hX2 hth hbk hbl hW9 hne HTA HX2 HS1
  go_wp2_with (refine wpList_store_mid rfl 34 (.tmp 4) (.tmp 10) rfl (w.heap.size+1) 0 #[.int .i64 0,.string ⟨#[]⟩,.int .i64 0,.slice none 0 0] rfl rfl HTH9.out sizeTy' (by simp [Value.oneCell']) ?_;rw [HW9.out])
  have m0:=put_cell HBK9.out 0 _ rfl
  have m1:=put_cell HBK9.out 1 _ rfl
  have m2:=put_cell HBK9.out 2 _ rfl
  have m3:=put_cell HBK9.out 3 _ rfl
  refine bodyPost_ret (v:=.tuple #[.agg #[.int .i64 0,.string ⟨#[]⟩,.int .i64 0,.slice none 0 0],.int .i64 1]) (by simp [results,Try.results16,go_sem,m0,m1,m2,m3]) rfl ⟨_,_,rfl,HSF.out,HBL.out,.inl ⟨by first|rfl|trivial,by first|rfl|trivial,by first|rfl|trivial⟩⟩
 | true =>
  rw [hA] at HTA
  have HT1:=hideR (HTT.out hA)
  have HFB:=hideR (fun u (hu:Below W.heap.size W u)=>t_forbids (v:=0) hm u (HS1.out.bel hu) ((HTT.out hA).bel hu))
  clear hA HTT
  obtain ⟨r,hr⟩:∃r,r=(lkT h 0 m 0 t).1:=⟨_,rfl⟩
  rw [<- hr] at HFB
  by_cases hr0:r=0
  ·have hex:=lkT_ex m 0 t (hr.symm.trans hr0)
   have HEX:=hideR hex
   subst hr0
   clear hex
   rw [<- hr]
   clear hr
   go_enter Try.func16,Try.ntmps16
   go_upto_region 1 with fail
   rw [<- hW]
   clear hW
   go_wp2_with fail
   refine Calls.mono (show Calls _ _ _ _ _ from HTA.out) ?_
   rintro e u1 ⟨rfl,hb⟩
   have HFB1:=hideR (HFB.out u1 hb)
   have HBu:=hideR hb
   clear hb HFB HTA
   go_wp2_with fail
   refine Calls.mono (show Calls _ _ _ _ _ from HFB1.out) ?_
   rintro e u2 ⟨rfl,hs,hk⟩
   have hkk:Kv vs W u2:=(Kv.of HBu.out).trans hk
   have HBE:=hideR (t_builtE m _ u2 t w.heap.size 0 hs (fun k hk'=>by
    have h1:=hkk.size
    have h2:=HSZ.out
    rcases hk' with h3|h3
    ·have:=HSL.out k h3;omega
    ·omega) (HT1.out.kv hkk (fun k e=>.inl (HS0.out.2 k e))) HEX.out)
   have HKK:=hideR hkk
   have HX3:=hideR ((hkk.block _ (Array.getElem?_eq_some_iff.1 HX2.out).1 (fun e=>by have:=HLT.out.2 _ e;omega)).trans HX2.out)
   clear hs hk hkk HFB1 HX2 HT1 HEX HBu HS1
   go_wp2_with fail
   refine Calls.mono (show Calls _ _ _ _ _ from HBE.out) ?_
   rintro e u3 ⟨va,rfl,hty,hs,hk⟩
   obtain ⟨ka,xa,na,ra,rfl,hone1⟩:=hty.val
   have hX3:=(hk.block _ (Array.getElem?_eq_some_iff.1 HX3.out).1 (fun e=>by have:=HLT.out.2 _ e;omega)).trans HX3.out
   obtain ⟨W9,hW9,hth,hbk,hbl,hne⟩:=put4v (vl:=vs) (w:=w) (z:=#[.int .i64 0,.string ⟨#[]⟩,.int .i64 0,.slice none 0 0]) (vs:=#[.int .i64 ka,.string xa,.int .i64 na,ra]) rfl hX3 ((Kv.of HB.out).trans (HKK.out.trans hk)) (by omega)
   have hu2s:w.heap.size+1<u2.heap.size:=(Array.getElem?_eq_some_iff.1 HX3.out).1
   have HTY:=hideR ((hty.on (C:=u2.heap.size) (w':=W9) (fun k hk hl=>hne k (by omega)) (Nat.le_refl _)).on (C:=w.heap.size) (fun _ _ _=>rfl) (by omega))
   have HSF:=hideR ((hs.other hne (.inr rfl) (by have:=HLT.out.1;omega) (fun e=>by have:=HLT.out.2 _ e;omega) (by rw [<- hW9];exact Nat.le_of_eq (cells_size _ _ _ _).symm)).back HS0.out fun k=>.inl)
   have HW9:=hideR hW9;have HTH9:=hideR hth;have HBK9:=hideR hbk;have HBL:=hideR hbl
   clear hX3 hth hbk hbl hW9 hne HX3 hty hs hk hu2s HBE HKK
   have hone:(#[.int .i64 ka,.string xa,.int .i64 na,ra]:Array Value).all (·.oneCell')=true:=by simp [Value.oneCell'] at hone1 ⊢;exact hone1
   go_wp2_with (refine wpList_store_mid rfl 34 (.tmp 4) (.tmp 19) rfl (w.heap.size+1) 0 #[.int .i64 ka,.string xa,.int .i64 na,ra] rfl rfl HTH9.out sizeTy' hone ?_;rw [HW9.out])
   have m0:=put_cell HBK9.out 0 _ rfl
   have m1:=put_cell HBK9.out 1 _ rfl
   have m2:=put_cell HBK9.out 2 _ rfl
   have m3:=put_cell HBK9.out 3 _ rfl
   refine bodyPost_ret (v:=.tuple #[.agg #[.int .i64 ka,.string xa,.int .i64 na,ra],.int .i64 0]) (by simp [results,Try.results16,go_sem,m0,m1,m2,m3]) rfl ⟨_,_,rfl,HSF.out,HBL.out,.inr (.inr ⟨by first|rfl|trivial,by first|rfl|trivial,by first|rfl|trivial,HTY.out⟩)⟩
  ·have q1:(r != 0)=true:=bne_iff_ne.2 hr0
   have HRR:=hideR hr
   have HR0:=hideR hr0
   rw [<- hr]
   clear hr hr0 HT1
   go_enter Try.func16,Try.ntmps16
   go_upto_region 1 with fail
   rw [<- hW]
   clear hW
   go_wp2_with fail
   refine Calls.mono (show Calls _ _ _ _ _ from HTA.out) ?_
   rintro e u1 ⟨rfl,hb⟩
   have HFB1:=hideR (HFB.out u1 hb)
   have HBu:=hideR hb
   clear hb HFB HTA
   go_wp2_with fail
   refine Calls.mono (show Calls _ _ _ _ _ from HFB1.out) ?_
   rintro e u2 ⟨rfl,hs,hk⟩
   have hkk:Kv vs W u2:=(Kv.of HBu.out).trans hk
   have hX3:=(hkk.block _ (Array.getElem?_eq_some_iff.1 HX2.out).1 (fun e=>by have:=HLT.out.2 _ e;omega)).trans HX2.out
   obtain ⟨W9,hW9,hth,hbk,hbl,hne⟩:=put4v (vl:=vs) (w:=w) (z:=#[.int .i64 0,.string ⟨#[]⟩,.int .i64 0,.slice none 0 0]) (vs:=#[.int .i64 0,.string ⟨#[]⟩,.int .i64 0,.slice none 0 0]) rfl hX3 ((Kv.of HB.out).trans hkk) (by omega)
   have HSF:=hideR ((hs.other hne (.inr rfl) (by have:=HLT.out.1;omega) (fun e=>by have:=HLT.out.2 _ e;omega) (by rw [<- hW9];exact Nat.le_of_eq (cells_size _ _ _ _).symm)).back HS0.out fun k=>.inl)
   have HW9:=hideR hW9;have HTH9:=hideR hth;have HBK9:=hideR hbk;have HBL:=hideR hbl
   clear hX3 hth hbk hbl hW9 hne HX2 hs hk hkk HFB1 HBu HS1
   go_wp2_with (refine wpList_store_mid rfl 34 (.tmp 4) (.tmp 15) rfl (w.heap.size+1) 0 #[.int .i64 0,.string ⟨#[]⟩,.int .i64 0,.slice none 0 0] rfl rfl HTH9.out sizeTy' (by simp [Value.oneCell']) ?_;rw [HW9.out])
   have m0:=put_cell HBK9.out 0 _ rfl
   have m1:=put_cell HBK9.out 1 _ rfl
   have m2:=put_cell HBK9.out 2 _ rfl
   have m3:=put_cell HBK9.out 3 _ rfl
   refine bodyPost_ret (v:=.tuple #[.agg #[.int .i64 0,.string ⟨#[]⟩,.int .i64 0,.slice none 0 0],.int .i64 r]) (by simp [results,Try.results16,go_sem,m0,m1,m2,m3]) rfl ⟨_,_,rfl,HSF.out,HBL.out,.inr (.inl ⟨by first|rfl|trivial,HR0.out,by first|rfl|trivial,by first|rfl|trivial⟩)⟩
theorem t_same0 : ∀ (d : Nat) (w : World) (t : Value) (b1 o1 b2 o2 : Nat), TyC 0 w d b1 o1 t → TyC 0 w d b2 o2 t → Calls Try.prog 56 #[.pointer (some ⟨b1, o1, none⟩), .pointer (some ⟨b2, o2, none⟩)] w fun e w' => e = .returned (.bool true) ∧ Below w.heap.size w w' := by
  intro d
  induction d with
  | zero => intro w t b1 o1 b2 o2 h; exact h.elim
  | succ d ih =>
    intro w t b1 o1 b2 o2 h1 h2
    obtain ⟨d0, k1, x1, n1, es1, oR1, cR1, hd, rfl, g0, g1, g2, g3, hl1, hel1⟩ := tyC_ptr h1
    obtain ⟨d1, k2, x2, n2, es2, oR2, cR2, hd', he, l0, l1, l2, l3, hl2, hel2⟩ := tyC_ptr h2
    obtain rfl : d = d0 := by omega
    obtain rfl : d = d1 := by omega
    obtain rfl : k1 = k2 := by have h : kindV (nd k1 x1 e0 n1 es1 [] 0) = kindV (nd k2 x2 e0 n2 es2 [] 0) := by rw [he]
                               exact h
    obtain rfl : x1 = x2 := by have h : namT (nd k1 x1 e0 n1 es1 [] 0) = namT (nd k1 x2 e0 n2 es2 [] 0) := by rw [he]
                               exact h
    obtain rfl : n1 = n2 := by have h : numT (nd k1 x1 e0 n1 es1 [] 0) = numT (nd k1 x1 e0 n2 es2 [] 0) := by rw [he]
                               exact h
    obtain rfl : es1 = es2 := by have h : argsV (nd k1 x1 e0 n1 es1 [] 0) = argsV (nd k1 x1 e0 n1 es2 [] 0) := by rw [he]
                                 exact h
    have q1 : (k1 != k1) = false := by simp
    have q2 : (n1 != n1) = false := by simp
    have r2 : (x1.toList == x1.toList) = true := by simp
    have p2 : (x1.toList != x1.toList) = false := by simp
    have q3 : ((es1.length : Int) != (es1.length : Int)) = false := by simp
    have HL := hideR hl1
    have HE1 := hideR hel1
    have HE2 := hideR hel2
    have G3 := hideR g3
    have L3 := hideR l3
    have HIH := hideR ih
    clear h1 h2 hd hd' he hl1 hl2 hel1 hel2 ih
    go_enter Try.func56, Try.ntmps56
    go_wp2_with fail
    go_quiet (fail)
    have hbd := below_drewN' w nq
    have HB := hideR hbd
    have g3 := cell_on hbd G3.out
    clear hbd g0 g1 g2 l0 l1 l2 l3 q1 q2 r2 p2 q3
    generalize w.drewN nq = w1 at *
    go_wp2_with fail
    go_loopw [55] (fun aa wr => ∃ i : Nat, aa = .int .i64 i ∧ i ≤ es1.length ∧ Hid (Below w.heap.size w wr)) (fun aa _ => match aa with | .int _ i => es1.length - i.toNat | _ => 0)
    case atStart => exact ⟨0, rfl, Nat.zero_le _, HB⟩
    case round =>
      obtain ⟨i, rfl, hi, HBr⟩ := hrel
      clear HB g3
      have g3 := cell_on HBr.out G3.out
      have l3 := cell_on HBr.out L3.out
      by_cases hp : i < es1.length
      · have q1 : decide ((i : Int) < (es1.length : Int)) = true := decide_eq_true (by omega)
        obtain ⟨t1, ht1⟩ : ∃ t1, es1[i]? = some t1 := ⟨_, List.getElem?_eq_getElem hp⟩
        obtain ⟨d1, f1, hoR1, hC1⟩ := HE1.out i t1 ht1
        obtain ⟨d2, f2, hoR2, hC2⟩ := HE2.out i t1 ht1
        subst hoR1 hoR2
        have hw2 : wrap64 ((i : Int) + 1) = ((i + 1 : Nat) : Int) := by have := HL.out; unfold wrap64; omega
        have hw1 := wrapI hp HL.out
        have HIB := hideR (fun u (hu : Below w.heap.size w u) => HIH.out u t1 d1 (f1 + i * 4) d2 (f2 + i * 4) (hC1.but (Abv.of hu)) (hC2.but (Abv.of hu)))
        have HGL := hideR (And.intro g3 l3)
        clear hC1 hC2 ht1 g3 l3
        go_upto_region 6 with fail
        refine Reg.wp_region_two 12 (fun i' => 58 + i') (fun i' v u => v = ([.pointer (some ⟨b1, o1, none⟩), .pointer (some ⟨b1, o1, none⟩), .pointer (some ⟨b1, o1 + 3, none⟩), .slice (some ⟨d1, f1, none⟩) es1.length cR1, .int .i64 i, .pointer (some ⟨d1, f1 + i * 4, none⟩), .pointer (some ⟨b2, o2, none⟩), .pointer (some ⟨b2, o2, none⟩), .pointer (some ⟨b2, o2 + 3, none⟩), .slice (some ⟨d2, f2, none⟩) es1.length cR2, .int .i64 i, .pointer (some ⟨d2, f2 + i * 4, none⟩)] : List Value).getD i' undef) (by kernel_rfl) (by kernel_rfl) (fun i1 i2 h1 h2 h => by have h' : 58 + i1 = 58 + i2 := h; omega) (Reg.dst_ok (dst := fun i' => 58 + i') (size := 73) (by kernel_rfl)) (fun i' v u u' _ h hb => h) ?hs6 ?ht6
        case hs6 =>
          intro j o' a9 u9 hj ho hF hB hd
          have f0 : a9.tmps[0]?.getD undef = .pointer (some ⟨b1, o1, none⟩) := Reg.ev_get (hF.eval 0 (fun i hi => by show 58 + i ≠ 0; omega))
          have f1' : a9.tmps[1]?.getD undef = .pointer (some ⟨b2, o2, none⟩) := Reg.ev_get (hF.eval 1 (fun i hi => by show 58 + i ≠ 1; omega))
          have f5 : a9.tmps[5]?.getD undef = .int .i64 (i : Int) := Reg.ev_get (hF.eval 5 (fun i hi => by show 58 + i ≠ 5; omega))
          have g3 := cell_on hB HGL.out.1
          have l3 := cell_on hB HGL.out.2
          have hd2 : ∀ j2 ∈ Reg.deps o', a9.tmps[58 + j2]?.getD undef = ([.pointer (some ⟨b1, o1, none⟩), .pointer (some ⟨b1, o1, none⟩), .pointer (some ⟨b1, o1 + 3, none⟩), .slice (some ⟨d1, f1, none⟩) es1.length cR1, .int .i64 i, .pointer (some ⟨d1, f1 + i * 4, none⟩), .pointer (some ⟨b2, o2, none⟩), .pointer (some ⟨b2, o2, none⟩), .pointer (some ⟨b2, o2 + 3, none⟩), .slice (some ⟨d2, f2, none⟩) es1.length cR2, .int .i64 i, .pointer (some ⟨d2, f2 + i * 4, none⟩)] : List Value).getD j2 undef := fun j2 hj2 => Reg.ev_get (hd j2 hj2)
          clear hd
          rcases cases12 hj with rfl | rfl | rfl | rfl | rfl | rfl | rfl | rfl | rfl | rfl | rfl | rfl
          all_goals (
            simp only [List.getElem?_toArray, List.getElem?_cons_succ, List.getElem?_cons_zero, Option.some.injEq] at ho
            subst ho
            refine Reg.step_k fun Z hZ => ?_
            simp [Reg.deps, Region.binds] at hd2
            go_simp
            first
            | exact hZ _ _ ⟨_, rfl, Below.refl _ _, rfl⟩
            | exact hZ _ _ ⟨_, rfl, Below.refl _ _, by simp [*]⟩)
        case ht6 =>
          intro a9 u9 hF hB hG
          obtain ⟨xl, hxl, rfl, hev⟩ := hF.lit (by simp)
          obtain ⟨s0, s1, s2, s3, s4, s5, s6, s7, s8, s9, s10, s11, rfl⟩ := plen12 hxl
          obtain rfl : s5 = .pointer (some ⟨d1, f1 + i * 4, none⟩) := (hev 5 (by decide)).symm.trans (hG 5 (by decide))
          obtain rfl : s11 = .pointer (some ⟨d2, f2 + i * 4, none⟩) := (hev 11 (by decide)).symm.trans (hG 11 (by decide))
          have HIC := hideR (HIB.out u9 (below_go HBr.out hB))
          have HBu := hideR (below_go HBr.out hB)
          clear hev hxl hF hG hB HIB HGL HBr
          simp only [List.take_succ_cons, List.take_zero, List.drop_succ_cons, List.drop_zero, List.cons_append, List.nil_append]
          go_wp2_with fail
          refine Calls.mono (show Calls _ _ _ _ _ from HIC.out) ?_
          rintro e w4 ⟨rfl, hb⟩
          have HB4 := hideR (below_go HBu.out hb)
          clear HIC hb HBu
          go_wp2
          go_roundw
          case rel => exact ⟨i + 1, by first | rfl | (congr 1), hp, HB4⟩
          case measure => simp; omega
      · have q1 : decide ((i : Int) < (es1.length : Int)) = false := decide_eq_false (by omega)
        clear g3 l3
        go_wp2
        go_ret
        exact ⟨rfl, HBr.out⟩
namespace Ty
def AtX (S:Nat->Prop) (w:World) (d:Nat) (t v:Value):Prop:=∃k x n es u,t=nd k x e0 n es [] 0/\v=.agg #[.int .i64 k,.string x,.int .i64 n,u]/\Row 4 (TyX false S w d) u es
theorem AtX.on {S:Nat->Prop} {w w':World} {d:Nat} {t v:Value} (h:AtX S w d t v) (hb:∀k,k<w.heap.size->¬ S k->w'.heap[k]?=w.heap[k]?):AtX S w' d t v:=by
 obtain ⟨k,x,n,es,u,h1,h2,h3⟩:=h
 exact ⟨k,x,n,es,u,h1,h2,h3.imp fun b o t _ h=>h.on (fun k hk hl=>hb k hl hk) fun _ _ h=>h⟩
theorem AtX.up {S:Nat->Prop} {w:World} {d:Nat} {t v:Value} (h:AtX S w d t v):AtX S w (d+1) t v:=by
 obtain ⟨k,x,n,es,u,h1,h2,h3⟩:=h
 exact ⟨k,x,n,es,u,h1,h2,h3.imp fun b o t _ h=>TyX.up _ _ _ _ h⟩
theorem AtX.val {S:Nat->Prop} {w:World} {d:Nat} {t v:Value} (h:AtX S w d t v):∃k x n u,v=.agg #[.int .i64 k,.string x,.int .i64 n,u]/\u.oneCell'=true:=by
 obtain ⟨k,x,n,es,u,_,h1,h2⟩:=h
 obtain ⟨o1,c1,rfl⟩:=Row.len h2
 exact ⟨k,x,n,_,h1,rfl⟩
theorem AtX.tyv {S:Nat->Prop} {w:World} {d:Nat} {t v:Value} (h:AtX S w d t v):TyV 0 d w t v:=by
 obtain ⟨k,x,n,es,u,h1,h2,h3⟩:=h
 exact ⟨k,x,n,es,u,h1,h2,h3.imp fun b o t _ h=>h.toC⟩
theorem AtX.cells {S:Nat->Prop} {w:World} {d b o:Nat} {t:Value} {cs:Array Value} (h:AtX S w d t (.agg cs)) (hS:¬ S b) (hc:∀j x,cs[j]?=some x->w.cell? ⟨b,o+j,none⟩=some x):TyX false S w (d+1) b o t:=by
 obtain ⟨k,x,n,es,u,h1,h2,h3⟩:=h
 injection h2 with h2
 subst h2
 exact ⟨⟨hS,fun h=>by cases h⟩,k,x,n,es,u,h1,hc 0 _ rfl,hc 1 _ rfl,hc 2 _ rfl,hc 3 _ rfl,h3⟩
end Ty
set_option maxRecDepth 100000 in
set_option maxHeartbeats 4000000 in
theorem t_Same0 {w:World} {d:Nat} {t v1 v2:Value} {S:Nat->Prop} (h1:AtX S w d t v1) (h2:AtX S w d t v2):Calls Try.prog 32 #[v1,v2] w fun e w'=>e=.returned (.bool true)/\Below w.heap.size w w':=by
 obtain ⟨k1,x1,n1,u1,rfl,ho1⟩:=h1.val
 obtain ⟨k2,x2,n2,u2,rfl,ho2⟩:=h2.val
 obtain ⟨W,hW⟩:∃W,W=(w.alloc (.cells #[.int .i64 k1,.string x1,.int .i64 n1,u1] 34)).alloc (.cells #[.int .i64 k2,.string x2,.int .i64 n2,u2] 34):=⟨_,rfl⟩
 have hb1:=new_on' w (.cells #[.int .i64 k1,.string x1,.int .i64 n1,u1] 34)
 have hb2:=new_on' (w.alloc (.cells #[.int .i64 k1,.string x1,.int .i64 n1,u1] 34)) (.cells #[.int .i64 k2,.string x2,.int .i64 n2,u2] 34)
 have hb:Below w.heap.size w W:=by rw [hW];exact below_go hb1 hb2
 have hx:W.heap[w.heap.size]?=some (.cells #[.int .i64 k1,.string x1,.int .i64 n1,u1] 34 (0,0)):=by rw [hW,hb2.block _ (by simp)];exact heap_alloc_new w _
 have hy:W.heap[w.heap.size+1]?=some (.cells #[.int .i64 k2,.string x2,.int .i64 n2,u2] 34 (0,0)):=by rw [hW];exact heap_newA _ _ (by simp)
 have HC:=hideR (t_same0 (d+1) W t w.heap.size 0 (w.heap.size+1) 0 (tyv_box h1.tyv hb hx) (tyv_box h2.tyv hb hy))
 have HB:=hideR hb
 clear h1 h2 hb hb1 hb2 hx hy
 go_enter Try.func32,Try.ntmps32
 go_upto_region 1 with fail
 rw [<- hW]
 clear hW
 go_wp2_with fail
 refine Calls.mono (show Calls _ _ _ _ _ from HC.out) ?_
 rintro e w3 ⟨rfl,hb⟩
 have HB3:=hideR (below_go HB.out hb)
 clear hb HC
 go_wp2
 go_ret
 exact ⟨rfl,HB3.out⟩
set_option maxRecDepth 100000 in
set_option maxHeartbeats 4000000 in
theorem t_list {w:World} {d:Nat} {t v:Value} {S:Nat->Prop} (h:AtX S w d t v) (hS:∀k,S k->k<w.heap.size):Calls Try.prog 31 #[v] w fun e w'=>∃u,e=.returned u/\Below w.heap.size w w'/\AtX S w' (d+1) (nd 4 ⟨#[108,105,115,116]⟩ e0 0 [t] [] 0) u:=by
 obtain ⟨k1,x1,n1,u1,rfl,ho1⟩:=h.val
 obtain ⟨W,hW⟩:∃W,W=(w.alloc (.cells #[.int .i64 k1,.string x1,.int .i64 n1,u1] 34)).alloc (.cells #[.int .i64 0,.string ⟨#[]⟩,.int .i64 0,.slice none 0 0] 34):=⟨_,rfl⟩
 have hb1:=new_on' w (.cells #[.int .i64 k1,.string x1,.int .i64 n1,u1] 34)
 have hb2:=new_on' (w.alloc (.cells #[.int .i64 k1,.string x1,.int .i64 n1,u1] 34)) (.cells #[.int .i64 0,.string ⟨#[]⟩,.int .i64 0,.slice none 0 0] 34)
 have hb:Below w.heap.size w W:=by rw [hW];exact below_go hb1 hb2
 have hx:W.heap[w.heap.size]?=some (.cells #[.int .i64 k1,.string x1,.int .i64 n1,u1] 34 (0,0)):=by rw [hW,hb2.block _ (by simp)];exact heap_alloc_new w _
 have hy:W.heap[w.heap.size+1]?=some (.cells #[.int .i64 0,.string ⟨#[]⟩,.int .i64 0,.slice none 0 0] 34 (0,0)):=by rw [hW];exact heap_newA _ _ (by simp)
 have hws:W.heap.size=w.heap.size+2:=by rw [hW];simp
 have z0:=put_cell hx 0 _ rfl
 have z1:=put_cell hx 1 _ rfl
 have z2:=put_cell hx 2 _ rfl
 have z3:=put_cell hx 3 _ rfl
 obtain ⟨W2,hW2⟩:∃W2,W2=W.alloc (.cells #[.int .i64 k1,.string x1,.int .i64 n1,u1] 34):=⟨_,rfl⟩
 have hb3:Below W.heap.size W W2:=by rw [hW2];exact new_on' _ _
 have hx2:W2.heap[W.heap.size]?=some (.cells #[.int .i64 k1,.string x1,.int .i64 n1,u1] 34 (0,0)):=by rw [hW2];exact heap_alloc_new W _
 have hy2:=(hb3.block _ (Array.getElem?_eq_some_iff.1 hy).1).trans hy
 obtain ⟨W9,hW9,hth,hbk,hbl,hne⟩:=put4 (w:=w) (z:=#[.int .i64 0,.string ⟨#[]⟩,.int .i64 0,.slice none 0 0]) (vs:=#[.int .i64 4,.string ⟨#[108,105,115,116]⟩,.int .i64 0,.slice (some ⟨W.heap.size,0,none⟩) 1 1]) rfl hy2 (below_go hb hb3) (Nat.le_succ _)
 have hx9:=(hne W.heap.size (by omega)).trans hx2
 have hA:AtX S W9 d t (.agg #[.int .i64 k1,.string x1,.int .i64 n1,u1]):=h.on fun k hk _=>hbl.block k hk
 have HAT:Hid (AtX S W9 (d+1) (nd 4 ⟨#[108,105,115,116]⟩ e0 0 [t] [] 0) (.agg #[.int .i64 4,.string ⟨#[108,105,115,116]⟩,.int .i64 0,.slice (some ⟨W.heap.size,0,none⟩) 1 1])):=hideR ⟨4,_,0,[t],_,rfl,rfl,by simp,.inr ⟨W.heap.size,0,1,rfl,fun i y hy=>by
  match i,hy with
  | 0,hy =>
   injection hy with hy
   subst hy
   exact hA.cells (fun hk=>by have:=hS _ hk;omega) fun j x hj=>by rw [show 0+0*4+j=j by omega];exact put_cell hx9 j x hj⟩⟩
 have HW9:=hideR hW9;have HTH:=hideR hth;have HBK:=hideR hbk;have HBL:=hideR hbl;have HW2:=hideR hW2
 clear h hb1 hb2 hb hx hy hws hb3 hx2 hy2 hW9 hth hbk hbl hne hx9 hA hW2
 go_enter Try.func31,Try.ntmps31
 go_upto_region 1 with fail
 rw [<- hW]
 clear hW
 go_wp2_with (first|(rw [<- HW2.out];refine wpList_store_mid rfl 34 (.tmp 2) (.tmp 5) rfl (w.heap.size+1) 0 #[.int .i64 4,.string ⟨#[108,105,115,116]⟩,.int .i64 0,.slice (some ⟨W.heap.size,0,none⟩) 1 1] rfl rfl HTH.out sizeTy' (by simp [Value.oneCell']) ?_;rw [HW9.out])|fail)
 have y0:=put_cell HBK.out 0 _ rfl
 have y1:=put_cell HBK.out 1 _ rfl
 have y2:=put_cell HBK.out 2 _ rfl
 have y3:=put_cell HBK.out 3 _ rfl
 refine bodyPost_ret (v:=.agg #[.int .i64 4,.string ⟨#[108,105,115,116]⟩,.int .i64 0,.slice (some ⟨W.heap.size,0,none⟩) 1 1]) (by simp [results,Try.results31,go_sem,y0,y1,y2,y3]) rfl ⟨_,rfl,HBL.out,HAT.out⟩
set_option maxRecDepth 100000 in
set_option maxHeartbeats 4000000 in
theorem t_fun {w:World} {d:Nat} {t s v r:Value} {S:Nat->Prop} (h:AtX S w d t v) (h':AtX S w d s r) (hS:∀k,S k->k<w.heap.size):Calls Try.prog 30 #[v,r] w fun e w'=>∃u,e=.returned u/\Below w.heap.size w w'/\AtX S w' (d+1) (nd 3 e0 e0 0 [t,s] [] 0) u:=by
 obtain ⟨k1,x1,n1,u1,rfl,ho1⟩:=h.val
 obtain ⟨k2,x2,n2,u2,rfl,ho2⟩:=h'.val
 obtain ⟨W,hW⟩:∃W,W=((w.alloc (.cells #[.int .i64 k1,.string x1,.int .i64 n1,u1] 34)).alloc (.cells #[.int .i64 k2,.string x2,.int .i64 n2,u2] 34)).alloc (.cells #[.int .i64 0,.string ⟨#[]⟩,.int .i64 0,.slice none 0 0] 34):=⟨_,rfl⟩
 have hb1:=new_on' w (.cells #[.int .i64 k1,.string x1,.int .i64 n1,u1] 34)
 have hb2:=new_on' (w.alloc (.cells #[.int .i64 k1,.string x1,.int .i64 n1,u1] 34)) (.cells #[.int .i64 k2,.string x2,.int .i64 n2,u2] 34)
 have hb3:=new_on' ((w.alloc (.cells #[.int .i64 k1,.string x1,.int .i64 n1,u1] 34)).alloc (.cells #[.int .i64 k2,.string x2,.int .i64 n2,u2] 34)) (.cells #[.int .i64 0,.string ⟨#[]⟩,.int .i64 0,.slice none 0 0] 34)
 have hb:Below w.heap.size w W:=by rw [hW];exact below_go (below_go hb1 hb2) hb3
 have hx:W.heap[w.heap.size]?=some (.cells #[.int .i64 k1,.string x1,.int .i64 n1,u1] 34 (0,0)):=by rw [hW,hb3.block _ (by simp;omega),hb2.block _ (by simp)];exact heap_alloc_new w _
 have hx':W.heap[w.heap.size+1]?=some (.cells #[.int .i64 k2,.string x2,.int .i64 n2,u2] 34 (0,0)):=by rw [hW,hb3.block _ (by simp)];exact heap_newA _ _ (by simp)
 have hy:W.heap[w.heap.size+2]?=some (.cells #[.int .i64 0,.string ⟨#[]⟩,.int .i64 0,.slice none 0 0] 34 (0,0)):=by rw [hW];exact heap_newA _ _ (by simp)
 have hws:W.heap.size=w.heap.size+3:=by rw [hW];simp
 have z0:=put_cell hx 0 _ rfl
 have z1:=put_cell hx 1 _ rfl
 have z2:=put_cell hx 2 _ rfl
 have z3:=put_cell hx 3 _ rfl
 have y0:=put_cell hx' 0 _ rfl
 have y1:=put_cell hx' 1 _ rfl
 have y2:=put_cell hx' 2 _ rfl
 have y3:=put_cell hx' 3 _ rfl
 obtain ⟨W2,hW2⟩:∃W2,W2=W.alloc (.cells #[.int .i64 k1,.string x1,.int .i64 n1,u1,.int .i64 k2,.string x2,.int .i64 n2,u2] 34):=⟨_,rfl⟩
 have hb4:Below W.heap.size W W2:=by rw [hW2];exact new_on' _ _
 have hx2:W2.heap[W.heap.size]?=some (.cells #[.int .i64 k1,.string x1,.int .i64 n1,u1,.int .i64 k2,.string x2,.int .i64 n2,u2] 34 (0,0)):=by rw [hW2];exact heap_alloc_new W _
 have hy2:=(hb4.block _ (Array.getElem?_eq_some_iff.1 hy).1).trans hy
 obtain ⟨W9,hW9,hth,hbk,hbl,hne⟩:=put4 (w:=w) (z:=#[.int .i64 0,.string ⟨#[]⟩,.int .i64 0,.slice none 0 0]) (vs:=#[.int .i64 3,.string ⟨#[]⟩,.int .i64 0,.slice (some ⟨W.heap.size,0,none⟩) 2 2]) rfl hy2 (below_go hb hb4) (by omega)
 have hx9:=(hne W.heap.size (by omega)).trans hx2
 have hA:AtX S W9 d t (.agg #[.int .i64 k1,.string x1,.int .i64 n1,u1]):=h.on fun k hk _=>hbl.block k hk
 have hA':AtX S W9 d s (.agg #[.int .i64 k2,.string x2,.int .i64 n2,u2]):=h'.on fun k hk _=>hbl.block k hk
 have HAT:Hid (AtX S W9 (d+1) (nd 3 e0 e0 0 [t,s] [] 0) (.agg #[.int .i64 3,.string ⟨#[]⟩,.int .i64 0,.slice (some ⟨W.heap.size,0,none⟩) 2 2])):=hideR ⟨3,_,0,[t,s],_,rfl,rfl,by simp,.inr ⟨W.heap.size,0,2,rfl,fun i y hy=>by
  match i,hy with
  | 0,hy =>
   injection hy with hy
   subst hy
   exact hA.cells (fun hk=>by have:=hS _ hk;omega) fun j x hj=>by
    have hj4:=(Array.getElem?_eq_some_iff.1 hj).1
    have hj4':j<4:=hj4
    rw [show 0+0*4+j=j by omega]
    refine put_cell hx9 j x ?_
    rcases (by omega:j=0\/j=1\/j=2\/j=3) with rfl|rfl|rfl|rfl<;>exact hj
  | 1,hy =>
   obtain rfl:s=y:=by simpa using hy
   exact hA'.cells (fun hk=>by have:=hS _ hk;omega) fun j x hj=>by
    have hj4:=(Array.getElem?_eq_some_iff.1 hj).1
    have hj4':j<4:=hj4
    refine put_cell hx9 _ x ?_
    rcases (by omega:j=0\/j=1\/j=2\/j=3) with rfl|rfl|rfl|rfl<;>exact hj⟩⟩
 have HW9:=hideR hW9;have HTH:=hideR hth;have HBK:=hideR hbk;have HBL:=hideR hbl;have HW2:=hideR hW2
 clear h h' hb1 hb2 hb hx hx' hy hws hb3 hb4 hx2 hy2 hW9 hth hbk hbl hne hx9 hA hA' hW2
 go_enter Try.func30,Try.ntmps30
 go_upto_region 1 with fail
 rw [<- hW]
 clear hW
 go_wp2_with (first|(rw [<- HW2.out];refine wpList_store_mid rfl 34 (.tmp 4) (.tmp 8) rfl (w.heap.size+2) 0 #[.int .i64 3,.string ⟨#[]⟩,.int .i64 0,.slice (some ⟨W.heap.size,0,none⟩) 2 2] rfl rfl HTH.out sizeTy' (by simp [Value.oneCell']) ?_;rw [HW9.out])|fail)
 have m0:=put_cell HBK.out 0 _ rfl
 have m1:=put_cell HBK.out 1 _ rfl
 have m2:=put_cell HBK.out 2 _ rfl
 have m3:=put_cell HBK.out 3 _ rfl
 refine bodyPost_ret (v:=.agg #[.int .i64 3,.string ⟨#[]⟩,.int .i64 0,.slice (some ⟨W.heap.size,0,none⟩) 2 2]) (by simp [results,Try.results30,go_sem,m0,m1,m2,m3]) rfl ⟨_,rfl,HBL.out,HAT.out⟩
end Go.Proofs.Ytkflfohoinbenaa
