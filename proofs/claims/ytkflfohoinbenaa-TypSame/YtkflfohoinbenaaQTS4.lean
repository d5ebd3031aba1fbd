/- Texts that the claim needs. -/
import Derived.Test.YtkflfohoinbenaaQTS3
import Derived.Test.YtkflfohoinbenaaQTS0
import Derived.OwnWalk
import Derived.LaidEqlPtr
namespace Go.Proofs.Ytkflfohoinbenaa
open Go.RowKit Lx Pz Rep Ty
set_option linter.unusedVariables false
set_option maxHeartbeats 2000000
theorem t_itself (w:World) (v:Value):Calls Try.prog 36 #[v] w fun e w'=>e=.returned v/\Below w.heap.size w w':=by
 go_enter Try.func36,Try.ntmps36
 go_wp2
 go_ret
 exact ⟨rfl,Below.refl _ _⟩
namespace Ty
def smT:Nat->Value->Prop
 | 0,_=>True
 | d+1,t=>(namT t).size<=281474976710656/\∀x ∈ argsV t,smT d x
def Don (e:Nat) (i:Nat) (es:List Value) (u:World):Prop:=∃cur:Array Value,u.heap[e]?=some (.cells cur 34 (0,0))/\cur.size=es.length*4/\∀j t,j<i->es[j]?=some t->∃cs:Array Value,cs.size=4/\tyU (e+1) t (.agg cs) u/\∀r c,cs[r]?=some c->cur[j*4+r]?=some c
theorem Don.on {e i:Nat} {es:List Value} {u u':World} (h:Don e i es u) (hb:Below u.heap.size u u'):Don e i es u':=by
 obtain ⟨cur,h1,h2,h3⟩:=h
 exact ⟨cur,(hb.block e (Array.getElem?_eq_some_iff.1 h1).1).trans h1,h2,fun j t hj ht=>by
  obtain ⟨cs,a,b,c⟩:=h3 j t hj ht
  exact ⟨cs,a,b.on (Abv.of hb) (Nat.le_refl _),c⟩⟩
theorem Don.put {e i:Nat} {es:List Value} {u:World} {t:Value} {cs:Array Value} (h:Don e i es u) (ht:es[i]?=some t) (hc:cs.size=4) (hv:tyU (e+1) t (.agg cs) u):u.there e (i*4) 4/\Don e (i+1) es (u.setCells e (i*4) cs.toList)/\∀k,k≠e->(u.setCells e (i*4) cs.toList).heap[k]?=u.heap[k]?:=by
 obtain ⟨cur,h1,h2,h3⟩:=h
 have hi:=(List.getElem?_eq_some_iff.1 ht).1
 have hcl:cs.toList.length=4:=by simpa using hc
 have hne:∀k,k≠e->(u.setCells e (i*4) cs.toList).heap[k]?=u.heap[k]?:=fun k hk=>cells_ne e k hk _ _ u
 refine ⟨fun j hj=>⟨?_,?_⟩,⟨_,cells_heap e 34 cs.toList (i*4) u cur h1 (by rw [hcl];omega),?_,fun j t' hj ht'=>?_⟩,hne⟩
 ·have:i*4+j<cur.size:=by omega
  unfold World.cell?;rw [h1];simp [this]
 ·unfold World.frozen?;rw [h1];simp
 ·simp only [List.size_toArray,List.length_append,List.length_take,List.length_drop,Array.length_toList];omega
 ·by_cases hji:j<i
  ·obtain ⟨cs',a,b,c⟩:=h3 j t' hji ht'
   refine ⟨cs',a,b.on (fun k hk _=>hne k (by omega)) (Nat.le_refl _),fun r c' hr=>?_⟩
   have hr4:r<4:=by have:=(Array.getElem?_eq_some_iff.1 hr).1;omega
   have hcc:=c r c' hr
   simp only [List.getElem?_toArray]
   rw [List.append_assoc,List.getElem?_append_left (by simp;omega),List.getElem?_take_of_lt (by omega)]
   simpa using hcc
  ·obtain rfl:j=i:=by omega
   rw [ht] at ht'
   injection ht' with ht'
   subst ht'
   refine ⟨cs,hc,hv.on (fun k hk _=>hne k (by omega)) (Nat.le_refl _),fun r c' hr=>?_⟩
   have hr4:r<4:=by have:=(Array.getElem?_eq_some_iff.1 hr).1;omega
   simp only [List.getElem?_toArray]
   have htl:(cur.toList.take (j*4)).length=j*4:=by simp;omega
   rw [List.append_assoc,List.getElem?_append_right (by omega),htl,Nat.add_sub_cancel_left,List.getElem?_append_left (by omega)]
   simpa using hr
theorem Don.row {e:Nat} {es:List Value} {u:World} (h:Don e es.length es u) (hl:es.length<=9223372036854775807) (c:Nat):RowU e (.slice (some ⟨e,0,none⟩) es.length c) es u:=by
 obtain ⟨cur,h1,h2,h3⟩:=h
 obtain ⟨d,hd⟩:=one_depth (ts:=es) (P:=fun d k t=>TyX true (fun k=>k<e) u d e (k*4) t) (fun d e' k t hde hp=>up_le (F:=TyX true (fun k=>k<e) u) TyX.up hde hp) es.length fun k t hk ht=>by
  obtain ⟨cs,a,b,c⟩:=h3 k t hk ht
  exact tyU_cells (b.on (C:=e) (fun _ _ _=>rfl) (Nat.le_succ _)) (Nat.le_refl _) ⟨_,_,h1⟩ fun r u' hr=>put_cell h1 _ u' (c r u' hr)
 exact ⟨d,hl,.inr ⟨e,0,c,rfl,fun k t ht=>by rw [Nat.zero_add];exact hd k t (List.getElem?_eq_some_iff.1 ht).1 ht⟩⟩
theorem plen14 {l:List Value} (h:l.length=14):∃a0 a1 a2 a3 a4 a5 a6 a7 a8 a9 a10 a11 a12 a13,l = [a0,a1,a2,a3,a4,a5,a6,a7,a8,a9,a10,a11,a12,a13]:=by
 match l,h with
 | [a0,a1,a2,a3,a4,a5,a6,a7,a8,a9,a10,a11,a12,a13],_=>exact ⟨_,_,_,_,_,_,_,_,_,_,_,_,_,_,rfl⟩
theorem cases15 {j:Nat} (h:j<15):j=0\/j=1\/j=2\/j=3\/j=4\/j=5\/j=6\/j=7\/j=8\/j=9\/j=10\/j=11\/j=12\/j=13\/j=14:=by omega
theorem cases12 {j:Nat} (h:j<12):j=0\/j=1\/j=2\/j=3\/j=4\/j=5\/j=6\/j=7\/j=8\/j=9\/j=10\/j=11:=by omega
theorem plen12 {l:List Value} (h:l.length=12):∃a0 a1 a2 a3 a4 a5 a6 a7 a8 a9 a10 a11,l = [a0,a1,a2,a3,a4,a5,a6,a7,a8,a9,a10,a11]:=by
 match l,h with
 | [a0,a1,a2,a3,a4,a5,a6,a7,a8,a9,a10,a11],_=>exact ⟨_,_,_,_,_,_,_,_,_,_,_,_,rfl⟩
theorem tyInf:(Try.prog.info? 34).map (fun i=>(i.zero,i.size,i.bytes))=some (some (.agg #[.int .i64 0,.string ⟨#[]⟩,.int .i64 0,.slice none 0 0]),4,56):=by kernel_rfl
end Ty
set_option maxRecDepth 100000 in
set_option maxHeartbeats 16000000 in
theorem t_built0:∀(d:Nat) (w:World) (t:Value) (b o:Nat),TyC 0 w (d+1) b o t->few d t->smT (d+1) t->Calls Try.prog 35 #[.pointer (some ⟨b,o,none⟩),.func (.func 36) #[] #[]] w fun e w'=>∃v',e=.returned v'/\Below w.heap.size w w'/\tyU w.heap.size t v' w':=by
 intro d
 induction d using Nat.strongRecOn with
 | _ d ih =>
  intro w t b o h hf hs
  obtain ⟨d0,k,x,n,es,oR,cR,hd,rfl,g0,g1,g2,g3,hlen,hel⟩:=tyC_ptr h
  obtain rfl:d=d0:=by omega
  have hle:es.length<=200010:=(few_parts hf).1.1
  have hsx:x.size<=281474976710656:=hs.1
  obtain ⟨q,hq⟩:∃q,q=w.heap.size:=⟨_,rfl⟩
  obtain ⟨W,hW⟩:∃W,W=w.alloc (.cells #[.int .i64 0,.string ⟨#[]⟩,.int .i64 0,.slice none 0 0] 34):=⟨_,rfl⟩
  have hb0:Below w.heap.size w W:=by rw [hW];exact new_on' _ _
  have HX0:Hid (W.heap[q]?=some (.cells #[.int .i64 0,.string ⟨#[]⟩,.int .i64 0,.slice none 0 0] 34 (0,0))):=hideR (by rw [hW,hq];exact heap_alloc_new w _)
  have HB0:=hideR hb0
  have HI:=hideR (t_itself W (.pointer (some ⟨b,o,none⟩)))
  have HQ:=hideR hq
  have HIH:Hid (∀i t1,es[i]?=some t1->∃b1 off,oR=some ⟨b1,off,none⟩/\∀u,Below w.heap.size w u->Calls Try.prog 35 #[.pointer (some ⟨b1,off+i*4,none⟩),.func (.func 36) #[] #[]] u fun e w'=>∃v',e=.returned v'/\Below u.heap.size u w'/\tyU u.heap.size t1 v' w'):=hideR fun i t1 ht1=>by
   obtain ⟨b1,off,ho,hC⟩:=hel i t1 ht1
   have hm:t1 ∈ es:=List.mem_of_getElem? ht1
   obtain ⟨d1,hd1,hfw⟩:=(few_parts hf).1.2 i t1 (List.getElem?_eq_some_iff.1 ht1).1 ht1
   subst hd1
   exact ⟨b1,off,ho,fun u hu=>ih d1 (Nat.lt_succ_self _) u t1 b1 (off+i*4) (hC.but (Abv.of hu)) hfw (hs.2 t1 hm)⟩
  have HL:=hideR hlen
  have HCL:=hideR (fun (u9:World)=>pClone x u9 hsx)
  have G:=hideR (And.intro g0 (And.intro g1 (And.intro g2 g3)))
  clear h hel hlen g0 g1 g2 g3 hq hb0 hsx hf hs ih
  go_enter Try.func35,Try.ntmps35
  go_upto_region 1 with fail
  rw [<- hW,<- HQ.out]
  clear hW
  go_wp2_with fail
  refine Calls.mono (show Calls _ _ _ _ _ from HI.out) ?_
  rintro e w1 ⟨rfl,hb1⟩
  have HB1:=hideR (below_go HB0.out hb1)
  have HX1:=hideR ((hb1.block _ (Array.getElem?_eq_some_iff.1 HX0.out).1).trans HX0.out)
  clear hb1 HI HX0 HB0
  obtain ⟨g0,g1,g2,g3⟩:=G.out
  have y0:=cell_on HB1.out g0
  have y1:=cell_on HB1.out g1
  have y2:=cell_on HB1.out g2
  have y3:=cell_on HB1.out g3
  clear g0 g1 g2 g3
  go_upto_region 2 with fail
  obtain ⟨TL,hTL⟩:∃TL:List Value,TL = [.pointer (some ⟨b,o,none⟩),.pointer (some ⟨b,o,none⟩),.pointer (some ⟨b,o,none⟩),.int .i64 k,.pointer (some ⟨b,o,none⟩),.pointer (some ⟨b,o,none⟩),.pointer (some ⟨b,o+1,none⟩),.string x,.string x,.pointer (some ⟨b,o,none⟩),.pointer (some ⟨b,o,none⟩),.pointer (some ⟨b,o+2,none⟩),.int .i64 n,.agg #[.int .i64 k,.string x,.int .i64 n,.slice none 0 0]]:=⟨_,rfl⟩
  have HTL:=hideR hTL
  clear hTL
  refine Reg.wp_region_two 15 (fun i=>if i<14 then 11+i else 5) (fun i v u=>if i<14 then v=TL.getD i undef else ∃g,v=.pointer (some ⟨g,0,none⟩)/\w1.heap.size<=g/\u.heap[g]?=some (.cells #[.int .i64 0,.string ⟨#[]⟩,.int .i64 0,.slice none 0 0] 34 (0,0))) (by kernel_rfl) (by kernel_rfl) (fun i j h1 h2 h=>by have h':(if i<14 then 11+i else 5)=(if j<14 then 11+j else 5):=h;split at h'<;>split at h'<;>omega) (Reg.dst_ok (dst:=fun i=>if i<14 then 11+i else 5) (size:=57) (by kernel_rfl)) (fun i v w w' _ h hb=>by
   split at h
   ·rename_i hi;rw [if_pos hi];exact h
   ·rename_i hi
    rw [if_neg hi]
    obtain ⟨g,h1,h2,h3⟩:=h
    exact ⟨g,h1,h2,(hb.block g (Array.getElem?_eq_some_iff.1 h3).1).trans h3⟩) ?hstep ?htail
  case hstep =>
   intro i o' a u9 hi ho hF hB hd
   have f0:a.tmps[0]?.getD undef=.pointer (some ⟨b,o,none⟩):=Reg.ev_get (hF.eval 0 (fun i hi=>by show (if i<14 then 11+i else 5)≠0;split<;>omega))
   have y0:=cell_on hB y0
   have y1:=cell_on hB y1
   have y2:=cell_on hB y2
   have HC9:=HCL.out u9
   have hTL:=HTL.out
   subst hTL
   have hd2:∀j ∈ Reg.deps o',j<14->a.tmps[11+j]?.getD undef=([.pointer (some ⟨b,o,none⟩),.pointer (some ⟨b,o,none⟩),.pointer (some ⟨b,o,none⟩),.int .i64 k,.pointer (some ⟨b,o,none⟩),.pointer (some ⟨b,o,none⟩),.pointer (some ⟨b,o+1,none⟩),.string x,.string x,.pointer (some ⟨b,o,none⟩),.pointer (some ⟨b,o,none⟩),.pointer (some ⟨b,o+2,none⟩),.int .i64 n,.agg #[.int .i64 k,.string x,.int .i64 n,.slice none 0 0]]:List Value).getD j undef:=fun j hj hj2=>by
    have h:=hd j hj
    have e:(if j<14 then 11+j else 5)=11+j:=if_pos hj2
    rw [e,if_pos hj2] at h
    exact Reg.ev_get h
   clear hd
   rcases cases15 hi with rfl|rfl|rfl|rfl|rfl|rfl|rfl|rfl|rfl|rfl|rfl|rfl|rfl|rfl|rfl
   all_goals (
    simp only [List.getElem?_toArray,List.getElem?_cons_succ,List.getElem?_cons_zero,Option.some.injEq] at ho
    subst ho
    refine Reg.step_k fun K hK=>?_
    simp [Reg.deps,Region.binds] at hd2
    go_simp
    first
    | exact hK _ _ ⟨_,rfl,Below.refl _ _,rfl⟩
    | exact hK _ _ ⟨_,rfl,Below.refl _ _,by simp [*]⟩
    | exact hK _ _ ⟨_,rfl,new_on' _ _,_,rfl,hB.size,heap_alloc_new _ _⟩
    | (refine Calls.mono HC9 ?_;rintro e w' ⟨rfl,hw⟩;exact hK _ _ ⟨.string x,rfl,hw,rfl⟩))
  case htail =>
   intro a u9 hF hB hG
   obtain ⟨vp,xl,hxl,rfl,hev5,hev⟩:=hF.lit2 (by omega) (by simp)
   obtain ⟨v0,v1,v2,v3,v4,v5,v6,v7,v8,v9,v10,v11,v12,v13,rfl⟩:=plen14 hxl
   have h13:=hG 13 (by decide)
   have h14:=hG 14 (by decide)
   rw [if_pos (by decide)] at h13
   rw [if_neg (by decide)] at h14
   obtain ⟨g,hg1,hg2,hg3⟩:=h14
   have e13:v13=.agg #[.int .i64 k,.string x,.int .i64 n,.slice none 0 0]:=(hev 13 (by decide)).symm.trans (by rw [HTL.out] at h13;exact h13)
   have e5:vp=.pointer (some ⟨g,0,none⟩):=hev5.symm.trans hg1
   subst e13 e5
   obtain ⟨W2,hW2,hth,hbk,hbl,hne⟩:=put4 (w:=w1) (z:=#[.int .i64 0,.string ⟨#[]⟩,.int .i64 0,.slice none 0 0]) (vs:=#[.int .i64 k,.string x,.int .i64 n,.slice none 0 0]) rfl hg3 hB hg2
   have y3:=cell_on hbl y3
   have HB9:=hideR (below_go HB1.out hbl)
   have HX9:=hideR ((hbl.block _ (Array.getElem?_eq_some_iff.1 HX1.out).1).trans HX1.out)
   have HBK:=hideR hbk
   have HTH:=hideR hth
   have HW2:=hideR hW2
   have HG2:=hideR hg2
   clear hev hev5 hxl hF hG hB y0 y1 y2 h13 hg1 hg3 hth hbk hbl hne hW2 hg2 HCL
   simp only [List.take_succ_cons,List.take_zero,List.drop_succ_cons,List.drop_zero,List.cons_append,List.nil_append]
   refine wpList_store_mid rfl 34 (.tmp 5) (.tmp 24) rfl g 0 #[.int .i64 k,.string x,.int .i64 n,.slice none 0 0] rfl rfl HTH.out sizeTy' (by simp [Value.oneCell']) ?_
   rw [HW2.out]
   have hqg:q<g:=by have h1:=HG2.out;have h2:=(Array.getElem?_eq_some_iff.1 HX1.out).1;omega
   clear HX1
   have hgw:g<W2.heap.size:=(Array.getElem?_eq_some_iff.1 HBK.out).1
   by_cases hz:es.length=0
   ·rw [hz] at y3
    have HY3:=hideR y3
    go_wp2_with fail
    go_loopw [40] (fun aa wr=>aa=.int .i64 0/\wr=W2) (fun _ _=>0)
    case atStart=>exact ⟨rfl,rfl⟩
    case round =>
     obtain ⟨rfl,rfl⟩:=hrel
     have kc0:=put_cell HBK.out 0 _ rfl
     have kc1:=put_cell HBK.out 1 _ rfl
     have kc2:=put_cell HBK.out 2 _ rfl
     have kc3:=put_cell HBK.out 3 _ rfl
     have hrow:RowU (q+1) (.slice none 0 0) es wr:=by rw [List.length_eq_zero_iff.1 hz];exact RowU.nil _ _
     obtain ⟨W9,hW9,hth,hbk,hbl,hne⟩:=put4 (w:=w) (z:=#[.int .i64 0,.string ⟨#[]⟩,.int .i64 0,.slice none 0 0]) (vs:=#[.int .i64 k,.string x,.int .i64 n,.slice none 0 0]) rfl HX9.out HB9.out (by rw [HQ.out];exact Nat.le_refl _)
     have HTY:Hid (tyU w.heap.size (nd k x e0 n es [] 0) (.agg #[.int .i64 k,.string x,.int .i64 n,.slice none 0 0]) W9):=hideR ((tyNU k x n hrow).on (fun kk hk hl=>hne kk (by omega)) (by have:=HQ.out;omega))
     have HW9:=hideR hW9;have HTH9:=hideR hth;have HBK9:=hideR hbk;have HBL:=hideR hbl
     clear hth hbk hbl hW9 hne
     go_wp2_with (refine wpList_store_mid rfl 34 (.tmp 4) (.tmp 56) rfl q 0 #[.int .i64 k,.string x,.int .i64 n,.slice none 0 0] rfl rfl HTH9.out sizeTy' (by simp [Value.oneCell']) ?_;rw [HW9.out])
     have m0:=put_cell HBK9.out 0 _ rfl
     have m1:=put_cell HBK9.out 1 _ rfl
     have m2:=put_cell HBK9.out 2 _ rfl
     have m3:=put_cell HBK9.out 3 _ rfl
     refine bodyPost_ret (v:=.agg #[.int .i64 k,.string x,.int .i64 n,.slice none 0 0]) (by simp [results,Try.results35,go_sem,m0,m1,m2,m3]) rfl ⟨_,rfl,HBL.out,HTY.out⟩
   ·have hz1:0<es.length:=by omega
    have hgt:decide ((es.length:Int) > 0)=true:=decide_eq_true (by omega)
    obtain ⟨E,hE⟩:∃E,E=W2.heap.size:=⟨_,rfl⟩
    obtain ⟨i0,hi,hz0,hz1,hz2⟩:=info_parts tyInf
    obtain ⟨W3,hrun,hrow,hgr⟩:=run_make_full (P:=Try.prog) W2 W2.heap.size 32 34 i0 _ 4 (by kernel_rfl) hi hz0 hz1 .i64 .i64 es.length (by rw [hz2];omega) (by unfold maxLen;omega) (Nat.le_refl _)
    have hb3:Below W2.heap.size W2 W3:=⟨hgr.os,hgr.tape,hgr.output,hgr.size,fun k hk=>hgr.block k hk (by simp)⟩
    rw [<- hE] at hrun hrow hgw
    obtain ⟨cur,hcur,hcs⟩:∃cur:Array Value,W3.heap[E]?=some (.cells cur 34 (0,0))/\cur.size=es.length*4:=by
     rcases hrow.2 with ⟨h,_⟩|⟨g',cap,cur,h1,_,h3,_,_,h5,_⟩
     ·cases h
     ·injection h1 with h1 h1' h1''
      injection h1 with h1
      injection h1 with h1
      subst h1
      subst h1''
      exact ⟨cur,h3,h5⟩
    have hx3:=(hb3.block g (by rw [<- hE];exact hgw)).trans HBK.out
    have f3:W3.frozen? ⟨g,3,none⟩=false:=by unfold World.frozen?;rw [hx3];simp
    have z3:=put_cell hx3 3 _ rfl
    obtain ⟨W4,hW4⟩:∃W4,W4=W3.setCell ⟨g,3,none⟩ (.slice (some ⟨E,0,none⟩) es.length es.length):=⟨_,rfl⟩
    have hn4:∀k,k≠g->W4.heap[k]?=W3.heap[k]?:=fun k hk=>by rw [hW4];exact Below.heap_setCell _ _ _ _ hk
    have HX4:Hid (W4.heap[g]?=some (.cells #[.int .i64 k,.string x,.int .i64 n,.slice (some ⟨E,0,none⟩) es.length es.length] 34 (0,0))):=hideR (by rw [hW4];exact heap_setCell_same W3 g 3 _ _ _ hx3)
    have HB4:Hid (Below w.heap.size w W4):=hideR (by rw [hW4];exact (below_go HB9.out hb3).setCell (by have:=HQ.out;show w.heap.size<=g;omega) _)
    have HQ4:Hid (W4.heap[q]?=some (.cells #[.int .i64 0,.string ⟨#[]⟩,.int .i64 0,.slice none 0 0] 34 (0,0))):=hideR ((hn4 q (by omega)).trans ((hb3.block q (by rw [<- hE];omega)).trans HX9.out))
    have HD4:Hid (Don E 0 es W4):=hideR ⟨cur,(hn4 E (by omega)).trans hcur,hcs,fun j t hj _=>absurd hj (Nat.not_lt_zero _)⟩
    have HH:=hideR hW4
    clear hW4 hn4 hx3 hcur hcs hb3 hrow hgr HB9 HX9 HBK
    go_upto_region 6 with fail
    rw [<- hE,<- HH.out]
    clear hrun hi hz0 hz2 f3 z3 HH y3 hE
    have y3:=cell_on HB4.out G.out.2.2.2
    go_wp2_with fail
    go_loopw [40] (fun aa wr=>∃i:Nat,aa=.int .i64 i/\i<=es.length/\Hid (Don E i es wr)/\Hid (wr.heap[g]?=some (.cells #[.int .i64 k,.string x,.int .i64 n,.slice (some ⟨E,0,none⟩) es.length es.length] 34 (0,0)))/\Hid (wr.heap[q]?=some (.cells #[.int .i64 0,.string ⟨#[]⟩,.int .i64 0,.slice none 0 0] 34 (0,0)))/\Hid (Below w.heap.size w wr)) (fun aa _=>match aa with | .int _ i=>es.length-i.toNat|_=>0)
    case atStart=>exact ⟨0,rfl,Nat.zero_le _,HD4,HX4,HQ4,HB4⟩
    case round =>
     obtain ⟨i,rfl,hi,HD,HXg,HXq,HB⟩:=hrel
     clear HD4 HX4 HQ4 HB4 y3
     by_cases hp:i<es.length
     ·have q1:decide ((i:Int)<(es.length:Int))=true:=decide_eq_true (by omega)
      obtain ⟨t1,ht1⟩:∃t1,es[i]?=some t1:=⟨_,List.getElem?_eq_getElem hp⟩
      obtain ⟨b1,off,hoR,hcall⟩:=HIH.out i t1 ht1
      subst hoR
      have hw1:=wrapI hp HL.out
      have HC:=hideR (fun u (hu:Below wr.heap.size wr u)=>hcall u (below_go HB.out hu))
      have HT1:=hideR ht1
      have hEw:E<wr.heap.size:=by obtain ⟨cur,h,_⟩:=HD.out;exact (Array.getElem?_eq_some_iff.1 h).1
      clear hcall ht1 HIH
      obtain ⟨TL9,hTL9⟩:∃TL9:List Value,TL9 = [.pointer (some ⟨g,3,none⟩),.slice (some ⟨E,0,none⟩) es.length es.length,.int .i64 i,.pointer (some ⟨b,o,none⟩),.pointer (some ⟨b,o,none⟩),.pointer (some ⟨b,o+3,none⟩),.slice (some ⟨b1,off,none⟩) es.length cR,.int .i64 i,.pointer (some ⟨b1,off+i*4,none⟩),.func (.func 36) #[] #[],undef,.pointer (some ⟨E,i*4,none⟩)]:=⟨_,rfl⟩
      have HTL9:=hideR hTL9
      have hEr:=hideR hEw
      clear hTL9
      go_upto_region 9 with fail
      refine Reg.wp_region_two 12 (fun i'=>43+i') (fun i' v u=>if i'=10 then tyU (E+1) t1 v u else v=TL9.getD i' undef) (by kernel_rfl) (by kernel_rfl) (fun i1 i2 h1 h2 h=>by have h':43+i1=43+i2:=h;omega) (Reg.dst_ok (dst:=fun i'=>43+i') (size:=57) (by kernel_rfl)) (fun i' v u u' _ h hb=>by
       split at h
       ·rename_i hi';rw [if_pos hi'];exact h.on (Abv.of hb) (Nat.le_refl _)
       ·rename_i hi';rw [if_neg hi'];exact h) ?hstep ?htail
      case hstep =>
       intro j o' a u9 hj ho hF hB hd
       have f0:a.tmps[0]?.getD undef=.pointer (some ⟨b,o,none⟩):=Reg.ev_get (hF.eval 0 (fun i hi=>by show 43+i≠0;omega))
       have f1:a.tmps[1]?.getD undef=.func (.func 36) #[] #[]:=Reg.ev_get (hF.eval 1 (fun i hi=>by show 43+i≠1;omega))
       have f5:a.tmps[5]?.getD undef=.pointer (some ⟨g,0,none⟩):=Reg.ev_get (hF.eval 5 (fun i hi=>by show 43+i≠5;omega))
       have f7:a.tmps[7]?.getD undef=.int .i64 (i:Int):=Reg.ev_get (hF.eval 7 (fun i hi=>by show 43+i≠7;omega))
       have y3:=cell_on (below_go HB.out hB) G.out.2.2.2
       have kc3:=cell_on hB (put_cell HXg.out 3 _ rfl)
       have hCu:=HC.out u9 hB
       have hd2:∀j2 ∈ Reg.deps o',j2≠10->a.tmps[43+j2]?.getD undef=([.pointer (some ⟨g,3,none⟩),.slice (some ⟨E,0,none⟩) es.length es.length,.int .i64 i,.pointer (some ⟨b,o,none⟩),.pointer (some ⟨b,o,none⟩),.pointer (some ⟨b,o+3,none⟩),.slice (some ⟨b1,off,none⟩) es.length cR,.int .i64 i,.pointer (some ⟨b1,off+i*4,none⟩),.func (.func 36) #[] #[],undef,.pointer (some ⟨E,i*4,none⟩)]:List Value).getD j2 undef:=fun j2 hj2 hj3=>by
        have h:=hd j2 hj2
        rw [if_neg hj3,HTL9.out] at h
        exact Reg.ev_get h
       have hTL9:=HTL9.out
       subst hTL9
       clear hd
       rcases cases12 hj with rfl|rfl|rfl|rfl|rfl|rfl|rfl|rfl|rfl|rfl|rfl|rfl
       all_goals (
        simp only [List.getElem?_toArray,List.getElem?_cons_succ,List.getElem?_cons_zero,Option.some.injEq] at ho
        subst ho
        refine Reg.step_k fun K hK=>?_
        simp [Reg.deps,Region.binds] at hd2
        go_simp
        first
        | exact hK _ _ ⟨_,rfl,Below.refl _ _,rfl⟩
        | exact hK _ _ ⟨_,rfl,Below.refl _ _,by simp [*]⟩
        | (refine Calls.mono (show Calls _ _ _ _ _ from hCu) ?_;rintro e w' ⟨v',rfl,hw,hty⟩;exact hK _ _ ⟨_,rfl,hw,hty.on (C:=E+1) (fun _ _ _=>rfl) (by have:=hB.size;have:=hEr.out;omega)⟩))
      case htail =>
       intro a u9 hF hB hG
       obtain ⟨xl,hxl,rfl,hev⟩:=hF.lit (by simp)
       obtain ⟨s0,s1,s2,s3,s4,s5,s6,s7,s8,s9,s10,s11,rfl⟩:=plen12 hxl
       have h10:=hG 10 (by decide)
       have h11:=hG 11 (by decide)
       rw [if_pos rfl] at h10
       rw [if_neg (by decide),HTL9.out] at h11
       have e11:s11=.pointer (some ⟨E,i*4,none⟩):=(hev 11 (by decide)).symm.trans h11
       have e10:tyU (E+1) t1 s10 u9:=by rw [<- show _=s10 from hev 10 (by decide)];exact h10
       obtain ⟨k9,x9,n9,v9,rfl,hone9⟩:=e10.val
       subst e11
       obtain ⟨hth,hdon,hne⟩:=(HD.out.on hB).put (cs:=#[.int .i64 k9,.string x9,.int .i64 n9,v9]) HT1.out rfl e10
       obtain ⟨W9,hW9⟩:∃W9,W9=u9.setCells E (i*4) [.int .i64 k9,.string x9,.int .i64 n9,v9]:=⟨_,rfl⟩
       have hdon':Don E (i+1) es W9:=by rw [hW9];exact hdon
       have hne':∀kk,kk≠E->W9.heap[kk]?=u9.heap[kk]?:=by rw [hW9];exact hne
       have hbl:Below w.heap.size w W9:=by rw [hW9];exact cells_below w.heap.size E (by have:=HQ.out;omega) _ (i*4) w u9 (below_go HB.out hB)
       have hgu:=hB.block g (by have:=hEr.out;omega)
       have hqu:=hB.block q (by have:=hEr.out;omega)
       have HDN:=hideR hdon'
       have HXg2:=hideR ((hne' g (by omega)).trans (hgu.trans HXg.out))
       have HXq2:=hideR ((hne' q (by omega)).trans (hqu.trans HXq.out))
       have HBL:=hideR hbl
       have HTH:=hideR hth
       have HW9:=hideR hW9
       clear hev hxl hF hG hB h10 h11 e10 hth hdon hne hdon' hne' hbl hgu hqu hW9 HC HTL9 HD HXg HXq HB
       simp only [List.take_succ_cons,List.take_zero,List.drop_succ_cons,List.drop_zero,List.cons_append,List.nil_append]
       refine wpList_store_mid rfl 34 (.tmp 54) (.tmp 53) rfl E (i*4) #[.int .i64 k9,.string x9,.int .i64 n9,v9] rfl rfl HTH.out sizeTy' (by simp [Value.oneCell'] at hone9 ⊢;exact hone9) ?_
       rw [<- HW9.out]
       go_wp2
       go_roundw
       case rel=>exact ⟨i+1,by first|rfl|(congr 1),hp,HDN,HXg2,HXq2,HBL⟩
       case measure=>simp;omega
     ·have q1:decide ((i:Int)<(es.length:Int))=false:=decide_eq_false (by omega)
      obtain rfl:i=es.length:=by omega
      have kc0:=put_cell HXg.out 0 _ rfl
      have kc1:=put_cell HXg.out 1 _ rfl
      have kc2:=put_cell HXg.out 2 _ rfl
      have kc3:=put_cell HXg.out 3 _ rfl
      have hrow:RowU E (.slice (some ⟨E,0,none⟩) es.length es.length) es wr:=HD.out.row HL.out es.length
      obtain ⟨W9,hW9,hth,hbk,hbl,hne⟩:=put4 (w:=w) (z:=#[.int .i64 0,.string ⟨#[]⟩,.int .i64 0,.slice none 0 0]) (vs:=#[.int .i64 k,.string x,.int .i64 n,.slice (some ⟨E,0,none⟩) es.length es.length]) rfl HXq.out HB.out (by rw [HQ.out];exact Nat.le_refl _)
      have HTY:Hid (tyU w.heap.size (nd k x e0 n es [] 0) (.agg #[.int .i64 k,.string x,.int .i64 n,.slice (some ⟨E,0,none⟩) es.length es.length]) W9):=hideR ((tyNU k x n hrow).on (fun kk hk hl=>hne kk (by omega)) (by have:=HQ.out;omega))
      have HW9:=hideR hW9;have HTH9:=hideR hth;have HBK9:=hideR hbk;have HBL:=hideR hbl
      clear hth hbk hbl hW9 hne
      have hone:(#[.int .i64 k,.string x,.int .i64 n,.slice (some ⟨E,0,none⟩) es.length es.length]:Array Value).all (·.oneCell')=true:=by simp [Value.oneCell']
      go_wp2_with (refine wpList_store_mid rfl 34 (.tmp 4) (.tmp 56) rfl q 0 #[.int .i64 k,.string x,.int .i64 n,.slice (some ⟨E,0,none⟩) es.length es.length] rfl rfl HTH9.out sizeTy' hone ?_;rw [HW9.out])
      have m0:=put_cell HBK9.out 0 _ rfl
      have m1:=put_cell HBK9.out 1 _ rfl
      have m2:=put_cell HBK9.out 2 _ rfl
      have m3:=put_cell HBK9.out 3 _ rfl
      refine bodyPost_ret (v:=.agg #[.int .i64 k,.string x,.int .i64 n,.slice (some ⟨E,0,none⟩) es.length es.length]) (by simp [results,Try.results35,go_sem,m0,m1,m2,m3]) rfl ⟨_,rfl,HBL.out,HTY.out⟩
namespace Ty
theorem plen10 {l:List Value} (h:l.length=10):∃a0 a1 a2 a3 a4 a5 a6 a7 a8 a9,l = [a0,a1,a2,a3,a4,a5,a6,a7,a8,a9]:=by
 match l,h with
 | [a0,a1,a2,a3,a4,a5,a6,a7,a8,a9],_=>exact ⟨_,_,_,_,_,_,_,_,_,_,rfl⟩
theorem cases10 {j:Nat} (h:j<10):j=0\/j=1\/j=2\/j=3\/j=4\/j=5\/j=6\/j=7\/j=8\/j=9:=by omega
theorem wrapS {j:Nat} (h:j<=4096):IntKind.i64.wrap (j:Int)=(j:Int):=by rw [IntKind.wrap_i64];omega
theorem SV.form {B p:Nat} {ls:List Value} {vs:Value} {u:World} (h:SV B p ls vs u) (hl:0<ls.length):∃g cap,vs=.slice (some ⟨g,0,none⟩) ls.length cap/\B<=g:=by
 obtain ⟨xs,⟨_,h1⟩,_⟩:=h.row
 rcases h1 with ⟨_,h1⟩|⟨g,cap,cur,rfl,hB,_⟩
 ·omega
 ·exact ⟨g,cap,rfl,hB⟩
theorem SV.cell {B p g cap:Nat} {ls:List Value} {u:World} (h:SV B p ls (.slice (some ⟨g,0,none⟩) ls.length cap) u) {j:Nat} {l:Value} (hj:ls[j]?=some l):u.cell? ⟨g,j*2,none⟩=some l/\u.cell? ⟨g,j*2+1,none⟩=some (.int .i64 ((j:Int)+1)):=by
 obtain ⟨xs,hown,h2⟩:=h.row
 have hjl:=(List.getElem?_eq_some_iff.1 hj).1
 exact ⟨(hown.cellAt (j*2) (by omega)).trans (h2 j l hj).1,(hown.cellAt (j*2+1) (by omega)).trans (h2 j l hj).2⟩
end Ty
set_option maxHeartbeats 2000000 in
theorem t_New (w:World):Calls Try.prog 29 #[] w fun e w'=>e=.returned (.pointer (some ⟨w.heap.size,0,none⟩))/\Below w.heap.size w w'/\w'.heap.size=w.heap.size+1/\SV w.heap.size w.heap.size [] (.slice none 0 0) w':=by
 go_enter Try.func29,Try.ntmps29
 go_wp2
 go_ret
 refine ⟨rfl,new_on' _ _,by simp,heap_alloc_new w _,⟨[],⟨rfl,.inl ⟨rfl,rfl⟩⟩,fun i l h=>by simp at h⟩,by simp,by simp [Value.ownBlock]⟩
set_option maxHeartbeats 2000000 in
theorem t_novar (w:World) (s:Value) (b o:Nat) (k:Int) (c0:w.cell? ⟨b,o,none⟩=some (.int .i64 k)) (hk:k≠2):Calls Try.prog 59 #[s,.pointer (some ⟨b,o,none⟩)] w fun e w'=>e=.returned (.pointer none)/\Below w.heap.size w w':=by
 have q:(k != 2)=true:=bne_iff_ne.2 hk
 go_enter Try.func59,Try.ntmps59
 go_wp2
 go_ret
 exact ⟨rfl,Below.refl _ _⟩
set_option maxRecDepth 100000 in
set_option maxHeartbeats 8000000 in
theorem t_variable {B p g cap:Nat} {ls:List Value} {w:World} (h:SV B p ls (.slice (some ⟨g,0,none⟩) ls.length cap) w) (b o j:Nat) (hj:j<ls.length) (c0:w.cell? ⟨b,o,none⟩=some (.int .i64 2)) (c2:w.cell? ⟨b,o+2,none⟩=some (.int .i64 ((j:Int)+1))):Calls Try.prog 59 #[.pointer (some ⟨p,0,none⟩),.pointer (some ⟨b,o,none⟩)] w fun e w'=>e=.returned (.pointer (some ⟨g,j*2,none⟩))/\Below w.heap.size w w':=by
 have y1:=put_cell h.blk 1 _ rfl
 have hfew:=h.few
 have HJ:=hideR hj
 have HW:=hideR (wrapS (j:=j) (by omega))
 clear h
 go_enter Try.func59,Try.ntmps59
 go_upto_region 3 with fail
 obtain ⟨TL,hTL⟩:∃TL:List Value,TL = [.pointer (some ⟨p,0,none⟩),.pointer (some ⟨p,0,none⟩),.pointer (some ⟨p,1,none⟩),.slice (some ⟨g,0,none⟩) ls.length cap,.pointer (some ⟨b,o,none⟩),.pointer (some ⟨b,o,none⟩),.pointer (some ⟨b,o+2,none⟩),.int .i64 ((j:Int)+1),.int .i64 j,.pointer (some ⟨g,j*2,none⟩)]:=⟨_,rfl⟩
 have HTL:=hideR hTL
 clear hTL
 refine Reg.wp_region_two 10 (fun i=>10+i) (fun i v u=>v=TL.getD i undef) (by kernel_rfl) (by kernel_rfl) (fun i1 i2 h1 h2 h=>by have h':10+i1=10+i2:=h;omega) (Reg.dst_ok (dst:=fun i=>10+i) (size:=20) (by kernel_rfl)) (fun i v u u' _ h hb=>h) ?hstep ?htail
 case hstep =>
  intro i o' a u9 hi ho hF hB hd
  have f0:a.tmps[0]?.getD undef=.pointer (some ⟨p,0,none⟩):=Reg.ev_get (hF.eval 0 (fun i hi=>by show 10+i≠0;omega))
  have f1:a.tmps[1]?.getD undef=.pointer (some ⟨b,o,none⟩):=Reg.ev_get (hF.eval 1 (fun i hi=>by show 10+i≠1;omega))
  have y1:=cell_on hB y1
  have c2:=cell_on hB c2
  have hj:=HJ.out
  have hW:=HW.out
  have hd2:∀j2 ∈ Reg.deps o',a.tmps[10+j2]?.getD undef=TL.getD j2 undef:=fun j2 hj2=>Reg.ev_get (hd j2 hj2)
  have hTL:=HTL.out
  subst hTL
  clear hd
  rcases cases10 hi with rfl|rfl|rfl|rfl|rfl|rfl|rfl|rfl|rfl|rfl
  all_goals (
   simp only [List.getElem?_toArray,List.getElem?_cons_succ,List.getElem?_cons_zero,Option.some.injEq] at ho
   subst ho
   refine Reg.step_k fun K hK=>?_
   simp [Reg.deps,Region.binds] at hd2
   go_simp
   first
   | exact hK _ _ ⟨_,rfl,Below.refl _ _,rfl⟩
   | exact hK _ _ ⟨_,rfl,Below.refl _ _,by simp [*]⟩)
 case htail =>
  intro a u9 hF hB hG
  obtain ⟨xl,hxl,rfl,hev⟩:=hF.lit (by simp)
  obtain ⟨v0,v1,v2,v3,v4,v5,v6,v7,v8,v9,rfl⟩:=plen10 hxl
  have h9:=hG 9 (by decide)
  rw [HTL.out] at h9
  have e9:v9=.pointer (some ⟨g,j*2,none⟩):=(hev 9 (by decide)).symm.trans h9
  subst e9
  have HB:=hideR hB
  clear hev hxl hF hG h9 hB
  simp only [List.take_succ_cons,List.take_zero,List.drop_succ_cons,List.drop_zero,List.cons_append,List.nil_append]
  go_wp2
  go_ret
  exact ⟨rfl,HB.out⟩
namespace Ty
structure Kp (p:Nat) (q:Option Nat) (w w':World):Prop where
 os:w'.os=w.os
 tape:w'.tape=w.tape
 output:w'.output=w.output
 size:w.heap.size<=w'.heap.size
 block:∀k,k<w.heap.size->k≠p->q≠some k->w'.heap[k]?=w.heap[k]?
theorem Kp.refl (p:Nat) (q:Option Nat) (w:World):Kp p q w w:=⟨rfl,rfl,rfl,Nat.le_refl _,fun _ _ _ _=>rfl⟩
theorem Kp.of {p:Nat} {q:Option Nat} {a w w':World} {B:Nat} (h:Kp p q a w) (hb:Below B w w') (hB:a.heap.size<=B):Kp p q a w':=⟨hb.os.trans h.os,hb.tape.trans h.tape,hb.output.trans h.output,Nat.le_trans h.size hb.size,fun k hk h1 h2=>(hb.block k (Nat.lt_of_lt_of_le hk hB)).trans (h.block k hk h1 h2)⟩
theorem Kp.set {p:Nat} {q:Option Nat} {a w:World} (h:Kp p q a w) (o:Nat) (v:Value):Kp p q a (w.setCell ⟨p,o,none⟩ v):=⟨h.os,h.tape,h.output,Nat.le_trans h.size (by simp),fun k hk h1 h2=>(Below.heap_setCell _ _ _ _ h1).trans (h.block k hk h1 h2)⟩
theorem Kp.grown {p:Nat} {q:Option Nat} {a w w':World} (h:Kp p q a w) (hg:w.grownBy w' q):Kp p q a w':=⟨hg.os.trans h.os,hg.tape.trans h.tape,hg.output.trans h.output,Nat.le_trans h.size hg.size,fun k hk h1 h2=>(hg.block k (Nat.lt_of_lt_of_le hk h.size) (fun e=>h2 e.symm)).trans (h.block k hk h1 h2)⟩
theorem varInf:(Try.prog.info? 105).map (fun i=>(i.zero,i.size,i.bytes))=some (some (.agg #[.pointer none,.int .i64 0]),2,16):=by kernel_rfl
end Ty
set_option maxHeartbeats 2000000 in
theorem t_add {W:World} {b o:Nat} {n:Nat} (c0:W.cell? ⟨b,o,none⟩=some (.int .i64 n)) (f0:W.frozen? ⟨b,o,none⟩=false) (hn:n<4096):Calls Try.prog 55 #[.pointer (some ⟨b,o,none⟩),.int .i64 1] W fun e w'=>e=.returned (.int .i64 ((n:Int)+1))/\w'=W.setCell ⟨b,o,none⟩ (.int .i64 ((n:Int)+1)):=by
 have hadd:=run_call_add (P:=Try.prog) Try.func70 (by kernel_rfl) (by kernel_rfl) (by kernel_rfl) .i64 (by kernel_rfl) (y:=1) (s:=(n:Int)+1) c0 f0 (by simp [go_sem,Op.intArith];rw [IntKind.wrap_i64];omega)
 go_enter Try.func55,Try.ntmps55
 go_wp2
 go_ret
 exact ⟨rfl,rfl⟩
set_option maxRecDepth 100000 in
set_option maxHeartbeats 8000000 in
theorem t_Fresh {B p:Nat} {ls:List Value} {vs:Value} {w:World} (h:SV B p ls vs w) (hB:B<=w.heap.size) (hn:ls.length<4096):Calls Try.prog 28 #[.pointer (some ⟨p,0,none⟩)] w fun e w'=>e=.returned (.agg #[.int .i64 2,.string ⟨#[]⟩,.int .i64 ((ls.length:Int)+1),.slice none 0 0])/\Kp p vs.ownBlock w w'/\∃vs',SV B p (ls++[.pointer none]) vs' w'/\∀k,vs'.ownBlock=some k->vs.ownBlock=some k\/w.heap.size<k:=by
 obtain ⟨W,hW⟩:∃W,W=w.alloc (.cells #[.int .i64 0,.string ⟨#[]⟩,.int .i64 0,.slice none 0 0] 34):=⟨_,rfl⟩
 have hb:Below w.heap.size w W:=by rw [hW];exact new_on' _ _
 have hx:W.heap[w.heap.size]?=some (.cells #[.int .i64 0,.string ⟨#[]⟩,.int .i64 0,.slice none 0 0] 34 (0,0)):=by rw [hW];exact heap_alloc_new w _
 have hS:=h.on hb
 have hpw:=h.lt
 have c0:=put_cell hS.blk 0 _ rfl
 have f0:W.frozen? ⟨p,0,none⟩=false:=by unfold World.frozen?;rw [hS.blk];simp
 have HA:=hideR (t_add c0 f0 hn)
 obtain ⟨W1,hW1⟩:∃W1,W1=W.setCell ⟨p,0,none⟩ (.int .i64 ((ls.length:Int)+1)):=⟨_,rfl⟩
 have hx1:W1.heap[p]?=some (.cells #[.int .i64 ((ls.length:Int)+1),vs] 83 (0,0)):=by rw [hW1];exact heap_setCell_same W p 0 _ _ _ hS.blk
 have hk1:Kp p vs.ownBlock w W1:=by rw [hW1];exact ((Kp.refl p vs.ownBlock w).of hb (Nat.le_refl _)).set _ _
 have hn1:∀k,k≠p->W1.heap[k]?=W.heap[k]?:=fun k hk=>by rw [hW1];exact Below.heap_setCell _ _ _ _ hk
 have hs1:W1.heap.size=W.heap.size:=by rw [hW1];simp
 obtain ⟨xs,hown,hxs⟩:=hS.row
 have hown1:W1.ownsRow B 105 2 vs ls.length xs:=by
  refine ⟨hown.1,hown.2.imp id ?_⟩
  rintro ⟨g,cap,cur,rfl,hBg,hg,hr⟩
  exact ⟨g,cap,cur,rfl,hBg,(hn1 g (fun e=>hS.apart (by rw [e];rfl))).trans hg,hr⟩
 have y1:=put_cell hx1 1 _ rfl
 obtain ⟨W2,hW2⟩:∃W2,W2=W1.alloc (.cells #[.pointer none,.int .i64 ((ls.length:Int)+1)] 105):=⟨_,rfl⟩
 have hb2:Below W1.heap.size W1 W2:=by rw [hW2];exact new_on' _ _
 have HX2:Hid (W2.heap[W1.heap.size]?=some (.cells #[.pointer none,.int .i64 ((ls.length:Int)+1)] 105 (0,0))):=hideR (by rw [hW2];exact heap_alloc_new W1 _)
 have HOW:Hid (W2.ownsRow B 105 2 vs ls.length xs):=hideR (by
  refine ⟨hown1.1,hown1.2.imp id ?_⟩
  rintro ⟨g,cap,cur,rfl,hBg,hg,hr⟩
  exact ⟨g,cap,cur,rfl,hBg,(hb2.block g (Array.getElem?_eq_some_iff.1 hg).1).trans hg,hr⟩)
 have HN2:Hid (∀(j:Nat) (u:Value),([.pointer none,.int .i64 ((ls.length:Int)+1)]:List Value)[j]?=some u->W2.cell? ((⟨W1.heap.size,0,none⟩:Addr).add j)=some u):=hideR (by rw [hW2];exact new_cells W1 #[.pointer none,.int .i64 ((ls.length:Int)+1)] _)
 have HK2:=hideR (hk1.of hb2 hk1.size)
 have HP2:=hideR ((hb2.block p (Array.getElem?_eq_some_iff.1 hx1).1).trans hx1)
 have HXS:=hideR hxs
 have HQ2:=hideR ((hb2.block w.heap.size (by rw [hs1];exact (Array.getElem?_eq_some_iff.1 hx).1)).trans ((hn1 w.heap.size (by omega)).trans hx))
 have HAP:=hideR h.apart
 have HVQ:Hid (∀g,vs.ownBlock=some g->g<w.heap.size):=hideR (by obtain ⟨xs,ho,_⟩:=h.row;exact fun g hg=>(ho.lt g hg).2)
 have HS2:Hid (w.heap.size<W2.heap.size):=hideR (by have:=(Array.getElem?_eq_some_iff.1 hx).1;have:=hb2.size;omega)
 have HPW:=hideR hpw
 have HB1:Hid (B<=W2.heap.size):=hideR (by have:=hb.size;have:=hb2.size;omega)
 have HH:=hideR hW1
 have HH2:=hideR hW2
 have HS1:=hideR hs1
 clear hW1 hW2 hx1 hk1 hn1 hs1 hown hxs hown1 hb2 hb hx hS h hpw
 obtain ⟨i0,hi0,hz0,hz1,hz2⟩:=info_parts varInf
 go_enter Try.func28,Try.ntmps28
 go_upto_region 1 with fail
 rw [<- hW]
 clear hW
 go_wp2_with fail
 refine Calls.mono (show Calls _ _ _ _ _ from HA.out) ?_
 rintro e w3 ⟨rfl,rfl⟩
 rw [<- HH.out]
 clear HH HA c0 f0
 go_wp2_with (first|(at_builtin;rw [<- HH2.out];refine wpList_appS rfl _ _ 81 rfl B 105 i0 _ 2 16 (by kernel_rfl) hi0 hz0 hz1 hz2 rfl (by decide) _ _ _ rfl HOW.out (some ⟨W1.heap.size,0,none⟩) 1 1 [.pointer none,.int .i64 ((ls.length:Int)+1)] rfl ?c6 ?c0 ?c1 ?c2 ?c3 ?c4 ?c5 ?_))
 case c6=>intro h;cases h
 case c0=>rfl
 case c1=>exact fun ad h=>by injection h with h;subst h;exact HN2.out
 case c2=>intro c hc;simp only [List.mem_cons,List.not_mem_nil,or_false] at hc;rcases hc with rfl|rfl<;>rfl
 case c3=>unfold maxLen;omega
 case c4=>omega
 case c5=>exact HB1.out
 intro v9 w9 hown9 hg9 hv9
 obtain ⟨oN,cN,hvN⟩:=own_sl hown9
 subst hvN
 have hpw:=HPW.out
 have hs2:=HS2.out
 have hx9:=(hg9.block p (by omega) (fun e=>HAP.out e.symm)).trans HP2.out
 have hq9:=(hg9.block w.heap.size hs2 (fun e=>Nat.lt_irrefl _ (HVQ.out _ e.symm))).trans HQ2.out
 have hk9:=HK2.out.grown hg9
 have z1:=put_cell hx9 1 _ rfl
 have f1:w9.frozen? ⟨p,1,none⟩=false:=by unfold World.frozen?;rw [hx9];simp
 obtain ⟨W4,hW4⟩:∃W4,W4=w9.setCell ⟨p,1,none⟩ (.slice oN (ls.length+1) cN):=⟨_,rfl⟩
 have hx4:W4.heap[p]?=some (.cells #[.int .i64 ((ls.length:Int)+1),.slice oN (ls.length+1) cN] 83 (0,0)):=by rw [hW4];exact heap_setCell_same w9 p 1 _ _ _ hx9
 have hn4:∀k,k≠p->W4.heap[k]?=w9.heap[k]?:=fun k hk=>by rw [hW4];exact Below.heap_setCell _ _ _ _ hk
 have hk4:Kp p vs.ownBlock w W4:=by rw [hW4];exact hk9.set _ _
 have hq4:=(hn4 w.heap.size (by omega)).trans hq9
 obtain ⟨W5,hW5⟩:∃W5,W5=W4.setCells w.heap.size 0 (#[.int .i64 2,.string ⟨#[]⟩,.int .i64 ((ls.length:Int)+1),.slice none 0 0]:Array Value).toList:=⟨_,rfl⟩
 have hth:W4.there w.heap.size 0 (#[.int .i64 2,.string ⟨#[]⟩,.int .i64 ((ls.length:Int)+1),.slice none 0 0]:Array Value).size:=by have h:=put_there hq4;exact h
 have hbk:W5.heap[w.heap.size]?=some (.cells #[.int .i64 2,.string ⟨#[]⟩,.int .i64 ((ls.length:Int)+1),.slice none 0 0] 34 (0,0)):=by rw [hW5];exact put_heap hq4 rfl
 have hn5:∀k,k≠w.heap.size->W5.heap[k]?=W4.heap[k]?:=fun k hk=>by rw [hW5];exact cells_ne w.heap.size k hk _ 0 W4
 have hk5:Kp p vs.ownBlock w W5:=hk4.of (by rw [hW5];exact cells_below w.heap.size w.heap.size (Nat.le_refl _) _ 0 W4 W4 (Below.refl _ _)) (Nat.le_refl _)
 have hv9':∀g,(Value.slice oN (ls.length+1) cN).ownBlock=some g->g≠p/\g≠w.heap.size:=fun g hg=>by
  rcases hv9 with h|h
  ·rw [h] at hg
   exact ⟨fun e=>HAP.out (by rw [hg,e]),fun e=>Nat.lt_irrefl _ (e ▸ HVQ.out g hg)⟩
  ·rw [h] at hg
   injection hg with hg
   exact ⟨by omega,by omega⟩
 have HOO:Hid (∀k,(Value.slice oN (ls.length+1) cN).ownBlock=some k->vs.ownBlock=some k\/w.heap.size<k):=hideR (fun k e=>by
  rcases hv9 with h|h
  ·exact .inl (h.symm.trans e)
  ·rw [h] at e;injection e with e;exact .inr (by omega))
 have HSV:Hid (SV B p (ls++[.pointer none]) (.slice oN (ls.length+1) cN) W5):=hideR (by
  have hll:(ls++[Value.pointer none]).length=ls.length+1:=by simp
  refine ⟨?_,⟨xs++[.pointer none,.int .i64 ((ls.length:Int)+1)],?_,?_⟩,by rw [hll];omega,fun e=>(hv9' p e).1 rfl⟩
  ·rw [hn5 p (by omega),hx4,hll];rfl
  ·rw [hll]
   refine ⟨hown9.1,hown9.2.imp id ?_⟩
   rintro ⟨g,cap,cur,hv,hBg,hg,hr⟩
   have h2:=hv9' g (by rw [hv];rfl)
   exact ⟨g,cap,cur,hv,hBg,((hn5 g h2.2).trans (hn4 g h2.1)).trans hg,hr⟩
  ·intro i l hl
   have hxl:=HOW.out.1
   by_cases hi:i<ls.length
   ·rw [List.getElem?_append_left hi] at hl
    rw [List.getElem?_append_left (by omega),List.getElem?_append_left (by omega)]
    exact HXS.out i l hl
   ·have hil:=(List.getElem?_eq_some_iff.1 hl).1
    obtain rfl:i=ls.length:=by omega
    rw [List.getElem?_append_right (Nat.le_refl _),Nat.sub_self] at hl
    rw [List.getElem?_append_right (by omega),List.getElem?_append_right (by omega),hxl,Nat.sub_self,Nat.add_sub_cancel_left]
    exact ⟨hl,rfl⟩)
 have HK5:=hideR hk5
 have HBK:=hideR hbk
 have HTH:=hideR hth
 have HH4:=hideR hW4
 have HH5:=hideR hW5
 clear hown9 hg9 hv9 hx9 hq9 hk9 hx4 hn4 hk4 hq4 hth hbk hn5 hk5 hv9' hW4 hW5 hs2 hpw HX2 HOW HN2 HK2 HP2 HXS HQ2 HAP HVQ
 go_upto_region 5 with fail
 rw [<- HH4.out]
 clear HH4 z1 f1 y1
 go_wp2_with (refine wpList_store_mid rfl 34 (.tmp 2) (.tmp 23) rfl w.heap.size 0 #[.int .i64 2,.string ⟨#[]⟩,.int .i64 ((ls.length:Int)+1),.slice none 0 0] rfl rfl HTH.out sizeTy' (by simp [Value.oneCell']) ?_;rw [<- HH5.out])
 have m0:=put_cell HBK.out 0 _ rfl
 have m1:=put_cell HBK.out 1 _ rfl
 have m2:=put_cell HBK.out 2 _ rfl
 have m3:=put_cell HBK.out 3 _ rfl
 refine bodyPost_ret (v:=.agg #[.int .i64 2,.string ⟨#[]⟩,.int .i64 ((ls.length:Int)+1),.slice none 0 0]) (by simp [results,Try.results28,go_sem,m0,m1,m2,m3]) rfl ⟨rfl,HK5.out,_,HSV.out,HOO.out⟩
theorem t_bound (w:World) (x:Option Addr):Calls Try.prog 63 #[.agg #[.pointer x]] w fun e w'=>e=.returned (.bool x.isSome)/\Below w.heap.size w w':=by
 have hb:=new_on' w (.cells #[.pointer x] 103)
 cases x with
 | none =>
  go_enter Try.func63,Try.ntmps63
  go_wp2
  go_ret
  exact ⟨rfl,by first|exact hb|exact Below.refl _ _⟩
 | some a =>
  go_enter Try.func63,Try.ntmps63
  go_wp2
  go_ret
  exact ⟨rfl,by first|exact hb|exact Below.refl _ _⟩
namespace Ty
def vr (j:Nat):Value:=nd 2 e0 e0 ((j:Int)+1) [] [] 0
def endT (h:Nat->Value) (t:Value):Value:=if kindV t=2 then h (numT t-1).toNat else t
theorem endT_vr (h:Nat->Value) (j:Nat):endT h (vr j)=h j:=by
 have e:endT h (vr j)=h (((j:Int)+1)-1).toNat:=by unfold endT;rw [if_pos (by rfl)];rfl
 rw [e];congr 1;omega
theorem endT_nv {h:Nat->Value} {k:Int} {x:ByteArray} {m:Int} {es:List Value} (hk:k≠2):endT h (nd k x e0 m es [] 0)=nd k x e0 m es [] 0:=by
 unfold endT;rw [if_neg (by show ¬ k=2;exact hk)]
theorem vr_inj {i j:Nat} (h:vr i=vr j):i=j:=by
 have:numT (vr i)=numT (vr j):=by rw [h]
 have e:((i:Int)+1)=((j:Int)+1):=this
 omega
def GT (n d:Nat) (t:Value):Prop:=gdT n (d+1) t=true/\few d t/\smT (d+1) t
theorem GT.nd_ok {n d:Nat} {k:Int} {x:ByteArray} {m:Int} {es:List Value} (h:GT n d (nd k x e0 m es [] 0)):ndOk n k x m es.length=true/\es.all (gdT n d)=true:=by
 have h1:(ndOk n k x m es.length && es.all (gdT n d))=true:=h.1
 exact Bool.and_eq_true_iff.1 h1
theorem GT.var {n d:Nat} {x:ByteArray} {m:Int} {es:List Value} (h:GT n d (nd 2 x e0 m es [] 0)):∃j,j<n/\nd 2 x e0 m es [] 0=vr j:=by
 have h1:=h.nd_ok.1
 unfold ndOk at h1
 rw [if_neg (by decide),if_pos rfl] at h1
 simp only [Bool.and_eq_true,decide_eq_true_eq,beq_iff_eq] at h1
 obtain ⟨hx,h2,h3,h4⟩:=h1
 obtain rfl:es = []:=List.length_eq_zero_iff.1 h4
 subst hx
 refine ⟨(m-1).toNat,by omega,?_⟩
 unfold vr
 congr 1
 omega
theorem GT.part {n d:Nat} {k:Int} {x:ByteArray} {m:Int} {es:List Value} (h:GT n d (nd k x e0 m es [] 0)) {i:Nat} {t1:Value} (ht:es[i]?=some t1):∃d1,d=d1+1/\GT n d1 t1:=by
 obtain ⟨d1,hd,hf⟩:=(few_parts h.2.1).1.2 i t1 (List.getElem?_eq_some_iff.1 ht).1 ht
 subst hd
 have hm:t1 ∈ es:=List.mem_of_getElem? ht
 exact ⟨d1,rfl,List.all_eq_true.1 h.nd_ok.2 t1 hm,hf,h.2.2.2 t1 hm⟩
theorem GT.len {n d:Nat} {k:Int} {x:ByteArray} {m:Int} {es:List Value} (h:GT n d (nd k x e0 m es [] 0)):es.length<=200010:=(few_parts h.2.1).1.1
def TyE (f:Bool) (S:Nat->Prop) (w:World) (n b o:Nat) (t:Value):Prop:=∃d,TyX f S w (d+1) b o t/\GT n d t
theorem TyE.on {f:Bool} {S S':Nat->Prop} {w w':World} {n b o:Nat} {t:Value} (h:TyE f S w n b o t) (hb:∀k,¬ S k->k<w.heap.size->w'.heap[k]?=w.heap[k]?) (hS:∀k,k<w.heap.size->S' k->S k):TyE f S' w' n b o t:=by
 obtain ⟨d,h1,h2⟩:=h
 exact ⟨d,h1.on hb hS,h2⟩
theorem TyE.weak {f:Bool} {S:Nat->Prop} {w:World} {n b o:Nat} {t:Value} (h:TyE true S w n b o t):TyE f S w n b o t:=by
 obtain ⟨d,h1,h2⟩:=h
 exact ⟨d,h1.weak,h2⟩
theorem TyE.drop {f:Bool} {S:Nat->Prop} {w:World} {n b o:Nat} {t:Value} (h:TyE f S w n b o t):TyE false S w n b o t:=by
 obtain ⟨d,h1,h2⟩:=h
 exact ⟨d,h1.drop,h2⟩
def Uf (w:World) (b:Nat):Prop:=∃cs T,w.heap[b]?=some (.cells cs T (0,0))
theorem TyE.uf {S:Nat->Prop} {w:World} {n b o:Nat} {t:Value} (h:TyE true S w n b o t):Uf w b:=by
 obtain ⟨d,h1,h2⟩:=h
 exact h1.blk
theorem TyE.any {f:Bool} {S:Nat->Prop} {w:World} {n b o:Nat} {t:Value} (h:TyE f S w n b o t):∃v,w.cell? ⟨b,o,none⟩=some v:=by
 obtain ⟨d,h1,h2⟩:=h
 obtain ⟨d0,k,x,m,es,oR,cR,hd,rfl,g0,_⟩:=tyX_ptr h1
 exact ⟨_,g0⟩
theorem tyPtrU:Try.prog.underlying 67=some (.pointer 34):=by kernel_rfl
theorem ptr_same (w:World) (a:Addr):(binOp BinOp.neq 67 (.pointer (some a)) (.pointer (some a))).run Try.prog w=.ok (.bool false) w:=by
 obtain ⟨i0,hi,_⟩:=info_parts tyInf
 have h:∀d:Nat,(Op.equalIn (d+1) 67 (.pointer (some a)) (.pointer (some a))).run Try.prog w=.ok true w:=fun d=>by
  simp [Op.equalIn,run_underlying tyPtrU,sizeOf,typeInfo,hi,run_sameAddr_same]
 simp only [binOp]
 simp [Op.equal,Op.maxDepth,h 9999]
theorem cell_size {w:World} {a:Addr} {c:Array Value} {t:TypeId} {fr:Nat × Nat} {v:Value} (h1:w.heap[a.block]?=Option.some (.cells c t fr)) (h2:w.cell? a=Option.some v):c.size≠0:=fun h0=>by
 unfold World.cell? at h2
 rw [h1] at h2
 have h3:(if a.spot.isSome then none else c[a.off]?)=Option.some v:=h2
 by_cases hs:a.spot.isSome=true
 ·rw [if_pos hs] at h3;cases h3
 ·rw [if_neg hs] at h3
  have:=(Array.getElem?_eq_some_iff.1 h3).1
  omega
theorem sameAddr_other {w:World} {a b:Addr} {va vb:Value} (hne:a≠b) (ha:w.cell? a=Option.some va) (hb:w.cell? b=Option.some vb) (hu:Uf w b.block):(sameAddr a b).run Try.prog w=.ok false w:=by
 obtain ⟨cb,tb,hbb⟩:=hu
 by_cases hbl:a.block=b.block
 ·simp [sameAddr,hbl,hne]
 ·have hcb:=cell_size hbb hb
  obtain ⟨ca,ta,fr,hca⟩:∃c t fr,w.heap[a.block]?=Option.some (.cells c t fr):=by
   unfold World.cell? at ha
   split at ha
   ·exact ⟨_,_,_,by assumption⟩
   ·cases ha
  have hcz:=cell_size hca ha
  obtain ⟨lo,hi⟩:=fr
  simp [sameAddr,hbl,World.frozen?,hca,hbb,noView,viewAt,World.shape?,mayBeOne,stringish,hcb,hcz]
theorem ptr_other {w:World} {a b:Addr} {va vb:Value} (hne:a≠b) (ha:w.cell? a=some va) (hb:w.cell? b=some vb) (hu:Uf w b.block):(binOp BinOp.neq 67 (.pointer (some a)) (.pointer (some b))).run Try.prog w=.ok (.bool true) w:=by
 obtain ⟨i0,hi,_,hz1,_⟩:=info_parts tyInf
 have h:∀d:Nat,(Op.equalIn (d+1) 67 (.pointer (some a)) (.pointer (some b))).run Try.prog w=.ok false w:=fun d=>by
  simp [Op.equalIn,run_underlying tyPtrU,sizeOf,typeInfo,hi,hz1,sameAddr_other hne ha hb hu]
 simp only [binOp]
 simp [Op.equal,Op.maxDepth,h 9999]
theorem TyE.cases {f:Bool} {S:Nat->Prop} {w:World} {n b o:Nat} {t:Value} (h:TyE f S w n b o t):(∃j,j<n/\t=vr j/\w.cell? ⟨b,o,none⟩=some (.int .i64 2)/\w.cell? ⟨b,o+2,none⟩=some (.int .i64 ((j:Int)+1)))\/(∃k,k≠2/\w.cell? ⟨b,o,none⟩=some (.int .i64 k)/\kindV t=k/\∀h,endT h t=t):=by
 obtain ⟨d,h1,h2⟩:=h
 obtain ⟨d0,k,x,m,es,oR,cR,hd,rfl,g0,g1,g2,g3,hlen,hel⟩:=tyX_ptr h1
 by_cases hk:k=2
 ·subst hk
  obtain ⟨j,hj,he⟩:=h2.var
  refine .inl ⟨j,hj,he,g0,?_⟩
  have:numT (nd 2 x e0 m es [] 0)=numT (vr j):=by rw [he]
  have e:m=(j:Int)+1:=this
  rw [<- e];exact g2
 ·exact .inr ⟨k,hk,g0,rfl,fun h=>endT_nv hk⟩
theorem kind_vr (j:Nat):kindV (vr j)=2:=rfl
theorem TyE.cell {f:Bool} {S:Nat->Prop} {w:World} {n b o j:Nat} (h:TyE f S w n b o (vr j)):j<n/\w.cell? ⟨b,o,none⟩=some (.int .i64 2)/\w.cell? ⟨b,o+2,none⟩=some (.int .i64 ((j:Int)+1)):=by
 rcases h.cases with ⟨i,hi,he,h1,h2⟩|⟨k,hk,_,h1,_⟩
 ·obtain rfl:=vr_inj he
  exact ⟨hi,h1,h2⟩
 ·exact absurd h1.symm (by rw [kind_vr];exact hk)
theorem TyE.same {f f':Bool} {S:Nat->Prop} {w:World} {n b o j:Nat} {t:Value} (h:TyE f S w n b o (vr j)) (h':TyE f' S w n b o t):t=vr j:=by
 obtain ⟨_,c0,c2⟩:=h.cell
 rcases h'.cases with ⟨i,hi,he,h1,h2⟩|⟨k,hk,h1,_⟩
 ·rw [c2] at h2
  have:(j:Int)+1=(i:Int)+1:=by injection h2 with h2;injection h2
  obtain rfl:i=j:=by omega
  exact he
 ·rw [c0] at h1
  injection h1 with h1
  injection h1 with _ h1
  exact absurd h1.symm hk
def SX (p:Nat) (vs:Value) (k:Nat):Prop:=k=p\/vs.ownBlock=some k
def LinkOk (S:Nat->Prop) (u:World) (n:Nat) (h:Nat->Value) (rk:Nat->Nat) (j:Nat) (l:Value):Prop :=
 (l=.pointer none/\h j=vr j)\/∃b o t,l=.pointer (some ⟨b,o,none⟩)/\TyE true S u n b o t/\endT h t=h j/\(∀i,t=vr i->rk i<rk j)/\h j≠vr j
structure LK (S:Nat->Prop) (u:World) (n:Nat) (h:Nat->Value) (rk:Nat->Nat) (ls:List Value):Prop where
 len:ls.length=n
 ok:∀j l,ls[j]?=some l->LinkOk S u n h rk j l
theorem LK.on {S S':Nat->Prop} {w w':World} {n:Nat} {h:Nat->Value} {rk:Nat->Nat} {ls:List Value} (H:LK S w n h rk ls) (hb:∀k,¬ S k->k<w.heap.size->w'.heap[k]?=w.heap[k]?) (hS:∀k,k<w.heap.size->S' k->S k):LK S' w' n h rk ls :=
 ⟨H.len,fun j l hl=>(H.ok j l hl).imp id fun ⟨b,o,t,a1,a2,a3⟩=>⟨b,o,t,a1,a2.on hb hS,a3⟩⟩
def SO (S:Nat->Prop) (B n:Nat) (h:Nat->Value) (p:Nat) (vs:Value) (u:World):Prop:=(S p/\∀k,vs.ownBlock=some k->S k)/\∃ls rk,SV B p ls vs u/\LK S u n h rk ls
structure Kv (vs:Value) (w w':World):Prop where
 os:w'.os=w.os
 tape:w'.tape=w.tape
 output:w'.output=w.output
 size:w.heap.size<=w'.heap.size
 block:∀k,k<w.heap.size->vs.ownBlock≠some k->w'.heap[k]?=w.heap[k]?
theorem Kv.refl (vs:Value) (w:World):Kv vs w w:=⟨rfl,rfl,rfl,Nat.le_refl _,fun _ _ _=>rfl⟩
theorem Kv.of {vs:Value} {w w':World} (h:Below w.heap.size w w'):Kv vs w w':=⟨h.os,h.tape,h.output,h.size,fun k hk _=>h.block k hk⟩
theorem Kv.trans {vs:Value} {a w w':World} (h:Kv vs a w) (k:Kv vs w w'):Kv vs a w':=⟨k.os.trans h.os,k.tape.trans h.tape,k.output.trans h.output,Nat.le_trans h.size k.size,fun i hi hn=>(k.block i (Nat.lt_of_lt_of_le hi h.size) hn).trans (h.block i hi hn)⟩
theorem Kv.set {vs:Value} {a w:World} (h:Kv vs a w) {g:Nat} (hg:vs.ownBlock=some g) (o:Nat) (v:Value):Kv vs a (w.setCell ⟨g,o,none⟩ v):=⟨h.os,h.tape,h.output,Nat.le_trans h.size (by simp),fun k hk hn=>(Below.heap_setCell _ _ _ _ (fun e=>hn (by rw [hg];exact congrArg some e.symm))).trans (h.block k hk hn)⟩
theorem Kv.x {S:Nat->Prop} {vs:Value} {w w':World} (h:Kv vs w w') (hs:∀k,vs.ownBlock=some k->S k):∀k,¬ S k->k<w.heap.size->w'.heap[k]?=w.heap[k]?:=fun k hk hl=>h.block k hl (fun e=>hk (hs k e))
theorem TyE.kv {f:Bool} {S:Nat->Prop} {vs:Value} {w w':World} {n b o:Nat} {t:Value} (h:TyE f S w n b o t) (hk:Kv vs w w') (hs:∀k,vs.ownBlock=some k->S k):TyE f S w' n b o t:=h.on (hk.x hs) fun _ _ h=>h
theorem Kv.kp {vs:Value} {w w':World} (K:Nat) (h:Kv vs w w'):Kp K vs.ownBlock w w':=⟨h.os,h.tape,h.output,h.size,fun k hk _ h2=>h.block k hk h2⟩
theorem Kp.trans {p:Nat} {q:Option Nat} {a w w':World} (h:Kp p q a w) (k:Kp p q w w'):Kp p q a w':=⟨k.os.trans h.os,k.tape.trans h.tape,k.output.trans h.output,Nat.le_trans h.size k.size,fun i hi h1 h2=>(k.block i (Nat.lt_of_lt_of_le hi h.size) h1 h2).trans (h.block i hi h1 h2)⟩
theorem Kp.x {S:Nat->Prop} {K:Nat} {vs:Value} {w w':World} (h:Kp K vs.ownBlock w w') (hK:S K) (hs:∀k,vs.ownBlock=some k->S k):∀k,¬ S k->k<w.heap.size->w'.heap[k]?=w.heap[k]?:=fun k hk hl=>h.block k hl (fun e=>hk (e ▸ hK)) (fun e=>hk (hs k e))
theorem TyE.kp {f:Bool} {S:Nat->Prop} {K:Nat} {vs:Value} {w w':World} {n b o:Nat} {t:Value} (h:TyE f S w n b o t) (hk:Kp K vs.ownBlock w w') (hK:S K) (hs:∀k,vs.ownBlock=some k->S k):TyE f S w' n b o t:=h.on (hk.x hK hs) fun _ _ h=>h
theorem TyE.bel {f:Bool} {S:Nat->Prop} {w w':World} {n b o:Nat} {t:Value} (h:TyE f S w n b o t) (hk:Below w.heap.size w w'):TyE f S w' n b o t:=h.on (fun k _ hl=>hk.block k hl) fun _ _ h=>h
theorem SO.bel {S:Nat->Prop} {B n p:Nat} {h:Nat->Value} {vs:Value} {w w':World} (H:SO S B n h p vs w) (hk:Below w.heap.size w w'):SO S B n h p vs w':=by
 obtain ⟨h0,ls,rk,h1,h2⟩:=H
 exact ⟨h0,ls,rk,h1.on hk,h2.on (fun k _ hl=>hk.block k hl) fun _ _ h=>h⟩
theorem SO.set {S:Nat->Prop} {B n p K:Nat} {h:Nat->Value} {vs:Value} {w:World} (H:SO S B n h p vs w) (hK:S K) (hp:K≠p) (hq:vs.ownBlock≠some K) (o:Nat) (v:Value):SO S B n h p vs (w.setCell ⟨K,o,none⟩ v):=by
 obtain ⟨h0,ls,rk,h1,h2⟩:=H
 have hne:∀k,k≠K->(w.setCell ⟨K,o,none⟩ v).heap[k]?=w.heap[k]?:=fun k hk=>Below.heap_setCell _ _ _ _ hk
 refine ⟨h0,ls,rk,?_,h2.on (fun k hk hl=>hne k (fun e=>hk (e ▸ hK))) fun _ _ h=>h⟩
 obtain ⟨xs,⟨hl,h3⟩,h4⟩:=h1.row
 refine ⟨(hne p (Ne.symm hp)).trans h1.blk,⟨xs,⟨hl,h3.imp id ?_⟩,h4⟩,h1.few,h1.apart⟩
 rintro ⟨g,cap,cur,rfl,hB,hg,hr⟩
 exact ⟨g,cap,cur,rfl,hB,(hne g (fun e=>hq (by rw [e];rfl))).trans hg,hr⟩
theorem SV.put {B p g cap:Nat} {ls:List Value} {n:Nat} {w:World} (h:SV B p ls (.slice (some ⟨g,0,none⟩) n cap) w) (hn:ls.length=n) {j:Nat} (hj:j<n) (x:Value):w.frozen? ⟨g,j*2,none⟩=false/\SV B p (ls.set j x) (.slice (some ⟨g,0,none⟩) n cap) (w.setCell ⟨g,j*2,none⟩ x):=by
 obtain ⟨xs,⟨hxl,h1⟩,hx⟩:=h.row
 have hgp:g≠p:=fun e=>h.apart (by rw [e];rfl)
 rcases h1 with ⟨h1,_⟩|⟨g',cap',cur,hv,hB,hg,hc1,hc2,hc3,hc4⟩
 ·injection h1 with h1;cases h1
 ·injection hv with hv _ hcap
  injection hv with hv
  injection hv with hv
  subst hv hcap
  subst hn
  refine ⟨by unfold World.frozen?;rw [hg];simp,?_,⟨xs.set (j*2) x,⟨by simp [hxl],.inr ⟨g,cap,_,by rw [List.length_set],hB,heap_setCell_same w g (j*2) cur _ x hg,by simpa using hc1,hc2,by simpa using hc3,?_⟩⟩,?_⟩,by rw [List.length_set];exact h.few,h.apart⟩
  ·rw [Below.heap_setCell _ _ _ _ (by exact Ne.symm hgp),h.blk,List.length_set]
  ·rw [List.length_set,Array.toList_setIfInBounds,List.take_set,hc4]
  ·intro i l hl
   rw [List.getElem?_set] at hl
   by_cases hij:j=i
   ·subst hij
    rw [if_pos rfl,if_pos hj] at hl
    injection hl with hl
    subst hl
    obtain ⟨l0,hl0⟩:∃l0,ls[j]?=some l0:=⟨_,List.getElem?_eq_getElem hj⟩
    refine ⟨by rw [List.getElem?_set,if_pos rfl,if_pos (by omega)],?_⟩
    rw [List.getElem?_set,if_neg (by omega)]
    exact (hx j l0 hl0).2
   ·rw [if_neg hij] at hl
    have h2:=hx i l hl
    exact ⟨by rw [List.getElem?_set,if_neg (by omega)];exact h2.1,by rw [List.getElem?_set,if_neg (by omega)];exact h2.2⟩
def Pth (S:Nat->Prop) (w:World) (n:Nat) (rk:Nat->Nat) (ls:List Value) (zb zo:Nat) (E:Value):Nat->Nat->Nat->Nat->Prop
 | R,0,b,o=>b=zb/\o=zo/\∀i,E=vr i->rk i<R
 | R,m+1,b,o=>∃j b' o',TyE false S w n b o (vr j)/\rk j<R/\ls[j]?=some (.pointer (some ⟨b',o',none⟩))/\Pth S w n rk ls zb zo E (rk j) m b' o'
section
variable {S:Nat->Prop} {w:World} {n:Nat} {rk:Nat->Nat} {ls:List Value} {zb zo:Nat} {E:Value}
theorem Pth.rank:∀(m R b o:Nat),Pth S w n rk ls zb zo E R m b o->∀i,E=vr i->rk i<R
 | 0,R,b,o,h,i,hi=>h.2.2 i hi
 | m+1,R,b,o,⟨j,b',o',_,hr,_,h⟩,i,hi=>Nat.lt_trans (Pth.rank m _ _ _ h i hi) hr
theorem Pth.put {j:Nat} {x:Value}:∀(m R b o:Nat),Pth S w n rk ls zb zo E R m b o->R<=rk j->Pth S w n rk (ls.set j x) zb zo E R m b o
 | 0,R,b,o,h,_=>h
 | m+1,R,b,o,⟨i,b',o',ht,hr,hl,h⟩,hR=>⟨i,b',o',ht,hr,by rw [List.getElem?_set,if_neg (fun e=>by subst e;omega)];exact hl,Pth.put m _ _ _ h (by omega)⟩
end
def rkA (w:World) (rk:Nat->Nat):Value->Nat
 | .pointer (some ⟨b,o,_⟩)=>match w.cell? ⟨b,o,none⟩,w.cell? ⟨b,o+2,none⟩ with
  | some (.int _ k),some (.int _ m)=>if k=2 then rk (m-1).toNat+1 else 0
  | _,_=>0
 | _=>0
theorem rkA_var {f:Bool} {S:Nat->Prop} {w:World} {n b o j:Nat} {rk:Nat->Nat} (h:TyE f S w n b o (vr j)):rkA w rk (.pointer (some ⟨b,o,none⟩))=rk j+1:=by
 obtain ⟨_,c0,c2⟩:=h.cell
 unfold rkA
 simp only [c0,c2]
 have e:((j:Int)+1-1).toNat=j:=by omega
 rw [if_pos trivial,e]
theorem rkA_lt {f:Bool} {S:Nat->Prop} {w:World} {n b o R:Nat} {t:Value} {rk:Nat->Nat} (h:TyE f S w n b o t) (hr:∀i,t=vr i->rk i<R):rkA w rk (.pointer (some ⟨b,o,none⟩))<R+1:=by
 rcases h.cases with ⟨j,hj,rfl,_⟩|⟨k,hk,h1,_⟩
 ·rw [rkA_var h];have:=hr j rfl;omega
 ·unfold rkA
  simp only [h1]
  cases w.cell? ⟨b,o+2,none⟩ with
  | none=>show 0<R+1;omega
  | some v=>cases v<;>first|(show (if k=2 then _ else 0)<R+1;rw [if_neg hk];omega)|(show 0<R+1;omega)
theorem LK.put {S:Nat->Prop} {w:World} {n:Nat} {h:Nat->Value} {rk:Nat->Nat} {ls:List Value} (H:LK S w n h rk ls) {j zb zo b' o':Nat} {E:Value} (hl:ls[j]?=some (.pointer (some ⟨b',o',none⟩))) (hz:TyE true S w n zb zo E) (hE:endT h E=h j) (hr:∀i,E=vr i->rk i<rk j):LK S w n h rk (ls.set j (.pointer (some ⟨zb,zo,none⟩))) :=
 ⟨by rw [List.length_set];exact H.len,fun i l hi=>by
  rw [List.getElem?_set] at hi
  by_cases hij:j=i
  ·subst hij
   rw [if_pos rfl,if_pos (List.getElem?_eq_some_iff.1 hl).1] at hi
   injection hi with hi
   subst hi
   refine .inr ⟨zb,zo,E,rfl,hz,hE,hr,?_⟩
   rcases H.ok j _ hl with ⟨h1,_⟩|⟨_,_,_,_,_,_,_,h1⟩
   ·injection h1 with h1;cases h1
   ·exact h1
  ·rw [if_neg hij] at hi
   exact H.ok i l hi⟩
end Ty
end Go.Proofs.Ytkflfohoinbenaa
