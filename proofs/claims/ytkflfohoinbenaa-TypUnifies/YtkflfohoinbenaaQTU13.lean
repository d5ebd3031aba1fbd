/- Texts that the claim needs. -/
import Derived.Test.YtkflfohoinbenaaQTU11
import Derived.Test.YtkflfohoinbenaaQTU7
import Derived.Test.YtkflfohoinbenaaQTU12
namespace Go.Proofs.Ytkflfohoinbenaa
open Go.RowKit Lx Pz Rep Ty
set_option linter.unusedVariables false
namespace Ty
theorem stn_new {B:Nat} {o:Option Nat} {t v:Value} {wr u2 u4:World} (hv:tyO wr.heap.size t v u2) (hb:Below wr.heap.size wr u2) (h4:Below u2.heap.size u2 u4) (ho:∀k,o=some k->k<wr.heap.size) (hB:B<=wr.heap.size):Stn B o (tyO B t v) u4:=fun w' hw =>
 hv.on (fun k hk hl=>(hw k (Nat.le_trans hB hk) (Nat.lt_of_lt_of_le hl h4.size) (fun e=>by have:=ho k e;omega)).trans (h4.block k hl)) hB
theorem TyW.len {S:Nat->Prop} {w:World} {n:Nat} {t v:Value} (h:TyW S w n t v):(argsV t).length<=200010:=by
 obtain ⟨d,k,x,m,es,u,rfl,_,_,h3⟩:=h
 exact h3.len
end Ty
set_option maxRecDepth 100000 in
set_option maxHeartbeats 16000000 in
theorem t_dWritten {S:Nat->Prop} {B n r:Nat} {h:Nat->Value} {vs:Value} {pr:Int}:∀(e:Nat) (w:World) (t v:Value),DO S B n h r vs pr w->TyW S w n t v->exT h e t->Calls Try.prog 44 #[.pointer (some ⟨r,0,none⟩),v] w fun e' w'=>∃v',e'=.returned v'/\Below w.heap.size w w'/\tyO w.heap.size (btT h e t) v' w':=by
 intro e
 induction e with
 | zero=>intro w t v _ _ hx;exact hx.elim
 | succ e ih =>
  intro w t v hS hT hx
  obtain ⟨RT,hRT⟩:∃RT,RT=btT h (e+1) t:=⟨_,rfl⟩
  rw [<- hRT]
  have HRT:Hid (RT=nd (kindV (endT h t)) (namT (endT h t)) e0 (numT (endT h t)) ((argsV (endT h t)).map (btT h e)) [] 0):=hideR hRT
  have hxx:∀a ∈ argsV (endT h t),exT h e a:=hx
  clear hRT hx
  obtain ⟨k0,x0,m0,u0,rfl,hu0⟩:∃k x m u,v=.agg #[.int .i64 k,.string x,.int .i64 m,u]/\u.oneCell'=true:=by
   rcases hT.cases with ⟨j,u,_,_,h1,h2⟩|⟨k,x,m,u,_,_,h1,h2,_⟩
   ·exact ⟨_,_,_,_,h1,h2⟩
   ·exact ⟨_,_,_,_,h1,h2⟩
  obtain ⟨W1,hW1⟩:∃W1,W1=w.alloc (.cells #[.int .i64 k0,.string x0,.int .i64 m0,u0] 34):=⟨_,rfl⟩
  obtain ⟨W2,hW2⟩:∃W2,W2=W1.alloc (.cells #[.int .i64 0,.string ⟨#[]⟩,.int .i64 0,.slice none 0 0] 34):=⟨_,rfl⟩
  have hs1:W1.heap.size=w.heap.size+1:=by rw [hW1];simp
  have hs2:W2.heap.size=w.heap.size+2:=by rw [hW2];simp [hs1]
  have hb1:Below w.heap.size w W1:=by rw [hW1];exact new_on' _ _
  have hb12:Below W1.heap.size W1 W2:=by rw [hW2];exact new_on' _ _
  have hxA:W2.heap[w.heap.size]?=some (.cells #[.int .i64 k0,.string x0,.int .i64 m0,u0] 34 (0,0)):=(hb12.block _ (by omega)).trans (by rw [hW1];exact heap_alloc_new w _)
  have hxB:W2.heap[w.heap.size+1]?=some (.cells #[.int .i64 0,.string ⟨#[]⟩,.int .i64 0,.slice none 0 0] 34 (0,0)):=by rw [<- hs1,hW2];exact heap_alloc_new W1 _
  have hb2:Below w.heap.size w W2:=below_go hb1 hb12
  have hgr:∀k,k<w.heap.size->(S k\/k=w.heap.size)->S k:=fun k hk h=>h.resolve_right (by omega)
  have hS2:DO (fun k=>S k\/k=w.heap.size) B n h r vs pr W2:=hS.grow hb2 (fun k=>.inl) hgr
  have hT2:TyW (fun k=>S k\/k=w.heap.size) W2 n t (.agg #[.int .i64 k0,.string x0,.int .i64 m0,u0]):=hT.on (fun k _ hl=>hb2.block k hl) hgr
  have HC:=hideR (t_dHead hS2 hT2)
  have z0:=put_cell hxA 0 _ rfl
  have z1:=put_cell hxA 1 _ rfl
  have z2:=put_cell hxA 2 _ rfl
  have z3:=put_cell hxA 3 _ rfl
  have HS:=hideR hS
  have HXA:=hideR hxA
  have HXB:=hideR hxB
  have HB2:=hideR hb2
  have HS2:=hideR hs2
  have HIH:=hideR ih
  have HXX:=hideR hxx
  clear hS hT hS2 hT2 hgr hb1 hb12 hb2 hxA hxB hs1 hs2 ih hxx
  generalize endT h t=T at *
  go_enter Try.func44,Try.ntmps44
  go_upto_region 1 with fail
  rw [<- hW1,<- hW2]
  clear hW1 hW2
  go_wp2_with fail
  refine Calls.mono (show Calls _ _ _ _ _ from HC.out) ?_
  rintro e9 w3 ⟨v',rfl,hT3,he3,hb3⟩
  obtain ⟨k1,x1,m1,oR,cR,rfl,hkT,hmT,hlen,_⟩:=hT3.open_
  have hnm:=hT3.nam.2.1
  have HLN:=hideR hT3.len
  obtain ⟨W9,hW9,hth,hbk,hbl,hne⟩:=put4 (w:=w) (q:=w.heap.size) (z:=#[.int .i64 k0,.string x0,.int .i64 m0,u0]) (vs:=#[.int .i64 k1,.string x1,.int .i64 m1,.slice oR (argsV T).length cR]) rfl ((hb3.block _ (Array.getElem?_eq_some_iff.1 HXA.out).1).trans HXA.out) (below_go HB2.out hb3) (Nat.le_refl _)
  have hz9:W9.heap[w.heap.size+1]?=some (.cells #[.int .i64 0,.string ⟨#[]⟩,.int .i64 0,.slice none 0 0] 34 (0,0)):=(hne _ (by omega)).trans ((hb3.block _ (Array.getElem?_eq_some_iff.1 HXB.out).1).trans HXB.out)
  have hs9:w.heap.size+2<=W9.heap.size:=by
   have h1:W9.heap.size=w3.heap.size:=by rw [<- hW9];exact cells_size _ _ _ _
   have h2:=hb3.size
   have h3:=HS2.out
   omega
  obtain ⟨B0,hB0⟩:∃B0,B0=w.heap.size+2:=⟨_,rfl⟩
  have HB0:=hideR hB0
  have HE9:Hid (∀u,Below B0 W9 u->∀k,¬ (S k\/k=w.heap.size)->k<W2.heap.size->u.heap[k]?=W2.heap[k]?):=hideR (fun u hu k hk hl=>(hu.block k (by rw [hB0,<- HS2.out];exact hl)).trans ((hne k (fun e=>hk (.inr e))).trans (hb3.block k hl)))
  have HT3:=hideR hT3
  have HW9:=hideR hW9;have HTH9:=hideR hth;have HXQ:=hideR hbk;have HZQ:=hideR hz9;have HBW:=hideR hbl
  have HS9:Hid (B0<=W9.heap.size):=hideR (by rw [hB0];exact hs9)
  have HL:=hideR hlen
  have g0:=put_cell hbk 0 _ rfl
  have g1:=put_cell hbk 1 _ rfl
  have g2:=put_cell hbk 2 _ rfl
  have g3:=put_cell hbk 3 _ rfl
  obtain ⟨ER,hER⟩:∃ER:List Value,ER=(argsV T).map (btT h e):=⟨_,rfl⟩
  have HRR:Hid (RT=nd k1 x1 e0 m1 ER [] 0):=hideR (by rw [HRT.out,hkT,hnm,hmT,hER])
  have hEl:ER.length=(argsV T).length:=by rw [hER];simp
  have HEl:=hideR hEl
  have HER:=hideR hER
  clear hb3 hT3 he3 hW9 hth hbk hbl hne hz9 hs9 hlen hkT hmT hnm hB0 hER hEl HRT HC HXA HXB HB2 z0 z1 z2 z3
  go_upto_region 2 with (refine wpList_store_mid rfl 34 (.tmp 3) (.tmp 9) rfl w.heap.size 0 #[.int .i64 k1,.string x1,.int .i64 m1,.slice oR (argsV T).length cR] rfl rfl HTH9.out sizeTy' (by simp [Value.oneCell']) ?_;rw [HW9.out])
  clear HW9 HTH9
  go_wp2_with fail
  go_loopw [5,6] (fun oo aa wr=>∃(i:Nat) (vo:Value),aa=.int .i64 i/\oo=vo/\i<=(argsV T).length/\Hid (OwN (tyO B0) B0 34 4 wr vo (ER.take i))/\Hid (Below B0 W9 wr)) (fun _ aa _=>match aa with | .int _ i=>(argsV T).length-i.toNat|_=>0)
  case atStart=>exact ⟨0,_,rfl,rfl,Nat.zero_le _,hideR (OwN.nil _ _ _ _ _),hideR (Below.refl _ _)⟩
  case round =>
   obtain ⟨i,vo,rfl,rfl,hi,HO,HP⟩:=hrel
   clear g0 g1 g2 g3
   have hxq:=(HP.out.block w.heap.size (by rw [HB0.out];omega)).trans HXQ.out
   have y3:=put_cell hxq 3 _ rfl
   by_cases hp:i<(argsV T).length
   ·have q1:decide ((i:Int)<((argsV T).length:Int))=true:=decide_eq_true (Int.ofNat_lt.2 hp)
    have hw1:=wrapI hp HL.out
    obtain ⟨t1,ht1⟩:∃t1,(argsV T)[i]?=some t1:=⟨_,List.getElem?_eq_getElem hp⟩
    have hTr:=HT3.out.on (S':=fun k=>S k\/k=w.heap.size) (HE9.out wr HP.out) (fun _ _ h=>h)
    obtain ⟨_,_,_,oX',cX',hvX,_,_,_,heX⟩:=hTr.open_
    injection hvX with hvX
    simp only [Array.mk.injEq,List.cons.injEq,Value.slice.injEq,and_true,true_and] at hvX
    obtain ⟨_,_,_,rfl,rfl⟩:=hvX
    obtain ⟨b1,off,ka,xa,ma,ua,hoR,p0,p1,p2,p3,hua,hta⟩:=heX i t1 ht1
    subst hoR
    have hte:ER[i]?=some (btT h e t1):=by rw [HER.out,List.getElem?_map,ht1];rfl
    have HTK:=hideR (show ER.take (i+1)=ER.take i++[btT h e t1] by rw [List.take_add_one,hte];rfl)
    have hbw:Below w.heap.size w wr:=HBW.out.trans (HP.out.mono (by rw [HB0.out];omega))
    have HIB:=hideR (HIH.out wr t1 _ (HS.out.bel hbw) (hta.less fun k=>.inl) (HXX.out t1 (List.mem_of_getElem? ht1)))
    generalize btT h e t1=E1 at *
    have hti:(ER.take i).length=i:=by rw [List.length_take,HEl.out];exact Nat.min_eq_left hi
    obtain ⟨oV,cV,hvo⟩:=HO.out.sl
    rw [hti] at hvo
    subst hvo
    clear hTr heX hta ht1 hte hbw hxq
    go_wp2_with fail
    refine Calls.mono (show Calls _ _ _ _ _ from HIB.out) ?_
    rintro e9 u2 ⟨v4,rfl,hb4,hty4⟩
    obtain ⟨k4,x4,n4,r4,rfl,hone4⟩:=hty4.val
    have hBr:B0<=wr.heap.size:=Nat.le_trans HS9.out HP.out.size
    have hn4:=new_on' u2 (.cells #[.int .i64 k4,.string x4,.int .i64 n4,r4] 34)
    have HST:Hid (Stn B0 (Value.slice oV i cV).ownBlock (tyO B0 E1 (.agg #[.int .i64 k4,.string x4,.int .i64 n4,r4])) (u2.alloc (.cells #[.int .i64 k4,.string x4,.int .i64 n4,r4] 34))):=hideR (stn_new hty4 hb4 hn4 (fun k hk=>by obtain ⟨xs,ho,_⟩:=HO.out;exact (ho.lt k hk).2) hBr)
    have HO4:=hideR ((HO.out.on hb4).on hn4)
    have HN4:=hideR (new_cells u2 #[.int .i64 k4,.string x4,.int .i64 n4,r4] 34)
    have hz4:B0<=(u2.alloc (.cells #[.int .i64 k4,.string x4,.int .i64 n4,r4] 34)).heap.size:=Nat.le_trans hBr (Nat.le_trans hb4.size hn4.size)
    have HB4:=hideR (below_go hb4 hn4)
    obtain ⟨i0,hi0,hz0,hz1,hz2⟩:=info_parts tyInf
    obtain ⟨xs,hown,hxe⟩:=HO4.out
    rw [hti] at hown
    have HXE:=hideR hxe
    have HOW:=hideR hown
    have HON:=hideR hone4
    clear HIB hb4 hty4 hn4 hxe hown y3 p0 p1 p2 p3
    go_wp2_with (first|(at_builtin;refine wpList_appS rfl _ _ 32 rfl B0 34 i0 _ 4 56 Try.underlying32 hi0 hz0 hz1 hz2 rfl (by decide) _ _ _ rfl HOW.out (some ⟨u2.heap.size,0,none⟩) 1 1 [.int .i64 k4,.string x4,.int .i64 n4,r4] rfl ?c6 ?c0 ?c1 ?c2 ?c3 ?c4 ?c5 ?_))
    case c6=>intro h;cases h
    case c0=>rfl
    case c1=>exact fun ad h=>by injection h with h;subst h;exact HN4.out
    case c2=>intro c hc;simp only [List.mem_cons,List.not_mem_nil,or_false] at hc;rcases hc with rfl|rfl|rfl|rfl<;>first|rfl|exact HON.out
    case c3=>unfold maxLen;have:=HLN.out;omega
    case c4=>have:=HLN.out;omega
    case c5=>exact hz4
    intro v9 w9 hown9 hg9 hv9
    have HR9:Hid (OwN (tyO B0) B0 34 4 w9 v9 (ER.take (i+1))):=hideR (by
     rw [HTK.out]
     exact OwN.app (cs:=#[.int .i64 k4,.string x4,.int .i64 n4,r4]) (by rw [hti];exact HOW.out) HXE.out (by rw [hti];exact hown9) hg9 (by simpa using hv9) rfl HST.out)
    have HP9:Hid (Below B0 W9 w9):=hideR ((HP.out.trans (HB4.out.mono hBr)).grown hg9 hz4 fun k hk=>by exact (HOW.out.lt k hk).1)
    obtain ⟨oN,cN,hvN⟩:=own_sl hown9
    subst hvN
    clear hown9 hg9 hv9 HOW HXE HO4 HB4 HN4 HST HO HP
    go_wp2
    go_roundw
    case rel=>exact ⟨i+1,_,by first|rfl|(congr 1),rfl,hp,HR9,HP9⟩
    case measure=>(simp;first|exact Nat.sub_lt_sub_left hp (Nat.lt_succ_self _)|omega)
   ·have q1:decide ((i:Int)<((argsV T).length:Int))=false:=decide_eq_false (fun h=>hp (Int.ofNat_lt.1 h))
    have hHO:=HO.out
    rw [List.take_of_length_le (by rw [HEl.out];exact Nat.not_lt.1 hp)] at hHO
    have hHR:RowT B0 _ ER wr:=hHO.row (F:=fun w' d b o t=>TyC B0 w' d b o t) (fun w' d b o t h=>TyC.up d b o t h) (by rw [HEl.out];exact HL.out) (fun w' t cs b o hv hB hc=>ty_cells hv hB hc)
    clear hHO
    obtain ⟨oV,cV,rfl⟩:=hHR.sl
    have f3:wr.frozen? ⟨w.heap.size,3,none⟩=false:=by unfold World.frozen?;rw [hxq];simp
    obtain ⟨u3,hu3⟩:∃u3,u3=wr.setCell ⟨w.heap.size,3,none⟩ (.slice oV ER.length cV):=⟨_,rfl⟩
    have hx3:u3.heap[w.heap.size]?=some (.cells #[.int .i64 k1,.string x1,.int .i64 m1,.slice oV ER.length cV] 34 (0,0)):=by rw [hu3];exact heap_setCell_same wr w.heap.size 3 _ _ _ hxq
    have hn3:∀k,k≠w.heap.size->u3.heap[k]?=wr.heap[k]?:=fun k hk=>by rw [hu3];exact Below.heap_setCell _ _ _ _ hk
    have hbw:Below w.heap.size w wr:=HBW.out.trans (HP.out.mono (by rw [HB0.out];omega))
    have hb3:Below w.heap.size w u3:=by rw [hu3];exact hbw.setCell (Nat.le_refl _) _
    have hz3:u3.heap[w.heap.size+1]?=some (.cells #[.int .i64 0,.string ⟨#[]⟩,.int .i64 0,.slice none 0 0] 34 (0,0)):=(hn3 _ (by omega)).trans ((HP.out.block _ (by rw [HB0.out];omega)).trans HZQ.out)
    obtain ⟨W7,hW7,hth,hbk,hbl,hne⟩:=put4 (w:=w) (q:=w.heap.size+1) (z:=#[.int .i64 0,.string ⟨#[]⟩,.int .i64 0,.slice none 0 0]) (vs:=#[.int .i64 k1,.string x1,.int .i64 m1,.slice oV ER.length cV]) rfl hz3 hb3 (Nat.le_succ _)
    have HTY:Hid (tyO w.heap.size RT (.agg #[.int .i64 k1,.string x1,.int .i64 m1,.slice oV ER.length cV]) W7):=hideR (by
     rw [HRR.out]
     exact tyN k1 x1 m1 (hHR.on (fun k hk hl=>(hne k (by have:=HB0.out;omega)).trans (hn3 k (by have:=HB0.out;omega))) (by rw [HB0.out];omega)))
    have HW7:=hideR hW7;have HTH:=hideR hth;have HBK:=hideR hbk;have HBL:=hideR hbl
    have HU3:=hideR hu3
    have c0:=put_cell hx3 0 _ rfl
    have c1:=put_cell hx3 1 _ rfl
    have c2:=put_cell hx3 2 _ rfl
    have c3:=put_cell hx3 3 _ rfl
    clear HO hHR hu3 hx3 hn3 hbw hb3 hz3 hW7 hth hbk hbl hne hxq
    go_upto_region 7 with fail
    go_upto_region 8 with (first|rw [<- HU3.out]|fail)
    clear f3 y3 HU3
    go_wp2_with (refine wpList_store_mid rfl 34 (.tmp 4) (.tmp 29) rfl (w.heap.size+1) 0 #[.int .i64 k1,.string x1,.int .i64 m1,.slice oV ER.length cV] rfl rfl HTH.out sizeTy' (by simp [Value.oneCell']) ?_;rw [HW7.out])
    have y0:=put_cell HBK.out 0 _ rfl
    have y1:=put_cell HBK.out 1 _ rfl
    have y2:=put_cell HBK.out 2 _ rfl
    have y3:=put_cell HBK.out 3 _ rfl
    refine bodyPost_ret (v:=.agg #[.int .i64 k1,.string x1,.int .i64 m1,.slice oV ER.length cV]) (by simp [results,Try.results44,go_sem,y0,y1,y2,y3]) rfl ⟨_,rfl,HBL.out,HTY.out⟩
namespace Ty
def UnS (S:Nat->Prop) (B n r:Nat) (vs:Value) (g:Bool) (R:Int × Nat × (Nat->Value)) (h:Nat->Value) (w:World) (e:Ending) (w':World):Prop:=∃pr:Int,e=.returned (.int .i64 (if g=true then R.1 else 1))/\DO S B n (if g=true then R.2.2 else h) r vs pr w'/\Kp r vs.ownBlock w w'
theorem UnS.bad {S:Nat->Prop} {B n r:Nat} {vs:Value} {g:Bool} {R:Int × Nat × (Nat->Value)} {h:Nat->Value} {w w':World} {pr:Int} (hg:g=false) (hd:DO S B n h r vs pr w') (hk:Kp r vs.ownBlock w w'):UnS S B n r vs g R h w (.returned (.int .i64 1)) w':=by
 subst hg
 exact ⟨pr,rfl,hd,hk⟩
theorem UnS.ok {S:Nat->Prop} {B n r:Nat} {vs:Value} {g:Bool} {R:Int × Nat × (Nat->Value)} {h:Nat->Value} {w w':World} {pr:Int} (hg:g=true) (hd:DO S B n R.2.2 r vs pr w') (hk:Kp r vs.ownBlock w w'):UnS S B n r vs g R h w (.returned (.int .i64 R.1)) w':=by
 subst hg
 exact ⟨pr,rfl,hd,hk⟩
def ApG (m n d:Nat) (h:Nat->Value) (t:Value) (B:Nat) (u:Value) (z:Int) (w':World):Prop:=(tkT n d t=false/\z=1/\u=.agg #[.int .i64 0,.string ⟨#[]⟩,.int .i64 0,.slice none 0 0])\/(tkT n d t=true/\(lkT h 0 m 0 t).1≠0/\z=3/\u=.agg #[.int .i64 0,.string ⟨#[]⟩,.int .i64 0,.slice none 0 0])\/(tkT n d t=true/\(lkT h 0 m 0 t).1=0/\z=0/\tyO B (btT h m t) u w')
def ApS (m n d:Nat) (h:Nat->Value) (t:Value) (w:World) (e:Ending) (w':World):Prop:=Below w.heap.size w w'/\∃u z,e=.returned (.tuple #[u,.int .i64 z])/\ApG m n d h t w.heap.size u z w'
theorem InX.tyw {S:Nat->Prop} {w:World} {n d:Nat} {t v:Value} (h:InX S w d t v) (hk:tkT n d t=true):TyW S w n t v:=by
 obtain ⟨k,x,m,es,u,h1,h2,h3⟩:=id h.at_
 exact ⟨d,k,x,m,es,u,h1,h2,h3,h.in_.good hk⟩
theorem tk_split {n d:Nat} {t:Value}:tkT n d t=(decide (cnT (d+1) 0 t<=1024) && gdT n (d+1) t):=rfl
theorem InX.val {S:Nat->Prop} {w:World} {d:Nat} {t v:Value} (h:InX S w d t v):∃k x m u,v=.agg #[.int .i64 k,.string x,.int .i64 m,u]/\u.oneCell'=true:=by
 obtain ⟨k,x,m,es,u,h1,h2,h3⟩:=id h.at_
 obtain ⟨o1,c1,rfl⟩:=Row.len h3
 exact ⟨k,x,m,_,h2,rfl⟩
theorem gtr_no {c:Nat} (h:c<=1024):decide ((c:Int) > 1024)=false/\decide ((1024:Int)<(c:Int))=false:=⟨decide_eq_false (by omega),decide_eq_false (by omega)⟩
theorem gtr_yes {c:Nat} (h:¬ c<=1024):decide ((c:Int) > 1024)=true/\decide ((1024:Int)<(c:Int))=true:=⟨decide_eq_true (by omega),decide_eq_true (by omega)⟩
end Ty
set_option maxRecDepth 100000 in
set_option maxHeartbeats 16000000 in
theorem t_dUnify {m:Nat} (hm:1025<=m) {f:Nat} (hf:65537<=f) {S:Nat->Prop} {B n r:Nat} {h:Nat->Value} {vs:Value} {pr:Int} (w:World) {da db:Nat} {ta tb va vb:Value} (hS:DO S B n h r vs pr w) (hSl:∀k,S k->k<w.heap.size) (ha:InX S w da ta va) (hb:InX S w db tb vb):Calls Try.prog 15 #[.pointer (some ⟨r,0,none⟩),va,vb] w (UnS S B n r vs (tkT n da ta && tkT n db tb) (unT m f 0 h ta tb) h w):=by
 obtain ⟨k1,x1,n1,u1,hva,hu1⟩:=ha.val
 obtain ⟨k2,x2,n2,u2,hvb,hu2⟩:=hb.val
 have HWA:=hideR (fun (e:tkT n da ta=true)=>ha.tyw e)
 have HWB:=hideR (fun (e:tkT n db tb=true)=>hb.tyw e)
 have hta:=ha.in_.at_
 have htb:=hb.in_.at_
 obtain ⟨_,xs,rk,hdv,_⟩:=id hS
 have HSA:=hideR (fun (u:World) (hu:Below w.heap.size w u)=>d_Size da u ta va (hta.but (Abv.of hu)))
 have HSB:=hideR (fun (u:World) (hu:Below w.heap.size w u)=>d_Size db u tb vb (htb.but (Abv.of hu)))
 have HGA:=hideR (fun (u:World) (hu:Below w.heap.size w u)=>t_dGood da u ta va (hdv.on hu) (hta.but (Abv.of hu)))
 have HGB:=hideR (fun (u:World) (hu:Below w.heap.size w u)=>t_dGood db u tb vb (hdv.on hu) (htb.but (Abv.of hu)))
 have hkA:=tk_split (n:=n) (d:=da) (t:=ta)
 have hkB:=tk_split (n:=n) (d:=db) (t:=tb)
 generalize cnT (da+1) 0 ta=ca at *
 generalize gdT n (da+1) ta=ga at *
 generalize cnT (db+1) 0 tb=cb at *
 generalize gdT n (db+1) tb=gb at *
 subst hva hvb
 obtain ⟨W1,hW1⟩:∃W1,W1=w.alloc (.cells #[.int .i64 k1,.string x1,.int .i64 n1,u1] 34):=⟨_,rfl⟩
 obtain ⟨W2,hW2⟩:∃W2,W2=W1.alloc (.cells #[.int .i64 k2,.string x2,.int .i64 n2,u2] 34):=⟨_,rfl⟩
 have hs1:W1.heap.size=w.heap.size+1:=by rw [hW1];simp
 have hb1:Below w.heap.size w W1:=by rw [hW1];exact new_on' _ _
 have hb12:Below W1.heap.size W1 W2:=by rw [hW2];exact new_on' _ _
 have hxA:W2.heap[w.heap.size]?=some (.cells #[.int .i64 k1,.string x1,.int .i64 n1,u1] 34 (0,0)):=(hb12.block _ (by omega)).trans (by rw [hW1];exact heap_alloc_new w _)
 have hxB:W2.heap[w.heap.size+1]?=some (.cells #[.int .i64 k2,.string x2,.int .i64 n2,u2] 34 (0,0)):=by rw [<- hs1,hW2];exact heap_alloc_new W1 _
 have hb2:Below w.heap.size w W2:=below_go hb1 hb12
 have HA0:=hideR hxA
 have HB0:=hideR hxB
 have HW0:=hideR hb2
 have HS:=hideR hS
 have HSL:=hideR (And.intro hSl (And.intro hS.lt hS.1))
 have HM:=hideR (And.intro hm hf)
 have HKA:=hideR hkA
 have HKB:=hideR hkB
 clear ha hb hta htb hdv hS hSl hm hf hkA hkB hs1 hb1 hb12 hxA hxB hb2
 by_cases hca:ca<=1024
 ·obtain ⟨qa,qa2⟩:=gtr_no hca
  by_cases hcb:cb<=1024
  ·obtain ⟨qb,qb2⟩:=gtr_no hcb
   cases ga with
   | false =>
    go_enter Try.func15,Try.ntmps15
    go_upto_region 1 with fail
    rw [<- hW1,<- hW2]
    clear hW1 hW2
    have pa0:=put_cell HA0.out 0 _ rfl
    have pa1:=put_cell HA0.out 1 _ rfl
    have pa2:=put_cell HA0.out 2 _ rfl
    have pa3:=put_cell HA0.out 3 _ rfl
    have HC:=hideR (HSA.out W2 HW0.out)
    go_wp2_with fail
    refine Calls.mono (show Calls _ _ _ _ _ from HC.out) ?_
    rintro e w1 ⟨rfl,hb9⟩
    have HA1:=hideR ((hb9.block _ (Array.getElem?_eq_some_iff.1 HA0.out).1).trans HA0.out)
    have HB1:=hideR ((hb9.block _ (Array.getElem?_eq_some_iff.1 HB0.out).1).trans HB0.out)
    have HW1:=hideR (below_go HW0.out hb9)
    clear hb9 HC HA0 HB0 HW0 pa0 pa1 pa2 pa3
    have pb0:=put_cell HB1.out 0 _ rfl
    have pb1:=put_cell HB1.out 1 _ rfl
    have pb2:=put_cell HB1.out 2 _ rfl
    have pb3:=put_cell HB1.out 3 _ rfl
    have HC:=hideR (HSB.out w1 HW1.out)
    go_wp2_with fail
    refine Calls.mono (show Calls _ _ _ _ _ from HC.out) ?_
    rintro e w2 ⟨rfl,hb9⟩
    have HA2:=hideR ((hb9.block _ (Array.getElem?_eq_some_iff.1 HA1.out).1).trans HA1.out)
    have HB2:=hideR ((hb9.block _ (Array.getElem?_eq_some_iff.1 HB1.out).1).trans HB1.out)
    have HW2:=hideR (below_go HW1.out hb9)
    clear hb9 HC HA1 HB1 HW1 pb0 pb1 pb2 pb3
    have pa0:=put_cell HA2.out 0 _ rfl
    have pa1:=put_cell HA2.out 1 _ rfl
    have pa2:=put_cell HA2.out 2 _ rfl
    have pa3:=put_cell HA2.out 3 _ rfl
    have HC:=hideR (HGA.out w2 HW2.out)
    go_wp2_with fail
    refine Calls.mono (show Calls _ _ _ _ _ from HC.out) ?_
    rintro e w3 ⟨rfl,hb9⟩
    have HA3:=hideR ((hb9.block _ (Array.getElem?_eq_some_iff.1 HA2.out).1).trans HA2.out)
    have HB3:=hideR ((hb9.block _ (Array.getElem?_eq_some_iff.1 HB2.out).1).trans HB2.out)
    have HW3:=hideR (below_go HW2.out hb9)
    clear hb9 HC HA2 HB2 HW2 pa0 pa1 pa2 pa3
    have HG:Hid ((tkT n da ta && tkT n db tb)=false):=hideR (by rw [HKA.out,HKB.out];simp)
    have HD:=hideR (HS.out.bel HW3.out)
    have HK:=hideR ((Kp.refl r vs.ownBlock w).of HW3.out (Nat.le_refl _))
    go_wp2
    refine bodyPost_ret (v:=.int .i64 1) (by simp [results,Try.results15,go_sem]) rfl (UnS.bad HG.out HD.out HK.out)
   | true =>
    cases gb with
    | false =>
     go_enter Try.func15,Try.ntmps15
     go_upto_region 1 with fail
     rw [<- hW1,<- hW2]
     clear hW1 hW2
     have pa0:=put_cell HA0.out 0 _ rfl
     have pa1:=put_cell HA0.out 1 _ rfl
     have pa2:=put_cell HA0.out 2 _ rfl
     have pa3:=put_cell HA0.out 3 _ rfl
     have HC:=hideR (HSA.out W2 HW0.out)
     go_wp2_with fail
     refine Calls.mono (show Calls _ _ _ _ _ from HC.out) ?_
     rintro e w1 ⟨rfl,hb9⟩
     have HA1:=hideR ((hb9.block _ (Array.getElem?_eq_some_iff.1 HA0.out).1).trans HA0.out)
     have HB1:=hideR ((hb9.block _ (Array.getElem?_eq_some_iff.1 HB0.out).1).trans HB0.out)
     have HW1:=hideR (below_go HW0.out hb9)
     clear hb9 HC HA0 HB0 HW0 pa0 pa1 pa2 pa3
     have pb0:=put_cell HB1.out 0 _ rfl
     have pb1:=put_cell HB1.out 1 _ rfl
     have pb2:=put_cell HB1.out 2 _ rfl
     have pb3:=put_cell HB1.out 3 _ rfl
     have HC:=hideR (HSB.out w1 HW1.out)
     go_wp2_with fail
     refine Calls.mono (show Calls _ _ _ _ _ from HC.out) ?_
     rintro e w2 ⟨rfl,hb9⟩
     have HA2:=hideR ((hb9.block _ (Array.getElem?_eq_some_iff.1 HA1.out).1).trans HA1.out)
     have HB2:=hideR ((hb9.block _ (Array.getElem?_eq_some_iff.1 HB1.out).1).trans HB1.out)
     have HW2:=hideR (below_go HW1.out hb9)
     clear hb9 HC HA1 HB1 HW1 pb0 pb1 pb2 pb3
     have pa0:=put_cell HA2.out 0 _ rfl
     have pa1:=put_cell HA2.out 1 _ rfl
     have pa2:=put_cell HA2.out 2 _ rfl
     have pa3:=put_cell HA2.out 3 _ rfl
     have HC:=hideR (HGA.out w2 HW2.out)
     go_wp2_with fail
     refine Calls.mono (show Calls _ _ _ _ _ from HC.out) ?_
     rintro e w3 ⟨rfl,hb9⟩
     have HA3:=hideR ((hb9.block _ (Array.getElem?_eq_some_iff.1 HA2.out).1).trans HA2.out)
     have HB3:=hideR ((hb9.block _ (Array.getElem?_eq_some_iff.1 HB2.out).1).trans HB2.out)
     have HW3:=hideR (below_go HW2.out hb9)
     clear hb9 HC HA2 HB2 HW2 pa0 pa1 pa2 pa3
     have pb0:=put_cell HB3.out 0 _ rfl
     have pb1:=put_cell HB3.out 1 _ rfl
     have pb2:=put_cell HB3.out 2 _ rfl
     have pb3:=put_cell HB3.out 3 _ rfl
     have HC:=hideR (HGB.out w3 HW3.out)
     go_wp2_with fail
     refine Calls.mono (show Calls _ _ _ _ _ from HC.out) ?_
     rintro e w4 ⟨rfl,hb9⟩
     have HA4:=hideR ((hb9.block _ (Array.getElem?_eq_some_iff.1 HA3.out).1).trans HA3.out)
     have HB4:=hideR ((hb9.block _ (Array.getElem?_eq_some_iff.1 HB3.out).1).trans HB3.out)
     have HW4:=hideR (below_go HW3.out hb9)
     clear hb9 HC HA3 HB3 HW3 pb0 pb1 pb2 pb3
     have HG:Hid ((tkT n da ta && tkT n db tb)=false):=hideR (by rw [HKA.out,HKB.out];simp)
     have HD:=hideR (HS.out.bel HW4.out)
     have HK:=hideR ((Kp.refl r vs.ownBlock w).of HW4.out (Nat.le_refl _))
     go_wp2
     refine bodyPost_ret (v:=.int .i64 1) (by simp [results,Try.results15,go_sem]) rfl (UnS.bad HG.out HD.out HK.out)
    | true =>
     go_enter Try.func15,Try.ntmps15
     go_upto_region 1 with fail
     rw [<- hW1,<- hW2]
     clear hW1 hW2
     have pa0:=put_cell HA0.out 0 _ rfl
     have pa1:=put_cell HA0.out 1 _ rfl
     have pa2:=put_cell HA0.out 2 _ rfl
     have pa3:=put_cell HA0.out 3 _ rfl
     have HC:=hideR (HSA.out W2 HW0.out)
     go_wp2_with fail
     refine Calls.mono (show Calls _ _ _ _ _ from HC.out) ?_
     rintro e w1 ⟨rfl,hb9⟩
     have HA1:=hideR ((hb9.block _ (Array.getElem?_eq_some_iff.1 HA0.out).1).trans HA0.out)
     have HB1:=hideR ((hb9.block _ (Array.getElem?_eq_some_iff.1 HB0.out).1).trans HB0.out)
     have HW1:=hideR (below_go HW0.out hb9)
     clear hb9 HC HA0 HB0 HW0 pa0 pa1 pa2 pa3
     have pb0:=put_cell HB1.out 0 _ rfl
     have pb1:=put_cell HB1.out 1 _ rfl
     have pb2:=put_cell HB1.out 2 _ rfl
     have pb3:=put_cell HB1.out 3 _ rfl
     have HC:=hideR (HSB.out w1 HW1.out)
     go_wp2_with fail
     refine Calls.mono (show Calls _ _ _ _ _ from HC.out) ?_
     rintro e w2 ⟨rfl,hb9⟩
     have HA2:=hideR ((hb9.block _ (Array.getElem?_eq_some_iff.1 HA1.out).1).trans HA1.out)
     have HB2:=hideR ((hb9.block _ (Array.getElem?_eq_some_iff.1 HB1.out).1).trans HB1.out)
     have HW2:=hideR (below_go HW1.out hb9)
     clear hb9 HC HA1 HB1 HW1 pb0 pb1 pb2 pb3
     have pa0:=put_cell HA2.out 0 _ rfl
     have pa1:=put_cell HA2.out 1 _ rfl
     have pa2:=put_cell HA2.out 2 _ rfl
     have pa3:=put_cell HA2.out 3 _ rfl
     have HC:=hideR (HGA.out w2 HW2.out)
     go_wp2_with fail
     refine Calls.mono (show Calls _ _ _ _ _ from HC.out) ?_
     rintro e w3 ⟨rfl,hb9⟩
     have HA3:=hideR ((hb9.block _ (Array.getElem?_eq_some_iff.1 HA2.out).1).trans HA2.out)
     have HB3:=hideR ((hb9.block _ (Array.getElem?_eq_some_iff.1 HB2.out).1).trans HB2.out)
     have HW3:=hideR (below_go HW2.out hb9)
     clear hb9 HC HA2 HB2 HW2 pa0 pa1 pa2 pa3
     have pb0:=put_cell HB3.out 0 _ rfl
     have pb1:=put_cell HB3.out 1 _ rfl
     have pb2:=put_cell HB3.out 2 _ rfl
     have pb3:=put_cell HB3.out 3 _ rfl
     have HC:=hideR (HGB.out w3 HW3.out)
     go_wp2_with fail
     refine Calls.mono (show Calls _ _ _ _ _ from HC.out) ?_
     rintro e w4 ⟨rfl,hb9⟩
     have HA4:=hideR ((hb9.block _ (Array.getElem?_eq_some_iff.1 HA3.out).1).trans HA3.out)
     have HB4:=hideR ((hb9.block _ (Array.getElem?_eq_some_iff.1 HB3.out).1).trans HB3.out)
     have HW4:=hideR (below_go HW3.out hb9)
     clear hb9 HC HA3 HB3 HW3 pb0 pb1 pb2 pb3
     have hkA:tkT n da ta=true:=by rw [HKA.out,decide_eq_true hca];rfl
     have hkB:tkT n db tb=true:=by rw [HKB.out,decide_eq_true hcb];rfl
     have HG:Hid ((tkT n da ta && tkT n db tb)=true):=hideR (by rw [hkA,hkB];rfl)
     obtain ⟨hSl,hlt,hS0⟩:=HSL.out
     have hd4:=HS.out.bel HW4.out
     have hblk:∃x,w4.heap[r]?=some (.cells #[vs,x] 65 (0,0)):=by obtain ⟨_,xs,rk,hv,_⟩:=hd4;exact ⟨_,hv.blk⟩
     obtain ⟨xp,hblk⟩:=hblk
     have s1:=put_cell hblk 1 _ rfl
     obtain ⟨W5,hW5⟩:∃W5,W5=w4.setCell ⟨r,1,none⟩ (.int .i64 0):=⟨_,rfl⟩
     obtain ⟨f1,hS5,hk5⟩:=hd4.count 0
     rw [<- hW5] at hS5 hk5
     have hkW:Kp r vs.ownBlock w W5:=((Kp.refl r vs.ownBlock w).of HW4.out (Nat.le_refl _)).trans hk5
     have hxA5:=kp_ne hk5 HA4.out (by omega) (fun e=>by have:=hlt.2.1 _ e;omega)
     have hxB5:=kp_ne hk5 HB4.out (by omega) (fun e=>by have:=hlt.2.1 _ e;omega)
     have HPR:=hideR (t_dPair HM.out.1 f W5 0 h ta _ tb _ hS5 ((HWA.out hkA).kp hkW hS0.1 hS0.2) ((HWB.out hkB).kp hkW hS0.1 hS0.2) (fun k hk=>Nat.lt_of_lt_of_le (hSl k hk) hkW.size) (by have:=HM.out.2;omega) (by omega))
     have HKW:=hideR hkW
     have a0:=put_cell hxA5 0 _ rfl
     have a1:=put_cell hxA5 1 _ rfl
     have a2:=put_cell hxA5 2 _ rfl
     have a3:=put_cell hxA5 3 _ rfl
     have b0:=put_cell hxB5 0 _ rfl
     have b1:=put_cell hxB5 1 _ rfl
     have b2:=put_cell hxB5 2 _ rfl
     have b3:=put_cell hxB5 3 _ rfl
     clear hkA hkB hSl hlt hS0 hd4 hS5 hk5 hkW hxA5 hxB5 hblk HSL HS HWA HWB HSA HSB HGA HGB HA4 HB4 HW4 HKA HKB
     go_upto_region 4 with (first|rw [<- hW5]|fail)
     clear hW5 f1 s1
     go_wp2_with fail
     refine Calls.mono (show Calls _ _ _ _ _ from HPR.out) ?_
     rintro e w6 ⟨c',rfl,_,hd,hk⟩
     have HD:=hideR hd
     have HK:=hideR (HKW.out.trans hk)
     clear hd hk HPR a0 a1 a2 a3 b0 b1 b2 b3
     go_wp2
     refine bodyPost_ret (v:=.int .i64 (unT m f 0 h ta tb).1) (by simp [results,Try.results15,go_sem]) rfl (UnS.ok HG.out HD.out HK.out)
  ·obtain ⟨qb,qb2⟩:=gtr_yes hcb
   go_enter Try.func15,Try.ntmps15
   go_upto_region 1 with fail
   rw [<- hW1,<- hW2]
   clear hW1 hW2
   have pa0:=put_cell HA0.out 0 _ rfl
   have pa1:=put_cell HA0.out 1 _ rfl
   have pa2:=put_cell HA0.out 2 _ rfl
   have pa3:=put_cell HA0.out 3 _ rfl
   have HC:=hideR (HSA.out W2 HW0.out)
   go_wp2_with fail
   refine Calls.mono (show Calls _ _ _ _ _ from HC.out) ?_
   rintro e w1 ⟨rfl,hb9⟩
   have HA1:=hideR ((hb9.block _ (Array.getElem?_eq_some_iff.1 HA0.out).1).trans HA0.out)
   have HB1:=hideR ((hb9.block _ (Array.getElem?_eq_some_iff.1 HB0.out).1).trans HB0.out)
   have HW1:=hideR (below_go HW0.out hb9)
   clear hb9 HC HA0 HB0 HW0 pa0 pa1 pa2 pa3
   have pb0:=put_cell HB1.out 0 _ rfl
   have pb1:=put_cell HB1.out 1 _ rfl
   have pb2:=put_cell HB1.out 2 _ rfl
   have pb3:=put_cell HB1.out 3 _ rfl
   have HC:=hideR (HSB.out w1 HW1.out)
   go_wp2_with fail
   refine Calls.mono (show Calls _ _ _ _ _ from HC.out) ?_
   rintro e w2 ⟨rfl,hb9⟩
   have HA2:=hideR ((hb9.block _ (Array.getElem?_eq_some_iff.1 HA1.out).1).trans HA1.out)
   have HB2:=hideR ((hb9.block _ (Array.getElem?_eq_some_iff.1 HB1.out).1).trans HB1.out)
   have HW2:=hideR (below_go HW1.out hb9)
   clear hb9 HC HA1 HB1 HW1 pb0 pb1 pb2 pb3
   have HG:Hid ((tkT n da ta && tkT n db tb)=false):=hideR (by rw [HKA.out,HKB.out];rw [decide_eq_false hcb];simp)
   have HD:=hideR (HS.out.bel HW2.out)
   have HK:=hideR ((Kp.refl r vs.ownBlock w).of HW2.out (Nat.le_refl _))
   go_wp2
   refine bodyPost_ret (v:=.int .i64 1) (by simp [results,Try.results15,go_sem]) rfl (UnS.bad HG.out HD.out HK.out)
 ·obtain ⟨qa,qa2⟩:=gtr_yes hca
  go_enter Try.func15,Try.ntmps15
  go_upto_region 1 with fail
  rw [<- hW1,<- hW2]
  clear hW1 hW2
  have pa0:=put_cell HA0.out 0 _ rfl
  have pa1:=put_cell HA0.out 1 _ rfl
  have pa2:=put_cell HA0.out 2 _ rfl
  have pa3:=put_cell HA0.out 3 _ rfl
  have HC:=hideR (HSA.out W2 HW0.out)
  go_wp2_with fail
  refine Calls.mono (show Calls _ _ _ _ _ from HC.out) ?_
  rintro e w1 ⟨rfl,hb9⟩
  have HA1:=hideR ((hb9.block _ (Array.getElem?_eq_some_iff.1 HA0.out).1).trans HA0.out)
  have HB1:=hideR ((hb9.block _ (Array.getElem?_eq_some_iff.1 HB0.out).1).trans HB0.out)
  have HW1:=hideR (below_go HW0.out hb9)
  clear hb9 HC HA0 HB0 HW0 pa0 pa1 pa2 pa3
  have HG:Hid ((tkT n da ta && tkT n db tb)=false):=hideR (by rw [HKA.out,HKB.out];rw [decide_eq_false hca];simp)
  have HD:=hideR (HS.out.bel HW1.out)
  have HK:=hideR ((Kp.refl r vs.ownBlock w).of HW1.out (Nat.le_refl _))
  go_wp2
  refine bodyPost_ret (v:=.int .i64 1) (by simp [results,Try.results15,go_sem]) rfl (UnS.bad HG.out HD.out HK.out)
set_option maxRecDepth 100000 in
set_option maxHeartbeats 16000000 in
theorem t_dApply {m:Nat} (hm:1025<=m) {S:Nat->Prop} {B n r:Nat} {h:Nat->Value} {vs:Value} {pr:Int} (w:World) {d:Nat} {t v:Value} (hS:DO S B n h r vs pr w) (ht:InX S w d t v):Calls Try.prog 17 #[.pointer (some ⟨r,0,none⟩),v] w (ApS m n d h t w):=by
 obtain ⟨k1,x1,n1,u1,hva,hu1⟩:=ht.val
 have HWA:=hideR (fun (e:tkT n d t=true)=>ht.tyw e)
 have hta:=ht.in_.at_
 obtain ⟨_,xs,rk,hdv,_⟩:=id hS
 have HSA:=hideR (fun (u:World) (hu:Below w.heap.size w u)=>d_Size d u t v (hta.but (Abv.of hu)))
 have HGA:=hideR (fun (u:World) (hu:Below w.heap.size w u)=>t_dGood d u t v (hdv.on hu) (hta.but (Abv.of hu)))
 have hkA:=tk_split (n:=n) (d:=d) (t:=t)
 generalize cnT (d+1) 0 t=ca at *
 generalize gdT n (d+1) t=ga at *
 subst hva
 obtain ⟨W1,hW1⟩:∃W1,W1=w.alloc (.cells #[.int .i64 k1,.string x1,.int .i64 n1,u1] 34):=⟨_,rfl⟩
 obtain ⟨W2,hW2⟩:∃W2,W2=W1.alloc (.cells #[.int .i64 0,.string ⟨#[]⟩,.int .i64 0,.slice none 0 0] 34):=⟨_,rfl⟩
 have hs1:W1.heap.size=w.heap.size+1:=by rw [hW1];simp
 have hb1:Below w.heap.size w W1:=by rw [hW1];exact new_on' _ _
 have hb12:Below W1.heap.size W1 W2:=by rw [hW2];exact new_on' _ _
 have hxA:W2.heap[w.heap.size]?=some (.cells #[.int .i64 k1,.string x1,.int .i64 n1,u1] 34 (0,0)):=(hb12.block _ (by omega)).trans (by rw [hW1];exact heap_alloc_new w _)
 have hxB:W2.heap[w.heap.size+1]?=some (.cells #[.int .i64 0,.string ⟨#[]⟩,.int .i64 0,.slice none 0 0] 34 (0,0)):=by rw [<- hs1,hW2];exact heap_alloc_new W1 _
 have hb2:Below w.heap.size w W2:=below_go hb1 hb12
 have HA0:=hideR hxA
 have HB0:=hideR hxB
 have HW0:=hideR hb2
 have HS:=hideR hS
 have HM:=hideR hm
 have HKA:=hideR hkA
 clear ht hta hdv hS hm hkA hs1 hb1 hb12 hxA hxB hb2
 by_cases hca:ca<=1024
 ·obtain ⟨qa,qa2⟩:=gtr_no hca
  cases ga with
  | false =>
   go_enter Try.func17,Try.ntmps17
   go_upto_region 1 with fail
   rw [<- hW1,<- hW2]
   clear hW1 hW2
   have pa0:=put_cell HA0.out 0 _ rfl
   have pa1:=put_cell HA0.out 1 _ rfl
   have pa2:=put_cell HA0.out 2 _ rfl
   have pa3:=put_cell HA0.out 3 _ rfl
   have HC:=hideR (HSA.out W2 HW0.out)
   go_wp2_with fail
   refine Calls.mono (show Calls _ _ _ _ _ from HC.out) ?_
   rintro e w1 ⟨rfl,hb9⟩
   have HA1:=hideR ((hb9.block _ (Array.getElem?_eq_some_iff.1 HA0.out).1).trans HA0.out)
   have HB1:=hideR ((hb9.block _ (Array.getElem?_eq_some_iff.1 HB0.out).1).trans HB0.out)
   have HW1:=hideR (below_go HW0.out hb9)
   clear hb9 HC HA0 HB0 HW0 pa0 pa1 pa2 pa3
   have pa0:=put_cell HA1.out 0 _ rfl
   have pa1:=put_cell HA1.out 1 _ rfl
   have pa2:=put_cell HA1.out 2 _ rfl
   have pa3:=put_cell HA1.out 3 _ rfl
   have HC:=hideR (HGA.out w1 HW1.out)
   go_wp2_with fail
   refine Calls.mono (show Calls _ _ _ _ _ from HC.out) ?_
   rintro e w2 ⟨rfl,hb9⟩
   have HA2:=hideR ((hb9.block _ (Array.getElem?_eq_some_iff.1 HA1.out).1).trans HA1.out)
   have HB2:=hideR ((hb9.block _ (Array.getElem?_eq_some_iff.1 HB1.out).1).trans HB1.out)
   have HW2:=hideR (below_go HW1.out hb9)
   clear hb9 HC HA1 HB1 HW1 pa0 pa1 pa2 pa3
   obtain ⟨W9,hW9,hth,hbk,hbl,hne⟩:=put4 (w:=w) (q:=w.heap.size+1) (z:=#[.int .i64 0,.string ⟨#[]⟩,.int .i64 0,.slice none 0 0]) (vs:=#[.int .i64 0,.string ⟨#[]⟩,.int .i64 0,.slice none 0 0]) rfl HB2.out HW2.out (Nat.le_succ _)
   have HW9:=hideR hW9;have HTH9:=hideR hth;have HBL:=hideR hbl
   have y0:=put_cell hbk 0 _ rfl
   have y1:=put_cell hbk 1 _ rfl
   have y2:=put_cell hbk 2 _ rfl
   have y3:=put_cell hbk 3 _ rfl
   have HG:Hid (ApG m n d h t w.heap.size (.agg #[.int .i64 0,.string ⟨#[]⟩,.int .i64 0,.slice none 0 0]) 1 W9):=hideR (.inl ⟨by rw [HKA.out];simp,rfl,rfl⟩)
   clear hW9 hth hbk hbl hne
   go_wp2_with (refine wpList_store_mid rfl 34 (.tmp 4) (.tmp 17) rfl (w.heap.size+1) 0 #[.int .i64 0,.string ⟨#[]⟩,.int .i64 0,.slice none 0 0] rfl rfl HTH9.out sizeTy' (by simp [Value.oneCell']) ?_;rw [HW9.out])
   refine bodyPost_ret (v:=.tuple #[.agg #[.int .i64 0,.string ⟨#[]⟩,.int .i64 0,.slice none 0 0],.int .i64 1]) (by simp [results,Try.results17,go_sem,y0,y1,y2,y3]) rfl ?_
   exact ⟨HBL.out,_,_,rfl,HG.out⟩
  | true =>
   have hkA:tkT n d t=true:=by rw [HKA.out,decide_eq_true hca];rfl
   have HKT:=hideR hkA
   have HTW:=hideR (HWA.out hkA)
   clear hkA
   go_enter Try.func17,Try.ntmps17
   go_upto_region 1 with fail
   rw [<- hW1,<- hW2]
   clear hW1 hW2
   have pa0:=put_cell HA0.out 0 _ rfl
   have pa1:=put_cell HA0.out 1 _ rfl
   have pa2:=put_cell HA0.out 2 _ rfl
   have pa3:=put_cell HA0.out 3 _ rfl
   have HC:=hideR (HSA.out W2 HW0.out)
   go_wp2_with fail
   refine Calls.mono (show Calls _ _ _ _ _ from HC.out) ?_
   rintro e w1 ⟨rfl,hb9⟩
   have HA1:=hideR ((hb9.block _ (Array.getElem?_eq_some_iff.1 HA0.out).1).trans HA0.out)
   have HB1:=hideR ((hb9.block _ (Array.getElem?_eq_some_iff.1 HB0.out).1).trans HB0.out)
   have HW1:=hideR (below_go HW0.out hb9)
   clear hb9 HC HA0 HB0 HW0 pa0 pa1 pa2 pa3
   have pa0:=put_cell HA1.out 0 _ rfl
   have pa1:=put_cell HA1.out 1 _ rfl
   have pa2:=put_cell HA1.out 2 _ rfl
   have pa3:=put_cell HA1.out 3 _ rfl
   have HC:=hideR (HGA.out w1 HW1.out)
   go_wp2_with fail
   refine Calls.mono (show Calls _ _ _ _ _ from HC.out) ?_
   rintro e w2 ⟨rfl,hb9⟩
   have HA2:=hideR ((hb9.block _ (Array.getElem?_eq_some_iff.1 HA1.out).1).trans HA1.out)
   have HB2:=hideR ((hb9.block _ (Array.getElem?_eq_some_iff.1 HB1.out).1).trans HB1.out)
   have HW2:=hideR (below_go HW1.out hb9)
   clear hb9 HC HA1 HB1 HW1 pa0 pa1 pa2 pa3
   have p0:=put_cell HA2.out 0 _ rfl
   have p1:=put_cell HA2.out 1 _ rfl
   have p2:=put_cell HA2.out 2 _ rfl
   have p3:=put_cell HA2.out 3 _ rfl
   have HC:Hid (Calls Try.prog 43 #[.pointer (some ⟨r,0,none⟩),.agg #[.int .i64 k1,.string x1,.int .i64 n1,u1],.int .i64 0,.int .i64 0] w2 fun e w'=>∃c':Nat,e=.returned (.tuple #[.int .i64 (c':Int),.int .i64 (lkT h 0 m 0 t).1])/\((lkT h 0 m 0 t).1=0->c'=(lkT h 0 m 0 t).2)/\Below w2.heap.size w2 w'):=hideR (t_dMet m w2 t _ 0 (HS.out.bel HW2.out) (HTW.out.bel HW2.out) (by omega) (by have:=HM.out;omega))
   obtain ⟨z,hz⟩:∃z,z=(lkT h 0 m 0 t).1:=⟨_,rfl⟩
   have HZ:=hideR hz
   rw [<- hz] at HC
   clear hz
   go_wp2_with fail
   refine Calls.mono (show Calls _ _ _ _ _ from HC.out) ?_
   rintro e w3 ⟨c',rfl,_,hb9⟩
   have HA3:=hideR ((hb9.block _ (Array.getElem?_eq_some_iff.1 HA2.out).1).trans HA2.out)
   have HB3:=hideR ((hb9.block _ (Array.getElem?_eq_some_iff.1 HB2.out).1).trans HB2.out)
   have HW3:=hideR (below_go HW2.out hb9)
   clear hb9 HC HA2 HB2 HW2 p0 p1 p2 p3
   by_cases hz:z=0
   ·subst hz
    have p0:=put_cell HA3.out 0 _ rfl
    have p1:=put_cell HA3.out 1 _ rfl
    have p2:=put_cell HA3.out 2 _ rfl
    have p3:=put_cell HA3.out 3 _ rfl
    have HC:=hideR (t_dWritten m w3 t _ (HS.out.bel HW3.out) (HTW.out.bel HW3.out) (lkT_ex m 0 t HZ.out.symm))
    go_wp2_with fail
    refine Calls.mono (show Calls _ _ _ _ _ from HC.out) ?_
    rintro e w4 ⟨v4,rfl,hb9,hty⟩
    obtain ⟨k4,x4,n4,u4,rfl,hone4⟩:=hty.val
    have HA4:=hideR ((hb9.block _ (Array.getElem?_eq_some_iff.1 HA3.out).1).trans HA3.out)
    have HB4:=hideR ((hb9.block _ (Array.getElem?_eq_some_iff.1 HB3.out).1).trans HB3.out)
    have HW4:=hideR (below_go HW3.out hb9)
    have hsz3:w.heap.size+1<w3.heap.size:=(Array.getElem?_eq_some_iff.1 HB3.out).1
    clear hb9 HC HA3 HB3 HW3 p0 p1 p2 p3
    obtain ⟨W9,hW9,hth,hbk,hbl,hne⟩:=put4 (w:=w) (q:=w.heap.size+1) (z:=#[.int .i64 0,.string ⟨#[]⟩,.int .i64 0,.slice none 0 0]) (vs:=#[.int .i64 k4,.string x4,.int .i64 n4,u4]) rfl HB4.out HW4.out (Nat.le_succ _)
    have HW9:=hideR hW9;have HTH9:=hideR hth;have HBL:=hideR hbl
    have y0:=put_cell hbk 0 _ rfl
    have y1:=put_cell hbk 1 _ rfl
    have y2:=put_cell hbk 2 _ rfl
    have y3:=put_cell hbk 3 _ rfl
    have HG:Hid (ApG m n d h t w.heap.size (.agg #[.int .i64 k4,.string x4,.int .i64 n4,u4]) 0 W9):=hideR (.inr (.inr ⟨HKT.out,HZ.out.symm,rfl,hty.on (fun k hk hl=>hne k (by omega)) (by omega)⟩))
    clear hty hsz3
    clear hW9 hth hbk hbl hne
    go_wp2_with (refine wpList_store_mid rfl 34 (.tmp 4) (.tmp 29) rfl (w.heap.size+1) 0 #[.int .i64 k4,.string x4,.int .i64 n4,u4] rfl rfl HTH9.out sizeTy' (by simp [Value.oneCell'] at hone4 ⊢;exact hone4) ?_;rw [HW9.out])
    refine bodyPost_ret (v:=.tuple #[.agg #[.int .i64 k4,.string x4,.int .i64 n4,u4],.int .i64 0]) (by simp [results,Try.results17,go_sem,y0,y1,y2,y3]) rfl ?_
    exact ⟨HBL.out,_,_,rfl,HG.out⟩
   ·have q9:(z != 0)=true:=bne_iff_ne.2 hz
    obtain ⟨W9,hW9,hth,hbk,hbl,hne⟩:=put4 (w:=w) (q:=w.heap.size+1) (z:=#[.int .i64 0,.string ⟨#[]⟩,.int .i64 0,.slice none 0 0]) (vs:=#[.int .i64 0,.string ⟨#[]⟩,.int .i64 0,.slice none 0 0]) rfl HB3.out HW3.out (Nat.le_succ _)
    have HW9:=hideR hW9;have HTH9:=hideR hth;have HBL:=hideR hbl
    have y0:=put_cell hbk 0 _ rfl
    have y1:=put_cell hbk 1 _ rfl
    have y2:=put_cell hbk 2 _ rfl
    have y3:=put_cell hbk 3 _ rfl
    have HG:Hid (ApG m n d h t w.heap.size (.agg #[.int .i64 0,.string ⟨#[]⟩,.int .i64 0,.slice none 0 0]) 3 W9):=hideR (.inr (.inl ⟨HKT.out,by rw [<- HZ.out];exact hz,rfl,rfl⟩))
    clear hz
    clear hW9 hth hbk hbl hne
    go_wp2_with (refine wpList_store_mid rfl 34 (.tmp 4) (.tmp 26) rfl (w.heap.size+1) 0 #[.int .i64 0,.string ⟨#[]⟩,.int .i64 0,.slice none 0 0] rfl rfl HTH9.out sizeTy' (by simp [Value.oneCell']) ?_;rw [HW9.out])
    refine bodyPost_ret (v:=.tuple #[.agg #[.int .i64 0,.string ⟨#[]⟩,.int .i64 0,.slice none 0 0],.int .i64 3]) (by simp [results,Try.results17,go_sem,y0,y1,y2,y3]) rfl ?_
    exact ⟨HBL.out,_,_,rfl,HG.out⟩
 ·obtain ⟨qa,qa2⟩:=gtr_yes hca
  go_enter Try.func17,Try.ntmps17
  go_upto_region 1 with fail
  rw [<- hW1,<- hW2]
  clear hW1 hW2
  have pa0:=put_cell HA0.out 0 _ rfl
  have pa1:=put_cell HA0.out 1 _ rfl
  have pa2:=put_cell HA0.out 2 _ rfl
  have pa3:=put_cell HA0.out 3 _ rfl
  have HC:=hideR (HSA.out W2 HW0.out)
  go_wp2_with fail
  refine Calls.mono (show Calls _ _ _ _ _ from HC.out) ?_
  rintro e w1 ⟨rfl,hb9⟩
  have HA1:=hideR ((hb9.block _ (Array.getElem?_eq_some_iff.1 HA0.out).1).trans HA0.out)
  have HB1:=hideR ((hb9.block _ (Array.getElem?_eq_some_iff.1 HB0.out).1).trans HB0.out)
  have HW1:=hideR (below_go HW0.out hb9)
  clear hb9 HC HA0 HB0 HW0 pa0 pa1 pa2 pa3
  obtain ⟨W9,hW9,hth,hbk,hbl,hne⟩:=put4 (w:=w) (q:=w.heap.size+1) (z:=#[.int .i64 0,.string ⟨#[]⟩,.int .i64 0,.slice none 0 0]) (vs:=#[.int .i64 0,.string ⟨#[]⟩,.int .i64 0,.slice none 0 0]) rfl HB1.out HW1.out (Nat.le_succ _)
  have HW9:=hideR hW9;have HTH9:=hideR hth;have HBL:=hideR hbl
  have y0:=put_cell hbk 0 _ rfl
  have y1:=put_cell hbk 1 _ rfl
  have y2:=put_cell hbk 2 _ rfl
  have y3:=put_cell hbk 3 _ rfl
  have HG:Hid (ApG m n d h t w.heap.size (.agg #[.int .i64 0,.string ⟨#[]⟩,.int .i64 0,.slice none 0 0]) 1 W9):=hideR (.inl ⟨by rw [HKA.out];rw [decide_eq_false hca];rfl,rfl,rfl⟩)
  clear hW9 hth hbk hbl hne
  go_wp2_with (refine wpList_store_mid rfl 34 (.tmp 4) (.tmp 17) rfl (w.heap.size+1) 0 #[.int .i64 0,.string ⟨#[]⟩,.int .i64 0,.slice none 0 0] rfl rfl HTH9.out sizeTy' (by simp [Value.oneCell']) ?_;rw [HW9.out])
  refine bodyPost_ret (v:=.tuple #[.agg #[.int .i64 0,.string ⟨#[]⟩,.int .i64 0,.slice none 0 0],.int .i64 1]) (by simp [results,Try.results17,go_sem,y0,y1,y2,y3]) rfl ?_
  exact ⟨HBL.out,_,_,rfl,HG.out⟩
end Go.Proofs.Ytkflfohoinbenaa
