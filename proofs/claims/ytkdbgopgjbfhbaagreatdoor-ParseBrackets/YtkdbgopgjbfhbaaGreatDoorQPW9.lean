/- Texts that the claim needs. -/
import Derived.Test.YtkdbgopgjbfhbaaGreatDoorQPW6
import Derived.Test.YtkdbgopgjbfhbaaGreatDoorQPW7
import Derived.Test.YtkdbgopgjbfhbaaGreatDoorQPW8
namespace Go.Proofs.YtkdbgopgjbfhbaaGreatDoor
open Go.RowKit Lx Pz bq
set_option linter.unusedVariables false
set_option maxRecDepth 100000
set_option maxHeartbeats 8000000
namespace Pz
theorem LB:(Tryz.prog.info? 27).map (fun i=>(i.zero,i.size,i.bytes))=some (some (.agg bO),7,104):=by kernel_rfl
theorem Tj:(Tryz.prog.info? 101).map (fun i=>(i.zero,i.size,i.bytes))=some (some (.agg iz),5,64):=by kernel_rfl
theorem abQ:(Tryz.prog.info? 79).map (fun i=>(i.zero,i.size,i.bytes))=some (some (.agg nR),4,56):=by kernel_rfl
theorem But.grown {w wr w9:World} {p:Nat} {o:Option Nat} (h:But p w wr) (hg:wr.grownBy w9 o) (ho:∀k,o=some k->w.heap.size<=k):But p w w9 :=
 ⟨hg.os.trans h.os,hg.tape.trans h.tape,hg.output.trans h.output,Nat.le_trans h.size hg.size,fun k hk hp=>(hg.block k (Nat.lt_of_lt_of_le hk h.size) (fun e=>by have:=ho k e.symm;omega)).trans (h.block k hk hp)⟩
theorem PR.grown {w0 w w9:World} {p:Nat} {L:List Tk} {vL:Value} {en:Int} {i:Nat} {o:Option Nat} (h:PR w0 p L vL en i w) (hg:w.grownBy w9 o) (ho:∀q,o=some q->p<q):PR w0 p L vL en i w9 :=
 ⟨h.below.grown hg h.below.size (fun q hq=>by have:=ho q hq;have:=h.base;omega),h.base,by rw [hg.block p h.lt (fun e=>by have:=ho p e.symm;omega)];exact h.blk,h.le,by
  rcases h.toks with h1|⟨g,c,h1,h2⟩
  ·exact .inl h1
  ·refine .inr ⟨g,c,h1,fun a t ha b v hv=>?_⟩;have hc:=h2 a t ha b v hv;have iA:g<p:=h.rX g 0 _ c h1;unfold World.cell? at hc ⊢;rw [hg.block g (Nat.lt_trans iA h.lt) (fun e=>by have:=ho g e.symm;omega)];exact hc,h.few,h.rX⟩
theorem Eh {w:World} {B:Nat} {e:TypeId} {size:Nat} {v:Value} {n:Nat} {xs:List Value} (h:w.ownsRow B e size v n xs):∃o c,v=.slice o n c:=by
 rcases h.2 with ⟨rfl,rfl⟩|⟨g,cap,cur,rfl,_⟩
 ·exact ⟨_,_,rfl⟩
 ·exact ⟨_,_,rfl⟩
theorem yw (w:World) (cs:Array Value) (T:TypeId):∀(j:Nat) (u:Value),cs.toList[j]?=some u->(w.alloc (.cells cs T)).cell? ((⟨w.heap.size,0,none⟩:Addr).add j)=some u:=fun j u hj=>by
 have ha:(⟨w.heap.size,0,none⟩:Addr).add j=⟨w.heap.size,j,none⟩:=by
  by_cases h0:j=0
  ·rw [h0];rfl
  ·simp only [Addr.add,if_neg h0,Nat.zero_add]
 rw [ha];exact ak (heap_alloc_new w _) j u (by simpa using hj)
def left (p n:Nat) (w:World):Nat:=match w.cell? ⟨p,1,none⟩ with|some (.int _ k)=>n-k.toNat|_=>0
theorem PR.left {w0 w:World} {p:Nat} {L:List Tk} {vL:Value} {en:Int} {i:Nat} (h:PR w0 p L vL en i w):left p L.length w=L.length-i:=by
 unfold Pz.left;rw [h.cell 1 _ rfl];simp
end Pz
theorem abR (w0:World) (p:Nat) (L:List Tk) (vL:Value) (en:Int) (g:Nat) (A:Nat->Rd Value) (i:Nat) (HA1:∀j u,i<=j->PR w0 p L vL en j u->u.heap[g]?=some (.cells nC 163 (0,0))->Calls Tryz.prog 123 #[.pointer (some ⟨p,0,none⟩),.slice (some ⟨g,0,none⟩) 4 4] u (Rp w0 p L vL en (aX u.heap.size) u (A j)))
  (eD:∀j t k,i<=j->A j=.ok (t,k)->j<k) (w:World) (h:PR w0 p L vL en i w) (hg:w.heap[g]?=some (.cells nC 163 (0,0))) (lH:g≠p) :
  Calls Tryz.prog 242 #[.pointer (some ⟨p,0,none⟩),.slice (some ⟨g,0,none⟩) 4 4] w (Rp w0 p L vL en (fun (ts:List Value) v u=>∃d,Row 7 (dW w.heap.size u d) v ts) w (dK L en jZ A (L.length+1) i [])):=by
 have hpw:=h.lt;have KQ:=h.few;obtain ⟨R,hR⟩:∃R,R=dK L en jZ A (L.length+1) i []:=⟨_,rfl⟩;rw [<- hR];have HR:=ae hR;have aO:=ae HA1;have HP:=ae h;have HG:=ae (And.intro hg lH);have HAD:=ae eD;clear hR HA1 h hg lH eD;go_enter Tryz.func242,Tryz.ntmps242;go_wp2_with fail;go_loopw [5] (fun x wr=>∃(ts:List Value) (j f:Nat),(∃o c,x=.slice o ts.length c)/\ts.length<=j/\Hid (i<=j)/\Hid (R=dK L en jZ A f j ts)/\Hid (L.length+1<=j+f)/\Hid (PR w0 p L vL en j wr)/\Hid (But p w wr)/\Hid (Sv (aX w.heap.size) w.heap.size 27 7 wr x ts)) (fun _ wr=>left p L.length wr)
 case atStart=>exact ⟨[],i,L.length+1,⟨none,0,rfl⟩,Nat.zero_le _,ae (Nat.le_refl _),HR,ae (by omega),HP,ae (But.refl _ _),ae (Sv.nil _)⟩
 case round =>
  obtain ⟨ts,j,f,⟨oT,cT,rfl⟩,htl,dZ,HM,HF,HS,HB,HO⟩:=hrel;have hgr:=HB.out.blk HG.out.1 HG.out.2;have hQ:=Ox w0 p L vL en j g wr HS.out hgr;cases hbv:jZ (tk L en j) with
  | false =>
   rw [hbv] at hQ;have HQ:=ae hQ
   have HZ:Hid (R=.ok (ts,j)):=ae (by
    have hq:=HM.out;cases f with
    | zero=>exact hq
    | succ f=>rw [dK,if_neg (by rw [hbv];decide)] at hq;exact hq)
   clear hQ hbv hgr HM HF;go_wp2_with fail;refine Calls.mono (show Calls _ _ _ _ _ from HQ.out) ?_;rintro e w1 ⟨rfl,hb1⟩;have aT:=ae (HS.out.on hb1);have HB1:=ae (HB.out.trans (But.of p hb1));have HV:=ae ((HO.out.on (bX.of hb1) hb1.size).row (F:=dW w.heap.size w1) dW.up (by have:=HS.out.le;omega) (fun t cs b o hv hB hc=>D6 hv hB hc));clear hb1 HS HB HO HQ;go_wp2;go_ret;exact cz HZ.out HV.out aT.out HB1.out
  | true =>
   rw [hbv] at hQ;have HQ:=ae hQ;have hjl:=HS.out.le;obtain ⟨f,rfl⟩:∃f',f=f'+1:=⟨f-1,by have:=HF.out;omega⟩
   have dw:Hid (R=(match A j with | .error z=>.error z | .ok (e,j)=>dK L en jZ A f j (ts++[e]))):=ae (by
    have hq:=HM.out;rw [dK,if_pos hbv] at hq;exact hq)
   clear hQ hbv hgr HM;go_wp2_with fail;refine Calls.mono (show Calls _ _ _ _ _ from HQ.out) ?_;rintro e w1 ⟨rfl,hb1⟩;have aT:=ae (HS.out.on hb1);have HB1:=ae (HB.out.trans (But.of p hb1));have fD:=ae (HO.out.on (bX.of hb1) hb1.size);have HC:=ae (aO.out j w1 dZ.out aT.out (HB1.out.blk HG.out.1 HG.out.2));have kG:=ae HS.out.left;clear hb1 HS HB HO HQ;cases hu:A j with
   | error z =>
    have HZ:Hid (R=.error z):=ae (by have hq:=dw.out;rw [hu] at hq;exact hq);rw [hu] at HC;clear hu dw HF fD;go_wp2_with fail;refine Calls.mono (show Calls _ _ _ _ _ from HC.out) ?_;intro e w2 hr;obtain ⟨rfl,hb⟩:=bE hr rfl;have Ei:=ae hb;clear hb hr;go_wp2;exact ⟨rfl,bA HZ.out Ei.out⟩
   | ok r =>
    obtain ⟨t,j2⟩:=r;have hjj:=HAD.out j t j2 dZ.out hu;have HZ:Hid (R=dK L en jZ A f j2 (ts++[t])):=ae (by have hq:=dw.out;rw [hu] at hq;exact hq);rw [hu] at HC;clear hu dw;go_wp2_with fail;refine Calls.mono (show Calls _ _ _ _ _ from HC.out) ?_;intro e w2 hr;obtain ⟨⟨v,rfl,hv0⟩,hp,hbt⟩:=bw hr rfl;obtain ⟨vk,vx,vy,vn,vu,vz,va,hv,o1,o2⟩:=hv0.val;subst hv;have hal:=dF w2 (.cells #[.int .i64 vk,.string vx,.string vy,.int .i64 vn,vu,vz,.int .i64 va] 27);have Ej:=(fD.out.on (bX.but hbt hpw) hbt.size).on (bX.of hal) hal.size;obtain ⟨xs,hown,hx⟩:=Ej;obtain ⟨Tm,hown1,_⟩:=fD.out;have tX:=ae (abS (B:=w.heap.size) (g:=(Value.slice oT ts.length cT).ownBlock) (hv0.on (bX.of hal) (Nat.le_refl _)) HB1.out.size (fun k hk=>(hown1.lt k hk).2));have jR:=ae hown;have bD:=ae hx;have HN:=ae (yw w2 #[.int .i64 vk,.string vx,.string vy,.int .i64 vn,vu,vz,.int .i64 va] 27);have HB2:=ae ((HB1.out.trans hbt).trans (But.of p hal));have ba:=ae (hp.on hal);have qc:Hid (w.heap.size<=w2.heap.size):=ae (Nat.le_trans HB1.out.size hbt.size);have hj2:=hp.le;clear hp hbt hal hown hx hown1 hr hv0 HC fD aT HB1;obtain ⟨i0,hi,hz0,hz1,hz2⟩:=info_parts LB;go_wp2_with (first|(at_builtin;refine KO rfl _ _ 24 rfl w.heap.size 27 i0 _ 7 104 Tryz.underlying24 hi hz0 hz1 hz2 rfl (by decide) _ _ _ rfl jR.out (some ⟨w2.heap.size,0,none⟩) 1 1 [.int .i64 vk,.string vx,.string vy,.int .i64 vn,vu,vz,.int .i64 va] rfl ?c6 ?c0 ?c1 ?c2 ?c3 ?c4 ?c5 ?_))
    case c6=>intro h;cases h
    case c0=>rfl
    case c1=>exact fun ad h=>by injection h with h;subst h;exact HN.out
    case c2=>intro u hu;simp only [List.mem_cons,List.not_mem_nil,or_false] at hu;rcases hu with rfl|rfl|rfl|rfl|rfl|rfl|rfl<;>first|rfl|assumption
    case c3=>unfold maxLen;omega
    case c4=>omega
    case c5=>have:=qc.out;simp;omega
    intro v9 w9 gF fP bQ;have sN:∀q',(Value.slice oT ts.length cT).ownBlock=some q'->w.heap.size<=q':=fun q' hq'=>(jR.out.lt q' hq').1;have mU:=ae (ba.out.grown fP (fun q' hq'=>Nat.lt_of_lt_of_le hpw (sN q' hq')));have gT:=ae (But.grown (p:=p) HB2.out fP sN);have vH:Hid (Sv (aX w.heap.size) w.heap.size 27 7 w9 v9 (ts++[t])):=ae (Sv.app (cs:=#[.int .i64 vk,.string vx,.string vy,.int .i64 vn,vu,vz,.int .i64 va]) jR.out bD.out gF fP (by simpa using bQ) rfl tX.out);have hsl:=Eh gF;have Ek:=ae mU.out.left;clear gF fP bQ sN jR bD HN HB2 ba tX;obtain ⟨oN,cN,rfl⟩:=hsl;go_wp2;go_roundw
    case rel=>exact ⟨ts++[t],j2,f,⟨oN,cN,by simp⟩,by simp;omega,ae (by have:=dZ.out;omega),HZ,ae (by have:=HF.out;omega),mU,gT,vH⟩
    case measure=>rw [Ek.out,kG.out];omega
theorem aa4 (w0:World) (p:Nat) (L:List Tk) (vL:Value) (en:Int) (g:Nat) (A:Nat->Rd Value) (i:Nat) (HA1:∀j u,i<=j->PR w0 p L vL en j u->u.heap[g]?=some (.cells oM 207 (0,0))->Calls Tryz.prog 197 #[.pointer (some ⟨p,0,none⟩),.slice (some ⟨g,0,none⟩) 5 5] u (Rp w0 p L vL en (cW u.heap.size) u (A j)))
  (eD:∀j t k,i<=j->A j=.ok (t,k)->j<k) (w:World) (h:PR w0 p L vL en i w) (hg:w.heap[g]?=some (.cells oM 207 (0,0))) (lH:g≠p) :
  Calls Tryz.prog 220 #[.pointer (some ⟨p,0,none⟩),.slice (some ⟨g,0,none⟩) 5 5] w (Rp w0 p L vL en (fun (ts:List Value) v u=>∃d,Row 5 (di w.heap.size u d) v ts) w (dK L en mW A (L.length+1) i [])):=by
 have hpw:=h.lt;have KQ:=h.few;obtain ⟨R,hR⟩:∃R,R=dK L en mW A (L.length+1) i []:=⟨_,rfl⟩;rw [<- hR];have HR:=ae hR;have aO:=ae HA1;have HP:=ae h;have HG:=ae (And.intro hg lH);have HAD:=ae eD;clear hR HA1 h hg lH eD;go_enter Tryz.func220,Tryz.ntmps220;go_wp2_with fail;go_loopw [5] (fun x wr=>∃(ts:List Value) (j f:Nat),(∃o c,x=.slice o ts.length c)/\ts.length<=j/\Hid (i<=j)/\Hid (R=dK L en mW A f j ts)/\Hid (L.length+1<=j+f)/\Hid (PR w0 p L vL en j wr)/\Hid (But p w wr)/\Hid (Sv (cW w.heap.size) w.heap.size 101 5 wr x ts)) (fun _ wr=>left p L.length wr)
 case atStart=>exact ⟨[],i,L.length+1,⟨none,0,rfl⟩,Nat.zero_le _,ae (Nat.le_refl _),HR,ae (by omega),HP,ae (But.refl _ _),ae (Sv.nil _)⟩
 case round =>
  obtain ⟨ts,j,f,⟨oT,cT,rfl⟩,htl,dZ,HM,HF,HS,HB,HO⟩:=hrel;have hgr:=HB.out.blk HG.out.1 HG.out.2;have hQ:=abT w0 p L vL en j g wr HS.out hgr;cases hbv:mW (tk L en j) with
  | false =>
   rw [hbv] at hQ;have HQ:=ae hQ
   have HZ:Hid (R=.ok (ts,j)):=ae (by
    have hq:=HM.out;cases f with
    | zero=>exact hq
    | succ f=>rw [dK,if_neg (by rw [hbv];decide)] at hq;exact hq)
   clear hQ hbv hgr HM HF;go_wp2_with fail;refine Calls.mono (show Calls _ _ _ _ _ from HQ.out) ?_;rintro e w1 ⟨rfl,hb1⟩;have aT:=ae (HS.out.on hb1);have HB1:=ae (HB.out.trans (But.of p hb1));have HV:=ae ((HO.out.on (bX.of hb1) hb1.size).row (F:=di w.heap.size w1) di.up (by have:=HS.out.le;omega) (fun t cs b o hv hB hc=>KM hv hB hc));clear hb1 HS HB HO HQ;go_wp2;go_ret;exact cz HZ.out HV.out aT.out HB1.out
  | true =>
   rw [hbv] at hQ;have HQ:=ae hQ;have hjl:=HS.out.le;obtain ⟨f,rfl⟩:∃f',f=f'+1:=⟨f-1,by have:=HF.out;omega⟩
   have dw:Hid (R=(match A j with | .error z=>.error z | .ok (e,j)=>dK L en mW A f j (ts++[e]))):=ae (by
    have hq:=HM.out;rw [dK,if_pos hbv] at hq;exact hq)
   clear hQ hbv hgr HM;go_wp2_with fail;refine Calls.mono (show Calls _ _ _ _ _ from HQ.out) ?_;rintro e w1 ⟨rfl,hb1⟩;have aT:=ae (HS.out.on hb1);have HB1:=ae (HB.out.trans (But.of p hb1));have fD:=ae (HO.out.on (bX.of hb1) hb1.size);have HC:=ae (aO.out j w1 dZ.out aT.out (HB1.out.blk HG.out.1 HG.out.2));have kG:=ae HS.out.left;clear hb1 HS HB HO HQ;cases hu:A j with
   | error z =>
    have HZ:Hid (R=.error z):=ae (by have hq:=dw.out;rw [hu] at hq;exact hq);rw [hu] at HC;clear hu dw HF fD;go_wp2_with fail;refine Calls.mono (show Calls _ _ _ _ _ from HC.out) ?_;intro e w2 hr;obtain ⟨rfl,hb⟩:=bE hr rfl;have Ei:=ae hb;clear hb hr;go_wp2;exact ⟨rfl,bA HZ.out Ei.out⟩
   | ok r =>
    obtain ⟨t,j2⟩:=r;have hjj:=HAD.out j t j2 dZ.out hu;have HZ:Hid (R=dK L en mW A f j2 (ts++[t])):=ae (by have hq:=dw.out;rw [hu] at hq;exact hq);rw [hu] at HC;clear hu dw;go_wp2_with fail;refine Calls.mono (show Calls _ _ _ _ _ from HC.out) ?_;intro e w2 hr;obtain ⟨⟨v,rfl,hv0⟩,hp,hbt⟩:=bw hr rfl;obtain ⟨vk,vx,vn,vu,va,hv,o1⟩:=hv0.val;subst hv;have hal:=dF w2 (.cells #[.int .i64 vk,.string vx,.int .i64 vn,vu,.int .i64 va] 101);have Ej:=(fD.out.on (bX.but hbt hpw) hbt.size).on (bX.of hal) hal.size;obtain ⟨xs,hown,hx⟩:=Ej;obtain ⟨Tm,hown1,_⟩:=fD.out;have tX:=ae (abU (B:=w.heap.size) (g:=(Value.slice oT ts.length cT).ownBlock) (hv0.on (bX.of hal) (Nat.le_refl _)) HB1.out.size (fun k hk=>(hown1.lt k hk).2));have jR:=ae hown;have bD:=ae hx;have HN:=ae (yw w2 #[.int .i64 vk,.string vx,.int .i64 vn,vu,.int .i64 va] 101);have HB2:=ae ((HB1.out.trans hbt).trans (But.of p hal));have ba:=ae (hp.on hal);have qc:Hid (w.heap.size<=w2.heap.size):=ae (Nat.le_trans HB1.out.size hbt.size);have hj2:=hp.le;clear hp hbt hal hown hx hown1 hr hv0 HC fD aT HB1;obtain ⟨i0,hi,hz0,hz1,hz2⟩:=info_parts Tj;go_wp2_with (first|(at_builtin;refine KO rfl _ _ 25 rfl w.heap.size 101 i0 _ 5 64 Tryz.underlying25 hi hz0 hz1 hz2 rfl (by decide) _ _ _ rfl jR.out (some ⟨w2.heap.size,0,none⟩) 1 1 [.int .i64 vk,.string vx,.int .i64 vn,vu,.int .i64 va] rfl ?c6 ?c0 ?c1 ?c2 ?c3 ?c4 ?c5 ?_))
    case c6=>intro h;cases h
    case c0=>rfl
    case c1=>exact fun ad h=>by injection h with h;subst h;exact HN.out
    case c2=>intro u hu;simp only [List.mem_cons,List.not_mem_nil,or_false] at hu;rcases hu with rfl|rfl|rfl|rfl|rfl<;>first|rfl|assumption
    case c3=>unfold maxLen;omega
    case c4=>omega
    case c5=>have:=qc.out;simp;omega
    intro v9 w9 gF fP bQ;have sN:∀q',(Value.slice oT ts.length cT).ownBlock=some q'->w.heap.size<=q':=fun q' hq'=>(jR.out.lt q' hq').1;have mU:=ae (ba.out.grown fP (fun q' hq'=>Nat.lt_of_lt_of_le hpw (sN q' hq')));have gT:=ae (But.grown (p:=p) HB2.out fP sN);have vH:Hid (Sv (cW w.heap.size) w.heap.size 101 5 w9 v9 (ts++[t])):=ae (Sv.app (cs:=#[.int .i64 vk,.string vx,.int .i64 vn,vu,.int .i64 va]) jR.out bD.out gF fP (by simpa using bQ) rfl tX.out);have hsl:=Eh gF;have Ek:=ae mU.out.left;clear gF fP bQ sN jR bD HN HB2 ba tX;obtain ⟨oN,cN,rfl⟩:=hsl;go_wp2;go_roundw
    case rel=>exact ⟨ts++[t],j2,f,⟨oN,cN,by simp⟩,by simp;omega,ae (by have:=dZ.out;omega),HZ,ae (by have:=HF.out;omega),mU,gT,vH⟩
    case measure=>rw [Ek.out,kG.out];omega
theorem aaX (w0:World) (p:Nat) (L:List Tk) (vL:Value) (en:Int) (g:Nat) (A:Nat->Rd Value) (i:Nat) (HA1:∀j u,i<=j->PR w0 p L vL en j u->u.heap[g]?=some (.cells lY 187 (0,0))->Calls Tryz.prog 175 #[.pointer (some ⟨p,0,none⟩),.slice (some ⟨g,0,none⟩) 3 3] u (Rp w0 p L vL en (fE u.heap.size) u (A j)))
  (eD:∀j t k,i<=j->A j=.ok (t,k)->j<k) (w:World) (h:PR w0 p L vL en i w) (hg:w.heap[g]?=some (.cells lY 187 (0,0))) (lH:g≠p) :
  Calls Tryz.prog 151 #[.pointer (some ⟨p,0,none⟩),.slice (some ⟨g,0,none⟩) 3 3] w (Rp w0 p L vL en (fun (ts:List Value) v u=>∃d,Row 4 (eM w.heap.size u d) v ts) w (dK L en pG A (L.length+1) i [])):=by
 have hpw:=h.lt;have KQ:=h.few;obtain ⟨R,hR⟩:∃R,R=dK L en pG A (L.length+1) i []:=⟨_,rfl⟩;rw [<- hR];have HR:=ae hR;have aO:=ae HA1;have HP:=ae h;have HG:=ae (And.intro hg lH);have HAD:=ae eD;clear hR HA1 h hg lH eD;go_enter Tryz.func151,Tryz.ntmps151;go_wp2_with fail;go_loopw [5] (fun x wr=>∃(ts:List Value) (j f:Nat),(∃o c,x=.slice o ts.length c)/\ts.length<=j/\Hid (i<=j)/\Hid (R=dK L en pG A f j ts)/\Hid (L.length+1<=j+f)/\Hid (PR w0 p L vL en j wr)/\Hid (But p w wr)/\Hid (Sv (fE w.heap.size) w.heap.size 79 4 wr x ts)) (fun _ wr=>left p L.length wr)
 case atStart=>exact ⟨[],i,L.length+1,⟨none,0,rfl⟩,Nat.zero_le _,ae (Nat.le_refl _),HR,ae (by omega),HP,ae (But.refl _ _),ae (Sv.nil _)⟩
 case round =>
  obtain ⟨ts,j,f,⟨oT,cT,rfl⟩,htl,dZ,HM,HF,HS,HB,HO⟩:=hrel;have hgr:=HB.out.blk HG.out.1 HG.out.2;have hQ:=abV w0 p L vL en j g wr HS.out hgr;cases hbv:pG (tk L en j) with
  | false =>
   rw [hbv] at hQ;have HQ:=ae hQ
   have HZ:Hid (R=.ok (ts,j)):=ae (by
    have hq:=HM.out;cases f with
    | zero=>exact hq
    | succ f=>rw [dK,if_neg (by rw [hbv];decide)] at hq;exact hq)
   clear hQ hbv hgr HM HF;go_wp2_with fail;refine Calls.mono (show Calls _ _ _ _ _ from HQ.out) ?_;rintro e w1 ⟨rfl,hb1⟩;have aT:=ae (HS.out.on hb1);have HB1:=ae (HB.out.trans (But.of p hb1));have HV:=ae ((HO.out.on (bX.of hb1) hb1.size).row (F:=eM w.heap.size w1) eM.up (by have:=HS.out.le;omega) (fun t cs b o hv hB hc=>RG hv hB hc));clear hb1 HS HB HO HQ;go_wp2;go_ret;exact cz HZ.out HV.out aT.out HB1.out
  | true =>
   rw [hbv] at hQ;have HQ:=ae hQ;have hjl:=HS.out.le;obtain ⟨f,rfl⟩:∃f',f=f'+1:=⟨f-1,by have:=HF.out;omega⟩
   have dw:Hid (R=(match A j with | .error z=>.error z | .ok (e,j)=>dK L en pG A f j (ts++[e]))):=ae (by
    have hq:=HM.out;rw [dK,if_pos hbv] at hq;exact hq)
   clear hQ hbv hgr HM;go_wp2_with fail;refine Calls.mono (show Calls _ _ _ _ _ from HQ.out) ?_;rintro e w1 ⟨rfl,hb1⟩;have aT:=ae (HS.out.on hb1);have HB1:=ae (HB.out.trans (But.of p hb1));have fD:=ae (HO.out.on (bX.of hb1) hb1.size);have HC:=ae (aO.out j w1 dZ.out aT.out (HB1.out.blk HG.out.1 HG.out.2));have kG:=ae HS.out.left;clear hb1 HS HB HO HQ;cases hu:A j with
   | error z =>
    have HZ:Hid (R=.error z):=ae (by have hq:=dw.out;rw [hu] at hq;exact hq);rw [hu] at HC;clear hu dw HF fD;go_wp2_with fail;refine Calls.mono (show Calls _ _ _ _ _ from HC.out) ?_;intro e w2 hr;obtain ⟨rfl,hb⟩:=bE hr rfl;have Ei:=ae hb;clear hb hr;go_wp2;exact ⟨rfl,bA HZ.out Ei.out⟩
   | ok r =>
    obtain ⟨t,j2⟩:=r;have hjj:=HAD.out j t j2 dZ.out hu;have HZ:Hid (R=dK L en pG A f j2 (ts++[t])):=ae (by have hq:=dw.out;rw [hu] at hq;exact hq);rw [hu] at HC;clear hu dw;go_wp2_with fail;refine Calls.mono (show Calls _ _ _ _ _ from HC.out) ?_;intro e w2 hr;obtain ⟨⟨v,rfl,hv0⟩,hp,hbt⟩:=bw hr rfl;obtain ⟨vk,vx,vn,vu,hv,o1⟩:=hv0.val;subst hv;have hal:=dF w2 (.cells #[.int .i64 vk,.string vx,.int .i64 vn,vu] 79);have Ej:=(fD.out.on (bX.but hbt hpw) hbt.size).on (bX.of hal) hal.size;obtain ⟨xs,hown,hx⟩:=Ej;obtain ⟨Tm,hown1,_⟩:=fD.out;have tX:=ae (abW (B:=w.heap.size) (g:=(Value.slice oT ts.length cT).ownBlock) (hv0.on (bX.of hal) (Nat.le_refl _)) HB1.out.size (fun k hk=>(hown1.lt k hk).2));have jR:=ae hown;have bD:=ae hx;have HN:=ae (yw w2 #[.int .i64 vk,.string vx,.int .i64 vn,vu] 79);have HB2:=ae ((HB1.out.trans hbt).trans (But.of p hal));have ba:=ae (hp.on hal);have qc:Hid (w.heap.size<=w2.heap.size):=ae (Nat.le_trans HB1.out.size hbt.size);have hj2:=hp.le;clear hp hbt hal hown hx hown1 hr hv0 HC fD aT HB1;obtain ⟨i0,hi,hz0,hz1,hz2⟩:=info_parts abQ;go_wp2_with (first|(at_builtin;refine KO rfl _ _ 74 rfl w.heap.size 79 i0 _ 4 56 Tryz.underlying74 hi hz0 hz1 hz2 rfl (by decide) _ _ _ rfl jR.out (some ⟨w2.heap.size,0,none⟩) 1 1 [.int .i64 vk,.string vx,.int .i64 vn,vu] rfl ?c6 ?c0 ?c1 ?c2 ?c3 ?c4 ?c5 ?_))
    case c6=>intro h;cases h
    case c0=>rfl
    case c1=>exact fun ad h=>by injection h with h;subst h;exact HN.out
    case c2=>intro u hu;simp only [List.mem_cons,List.not_mem_nil,or_false] at hu;rcases hu with rfl|rfl|rfl|rfl<;>first|rfl|assumption
    case c3=>unfold maxLen;omega
    case c4=>omega
    case c5=>have:=qc.out;simp;omega
    intro v9 w9 gF fP bQ;have sN:∀q',(Value.slice oT ts.length cT).ownBlock=some q'->w.heap.size<=q':=fun q' hq'=>(jR.out.lt q' hq').1;have mU:=ae (ba.out.grown fP (fun q' hq'=>Nat.lt_of_lt_of_le hpw (sN q' hq')));have gT:=ae (But.grown (p:=p) HB2.out fP sN);have vH:Hid (Sv (fE w.heap.size) w.heap.size 79 4 w9 v9 (ts++[t])):=ae (Sv.app (cs:=#[.int .i64 vk,.string vx,.int .i64 vn,vu]) jR.out bD.out gF fP (by simpa using bQ) rfl tX.out);have hsl:=Eh gF;have Ek:=ae mU.out.left;clear gF fP bQ sN jR bD HN HB2 ba tX;obtain ⟨oN,cN,rfl⟩:=hsl;go_wp2;go_roundw
    case rel=>exact ⟨ts++[t],j2,f,⟨oN,cN,by simp⟩,by simp;omega,ae (by have:=dZ.out;omega),HZ,ae (by have:=HF.out;omega),mU,gT,vH⟩
    case measure=>rw [Ek.out,kG.out];omega
namespace Pz
theorem PR.set {w0 w:World} {p:Nat} {L:List Tk} {vL:Value} {en:Int} {i g o:Nat} {v:Value} (h:PR w0 p L vL en i w) (hg:p<g):PR w0 p L vL en i (w.setCell ⟨g,o,none⟩ v) :=
 ⟨h.below.setCell (by have:=h.base;show w0.heap.size<=g;omega) _,h.base,by rw [Below.heap_setCell w ⟨g,o,none⟩ _ _ (by show p≠g;omega)];exact h.blk,h.le,by
  rcases h.toks with h1|⟨q,c,h1,h2⟩
  ·exact .inl h1
  ·refine .inr ⟨q,c,h1,fun a t ha b v hv=>?_⟩;have hc:=h2 a t ha b v hv;have iA:q<p:=h.rX q 0 _ c h1;unfold World.cell? at hc ⊢;rw [Below.heap_setCell w ⟨g,o,none⟩ _ _ (by show q≠g;omega)];exact hc,h.few,h.rX⟩
theorem AP.set {w0 w u:World} {p:Nat} {L:List Tk} {vL:Value} {en:Int} {T:TypeId} {z:Array Value} {i g o:Nat} {v:Value} (h:AP w0 p L vL en w T z i u) (hg:w.heap.size<g):AP w0 p L vL en w T z i (u.setCell ⟨g,o,none⟩ v) :=
 ⟨h.pr.set (by have:=h.ek;omega),⟨h.but.os,h.but.tape,h.but.output,by simpa using h.but.size,fun k hk hp=>(Below.heap_setCell u ⟨g,o,none⟩ v k (by show k≠g;omega)).trans (h.but.block k hk hp)⟩,by rw [Below.heap_setCell u ⟨g,o,none⟩ _ _ (by show w.heap.size≠g;omega)];exact h.blk,h.ek⟩
theorem Yz {B:Nat} {k:Int} {x y:ByteArray} {n:Int} {a:Int} {v:Value} {w:World} (h:aX B (nd k x y n [] [] a) v w):∃u z,v=.agg #[.int .i64 k,.string x,.string y,.int .i64 n,u,z,.int .i64 a]/\u.oneCell'=true/\z.oneCell'=true/\∀F,Row 5 F z ([]:List Value):=by
 obtain ⟨d,k',x',y',n',es,ps,a',u,z,h0,h1,h2,h3⟩:=h;obtain ⟨rfl,rfl,rfl,rfl,rfl,rfl,rfl⟩:=Ba h0;obtain ⟨o,c,rfl⟩:=h2.len;obtain ⟨o',c',rfl⟩:=h3.len;exact ⟨_,_,h1,rfl,rfl,fun F=>h3.imp fun _ _ x hx=>by cases hx⟩
theorem YA {B:Nat} {k:Int} {x:ByteArray} {n:Int} {a:Int} {v:Value} {w:World} (h:cW B (nd k x e0 n [] [] a) v w):∃u,v=.agg #[.int .i64 k,.string x,.int .i64 n,u,.int .i64 a]/\u.oneCell'=true:=by
 obtain ⟨d,k',x',n',es,a',u,h0,h1,h2⟩:=h;obtain ⟨rfl,rfl,_,rfl,rfl,_,rfl⟩:=Ba h0;obtain ⟨o,c,rfl⟩:=h2.len;exact ⟨_,h1,rfl⟩
end Pz
theorem YB (w0:World) (p:Nat) (L:List Tk) (vL:Value) (en:Int) (i:Nat) (M:Nat->Rd (List Value)) (HE:∀g j u,i<j->PR w0 p L vL en j u->u.heap[g]?=some (.cells nC 163 (0,0))->g≠p->Calls Tryz.prog 242 #[.pointer (some ⟨p,0,none⟩),.slice (some ⟨g,0,none⟩) 4 4] u (Rp w0 p L vL en (fun (ts:List Value) v u'=>∃d,Row 7 (dW u.heap.size u' d) v ts) u (M j))) (w:World) (h:PR w0 p L vL en i w) :
  Calls Tryz.prog 236 #[.pointer (some ⟨p,0,none⟩)] w (Rp w0 p L vL en (aX w.heap.size) w (match bN L en 2 i with | .error z=>.error z | .ok (t,j)=>match M j with | .error z=>.error z | .ok (ts,j)=>.ok (nd 8 t.x e0 0 ts [] t.a,j))):=by
 have HA:=ae (AP.start h 27 bO);have HM:=ae (Ju w0 p L vL en i _ HA.out.pr);obtain ⟨az,aW⟩:∃X,X=(match bN L en 2 i with | .error z=>.error z | .ok (t,j)=>match M j with | .error z=>.error z | .ok (ts,j)=>.ok (nd 8 t.x e0 0 ts [] t.a,j):Rd Value):=⟨_,rfl⟩
 rw [<- aW];have bT:=ae aW;have cH:=ae HE;clear h aW HE;go_enter Tryz.func236,Tryz.ntmps236;go_wp2_with fail;refine Calls.mono (show Calls _ _ _ _ _ from HM.out) ?_;intro e u hr;cases hR:bN L en 2 i with
 | error z =>
  obtain ⟨rfl,hb⟩:=bE (z:=z) hr (by rw [hR];rfl);have HB:=ae hb;have aA:Hid (az=.error z):=ae (by have hq:=bT.out;rw [hR] at hq;exact hq);clear hb HM hR bT hr;go_wp2;exact ⟨rfl,bA aA.out HB.out⟩
 | ok r =>
  obtain ⟨⟨k,x,n,a⟩,j⟩:=r;obtain ⟨⟨v,rfl,hv⟩,hp,hbt⟩:=bw (a:=nd 8 x e0 0 [] [] a) (j:=j) hr (by rw [hR];rfl);obtain ⟨vu,vz,hv1,o1,o2,hz⟩:=Yz hv;subst hv1;have aO:=ae (HA.out.call hp hbt);have bD:Hid (az=(match M j with | .error z=>.error z | .ok (ts,j)=>.ok (nd 8 x e0 0 ts [] a,j))):=ae (by have hq:=bT.out;rw [hR] at hq;exact hq)
  have dZ:=ae (lZ hR);obtain ⟨W6,oU,oW,jP,fZ⟩:=kW u 27 bO #[.int .i64 8,.string x,.string e0,.int .i64 0,vu,vz,.int .i64 a] rfl;have mb:=ae (aO.out.on fZ);have pX:=ae oU;have pY:=ae oW;have uS:=ae jP;have Jv:w.heap.size<u.heap.size:=aO.out.lt;have Jw:p<u.heap.size:=by have:=aO.out.ek;omega
  have HQ:=ae (IG W6);clear oU oW fZ hp hbt hr HM HA bT hR hv aO;go_wp2_with (refine wpList_store_mid rfl 27 (.tmp 3) (.tmp 5) rfl u.heap.size 0 #[.int .i64 8,.string x,.string e0,.int .i64 0,vu,vz,.int .i64 a] rfl rfl pY.out cO (by simp [Value.oneCell'] at o1 o2 ⊢;exact ⟨o1,o2⟩) ?_;rw [pX.out]);refine Calls.mono (show Calls _ _ _ _ _ from HQ.out) ?_;rintro e u8 ⟨rfl,zb⟩;have fR:Below W6.heap.size W6 u8:=by rw [zb];exact dF W6 _
  have De:u8.heap[W6.heap.size]?=some (.cells nC 163 (0,0)):=by rw [zb];exact heap_alloc_new _ _
  have Df:u.heap.size<W6.heap.size:=(Array.getElem?_eq_some_iff.1 jP).1;have ze:=ae (mb.out.on fR);have Dg:u8.heap[u.heap.size]?=some (.cells #[.int .i64 8,.string x,.string e0,.int .i64 0,vu,vz,.int .i64 a] 27 (0,0)):=by rw [fR.block _ Df];exact jP
  have Dh:=ae Dg;have FD:u.heap.size<u8.heap.size:=Nat.lt_of_lt_of_le Df fR.size;have zi:=ae (cH.out W6.heap.size j u8 dZ.out ze.out.pr De (by omega));clear fR De Dg jP uS mb HQ zb cH pX pY;go_wp2_with fail;refine Calls.mono (show Calls _ _ _ _ _ from zi.out) ?_;intro e u9 hr;cases hR:M j with
  | error z =>
   obtain ⟨rfl,hb⟩:=bE hr hR;have HB:=ae hb;have aA:Hid (az=.error z):=ae (by have hq:=bD.out;rw [hR] at hq;exact hq);clear hb hr hR bD zi;go_wp2;exact ⟨rfl,bA aA.out HB.out⟩
  | ok r =>
   obtain ⟨ts,l⟩:=r;obtain ⟨⟨v,rfl,hv⟩,hp,hbt⟩:=bw hr hR;have bz:Hid (az=.ok (nd 8 x e0 0 ts [] a,l)):=ae (by have hq:=bD.out;rw [hR] at hq;exact hq);obtain ⟨d,hrow⟩:=hv;obtain ⟨oR,cR,rfl⟩:=hrow.len;have zk:=hbt.blk Dh.out (show u.heap.size≠p by omega);have Di:=ae (ze.out.call hp hbt);have YC:u9.cell? ⟨u.heap.size,4,none⟩=some vu:=ak zk 4 _ rfl;have YD:u9.frozen? ⟨u.heap.size,4,none⟩=false:=by unfold World.frozen?;rw [zk];simp
   have Dj:(u9.setCell ⟨u.heap.size,4,none⟩ (.slice oR ts.length cR)).heap[u.heap.size]?=some (.cells #[.int .i64 8,.string x,.string e0,.int .i64 0,.slice oR ts.length cR,vz,.int .i64 a] 27 (0,0)):=heap_setCell_same u9 _ 4 _ _ _ zk;have Jy:=ae (Di.out.set (o:=4) (v:=.slice oR ts.length cR) Jv);have Dk:bX u8.heap.size u9 (u9.setCell ⟨u.heap.size,4,none⟩ (.slice oR ts.length cR)):=fun k hk hl=>Below.heap_setCell u9 _ _ _ (by show k≠u.heap.size;omega);have Dl:=hrow.imp (g:=dW u8.heap.size (u9.setCell ⟨u.heap.size,4,none⟩ (.slice oR ts.length cR)) d) (fun b o x _ hx=>dW.but Dk d b o x hx);clear Dk hrow hbt hp hr hR bD zi ze Dh Di;generalize Dm:u9.setCell ⟨u.heap.size,4,none⟩ (.slice oR ts.length cR)=YE at *;have Jz:=ae Dm;have p8:=ae Dj;have JA:=ae Dl;clear Dm Dj Dl;have y0:=ak p8.out 0 _ rfl;have y1:=ak p8.out 1 _ rfl;have y2:=ak p8.out 2 _ rfl;have y3:=ak p8.out 3 _ rfl;have y4:=ak p8.out 4 _ rfl;have y5:=ak p8.out 5 _ rfl;have y6:=ak p8.out 6 _ rfl;obtain ⟨W,hW,hth,hbk,hpr,aU,hab⟩:=Jy.out.put #[.int .i64 8,.string x,.string e0,.int .i64 0,.slice oR ts.length cR,vz,.int .i64 a] rfl
   have HV:Hid (aX w.heap.size (nd 8 x e0 0 ts [] a) (.agg #[.int .i64 8,.string x,.string e0,.int .i64 0,.slice oR ts.length cR,vz,.int .i64 a]) W):=ae (by
    have hle:w.heap.size+1<=u8.heap.size:=by omega
    exact ⟨d,8,x,e0,0,ts,[],a,_,_,rfl,rfl,JA.out.imp fun b o x _ hx=>dW.lo (by omega) d b o x (dW.but (hab.lo hle) d b o x hx),hz _⟩)
   have HW:=ae hW;have aC:=ae hth;have au:=ae hbk;have HF:=ae (And.intro hpr aU);clear hW hth hbk hpr aU hab;go_wp2_with (first|(refine wpList_store_mid rfl 27 (.tmp 2) (.tmp 10) rfl w.heap.size 0 #[.int .i64 8,.string x,.string e0,.int .i64 0,.slice oR ts.length cR,vz,.int .i64 a] rfl rfl aC.out cO (by simp [Value.oneCell'] at o1 o2 ⊢<;>exact o2) ?_;rw [HW.out])|rw [Jz.out])
   have z0:=ak au.out 0 _ rfl;have z1:=ak au.out 1 _ rfl;have z2:=ak au.out 2 _ rfl;have z3:=ak au.out 3 _ rfl;have z4:=ak au.out 4 _ rfl;have z5:=ak au.out 5 _ rfl;have z6:=ak au.out 6 _ rfl;refine bodyPost_ret (v:=.agg #[.int .i64 8,.string x,.string e0,.int .i64 0,.slice oR ts.length cR,vz,.int .i64 a]) (by simp [results,Tryz.results236,go_sem,z0,z1,z2,z3,z4,z5,z6]) rfl (cz bz.out HV.out HF.out.1 HF.out.2)
theorem YF (w0:World) (p:Nat) (L:List Tk) (vL:Value) (en:Int) (i:Nat) (M:Nat->Rd (List Value)) (HE:∀g j u,i<j->PR w0 p L vL en j u->u.heap[g]?=some (.cells oM 207 (0,0))->g≠p->Calls Tryz.prog 220 #[.pointer (some ⟨p,0,none⟩),.slice (some ⟨g,0,none⟩) 5 5] u (Rp w0 p L vL en (fun (ts:List Value) v u'=>∃d,Row 5 (di u.heap.size u' d) v ts) u (M j))) (w:World) (h:PR w0 p L vL en i w) :
  Calls Tryz.prog 207 #[.pointer (some ⟨p,0,none⟩)] w (Rp w0 p L vL en (cW w.heap.size) w (match bN L en 2 i with | .error z=>.error z | .ok (t,j)=>match M j with | .error z=>.error z | .ok (ts,j)=>.ok (nd 4 t.x e0 0 ts [] t.a,j))):=by
 have HA:=ae (AP.start h 101 iz);have HM:=ae (JB w0 p L vL en i _ HA.out.pr);obtain ⟨az,aW⟩:∃X,X=(match bN L en 2 i with | .error z=>.error z | .ok (t,j)=>match M j with | .error z=>.error z | .ok (ts,j)=>.ok (nd 4 t.x e0 0 ts [] t.a,j):Rd Value):=⟨_,rfl⟩
 rw [<- aW];have bT:=ae aW;have cH:=ae HE;clear h aW HE;go_enter Tryz.func207,Tryz.ntmps207;go_wp2_with fail;refine Calls.mono (show Calls _ _ _ _ _ from HM.out) ?_;intro e u hr;cases hR:bN L en 2 i with
 | error z =>
  obtain ⟨rfl,hb⟩:=bE (z:=z) hr (by rw [hR];rfl);have HB:=ae hb;have aA:Hid (az=.error z):=ae (by have hq:=bT.out;rw [hR] at hq;exact hq);clear hb HM hR bT hr;go_wp2;exact ⟨rfl,bA aA.out HB.out⟩
 | ok r =>
  obtain ⟨⟨k,x,n,a⟩,j⟩:=r;obtain ⟨⟨v,rfl,hv⟩,hp,hbt⟩:=bw (a:=nd 4 x e0 0 [] [] a) (j:=j) hr (by rw [hR];rfl);obtain ⟨vu,hv1,o1⟩:=YA hv;subst hv1;have aO:=ae (HA.out.call hp hbt);have bD:Hid (az=(match M j with | .error z=>.error z | .ok (ts,j)=>.ok (nd 4 x e0 0 ts [] a,j))):=ae (by have hq:=bT.out;rw [hR] at hq;exact hq)
  have dZ:=ae (lZ hR);obtain ⟨W6,oU,oW,jP,fZ⟩:=kW u 101 iz #[.int .i64 4,.string x,.int .i64 0,vu,.int .i64 a] rfl;have mb:=ae (aO.out.on fZ);have pX:=ae oU;have pY:=ae oW;have uS:=ae jP;have Jv:w.heap.size<u.heap.size:=aO.out.lt;have Jw:p<u.heap.size:=by have:=aO.out.ek;omega
  have HQ:=ae (O7 W6);clear oU oW fZ hp hbt hr HM HA bT hR hv aO;go_wp2_with (refine wpList_store_mid rfl 101 (.tmp 3) (.tmp 5) rfl u.heap.size 0 #[.int .i64 4,.string x,.int .i64 0,vu,.int .i64 a] rfl rfl pY.out jk (by simp [Value.oneCell'] at o1 ⊢;exact o1) ?_;rw [pX.out]);refine Calls.mono (show Calls _ _ _ _ _ from HQ.out) ?_;rintro e u8 ⟨rfl,zb⟩;have fR:Below W6.heap.size W6 u8:=by rw [zb];exact dF W6 _
  have De:u8.heap[W6.heap.size]?=some (.cells oM 207 (0,0)):=by rw [zb];exact heap_alloc_new _ _
  have Df:u.heap.size<W6.heap.size:=(Array.getElem?_eq_some_iff.1 jP).1;have ze:=ae (mb.out.on fR);have Dg:u8.heap[u.heap.size]?=some (.cells #[.int .i64 4,.string x,.int .i64 0,vu,.int .i64 a] 101 (0,0)):=by rw [fR.block _ Df];exact jP
  have Dh:=ae Dg;have FD:u.heap.size<u8.heap.size:=Nat.lt_of_lt_of_le Df fR.size;have zi:=ae (cH.out W6.heap.size j u8 dZ.out ze.out.pr De (by omega));clear fR De Dg jP uS mb HQ zb cH pX pY;go_wp2_with fail;refine Calls.mono (show Calls _ _ _ _ _ from zi.out) ?_;intro e u9 hr;cases hR:M j with
  | error z =>
   obtain ⟨rfl,hb⟩:=bE hr hR;have HB:=ae hb;have aA:Hid (az=.error z):=ae (by have hq:=bD.out;rw [hR] at hq;exact hq);clear hb hr hR bD zi;go_wp2;exact ⟨rfl,bA aA.out HB.out⟩
  | ok r =>
   obtain ⟨ts,l⟩:=r;obtain ⟨⟨v,rfl,hv⟩,hp,hbt⟩:=bw hr hR;have bz:Hid (az=.ok (nd 4 x e0 0 ts [] a,l)):=ae (by have hq:=bD.out;rw [hR] at hq;exact hq);obtain ⟨d,hrow⟩:=hv;obtain ⟨oR,cR,rfl⟩:=hrow.len;have zk:=hbt.blk Dh.out (show u.heap.size≠p by omega);have Di:=ae (ze.out.call hp hbt);have YC:u9.cell? ⟨u.heap.size,3,none⟩=some vu:=ak zk 3 _ rfl;have YD:u9.frozen? ⟨u.heap.size,3,none⟩=false:=by unfold World.frozen?;rw [zk];simp
   have Dj:(u9.setCell ⟨u.heap.size,3,none⟩ (.slice oR ts.length cR)).heap[u.heap.size]?=some (.cells #[.int .i64 4,.string x,.int .i64 0,.slice oR ts.length cR,.int .i64 a] 101 (0,0)):=heap_setCell_same u9 _ 3 _ _ _ zk;have Jy:=ae (Di.out.set (o:=3) (v:=.slice oR ts.length cR) Jv);have Dk:bX u8.heap.size u9 (u9.setCell ⟨u.heap.size,3,none⟩ (.slice oR ts.length cR)):=fun k hk hl=>Below.heap_setCell u9 _ _ _ (by show k≠u.heap.size;omega);have Dl:=hrow.imp (g:=di u8.heap.size (u9.setCell ⟨u.heap.size,3,none⟩ (.slice oR ts.length cR)) d) (fun b o x _ hx=>di.but Dk d b o x hx);clear Dk hrow hbt hp hr hR bD zi ze Dh Di;generalize Dm:u9.setCell ⟨u.heap.size,3,none⟩ (.slice oR ts.length cR)=YE at *;have Jz:=ae Dm;have p8:=ae Dj;have JA:=ae Dl;clear Dm Dj Dl;have y0:=ak p8.out 0 _ rfl;have y1:=ak p8.out 1 _ rfl;have y2:=ak p8.out 2 _ rfl;have y3:=ak p8.out 3 _ rfl;have y4:=ak p8.out 4 _ rfl;obtain ⟨W,hW,hth,hbk,hpr,aU,hab⟩:=Jy.out.put #[.int .i64 4,.string x,.int .i64 0,.slice oR ts.length cR,.int .i64 a] rfl
   have HV:Hid (cW w.heap.size (nd 4 x e0 0 ts [] a) (.agg #[.int .i64 4,.string x,.int .i64 0,.slice oR ts.length cR,.int .i64 a]) W):=ae (by
    have hle:w.heap.size+1<=u8.heap.size:=by omega
    exact ⟨d,4,x,0,ts,a,_,rfl,rfl,JA.out.imp fun b o x _ hx=>di.lo (by omega) d b o x (di.but (hab.lo hle) d b o x hx)⟩)
   have HW:=ae hW;have aC:=ae hth;have au:=ae hbk;have HF:=ae (And.intro hpr aU);clear hW hth hbk hpr aU hab;go_wp2_with (first|(refine wpList_store_mid rfl 101 (.tmp 2) (.tmp 10) rfl w.heap.size 0 #[.int .i64 4,.string x,.int .i64 0,.slice oR ts.length cR,.int .i64 a] rfl rfl aC.out jk (by simp [Value.oneCell'] at o1 ⊢<;>exact o1) ?_;rw [HW.out])|rw [Jz.out])
   have z0:=ak au.out 0 _ rfl;have z1:=ak au.out 1 _ rfl;have z2:=ak au.out 2 _ rfl;have z3:=ak au.out 3 _ rfl;have z4:=ak au.out 4 _ rfl;refine bodyPost_ret (v:=.agg #[.int .i64 4,.string x,.int .i64 0,.slice oR ts.length cR,.int .i64 a]) (by simp [results,Tryz.results207,go_sem,z0,z1,z2,z3,z4]) rfl (cz bz.out HV.out HF.out.1 HF.out.2)
end Go.Proofs.YtkdbgopgjbfhbaaGreatDoor
