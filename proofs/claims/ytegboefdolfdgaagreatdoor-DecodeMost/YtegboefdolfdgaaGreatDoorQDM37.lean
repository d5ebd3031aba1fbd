/- Texts that the claim needs. -/
import Derived.Test.YtegboefdolfdgaaGreatDoorQDM36
import Derived.Deep.MidRow
import Derived.Deep.RegionLaw
namespace Go.Proofs.YtegboefdolfdgaaGreatDoor
open Go.RowKit aA ai
set_option linter.unusedVariables false
set_option maxRecDepth 100000
set_option maxHeartbeats 32000000
namespace ai
theorem DV {w u:World} (h:Below (dA w).heap.size (dA w) u):u.heap[w.heap.size]?=some (.cells ib 33 (0,0)):=by
 rw [h.block _ (by rw [wN];omega)];exact fB _ _ rfl
theorem RP {w u:World} (h:Below (dA w).heap.size (dA w) u) (vs:Array Value) (hv:vs.size=10):∃W2,u.setCells w.heap.size 0 vs.toList=W2/\W2.heap[w.heap.size]?=some (.cells vs 33 (0,0))/\Below w.heap.size w W2/\(∀b,b≠w.heap.size->W2.heap[b]?=u.heap[b]?)/\W2.heap.size=u.heap.size:=by
 have hW:=qw w.heap.size vs.toList 0 u;have nZ:Below w.heap.size w u:=(G9 w).trans (h.mono (by rw [wN];omega));exact ⟨_,rfl,wu (DV h) rfl hv,nZ.trans ⟨hW.os,hW.tape,hW.output,hW.size,fun j hj=>jA _ _ (by omega) _ _ _⟩,fun b hb=>jA _ _ hb _ _ _,wo _ _ _ _⟩
theorem DW {w:World} {q:Nat} {c:Nat->Value} {t:TypeId} (h:w.heap[q]?=some (.cells (ten c) t (0,0))):w.rangeAt q 0 [c 0,c 1,c 2,c 3,c 4,c 5,c 6,c 7,c 8,c 9]:=fun j v hv=>by
 have hj:j<10:=by simpa using (List.getElem?_eq_some_iff.1 hv).1
 have hc:j=0\/j=1\/j=2\/j=3\/j=4\/j=5\/j=6\/j=7\/j=8\/j=9:=by omega
 unfold World.cell?;rw [h];rcases hc with rfl|rfl|rfl|rfl|rfl|rfl|rfl|rfl|rfl|rfl<;>exact hv
theorem Ia {x:List Value} (h:x.length=6):∃x0 x1 x2 x3 x4 x5,x = [x0,x1,x2,x3,x4,x5]:=by
 match x,h with
 | [x0,x1,x2,x3,x4,x5],_=>exact ⟨x0,x1,x2,x3,x4,x5,rfl⟩
def yG (p:Nat) (z:Int):Nat->Value
 | 0=>.agg ib
 | 1=>.pointer (some ⟨p,0,none⟩)
 | 2=>.pointer (some ⟨p,0,none⟩)
 | 3=>.pointer (some ⟨p,4,none⟩)
 | _=>.int .i64 z
theorem BF {α:Type} {X:R α} {y:α} {n i1 n1:Nat} (h:Fits (lift X n) (fun a=>a=y) i1 n1 0):X=.ok (y,i1)/\n1=n:=by
 cases X with
 | error e=>obtain ⟨h1,h2⟩:=h;exact absurd rfl h2
 | ok v=>obtain ⟨a,j⟩:=v;obtain ⟨rfl,rfl,rfl,_⟩:=h;exact ⟨rfl,rfl⟩
theorem BG {α:Type} {X:R α} {Q:α->Prop} {n i1 n1:Nat} {z:Int} (h:Fits (lift X n) Q i1 n1 z) (hz:z≠0):X=.error z:=by
 cases X with
 | error e=>obtain ⟨rfl,h2⟩:=h;rfl
 | ok v=>obtain ⟨a,j⟩:=v;exact absurd h.2.2.2 hz
def yE (p a:Nat) (z:Int) (k:Nat) (v:Value) (w:World):Prop:=if k=5 then w.heap[a]?=some (.cells ib 33 (0,0)) else v=yG p z k
theorem qG (w:World) (o:Option Nat):w.grownBy w o:=⟨rfl,rfl,rfl,Nat.le_refl _,fun _ _ _=>rfl⟩
theorem Ib {p a i k:Nat} {z:Int} {v:Value} {u u2:World} (hne:i≠k) (h:yE p a z i v u) (hg:u.grownBy u2 (if k=5 then some a else none)):yE p a z i v u2:=by
 unfold yE at *;by_cases h5:i=5
 ·rw [if_pos h5] at h ⊢;rw [if_neg (by omega)] at hg;rw [hg.block a (Array.getElem?_eq_some_iff.1 h).1 (by simp)];exact h
 ·rw [if_neg h5] at h ⊢;exact h
theorem Ic {a i k:Nat} {u u2:World} (hne:i≠k) (h5:i=5) (h:u.heap[a]?=some (.cells ib 33 (0,0))) (hg:u.grownBy u2 (if k=5 then some a else none)):u2.heap[a]?=some (.cells ib 33 (0,0)):=by
 rw [if_neg (by omega)] at hg;rw [hg.block a (Array.getElem?_eq_some_iff.1 h).1 (by simp)];exact h
theorem Ie {p k:Nat} {z:Int} {w u u2:World} (BH:w.heap.size≠p) (h:u.cell? ⟨p,4,none⟩=some (.int .i64 z)/\Below w.heap.size w u) (hg:u.grownBy u2 (if k=5 then some w.heap.size else none)):u2.cell? ⟨p,4,none⟩=some (.int .i64 z)/\Below w.heap.size w u2:=by
 have hne:∀b,b≠w.heap.size->some b≠(if k=5 then some w.heap.size else none):=fun b hb e=>by
  split at e
  ·injection e with e;exact hb e
  ·cases e
 refine ⟨World.grownBy.cell hg h.1 (hne p (fun e=>BH e.symm)),⟨hg.os.trans h.2.os,hg.tape.trans h.2.tape,hg.output.trans h.2.output,Nat.le_trans h.2.size hg.size,fun j hj=>?_⟩⟩;rw [hg.block j (Nat.lt_of_lt_of_le hj h.2.size) (hne j (by omega))];exact h.2.block j hj
theorem Ig {w u:World} (h:Below w.heap.size w u) (n:Nat):Below w.heap.size w { u with drawn:=n }:=⟨h.os,h.tape,h.output,h.size,h.block⟩
theorem Ih:ib.all (·.oneCell')=true:=by decide +kernel
end ai
theorem RQ (s:ByteArray) (w:World) (hs:s.size<=4611686018427387904):Calls Tryz.prog 7 #[.string s] w (qj MM w (lh s)):=by
 have vq:=aa (QO w s);obtain ⟨wb,hwb⟩:∃wb,wb=dB w:=⟨_,rfl⟩;obtain ⟨wa,BI⟩:∃wa,wa=dA w:=⟨_,rfl⟩;have hab:Below wa.heap.size wa wb:=by rw [BI,hwb];exact (Below.refl _ _).alloc (Nat.le_refl _) _
 have hwc:dC w s=wb.alloc (.cells #[.string s,.int .i64 0,.int .i64 s.size,.int .i64 0,.int .i64 0] 53):=by rw [hwb];rfl
 have hmod:wb.heap[w.heap.size+1]?=some (.cells (ten fun _=>.slice none 0 0) 33 (0,0)):=by rw [hwb];exact G8 w
 have jH:Hid (∀(u:World) (vs:Array Value),Below wa.heap.size wa u->vs.size=10->u.there w.heap.size 0 10/\Below w.heap.size w u/\u.heap[w.heap.size]?=some (.cells ib 33 (0,0))/\∃W2,u.setCells w.heap.size 0 vs.toList=W2/\W2.heap[w.heap.size]?=some (.cells vs 33 (0,0))/\Below w.heap.size w W2/\(∀b,b≠w.heap.size->W2.heap[b]?=u.heap[b]?)/\W2.heap.size=u.heap.size):=aa fun u vs hb hv=>by rw [BI] at hb;exact ⟨vh (DV hb) rfl,(G9 w).trans (hb.mono (by rw [wN];omega)),DV hb,RP hb vs hv⟩
 have VQ:w.heap.size+1<wb.heap.size:=by rw [hwb,BC];omega
 rw [<- BI,<- hwb] at vq;by_cases h1:262144<s.size
 ·have hX:lh s=.error 2:=by unfold lh;rw [if_pos h1]
  rw [hX];have hd:decide ((s.size:Int) > 262144)=true:=decide_eq_true (by omega);clear hX h1 vq hwc;go_enter Tryz.func7,Tryz.ntmps7;go_upto_region 2 with fail;have iF:=hwb;unfold dB dA ib at iF;rw [<- iF];clear hwb iF;have vI:=aa (DW hmod);obtain ⟨hth,_,_,W2,aX,g4,gB,gO,gS⟩:=jH.out wb #[.slice none 0 0,.slice none 0 0,.slice none 0 0,.slice none 0 0,.slice none 0 0,.slice none 0 0,.slice none 0 0,.slice none 0 0,.slice none 0 0,.slice none 0 0] hab rfl;have gX:=aa hth;have HW2:=aa aX;have gY:Hid ((#[.slice none 0 0,.slice none 0 0,.slice none 0 0,.slice none 0 0,.slice none 0 0,.slice none 0 0,.slice none 0 0,.slice none 0 0,.slice none 0 0,.slice none 0 0]:Array Value).all (·.oneCell')=true):=aa (by decide +kernel);obtain ⟨z0,z1,z2,z3,z4,z5,z6,z7,z8,z9⟩:=pO g4;have HP:Hid (qj MM w (.error 2) (.returned (.tuple #[.agg #[.slice none 0 0,.slice none 0 0,.slice none 0 0,.slice none 0 0,.slice none 0 0,.slice none 0 0,.slice none 0 0,.slice none 0 0,.slice none 0 0,.slice none 0 0],.int .i64 2])) W2):=aa (And.intro gB rfl);clear aX hth g4 gB gO gS jH;go_wp2_with (first|(refine wpList_load_mid rfl 33 (.tmp 4) rfl (w.heap.size+1) 0 rfl [.slice none 0 0,.slice none 0 0,.slice none 0 0,.slice none 0 0,.slice none 0 0,.slice none 0 0,.slice none 0 0,.slice none 0 0,.slice none 0 0,.slice none 0 0] _ vI.out Tryz.underlying33 rfl nI ?_)|(refine wpList_store_mid rfl 33 (.tmp 2) (.tmp 15) rfl w.heap.size 0 #[.slice none 0 0,.slice none 0 0,.slice none 0 0,.slice none 0 0,.slice none 0 0,.slice none 0 0,.slice none 0 0,.slice none 0 0,.slice none 0 0,.slice none 0 0] rfl rfl gX.out nI gY.out ?_;rw [HW2.out]))
  exact bodyPost_ret (v:=.tuple #[.agg #[.slice none 0 0,.slice none 0 0,.slice none 0 0,.slice none 0 0,.slice none 0 0,.slice none 0 0,.slice none 0 0,.slice none 0 0,.slice none 0 0,.slice none 0 0],.int .i64 2]) (by simp [results,Tryz.results7,go_sem,z0,z1,z2,z3,z4,z5,z6,z7,z8,z9]) rfl HP.out
 have hd:decide ((s.size:Int) > 262144)=false:=decide_eq_false (by omega);have ak:=aa (vq.out (by omega));have bq:Hid (∀u:World,HS wa wb.heap.size (w.heap.size+1) s 8 u->KS wa wb.heap.size (w.heap.size+1) s (lh s) 0 false u):=aa fun u h=>h.fin h1 (by obtain ⟨i,n,z,hd,_⟩:=h;exact hd.ds.lt);have kM:Hid (∀(k:Nat) (u:World),k<8->HS wa wb.heap.size (w.heap.size+1) s k u->Calls Tryz.prog 14 #[.pointer (some ⟨wb.heap.size,0,none⟩),.int .i64 ((iZ.getD k 0).toNat:Int)] u fun e u'=>e=.returned (.tuple #[])/\HS wa wb.heap.size (w.heap.size+1) s (k+1) u'):=aa fun k u hk h=>QP hk h;generalize lh s=G at *;clear vq hmod hab;go_enter Tryz.func7,Tryz.ntmps7;go_upto_region 2 with fail;have iF:=hwb;unfold dB dA ib at iF;rw [<- iF];clear hwb iF;go_wp2_with fail;rw [<- hwc];have BH:w.heap.size≠wb.heap.size:=by omega
 generalize dC w s=wc at *;clear hwc BI;generalize wb.heap.size=p at *;go_loopw [6] (fun v wr=>∃(k:Nat) (K:Int),k<=8/\Hid (K=(k:Int))/\v=.int .i64 K/\Hid (HS wa p (w.heap.size+1) s k wr)) (fun v _=>8-(RowKit.intOf v).toNat)
 case atStart=>exact ⟨0,0,by omega,aa rfl,rfl,ak⟩
 case round =>
  clear ak;obtain ⟨k,K,hk,kD,rfl,kE⟩:=hrel;by_cases RU:k<8
  ·have hkc:k=0\/k=1\/k=2\/k=3\/k=4\/k=5\/k=6\/k=7:=by omega
   rcases hkc with rfl|rfl|rfl|rfl|rfl|rfl|rfl|rfl
   ·obtain rfl:K=0:=kD.out;have HC:=aa (kM.out 0 wr (by decide) kE.out);rw [show ((iZ.getD 0 0).toNat:Int)=0 from rfl] at HC;have hby:wrap64 (((⟨#[0,97,115,109,1,0,0,0]⟩:ByteArray)[0]'(by decide)).toNat:Int)=0:=by decide +kernel
    clear kE kM jH bq kD;go_wp2_with fail;rw [hby];refine HC.out.mono ?_;rintro e u1 ⟨rfl,h2⟩;have H2:=aa h2;clear h2 HC;go_wp2;go_roundw
    case rel=>exact ⟨1,1,by omega,aa rfl,rfl,H2⟩
    case measure=>simp [RowKit.intOf]
   ·obtain rfl:K=1:=kD.out;have HC:=aa (kM.out 1 wr (by decide) kE.out);rw [show ((iZ.getD 1 0).toNat:Int)=97 from rfl] at HC;have hby:wrap64 (((⟨#[0,97,115,109,1,0,0,0]⟩:ByteArray)[1]'(by decide)).toNat:Int)=97:=by decide +kernel
    clear kE kM jH bq kD;go_wp2_with fail;rw [hby];refine HC.out.mono ?_;rintro e u1 ⟨rfl,h2⟩;have H2:=aa h2;clear h2 HC;go_wp2;go_roundw
    case rel=>exact ⟨2,2,by omega,aa rfl,rfl,H2⟩
    case measure=>simp [RowKit.intOf]
   ·obtain rfl:K=2:=kD.out;have HC:=aa (kM.out 2 wr (by decide) kE.out);rw [show ((iZ.getD 2 0).toNat:Int)=115 from rfl] at HC;have hby:wrap64 (((⟨#[0,97,115,109,1,0,0,0]⟩:ByteArray)[2]'(by decide)).toNat:Int)=115:=by decide +kernel
    clear kE kM jH bq kD;go_wp2_with fail;rw [hby];refine HC.out.mono ?_;rintro e u1 ⟨rfl,h2⟩;have H2:=aa h2;clear h2 HC;go_wp2;go_roundw
    case rel=>exact ⟨3,3,by omega,aa rfl,rfl,H2⟩
    case measure=>simp [RowKit.intOf]
   ·obtain rfl:K=3:=kD.out;have HC:=aa (kM.out 3 wr (by decide) kE.out);rw [show ((iZ.getD 3 0).toNat:Int)=109 from rfl] at HC;have hby:wrap64 (((⟨#[0,97,115,109,1,0,0,0]⟩:ByteArray)[3]'(by decide)).toNat:Int)=109:=by decide +kernel
    clear kE kM jH bq kD;go_wp2_with fail;rw [hby];refine HC.out.mono ?_;rintro e u1 ⟨rfl,h2⟩;have H2:=aa h2;clear h2 HC;go_wp2;go_roundw
    case rel=>exact ⟨4,4,by omega,aa rfl,rfl,H2⟩
    case measure=>simp [RowKit.intOf]
   ·obtain rfl:K=4:=kD.out;have HC:=aa (kM.out 4 wr (by decide) kE.out);rw [show ((iZ.getD 4 0).toNat:Int)=1 from rfl] at HC;have hby:wrap64 (((⟨#[0,97,115,109,1,0,0,0]⟩:ByteArray)[4]'(by decide)).toNat:Int)=1:=by decide +kernel
    clear kE kM jH bq kD;go_wp2_with fail;rw [hby];refine HC.out.mono ?_;rintro e u1 ⟨rfl,h2⟩;have H2:=aa h2;clear h2 HC;go_wp2;go_roundw
    case rel=>exact ⟨5,5,by omega,aa rfl,rfl,H2⟩
    case measure=>simp [RowKit.intOf]
   ·obtain rfl:K=5:=kD.out;have HC:=aa (kM.out 5 wr (by decide) kE.out);rw [show ((iZ.getD 5 0).toNat:Int)=0 from rfl] at HC;have hby:wrap64 (((⟨#[0,97,115,109,1,0,0,0]⟩:ByteArray)[5]'(by decide)).toNat:Int)=0:=by decide +kernel
    clear kE kM jH bq kD;go_wp2_with fail;rw [hby];refine HC.out.mono ?_;rintro e u1 ⟨rfl,h2⟩;have H2:=aa h2;clear h2 HC;go_wp2;go_roundw
    case rel=>exact ⟨6,6,by omega,aa rfl,rfl,H2⟩
    case measure=>simp [RowKit.intOf]
   ·obtain rfl:K=6:=kD.out;have HC:=aa (kM.out 6 wr (by decide) kE.out);rw [show ((iZ.getD 6 0).toNat:Int)=0 from rfl] at HC;have hby:wrap64 (((⟨#[0,97,115,109,1,0,0,0]⟩:ByteArray)[6]'(by decide)).toNat:Int)=0:=by decide +kernel
    clear kE kM jH bq kD;go_wp2_with fail;rw [hby];refine HC.out.mono ?_;rintro e u1 ⟨rfl,h2⟩;have H2:=aa h2;clear h2 HC;go_wp2;go_roundw
    case rel=>exact ⟨7,7,by omega,aa rfl,rfl,H2⟩
    case measure=>simp [RowKit.intOf]
   ·obtain rfl:K=7:=kD.out;have HC:=aa (kM.out 7 wr (by decide) kE.out);rw [show ((iZ.getD 7 0).toNat:Int)=0 from rfl] at HC;have hby:wrap64 (((⟨#[0,97,115,109,1,0,0,0]⟩:ByteArray)[7]'(by decide)).toNat:Int)=0:=by decide +kernel
    clear kE kM jH bq kD;go_wp2_with fail;rw [hby];refine HC.out.mono ?_;rintro e u1 ⟨rfl,h2⟩;have H2:=aa h2;clear h2 HC;go_wp2;go_roundw
    case rel=>exact ⟨8,8,by omega,aa rfl,rfl,H2⟩
    case measure=>simp [RowKit.intOf]
  ·obtain rfl:k=8:=by omega
   have wm:=aa (bq.out _ kE.out);have d8:decide (K<8)=false:=decide_eq_false (by have:=kD.out;omega);clear kE kM bq hk RU kD;go_wp2_with fail;go_loopw [7,8] (fun la bb wr=>∃(last:Int) (b:Bool),la=.int .i64 last/\bb=.bool b/\Hid (KS wa p (w.heap.size+1) s G last b wr)) (fun _ _ wr=>yz p s wr)
   case atStart=>exact ⟨0,false,rfl,rfl,wm⟩
   case round =>
    clear wm;obtain ⟨last,b,rfl,rfl,HK⟩:=hrel;rcases HK.out with ⟨i,st,c,hr⟩|⟨z,i,n,c,hz,hG,hd0⟩
    ·have c4:=hr.d.dm.ds.cell 4 _ rfl;have c1:=hr.d.dm.ds.cell 1 _ rfl;have c2:=hr.d.dm.ds.cell 2 _ rfl;have hm0:=hr.d.dm.ds.yB;have jI:=aa hm0;have VR:=hr.d.dm.ds.le;have HR:=aa hr;clear hr HK hm0;by_cases hi:i<s.size
     ·have dl:decide ((i:Int)<(s.size:Int))=true:=decide_eq_true (by omega);go_wp2_with fail;go_quiet (fail);have HR1:=aa (HR.out.on (bN wr nq));generalize wr.drewN nq=u1 at *;clear c1 c2 c4 HR;have BJ:=aa (wK wa p s s.size i st.cnt 0 u1 HR1.out.d.dm.ds);rw [bJ,show nx s s.size i=.ok (ae.bt s i,i+1) by unfold nx;rw [if_pos hi]] at BJ;have hbt:=ae.lQ s i;have vJ:=aa (HR1.out.bad hi);have eX:=aa (fun h11 hl z=>HR1.out.err (z:=z) hi h11 hl);have iG:=aa (fun (u2:World) h11 hl (st':Sg) (m:Nat) (c':Nat->Value) rR (la:Int) hla (b':Bool) hb' hd=>HR1.out.next (u2:=u2) hi h11 hl (st':=st') (m:=m) (c':=c') rR (la:=la) hla (b':=b') hb' hd);have hlast:=HR1.out.lim;obtain ⟨id,hid⟩:∃id,ae.bt s i=id:=⟨_,rfl⟩;rw [hid] at BJ hbt vJ eX iG;clear hid;go_wp2_with fail;refine BJ.out.mono ?_;rintro e u2 ⟨v,rfl,hv,hd2,hb2⟩;have hv:v=.int .i64 id:=hv;subst hv;have dI:=aa (HR1.out.d.call hd2 hb2);clear hd2 hb2 BJ HR1;by_cases h11:11<id
      ·have q1:decide (id > 11)=true:=decide_eq_true h11;have cg:=aa (vJ.out (.inl h11));clear vJ eX iG;cases b
       ·go_wp2_with fail;refine (fD wa p s s.size (i+1) st.cnt 0 _ dI.out.dm.ds 50).mono ?_;rintro e u3 ⟨rfl,h3,h4⟩;rw [if_pos rfl] at h3;have H3:=aa (dI.out.dm.call h3 h4);clear h3 h4 dI;go_wp2_with fail;refine (rS wa p s s.size (i+1) st.cnt 50 _ H3.out.ds).mono ?_;rintro e u4 ⟨y,mF,i4,n4,z4,rfl,hF,hb4,fQ,_⟩;rw [gH (by decide)] at hF;obtain ⟨rfl,cm⟩:=hF;have H4:=aa (H3.out.call (fQ cm) hb4);clear hb4 fQ H3 cm;have x4:=H4.out.ds.cell 4 _ rfl;go_wp2_with fail;refine (gG wa p s s.size i4 n4 50 _ H4.out.ds mF s.size (Nat.le_refl _) (Nat.le_refl _)).mono ?_;rintro e u5 ⟨rfl,h5,h6⟩;rw [if_neg (by intro h;exact absurd h.1 (by decide))] at h5;have H5:=aa (H4.out.call h5 h6);have cO:=aa (h5.lF (by decide));clear h5 h6 H4 x4;have HN:Hid (∀la b',KS wa p (w.heap.size+1) s G la b' u5):=aa fun _ _=>.inr ⟨50,_,_,_,by decide,cg.out,H5.out⟩;go_wp2;go_roundw
        case rel=>exact ⟨_,_,rfl,rfl,aa (HN.out _ _)⟩
        case measure=>rw [cO.out,jI.out];omega
       ·go_wp2_with fail;refine (fD wa p s s.size (i+1) st.cnt 0 _ dI.out.dm.ds 50).mono ?_;rintro e u3 ⟨rfl,h3,h4⟩;rw [if_pos rfl] at h3;have H3:=aa (dI.out.dm.call h3 h4);clear h3 h4 dI;go_wp2_with fail;refine (rS wa p s s.size (i+1) st.cnt 50 _ H3.out.ds).mono ?_;rintro e u4 ⟨y,mF,i4,n4,z4,rfl,hF,hb4,fQ,_⟩;rw [gH (by decide)] at hF;obtain ⟨rfl,cm⟩:=hF;have H4:=aa (H3.out.call (fQ cm) hb4);clear hb4 fQ H3 cm;have x4:=H4.out.ds.cell 4 _ rfl;go_wp2_with fail;refine (gG wa p s s.size i4 n4 50 _ H4.out.ds mF s.size (Nat.le_refl _) (Nat.le_refl _)).mono ?_;rintro e u5 ⟨rfl,h5,h6⟩;rw [if_neg (by intro h;exact absurd h.1 (by decide))] at h5;have H5:=aa (H4.out.call h5 h6);have cO:=aa (h5.lF (by decide));clear h5 h6 H4 x4;have HN:Hid (∀la b',KS wa p (w.heap.size+1) s G la b' u5):=aa fun _ _=>.inr ⟨50,_,_,_,by decide,cg.out,H5.out⟩;go_wp2;go_roundw
        case rel=>exact ⟨_,_,rfl,rfl,aa (HN.out _ _)⟩
        case measure=>rw [cO.out,jI.out];omega
      ·have q1:decide (id > 11)=false:=decide_eq_false h11;by_cases h0:id=0
       ·subst h0;have hmx:max last 0=last:=by omega
        clear vJ;cases b
        ·go_wp2_with fail;refine (rS wa p s s.size (i+1) st.cnt 0 _ dI.out.dm.ds).mono ?_;rintro e u4 ⟨y,mF,i4,n4,z4,rfl,hF,hb4,fQ,mH⟩;rw [bJ] at hF;by_cases cm:z4=0
         ·subst cm;obtain ⟨hy0,rfl,dz⟩:=mH rfl;obtain ⟨iH,rfl⟩:=BF hF;have hrb:=iP (Nat.le_refl _) iH;obtain ⟨yn,rfl⟩:∃yn:Nat,y=(yn:Int):=⟨y.toNat,by omega⟩;have H4:=aa (dI.out.call dz hb4);clear hb4 fQ mH hF dz dI;have x4:=H4.out.dm.ds.cell 4 _ rfl;have jW:=aa (BK H4.out 0 (by omega) (by omega) (.inl rfl));have fR:Hid (dZ (bB s 0) s st s.size (i+1)=ai.bd (bB s 0 st (min s.size (i4+yn)) i4) fun st' m=>if m=i4+yn then .ok (st',m) else .error 50):=aa (by unfold dZ;rw [iH,aM];rfl);have hmin:min s.size (i4+yn)<=s.size:=Nat.min_le_left _ _;rw [show (yn:Int).toNat=yn from rfl] at jW;generalize min s.size (i4+yn)=E at *;clear iH;generalize bB s 0 st E i4=Y at *;go_wp2_with fail;refine jW.out.mono ?_;rintro e u5 ⟨rfl,hY⟩;cases Y with
          | error z =>
           obtain ⟨hz,i5,n5,c5,dz⟩:=hY;have cg:=aa (eX.out (by omega) (by omega) z fR.out);clear eX iG fR jW H4 x4;have HZ:=aa hz;have H5:=aa dz;clear dz hz;go_wp2_with fail;refine (gG wa p s E i5 n5 z _ H5.out.ds ((i4:Int)+yn) s.size hmin (Nat.le_refl _)).mono ?_;rintro e u6 ⟨rfl,h5,h6⟩;rw [if_neg (by intro h;exact HZ.out h.1)] at h5;have H6:=aa (H5.out.call h5 h6);have cO:=aa (h5.lF HZ.out);clear h5 h6 H5;have HN:Hid (∀la b',KS wa p (w.heap.size+1) s G la b' u6):=aa fun _ _=>.inr ⟨z,_,_,_,HZ.out,cg.out,H6.out⟩;go_wp2;go_roundw
           case rel=>exact ⟨_,_,rfl,rfl,aa (HN.out _ _)⟩
           case measure=>rw [cO.out,jI.out];omega
          | ok vv =>
           obtain ⟨iI,m⟩:=vv;obtain ⟨c5,dz⟩:=hY;have H5:=aa dz;clear dz jW H4 x4;by_cases hm:m=i4+yn
           ·have mI:Hid (dZ (bB s 0) s st s.size (i+1)=.ok (iI,m)):=aa (by rw [fR.out,aM,if_pos hm]);have hgt:=vK (Nat.le_refl _) mI.out;go_wp2_with fail;refine (gG wa p s E m iI.cnt 0 _ H5.out.dm.ds ((i4:Int)+yn) s.size hmin (Nat.le_refl _)).mono ?_;rintro e u6 ⟨rfl,h5,h6⟩;rw [if_neg (by intro h;exact h.2 (by omega))] at h5;have H6:=aa (H5.out.call h5 h6);have DX:=h5.le;have cO:=aa h5.yB;clear h5 h6 H5;have HN:Hid (∀la b',la=(if (0:Int)=0 then last else 0)->b'=(false || 0 == 10)->KS wa p (w.heap.size+1) s G la b' u6):=aa fun la b' h7 h8=>.inl ⟨m,iI,c5,iG.out u6 (by omega) (by omega) iI m c5 mI.out la (by first|(rw [h7];done)|(rw [h7];rfl)|(rw [h7];simp)) b' h8 (by rw [h7];exact H6.out)⟩
            clear iG eX fR mI;go_wp2;go_roundw
            case rel=>exact ⟨_,_,rfl,rfl,aa (HN.out _ _ (by simp) (by simp))⟩
            case measure=>rw [cO.out,jI.out];omega
           ·have cg:=aa (eX.out (by omega) (by omega) 50 (by rw [fR.out,aM,if_neg hm]));clear eX iG fR;go_wp2_with fail;refine (gG wa p s E m iI.cnt 0 _ H5.out.dm.ds ((i4:Int)+yn) s.size hmin (Nat.le_refl _)).mono ?_;rintro e u6 ⟨rfl,h5,h6⟩;rw [if_pos ⟨rfl,fun e=>hm (by omega)⟩] at h5;have H6:=aa (H5.out.dm.call h5 h6);have cO:=aa (h5.lF (by decide));clear h5 h6 H5;have HN:Hid (∀la b',KS wa p (w.heap.size+1) s G la b' u6):=aa fun _ _=>.inr ⟨50,_,_,_,by decide,cg.out,H6.out⟩;go_wp2;go_roundw
            case rel=>exact ⟨_,_,rfl,rfl,aa (HN.out _ _)⟩
            case measure=>rw [cO.out,jI.out];omega
         ·have nz:=BG hF cm;have cg:=aa (eX.out (by omega) (by omega) z4 (by unfold dZ;rw [nz];rfl));have H4:=aa (dI.out.dm.call (fQ cm) hb4);have HZ:=aa cm;have q4:(z4 == 0)=false:=by simp [cm]
          clear hb4 fQ mH hF dI eX iG nz cm;have x4:=H4.out.ds.cell 4 _ rfl;go_wp2_with fail;refine (gG wa p s s.size i4 n4 z4 _ H4.out.ds mF s.size (Nat.le_refl _) (Nat.le_refl _)).mono ?_;rintro e u5 ⟨rfl,h5,h6⟩;rw [if_neg (by intro h;exact HZ.out h.1)] at h5;have H5:=aa (H4.out.call h5 h6);have cO:=aa (h5.lF HZ.out);clear h5 h6 H4 x4 q4;have HN:Hid (∀la b',KS wa p (w.heap.size+1) s G la b' u5):=aa fun _ _=>.inr ⟨z4,_,_,_,HZ.out,cg.out,H5.out⟩;go_wp2;go_roundw
          case rel=>exact ⟨_,_,rfl,rfl,aa (HN.out _ _)⟩
          case measure=>rw [cO.out,jI.out];omega
        ·go_wp2_with fail;refine (rS wa p s s.size (i+1) st.cnt 0 _ dI.out.dm.ds).mono ?_;rintro e u4 ⟨y,mF,i4,n4,z4,rfl,hF,hb4,fQ,mH⟩;rw [bJ] at hF;by_cases cm:z4=0
         ·subst cm;obtain ⟨hy0,rfl,dz⟩:=mH rfl;obtain ⟨iH,rfl⟩:=BF hF;have hrb:=iP (Nat.le_refl _) iH;obtain ⟨yn,rfl⟩:∃yn:Nat,y=(yn:Int):=⟨y.toNat,by omega⟩;have H4:=aa (dI.out.call dz hb4);clear hb4 fQ mH hF dz dI;have x4:=H4.out.dm.ds.cell 4 _ rfl;have jW:=aa (BK H4.out 0 (by omega) (by omega) (.inl rfl));have fR:Hid (dZ (bB s 0) s st s.size (i+1)=ai.bd (bB s 0 st (min s.size (i4+yn)) i4) fun st' m=>if m=i4+yn then .ok (st',m) else .error 50):=aa (by unfold dZ;rw [iH,aM];rfl);have hmin:min s.size (i4+yn)<=s.size:=Nat.min_le_left _ _;rw [show (yn:Int).toNat=yn from rfl] at jW;generalize min s.size (i4+yn)=E at *;clear iH;generalize bB s 0 st E i4=Y at *;go_wp2_with fail;refine jW.out.mono ?_;rintro e u5 ⟨rfl,hY⟩;cases Y with
          | error z =>
           obtain ⟨hz,i5,n5,c5,dz⟩:=hY;have cg:=aa (eX.out (by omega) (by omega) z fR.out);clear eX iG fR jW H4 x4;have HZ:=aa hz;have H5:=aa dz;clear dz hz;go_wp2_with fail;refine (gG wa p s E i5 n5 z _ H5.out.ds ((i4:Int)+yn) s.size hmin (Nat.le_refl _)).mono ?_;rintro e u6 ⟨rfl,h5,h6⟩;rw [if_neg (by intro h;exact HZ.out h.1)] at h5;have H6:=aa (H5.out.call h5 h6);have cO:=aa (h5.lF HZ.out);clear h5 h6 H5;have HN:Hid (∀la b',KS wa p (w.heap.size+1) s G la b' u6):=aa fun _ _=>.inr ⟨z,_,_,_,HZ.out,cg.out,H6.out⟩;go_wp2;go_roundw
           case rel=>exact ⟨_,_,rfl,rfl,aa (HN.out _ _)⟩
           case measure=>rw [cO.out,jI.out];omega
          | ok vv =>
           obtain ⟨iI,m⟩:=vv;obtain ⟨c5,dz⟩:=hY;have H5:=aa dz;clear dz jW H4 x4;by_cases hm:m=i4+yn
           ·have mI:Hid (dZ (bB s 0) s st s.size (i+1)=.ok (iI,m)):=aa (by rw [fR.out,aM,if_pos hm]);have hgt:=vK (Nat.le_refl _) mI.out;go_wp2_with fail;refine (gG wa p s E m iI.cnt 0 _ H5.out.dm.ds ((i4:Int)+yn) s.size hmin (Nat.le_refl _)).mono ?_;rintro e u6 ⟨rfl,h5,h6⟩;rw [if_neg (by intro h;exact h.2 (by omega))] at h5;have H6:=aa (H5.out.call h5 h6);have DX:=h5.le;have cO:=aa h5.yB;clear h5 h6 H5;have HN:Hid (∀la b',la=(if (0:Int)=0 then last else 0)->b'=(true || 0 == 10)->KS wa p (w.heap.size+1) s G la b' u6):=aa fun la b' h7 h8=>.inl ⟨m,iI,c5,iG.out u6 (by omega) (by omega) iI m c5 mI.out la (by first|(rw [h7];done)|(rw [h7];rfl)|(rw [h7];simp)) b' h8 (by rw [h7];exact H6.out)⟩
            clear iG eX fR mI;go_wp2;go_roundw
            case rel=>exact ⟨_,_,rfl,rfl,aa (HN.out _ _ (by simp) (by simp))⟩
            case measure=>rw [cO.out,jI.out];omega
           ·have cg:=aa (eX.out (by omega) (by omega) 50 (by rw [fR.out,aM,if_neg hm]));clear eX iG fR;go_wp2_with fail;refine (gG wa p s E m iI.cnt 0 _ H5.out.dm.ds ((i4:Int)+yn) s.size hmin (Nat.le_refl _)).mono ?_;rintro e u6 ⟨rfl,h5,h6⟩;rw [if_pos ⟨rfl,fun e=>hm (by omega)⟩] at h5;have H6:=aa (H5.out.dm.call h5 h6);have cO:=aa (h5.lF (by decide));clear h5 h6 H5;have HN:Hid (∀la b',KS wa p (w.heap.size+1) s G la b' u6):=aa fun _ _=>.inr ⟨50,_,_,_,by decide,cg.out,H6.out⟩;go_wp2;go_roundw
            case rel=>exact ⟨_,_,rfl,rfl,aa (HN.out _ _)⟩
            case measure=>rw [cO.out,jI.out];omega
         ·have nz:=BG hF cm;have cg:=aa (eX.out (by omega) (by omega) z4 (by unfold dZ;rw [nz];rfl));have H4:=aa (dI.out.dm.call (fQ cm) hb4);have HZ:=aa cm;have q4:(z4 == 0)=false:=by simp [cm]
          clear hb4 fQ mH hF dI eX iG nz cm;have x4:=H4.out.ds.cell 4 _ rfl;go_wp2_with fail;refine (gG wa p s s.size i4 n4 z4 _ H4.out.ds mF s.size (Nat.le_refl _) (Nat.le_refl _)).mono ?_;rintro e u5 ⟨rfl,h5,h6⟩;rw [if_neg (by intro h;exact HZ.out h.1)] at h5;have H5:=aa (H4.out.call h5 h6);have cO:=aa (h5.lF HZ.out);clear h5 h6 H4 x4 q4;have HN:Hid (∀la b',KS wa p (w.heap.size+1) s G la b' u5):=aa fun _ _=>.inr ⟨z4,_,_,_,HZ.out,cg.out,H5.out⟩;go_wp2;go_roundw
          case rel=>exact ⟨_,_,rfl,rfl,aa (HN.out _ _)⟩
          case measure=>rw [cO.out,jI.out];omega
       ·have q0:(id != 0)=true:=by simp [h0]
        by_cases hlt:last<id
        ·have q2:decide (id<=last)=false:=decide_eq_false (by omega);have hmx:max last id=id:=by omega
         clear vJ;cases b
         ·go_wp2_with fail;refine (rS wa p s s.size (i+1) st.cnt 0 _ dI.out.dm.ds).mono ?_;rintro e u4 ⟨y,mF,i4,n4,z4,rfl,hF,hb4,fQ,mH⟩;rw [bJ] at hF;by_cases cm:z4=0
          ·subst cm;obtain ⟨hy0,rfl,dz⟩:=mH rfl;obtain ⟨iH,rfl⟩:=BF hF;have hrb:=iP (Nat.le_refl _) iH;obtain ⟨yn,rfl⟩:∃yn:Nat,y=(yn:Int):=⟨y.toNat,by omega⟩;have H4:=aa (dI.out.call dz hb4);clear hb4 fQ mH hF dz dI;have x4:=H4.out.dm.ds.cell 4 _ rfl;have jW:=aa (BK H4.out id (by omega) (by omega) (.inr hlt));have fR:Hid (dZ (bB s id) s st s.size (i+1)=ai.bd (bB s id st (min s.size (i4+yn)) i4) fun st' m=>if m=i4+yn then .ok (st',m) else .error 50):=aa (by unfold dZ;rw [iH,aM];rfl);have hmin:min s.size (i4+yn)<=s.size:=Nat.min_le_left _ _;rw [show (yn:Int).toNat=yn from rfl] at jW;generalize min s.size (i4+yn)=E at *;clear iH;generalize bB s id st E i4=Y at *;go_wp2_with fail;refine jW.out.mono ?_;rintro e u5 ⟨rfl,hY⟩;cases Y with
           | error z =>
            obtain ⟨hz,i5,n5,c5,dz⟩:=hY;have cg:=aa (eX.out (by omega) (by omega) z fR.out);clear eX iG fR jW H4 x4;have HZ:=aa hz;have H5:=aa dz;clear dz hz;go_wp2_with fail;refine (gG wa p s E i5 n5 z _ H5.out.ds ((i4:Int)+yn) s.size hmin (Nat.le_refl _)).mono ?_;rintro e u6 ⟨rfl,h5,h6⟩;rw [if_neg (by intro h;exact HZ.out h.1)] at h5;have H6:=aa (H5.out.call h5 h6);have cO:=aa (h5.lF HZ.out);clear h5 h6 H5;have HN:Hid (∀la b',KS wa p (w.heap.size+1) s G la b' u6):=aa fun _ _=>.inr ⟨z,_,_,_,HZ.out,cg.out,H6.out⟩;go_wp2;go_roundw
            case rel=>exact ⟨_,_,rfl,rfl,aa (HN.out _ _)⟩
            case measure=>rw [cO.out,jI.out];omega
           | ok vv =>
            obtain ⟨iI,m⟩:=vv;obtain ⟨c5,dz⟩:=hY;have H5:=aa dz;clear dz jW H4 x4;by_cases hm:m=i4+yn
            ·have mI:Hid (dZ (bB s id) s st s.size (i+1)=.ok (iI,m)):=aa (by rw [fR.out,aM,if_pos hm]);have hgt:=vK (Nat.le_refl _) mI.out;go_wp2_with fail;refine (gG wa p s E m iI.cnt 0 _ H5.out.dm.ds ((i4:Int)+yn) s.size hmin (Nat.le_refl _)).mono ?_;rintro e u6 ⟨rfl,h5,h6⟩;rw [if_neg (by intro h;exact h.2 (by omega))] at h5;have H6:=aa (H5.out.call h5 h6);have DX:=h5.le;have cO:=aa h5.yB;clear h5 h6 H5;have HN:Hid (∀la b',la=(if id=0 then last else id)->b'=(false || id == 10)->KS wa p (w.heap.size+1) s G la b' u6):=aa fun la b' h7 h8=>.inl ⟨m,iI,c5,iG.out u6 (by omega) (by omega) iI m c5 mI.out la (by first|(rw [h7];done)|(rw [h7];rfl)|(rw [h7];simp)) b' h8 (by rw [h7];exact H6.out)⟩
             clear iG eX fR mI;go_wp2;go_roundw
             case rel=>exact ⟨_,_,rfl,rfl,aa (HN.out _ _ (by rw [if_neg h0]) (by simp))⟩
             case measure=>rw [cO.out,jI.out];omega
            ·have cg:=aa (eX.out (by omega) (by omega) 50 (by rw [fR.out,aM,if_neg hm]));clear eX iG fR;go_wp2_with fail;refine (gG wa p s E m iI.cnt 0 _ H5.out.dm.ds ((i4:Int)+yn) s.size hmin (Nat.le_refl _)).mono ?_;rintro e u6 ⟨rfl,h5,h6⟩;rw [if_pos ⟨rfl,fun e=>hm (by omega)⟩] at h5;have H6:=aa (H5.out.dm.call h5 h6);have cO:=aa (h5.lF (by decide));clear h5 h6 H5;have HN:Hid (∀la b',KS wa p (w.heap.size+1) s G la b' u6):=aa fun _ _=>.inr ⟨50,_,_,_,by decide,cg.out,H6.out⟩;go_wp2;go_roundw
             case rel=>exact ⟨_,_,rfl,rfl,aa (HN.out _ _)⟩
             case measure=>rw [cO.out,jI.out];omega
          ·have nz:=BG hF cm;have cg:=aa (eX.out (by omega) (by omega) z4 (by unfold dZ;rw [nz];rfl));have H4:=aa (dI.out.dm.call (fQ cm) hb4);have HZ:=aa cm;have q4:(z4 == 0)=false:=by simp [cm]
           clear hb4 fQ mH hF dI eX iG nz cm;have x4:=H4.out.ds.cell 4 _ rfl;go_wp2_with fail;refine (gG wa p s s.size i4 n4 z4 _ H4.out.ds mF s.size (Nat.le_refl _) (Nat.le_refl _)).mono ?_;rintro e u5 ⟨rfl,h5,h6⟩;rw [if_neg (by intro h;exact HZ.out h.1)] at h5;have H5:=aa (H4.out.call h5 h6);have cO:=aa (h5.lF HZ.out);clear h5 h6 H4 x4 q4;have HN:Hid (∀la b',KS wa p (w.heap.size+1) s G la b' u5):=aa fun _ _=>.inr ⟨z4,_,_,_,HZ.out,cg.out,H5.out⟩;go_wp2;go_roundw
           case rel=>exact ⟨_,_,rfl,rfl,aa (HN.out _ _)⟩
           case measure=>rw [cO.out,jI.out];omega
         ·go_wp2_with fail;refine (rS wa p s s.size (i+1) st.cnt 0 _ dI.out.dm.ds).mono ?_;rintro e u4 ⟨y,mF,i4,n4,z4,rfl,hF,hb4,fQ,mH⟩;rw [bJ] at hF;by_cases cm:z4=0
          ·subst cm;obtain ⟨hy0,rfl,dz⟩:=mH rfl;obtain ⟨iH,rfl⟩:=BF hF;have hrb:=iP (Nat.le_refl _) iH;obtain ⟨yn,rfl⟩:∃yn:Nat,y=(yn:Int):=⟨y.toNat,by omega⟩;have H4:=aa (dI.out.call dz hb4);clear hb4 fQ mH hF dz dI;have x4:=H4.out.dm.ds.cell 4 _ rfl;have jW:=aa (BK H4.out id (by omega) (by omega) (.inr hlt));have fR:Hid (dZ (bB s id) s st s.size (i+1)=ai.bd (bB s id st (min s.size (i4+yn)) i4) fun st' m=>if m=i4+yn then .ok (st',m) else .error 50):=aa (by unfold dZ;rw [iH,aM];rfl);have hmin:min s.size (i4+yn)<=s.size:=Nat.min_le_left _ _;rw [show (yn:Int).toNat=yn from rfl] at jW;generalize min s.size (i4+yn)=E at *;clear iH;generalize bB s id st E i4=Y at *;go_wp2_with fail;refine jW.out.mono ?_;rintro e u5 ⟨rfl,hY⟩;cases Y with
           | error z =>
            obtain ⟨hz,i5,n5,c5,dz⟩:=hY;have cg:=aa (eX.out (by omega) (by omega) z fR.out);clear eX iG fR jW H4 x4;have HZ:=aa hz;have H5:=aa dz;clear dz hz;go_wp2_with fail;refine (gG wa p s E i5 n5 z _ H5.out.ds ((i4:Int)+yn) s.size hmin (Nat.le_refl _)).mono ?_;rintro e u6 ⟨rfl,h5,h6⟩;rw [if_neg (by intro h;exact HZ.out h.1)] at h5;have H6:=aa (H5.out.call h5 h6);have cO:=aa (h5.lF HZ.out);clear h5 h6 H5;have HN:Hid (∀la b',KS wa p (w.heap.size+1) s G la b' u6):=aa fun _ _=>.inr ⟨z,_,_,_,HZ.out,cg.out,H6.out⟩;go_wp2;go_roundw
            case rel=>exact ⟨_,_,rfl,rfl,aa (HN.out _ _)⟩
            case measure=>rw [cO.out,jI.out];omega
           | ok vv =>
            obtain ⟨iI,m⟩:=vv;obtain ⟨c5,dz⟩:=hY;have H5:=aa dz;clear dz jW H4 x4;by_cases hm:m=i4+yn
            ·have mI:Hid (dZ (bB s id) s st s.size (i+1)=.ok (iI,m)):=aa (by rw [fR.out,aM,if_pos hm]);have hgt:=vK (Nat.le_refl _) mI.out;go_wp2_with fail;refine (gG wa p s E m iI.cnt 0 _ H5.out.dm.ds ((i4:Int)+yn) s.size hmin (Nat.le_refl _)).mono ?_;rintro e u6 ⟨rfl,h5,h6⟩;rw [if_neg (by intro h;exact h.2 (by omega))] at h5;have H6:=aa (H5.out.call h5 h6);have DX:=h5.le;have cO:=aa h5.yB;clear h5 h6 H5;have HN:Hid (∀la b',la=(if id=0 then last else id)->b'=(true || id == 10)->KS wa p (w.heap.size+1) s G la b' u6):=aa fun la b' h7 h8=>.inl ⟨m,iI,c5,iG.out u6 (by omega) (by omega) iI m c5 mI.out la (by first|(rw [h7];done)|(rw [h7];rfl)|(rw [h7];simp)) b' h8 (by rw [h7];exact H6.out)⟩
             clear iG eX fR mI;go_wp2;go_roundw
             case rel=>exact ⟨_,_,rfl,rfl,aa (HN.out _ _ (by rw [if_neg h0]) (by simp))⟩
             case measure=>rw [cO.out,jI.out];omega
            ·have cg:=aa (eX.out (by omega) (by omega) 50 (by rw [fR.out,aM,if_neg hm]));clear eX iG fR;go_wp2_with fail;refine (gG wa p s E m iI.cnt 0 _ H5.out.dm.ds ((i4:Int)+yn) s.size hmin (Nat.le_refl _)).mono ?_;rintro e u6 ⟨rfl,h5,h6⟩;rw [if_pos ⟨rfl,fun e=>hm (by omega)⟩] at h5;have H6:=aa (H5.out.dm.call h5 h6);have cO:=aa (h5.lF (by decide));clear h5 h6 H5;have HN:Hid (∀la b',KS wa p (w.heap.size+1) s G la b' u6):=aa fun _ _=>.inr ⟨50,_,_,_,by decide,cg.out,H6.out⟩;go_wp2;go_roundw
             case rel=>exact ⟨_,_,rfl,rfl,aa (HN.out _ _)⟩
             case measure=>rw [cO.out,jI.out];omega
          ·have nz:=BG hF cm;have cg:=aa (eX.out (by omega) (by omega) z4 (by unfold dZ;rw [nz];rfl));have H4:=aa (dI.out.dm.call (fQ cm) hb4);have HZ:=aa cm;have q4:(z4 == 0)=false:=by simp [cm]
           clear hb4 fQ mH hF dI eX iG nz cm;have x4:=H4.out.ds.cell 4 _ rfl;go_wp2_with fail;refine (gG wa p s s.size i4 n4 z4 _ H4.out.ds mF s.size (Nat.le_refl _) (Nat.le_refl _)).mono ?_;rintro e u5 ⟨rfl,h5,h6⟩;rw [if_neg (by intro h;exact HZ.out h.1)] at h5;have H5:=aa (H4.out.call h5 h6);have cO:=aa (h5.lF HZ.out);clear h5 h6 H4 x4 q4;have HN:Hid (∀la b',KS wa p (w.heap.size+1) s G la b' u5):=aa fun _ _=>.inr ⟨z4,_,_,_,HZ.out,cg.out,H5.out⟩;go_wp2;go_roundw
           case rel=>exact ⟨_,_,rfl,rfl,aa (HN.out _ _)⟩
           case measure=>rw [cO.out,jI.out];omega
        ·have q2:decide (id<=last)=true:=decide_eq_true (by omega);have cg:=aa (vJ.out (.inr ⟨h0,by omega⟩));clear vJ eX iG;cases b
         ·go_wp2_with fail;refine (fD wa p s s.size (i+1) st.cnt 0 _ dI.out.dm.ds 50).mono ?_;rintro e u3 ⟨rfl,h3,h4⟩;rw [if_pos rfl] at h3;have H3:=aa (dI.out.dm.call h3 h4);clear h3 h4 dI;go_wp2_with fail;refine (rS wa p s s.size (i+1) st.cnt 50 _ H3.out.ds).mono ?_;rintro e u4 ⟨y,mF,i4,n4,z4,rfl,hF,hb4,fQ,_⟩;rw [gH (by decide)] at hF;obtain ⟨rfl,cm⟩:=hF;have H4:=aa (H3.out.call (fQ cm) hb4);clear hb4 fQ H3 cm;have x4:=H4.out.ds.cell 4 _ rfl;go_wp2_with fail;refine (gG wa p s s.size i4 n4 50 _ H4.out.ds mF s.size (Nat.le_refl _) (Nat.le_refl _)).mono ?_;rintro e u5 ⟨rfl,h5,h6⟩;rw [if_neg (by intro h;exact absurd h.1 (by decide))] at h5;have H5:=aa (H4.out.call h5 h6);have cO:=aa (h5.lF (by decide));clear h5 h6 H4 x4;have HN:Hid (∀la b',KS wa p (w.heap.size+1) s G la b' u5):=aa fun _ _=>.inr ⟨50,_,_,_,by decide,cg.out,H5.out⟩;go_wp2;go_roundw
          case rel=>exact ⟨_,_,rfl,rfl,aa (HN.out _ _)⟩
          case measure=>rw [cO.out,jI.out];omega
         ·go_wp2_with fail;refine (fD wa p s s.size (i+1) st.cnt 0 _ dI.out.dm.ds 50).mono ?_;rintro e u3 ⟨rfl,h3,h4⟩;rw [if_pos rfl] at h3;have H3:=aa (dI.out.dm.call h3 h4);clear h3 h4 dI;go_wp2_with fail;refine (rS wa p s s.size (i+1) st.cnt 50 _ H3.out.ds).mono ?_;rintro e u4 ⟨y,mF,i4,n4,z4,rfl,hF,hb4,fQ,_⟩;rw [gH (by decide)] at hF;obtain ⟨rfl,cm⟩:=hF;have H4:=aa (H3.out.call (fQ cm) hb4);clear hb4 fQ H3 cm;have x4:=H4.out.ds.cell 4 _ rfl;go_wp2_with fail;refine (gG wa p s s.size i4 n4 50 _ H4.out.ds mF s.size (Nat.le_refl _) (Nat.le_refl _)).mono ?_;rintro e u5 ⟨rfl,h5,h6⟩;rw [if_neg (by intro h;exact absurd h.1 (by decide))] at h5;have H5:=aa (H4.out.call h5 h6);have cO:=aa (h5.lF (by decide));clear h5 h6 H4 x4;have HN:Hid (∀la b',KS wa p (w.heap.size+1) s G la b' u5):=aa fun _ _=>.inr ⟨50,_,_,_,by decide,cg.out,H5.out⟩;go_wp2;go_roundw
          case rel=>exact ⟨_,_,rfl,rfl,aa (HN.out _ _)⟩
          case measure=>rw [cO.out,jI.out];omega
     ·have dl:decide ((i:Int)<(s.size:Int))=false:=decide_eq_false (by omega);go_wp2_with fail;go_quiet (fail);have HR1:=aa (HR.out.on (bN wr nq));generalize wr.drewN nq=u1 at *;clear c1 c2 c4 HR;have d4:=HR1.out.d.dm.ds.cell 4 _ rfl;have hfin:=HR1.out.fin hi;have DY:=Ii p st c st.codes st.cnt u1 ⟨rfl,rfl,HR1.out.d.few,HR1.out.d.mg⟩;obtain ⟨o2,cap2,hc2⟩:=DY.1.2;have hsl:=DY.2;have e2:=HR1.out.d.dm.cell 2 (by decide);rw [hc2] at e2;obtain ⟨L,hL⟩:∃L,qi st=L:=⟨_,rfl⟩;have RV:st.m.funcs.length=L:=hL;rw [hL] at e2;rw [RV] at hfin;have lG:=aa hfin;clear hfin DY hc2
      have hpost:∀W2:World,Below w.heap.size w W2->(∀b,b≠w.heap.size->W2.heap[b]?=u1.heap[b]?)->W2.heap.size=u1.heap.size->G=.ok (st,i)->qj MM w G (.returned (.tuple #[.agg #[c 0,c 1,c 2,c 3,c 4,c 5,c 6,c 7,c 8,c 9],.int .i64 0])) W2:=fun W2 gB gO gS hG=>by
       rw [hG];refine ⟨gB,p,c,st.codes,st.cnt,⟨rfl,rfl,HR1.out.d.few,?_⟩,rfl⟩;obtain ⟨g,hg⟩:=HR1.out.d.mg;exact ⟨g,hg.keep ⟨fun b hb hl=>gO b (by omega),by omega⟩⟩
      have DZ:=aa hpost;clear hpost;have D5:=aa (DL hsl);have bh:=aa HR1.out.d.dm;clear hsl HR1;by_cases Bj:0<L
      ·have dL:decide ((L:Int) > 0)=true:=decide_eq_true (by omega);cases b
       ·have HG:=aa (lG.out.1 ⟨Bj,rfl⟩);clear DZ D5 lG;go_wp2_with fail;refine (fD wa p s s.size i st.cnt 0 _ bh.out.ds 50).mono ?_;rintro e u5 ⟨rfl,h3,h4⟩;rw [if_pos rfl] at h3;have HE:=aa (bh.out.call h3 h4);obtain ⟨z5,mJ⟩:∃z5:Int,z5=50:=⟨_,rfl⟩;have HZ:Hid (z5≠0):=aa (by omega);rw [<- mJ] at HE HG;clear h3 h4 bh e2 d4 mJ;have q9:(z5 != 0)=true:=by simp [HZ.out]
        have q8:(z5 == 0)=false:=by simp [HZ.out]
        have d4:=HE.out.ds.cell 4 _ rfl;have qy:=aa (jH.out _ ib HE.out.ds.below rfl).2.1;have yM:=aa (jH.out _ ib HE.out.ds.below rfl).2.2.1;go_wp2_with fail
        refine af.Ij 6 (fun i=>108+i) (fun k=>if k=5 then some w.heap.size else none) (fun v=>v.cell? ⟨p,4,none⟩=some (.int .i64 z5)/\Below w.heap.size w v) (fun k v=>k=5->v.heap[w.heap.size]?=some (.cells ib 33 (0,0))) (yE p w.heap.size z5) (by kernel_rfl) (by kernel_rfl) (fun i j h1 h2 h=>by have h':108+i=108+j:=h;omega) (fun i hi=>by
         have hcase:i=0\/i=1\/i=2\/i=3\/i=4\/i=5:=by omega
         rcases hcase with rfl|rfl|rfl|rfl|rfl|rfl
         ·exact ⟨_,rfl,.inl rfl,rfl,show 108+0<114 by decide⟩
         ·exact ⟨_,rfl,.inl rfl,rfl,show 108+1<114 by decide⟩
         ·exact ⟨_,rfl,.inl rfl,rfl,show 108+2<114 by decide⟩
         ·exact ⟨_,rfl,.inl rfl,rfl,show 108+3<114 by decide⟩
         ·exact ⟨_,rfl,.inl rfl,rfl,show 108+4<114 by decide⟩
         ·exact ⟨_,rfl,.inr ⟨rfl,fun v v' w h=>h⟩,rfl,show 108+5<114 by decide⟩) (fun i k v u u2 hi hk hne au hG hg=>Ib hne hG hg) (fun i k u u2 hi hk hne hR hg h5=>Ic hne h5 (hR h5) hg) (fun k u u2 hk au hg=>Ie BH au hg) ?RX ?RY ?RZ ?R3
        case RZ=>exact ⟨aF (CS _ _) d4,Ig qy.out _⟩
        case R3=>exact fun i hi h5=>yM.out
        case RX =>
         intro j o a u hj ho hF au hRR hd;have f5:a.tmps[5]?.getD undef=.pointer (some ⟨p,0,none⟩):=af.av (hF.eval 5 (fun i hi=>by show 108+i≠5;omega));have f2:a.eval (.tmp 2)=.pointer (some ⟨w.heap.size,0,none⟩):=hF.eval 2 (fun i hi=>by show 108+i≠2;omega);have e4:=au.1;have hcase:j=0\/j=1\/j=2\/j=3\/j=4\/j=5:=by omega
         clear hj d4 au;rcases hcase with rfl|rfl|rfl|rfl|rfl|rfl
         all_goals (simp only [List.getElem?_toArray,List.getElem?_cons_succ,List.getElem?_cons_zero,Option.some.injEq] at ho;subst ho;refine af.aR fun K hK=>?_)
         ·go_simp;exact hK _ _ ⟨_,rfl,qG _ _,rfl⟩
         ·go_simp;exact hK _ _ ⟨_,rfl,qG _ _,rfl⟩
         ·have q:a.tmps[109]?.getD undef=.pointer (some ⟨p,0,none⟩):=af.av (hd 1 (by decide));go_simp;exact hK _ _ ⟨_,rfl,qG _ _,rfl⟩
         ·have q:a.tmps[110]?.getD undef=.pointer (some ⟨p,0,none⟩):=af.av (hd 2 (by decide));go_simp;exact hK _ _ ⟨_,rfl,qG _ _,rfl⟩
         ·have q:a.tmps[111]?.getD undef=.pointer (some ⟨p,4,none⟩):=af.av (hd 3 (by decide));go_simp;exact hK _ _ ⟨_,rfl,qG _ _,rfl⟩
         ·have q:a.eval (.tmp 108)=.agg ib:=hd 0 (by decide);have hbl:=hRR rfl;refine wp_store_mid 33 (.tmp 2) (.tmp 108) rfl w.heap.size 0 ib f2 q (vh hbl rfl) nI Ih ?_;exact hK _ _ ⟨undef,rfl,qw w.heap.size ib.toList 0 u,wu hbl rfl rfl⟩
        case RY =>
         intro a u hF au vL;obtain ⟨xl,hxl,rfl,hev⟩:=hF.lit (by simp);obtain ⟨x0,x1,x2,x3,x4,x5,rfl⟩:=Ia hxl;have e4:x4=.int .i64 z5:=(hev 4 (by decide)).symm.trans (vL 4 (by decide));have g4:u.heap[w.heap.size]?=some (.cells #[.slice none 0 0,.slice none 0 0,.slice none 0 0,.slice none 0 0,.slice none 0 0,.slice none 0 0,.slice none 0 0,.slice none 0 0,.slice none 0 0,.slice none 0 0] 33 (0,0)):=vL 5 (by decide);obtain ⟨z0,z1,z2,z3,z4,D6,z6,z7,z8,z9⟩:=pO g4;have HP:Hid (qj MM w G (.returned (.tuple #[.agg #[.slice none 0 0,.slice none 0 0,.slice none 0 0,.slice none 0 0,.slice none 0 0,.slice none 0 0,.slice none 0 0,.slice none 0 0,.slice none 0 0,.slice none 0 0],.int .i64 z5])) u):=aa (by rw [HG.out];exact ⟨au.2,rfl⟩);subst e4;clear hev hxl hF vL g4 jH HE HG HZ au qy yM;simp only [List.take_succ_cons,List.take_zero,List.drop_succ_cons,List.drop_zero,List.cons_append,List.nil_append];go_wp2;exact bodyPost_ret (v:=.tuple #[.agg #[.slice none 0 0,.slice none 0 0,.slice none 0 0,.slice none 0 0,.slice none 0 0,.slice none 0 0,.slice none 0 0,.slice none 0 0,.slice none 0 0,.slice none 0 0],.int .i64 z5]) (by simp [results,Tryz.results7,go_sem,z0,z1,z2,z3,z4,D6,z6,z7,z8,z9]) rfl HP.out
       ·have VS:=lG;have vI:=aa (DW bh.out.mq);obtain ⟨hth,_,_,W2,aX,g4,gB,gO,gS⟩:=jH.out u1 #[c 0,c 1,c 2,c 3,c 4,c 5,c 6,c 7,c 8,c 9] bh.out.ds.below rfl;have gX:=aa hth;have HW2:=aa aX;have gY:Hid ((#[c 0,c 1,c 2,c 3,c 4,c 5,c 6,c 7,c 8,c 9]:Array Value).all (·.oneCell')=true):=aa (D5.out);obtain ⟨z0,z1,z2,z3,z4,z5,z6,z7,z8,z9⟩:=pO g4;have HP:Hid (qj MM w G (.returned (.tuple #[.agg #[c 0,c 1,c 2,c 3,c 4,c 5,c 6,c 7,c 8,c 9],.int .i64 0])) W2):=aa (DZ.out W2 gB gO gS (lG.out.2 (fun h=>by cases h.2)));clear aX hth g4 gB gO gS jH;go_wp2_with (first|(refine wpList_load_mid rfl 33 (.tmp 4) rfl (w.heap.size+1) 0 rfl [c 0,c 1,c 2,c 3,c 4,c 5,c 6,c 7,c 8,c 9] _ vI.out Tryz.underlying33 rfl nI ?_)|(refine wpList_store_mid rfl 33 (.tmp 2) (.tmp 113) rfl w.heap.size 0 #[c 0,c 1,c 2,c 3,c 4,c 5,c 6,c 7,c 8,c 9] rfl rfl gX.out nI gY.out ?_;rw [HW2.out]))
        exact bodyPost_ret (v:=.tuple #[.agg #[c 0,c 1,c 2,c 3,c 4,c 5,c 6,c 7,c 8,c 9],.int .i64 0]) (by simp [results,Tryz.results7,go_sem,z0,z1,z2,z3,z4,z5,z6,z7,z8,z9]) rfl HP.out
      ·have dL:decide ((L:Int) > 0)=false:=decide_eq_false (by omega);have vI:=aa (DW bh.out.mq);obtain ⟨hth,_,_,W2,aX,g4,gB,gO,gS⟩:=jH.out u1 #[c 0,c 1,c 2,c 3,c 4,c 5,c 6,c 7,c 8,c 9] bh.out.ds.below rfl;have gX:=aa hth;have HW2:=aa aX;have gY:Hid ((#[c 0,c 1,c 2,c 3,c 4,c 5,c 6,c 7,c 8,c 9]:Array Value).all (·.oneCell')=true):=aa (D5.out);obtain ⟨z0,z1,z2,z3,z4,z5,z6,z7,z8,z9⟩:=pO g4;have HP:Hid (qj MM w G (.returned (.tuple #[.agg #[c 0,c 1,c 2,c 3,c 4,c 5,c 6,c 7,c 8,c 9],.int .i64 0])) W2):=aa (DZ.out W2 gB gO gS (lG.out.2 (fun h=>Bj h.1)));clear aX hth g4 gB gO gS jH;go_wp2_with (first|(refine wpList_load_mid rfl 33 (.tmp 4) rfl (w.heap.size+1) 0 rfl [c 0,c 1,c 2,c 3,c 4,c 5,c 6,c 7,c 8,c 9] _ vI.out Tryz.underlying33 rfl nI ?_)|(refine wpList_store_mid rfl 33 (.tmp 2) (.tmp 113) rfl w.heap.size 0 #[c 0,c 1,c 2,c 3,c 4,c 5,c 6,c 7,c 8,c 9] rfl rfl gX.out nI gY.out ?_;rw [HW2.out]))
       exact bodyPost_ret (v:=.tuple #[.agg #[c 0,c 1,c 2,c 3,c 4,c 5,c 6,c 7,c 8,c 9],.int .i64 0]) (by simp [results,Tryz.results7,go_sem,z0,z1,z2,z3,z4,z5,z6,z7,z8,z9]) rfl HP.out
    ·have c4:=hd0.ds.cell 4 _ rfl;have q4:(z == 0)=false:=by simp [hz]
     have H0:=aa hd0;have HZ:=aa hz;have HG:=aa hG;clear hd0 hz hG HK;go_wp2_with fail;go_quiet (fail);have HE:=aa (H0.out.on (bN wr nq));generalize wr.drewN nq=u1 at *;clear c4 H0;have d4:=HE.out.ds.cell 4 _ rfl;obtain ⟨z5,mJ⟩:∃z5:Int,z5=z:=⟨_,rfl⟩;subst mJ;have q9:(z5 != 0)=true:=by simp [HZ.out]
     have q8:(z5 == 0)=false:=by simp [HZ.out]
     have d4:=HE.out.ds.cell 4 _ rfl;have qy:=aa (jH.out _ ib HE.out.ds.below rfl).2.1;have yM:=aa (jH.out _ ib HE.out.ds.below rfl).2.2.1;go_wp2_with fail
     refine af.Ij 6 (fun i=>108+i) (fun k=>if k=5 then some w.heap.size else none) (fun v=>v.cell? ⟨p,4,none⟩=some (.int .i64 z5)/\Below w.heap.size w v) (fun k v=>k=5->v.heap[w.heap.size]?=some (.cells ib 33 (0,0))) (yE p w.heap.size z5) (by kernel_rfl) (by kernel_rfl) (fun i j h1 h2 h=>by have h':108+i=108+j:=h;omega) (fun i hi=>by
      have hcase:i=0\/i=1\/i=2\/i=3\/i=4\/i=5:=by omega
      rcases hcase with rfl|rfl|rfl|rfl|rfl|rfl
      ·exact ⟨_,rfl,.inl rfl,rfl,show 108+0<114 by decide⟩
      ·exact ⟨_,rfl,.inl rfl,rfl,show 108+1<114 by decide⟩
      ·exact ⟨_,rfl,.inl rfl,rfl,show 108+2<114 by decide⟩
      ·exact ⟨_,rfl,.inl rfl,rfl,show 108+3<114 by decide⟩
      ·exact ⟨_,rfl,.inl rfl,rfl,show 108+4<114 by decide⟩
      ·exact ⟨_,rfl,.inr ⟨rfl,fun v v' w h=>h⟩,rfl,show 108+5<114 by decide⟩) (fun i k v u u2 hi hk hne au hG hg=>Ib hne hG hg) (fun i k u u2 hi hk hne hR hg h5=>Ic hne h5 (hR h5) hg) (fun k u u2 hk au hg=>Ie BH au hg) ?DG ?DJ ?R4 ?R5
     case R4=>exact ⟨aF (CS _ _) d4,Ig qy.out _⟩
     case R5=>exact fun i hi h5=>yM.out
     case DG =>
      intro j o a u hj ho hF au hRR hd;have f5:a.tmps[5]?.getD undef=.pointer (some ⟨p,0,none⟩):=af.av (hF.eval 5 (fun i hi=>by show 108+i≠5;omega));have f2:a.eval (.tmp 2)=.pointer (some ⟨w.heap.size,0,none⟩):=hF.eval 2 (fun i hi=>by show 108+i≠2;omega);have e4:=au.1;have hcase:j=0\/j=1\/j=2\/j=3\/j=4\/j=5:=by omega
      clear hj d4 au;rcases hcase with rfl|rfl|rfl|rfl|rfl|rfl
      all_goals (simp only [List.getElem?_toArray,List.getElem?_cons_succ,List.getElem?_cons_zero,Option.some.injEq] at ho;subst ho;refine af.aR fun K hK=>?_)
      ·go_simp;exact hK _ _ ⟨_,rfl,qG _ _,rfl⟩
      ·go_simp;exact hK _ _ ⟨_,rfl,qG _ _,rfl⟩
      ·have q:a.tmps[109]?.getD undef=.pointer (some ⟨p,0,none⟩):=af.av (hd 1 (by decide));go_simp;exact hK _ _ ⟨_,rfl,qG _ _,rfl⟩
      ·have q:a.tmps[110]?.getD undef=.pointer (some ⟨p,0,none⟩):=af.av (hd 2 (by decide));go_simp;exact hK _ _ ⟨_,rfl,qG _ _,rfl⟩
      ·have q:a.tmps[111]?.getD undef=.pointer (some ⟨p,4,none⟩):=af.av (hd 3 (by decide));go_simp;exact hK _ _ ⟨_,rfl,qG _ _,rfl⟩
      ·have q:a.eval (.tmp 108)=.agg ib:=hd 0 (by decide);have hbl:=hRR rfl;refine wp_store_mid 33 (.tmp 2) (.tmp 108) rfl w.heap.size 0 ib f2 q (vh hbl rfl) nI Ih ?_;exact hK _ _ ⟨undef,rfl,qw w.heap.size ib.toList 0 u,wu hbl rfl rfl⟩
     case DJ =>
      intro a u hF au vL;obtain ⟨xl,hxl,rfl,hev⟩:=hF.lit (by simp);obtain ⟨x0,x1,x2,x3,x4,x5,rfl⟩:=Ia hxl;have e4:x4=.int .i64 z5:=(hev 4 (by decide)).symm.trans (vL 4 (by decide));have g4:u.heap[w.heap.size]?=some (.cells #[.slice none 0 0,.slice none 0 0,.slice none 0 0,.slice none 0 0,.slice none 0 0,.slice none 0 0,.slice none 0 0,.slice none 0 0,.slice none 0 0,.slice none 0 0] 33 (0,0)):=vL 5 (by decide);obtain ⟨z0,z1,z2,z3,z4,D6,z6,z7,z8,z9⟩:=pO g4;have HP:Hid (qj MM w G (.returned (.tuple #[.agg #[.slice none 0 0,.slice none 0 0,.slice none 0 0,.slice none 0 0,.slice none 0 0,.slice none 0 0,.slice none 0 0,.slice none 0 0,.slice none 0 0,.slice none 0 0],.int .i64 z5])) u):=aa (by rw [HG.out];exact ⟨au.2,rfl⟩);subst e4;clear hev hxl hF vL g4 jH HE HG HZ au qy yM;simp only [List.take_succ_cons,List.take_zero,List.drop_succ_cons,List.drop_zero,List.cons_append,List.nil_append];go_wp2;exact bodyPost_ret (v:=.tuple #[.agg #[.slice none 0 0,.slice none 0 0,.slice none 0 0,.slice none 0 0,.slice none 0 0,.slice none 0 0,.slice none 0 0,.slice none 0 0,.slice none 0 0,.slice none 0 0],.int .i64 z5]) (by simp [results,Tryz.results7,go_sem,z0,z1,z2,z3,z4,D6,z6,z7,z8,z9]) rfl HP.out
end Go.Proofs.YtegboefdolfdgaaGreatDoor
