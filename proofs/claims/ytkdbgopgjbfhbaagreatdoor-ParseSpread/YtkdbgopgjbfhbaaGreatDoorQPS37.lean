/- Texts that the claim needs. -/
import Derived.Test.YtkdbgopgjbfhbaaGreatDoorQPS36
import Derived.Test.YtkdbgopgjbfhbaaGreatDoorQPS32
import Derived.Test.YtkdbgopgjbfhbaaGreatDoorQPS33
namespace Go.Proofs.YtkdbgopgjbfhbaaGreatDoor
open Go.RowKit Lx Pz bb
set_option linter.unusedVariables false
namespace Pz
structure PE (w:World) (cs:Array Value) (y x:Int) (u:World):Prop where
 below:Below w.heap.size w u
 b0:u.heap[w.heap.size]?=some (.cells cs 29 (0,0))
 sz:cs.size=8
 b1:u.heap[w.heap.size+1]?=some (.cells #[.int .i64 y] 3 (0,0))
 b2:u.heap[w.heap.size+2]?=some (.cells #[.int .i64 x] 30 (0,0))
def qq (w:World):World:=((w.alloc (.cells dB 29)).alloc (.cells #[.int .i64 0] 3)).alloc (.cells #[.int .i64 0] 30)
theorem Bd (w:World) (o:Obj) {g:Nat} (h:w.heap.size=g):(w.alloc o).heap[g]?=some o:=by rw [<- h];exact heap_alloc_new w o
theorem PE.on {w u u':World} {cs:Array Value} {y x:Int} (h:PE w cs y x u) (hb:Below u.heap.size u u'):PE w cs y x u' :=
 ⟨az h.below hb,by rw [hb.block _ (Array.getElem?_eq_some_iff.1 h.b0).1];exact h.b0,h.sz,by rw [hb.block _ (Array.getElem?_eq_some_iff.1 h.b1).1];exact h.b1,by rw [hb.block _ (Array.getElem?_eq_some_iff.1 h.b2).1];exact h.b2⟩
theorem PE.start (w:World):PE w dB 0 0 (qq w):=by
 have k1:=dh w (.cells dB 29);have k2:=dh (w.alloc (.cells dB 29)) (.cells #[.int .i64 0] 3);have k3:=dh ((w.alloc (.cells dB 29)).alloc (.cells #[.int .i64 0] 3)) (.cells #[.int .i64 0] 30);refine ⟨az (az k1 k2) k3,?_,rfl,?_,Bd _ _ (by simp)⟩
 ·unfold qq;rw [k3.block _ (by simp;omega),k2.block _ (by simp)];exact heap_alloc_new w _
 ·unfold qq;rw [k3.block _ (by simp)];exact Bd _ _ (by simp)
theorem PE.set1 {w u:World} {cs:Array Value} {y x:Int} (h:PE w cs y x u) (y':Int):PE w cs y' x (u.setCell ⟨w.heap.size+1,0,none⟩ (.int .i64 y')) :=
 ⟨h.below.setCell (by show w.heap.size<=w.heap.size+1;omega) _,by rw [Below.heap_setCell _ _ _ _ (by show w.heap.size≠w.heap.size+1;omega)];exact h.b0,h.sz,heap_setCell_same u _ 0 _ _ _ h.b1,by rw [Below.heap_setCell _ _ _ _ (by show w.heap.size+2≠w.heap.size+1;omega)];exact h.b2⟩
theorem PE.set2 {w u:World} {cs:Array Value} {y x:Int} (h:PE w cs y x u) (x':Int):PE w cs y x' (u.setCell ⟨w.heap.size+2,0,none⟩ (.int .i64 x')) :=
 ⟨h.below.setCell (by show w.heap.size<=w.heap.size+2;omega) _,by rw [Below.heap_setCell _ _ _ _ (by show w.heap.size≠w.heap.size+2;omega)];exact h.b0,h.sz,by rw [Below.heap_setCell _ _ _ _ (by show w.heap.size+1≠w.heap.size+2;omega)];exact h.b1,heap_setCell_same u _ 0 _ _ _ h.b2⟩
theorem PE.put {w u:World} {cs:Array Value} {y x:Int} (h:PE w cs y x u) (vs:Array Value) (hv:vs.size=8):∃W,u.setCells w.heap.size 0 vs.toList=W/\u.there w.heap.size 0 vs.size/\PE w vs y x W:=by
 obtain ⟨W,hW,hth,hbk,hoth⟩:=CO u 29 cs vs h.b0 (h.sz.trans hv.symm);refine ⟨W,hW,hth,?_,hbk,hv,(hoth _ (by omega)).trans h.b1,(hoth _ (by omega)).trans h.b2⟩;rw [<- hW];exact mY w.heap.size w.heap.size (Nat.le_refl _) vs.toList 0 w u h.below
theorem PE.catch {w u : World} {cs : Array Value} {y x : Int} (h : PE w cs y x u) (k : Int) : CallsD Tryz.prog 22 #[.pointer (some ⟨w.heap.size, 0, none⟩), .pointer (some ⟨w.heap.size + 1, 0, none⟩), .pointer (some ⟨w.heap.size + 2, 0, none⟩)] (.panicking (Be k)) u fun e u' w' =>
      e = .returned (.tuple #[]) ∧ u' = .panicking ({ v := .iface 48 (.int .i64 k), recovered := true } :: []) ∧ PE w dB k 120 w' := by
  refine (Z5 w.heap.size (w.heap.size + 1) (w.heap.size + 2) cs _ _ k [] u h.b0 h.sz h.b1 h.b2 (by omega) (by omega) (by omega)).mono ?_;rintro e u' w' ⟨he, hu, hw⟩;refine ⟨he, hu, ?_⟩;obtain ⟨W, hW, _, hP⟩ := h.put dB rfl;rw [hw, hW];exact (hP.set1 k).set2 120
end Pz
end Go.Proofs.YtkdbgopgjbfhbaaGreatDoor
namespace Go.Proofs.YtkdbgopgjbfhbaaGreatDoor
open Go.RowKit Lx
set_option linter.unusedVariables false
set_option maxRecDepth 100000
set_option maxHeartbeats 8000000
namespace Lx
def Lu (w:World) (R:List Tk × Int × Int) (e:Ending) (w':World):Prop :=
 ∃v,e=.returned (.tuple #[v,.int .i64 R.2.1,.int .i64 R.2.2])/\w'.ownsRow w.heap.size 47 4 v R.1.length (flat R.1)/\Below w.heap.size w w'
theorem Lv {w w':World} {a z:Int} {R:List Tk × Int × Int} (hR:R=([],a,z)) (hb:Below w.heap.size w w'):Lu w R (.returned (.tuple #[.slice none 0 0,.int .i64 a,.int .i64 z])) w':=by
 subst hR;exact ⟨_,rfl,World.ownsRow_nil _ _ _ _,hb⟩
theorem acA {w w':World} {v:Value} {l:List Tk} {R:List Tk × Int × Int} (hR:R=(l,0,0)) (hb:Below w.heap.size w w') (ho:w'.ownsRow w.heap.size 47 4 v l.length (flat l)):Lu w R (.returned (.tuple #[v,.int .i64 0,.int .i64 0])) w':=by
 subst hR;exact ⟨_,rfl,ho,hb⟩
end Lx
theorem Ll (s:ByteArray) (w:World) (fV:WL w):Calls Tryz.prog 23 #[.string s] w (Lu w (lx s)):=by
 by_cases hbig:8192<s.size
 ·have hR:lx s=([],0,2):=if_pos hbig;have HR:=ae hR;have q0:decide ((s.size:Int) > 8192)=true:=decide_eq_true (by omega);generalize lx s=R at *;clear hR;go_enter Tryz.func23,Tryz.ntmps23;go_wp2;refine bodyPost_ret (results_tmp3 rfl _ _ _) rfl ?_;exact Lv HR.out (Below.refl _ _)
 ·have hR:lx s=dP s s.size (sk s false 0) []:=if_neg hbig;have q0:decide ((s.size:Int) > 8192)=false:=decide_eq_false (by omega);obtain ⟨R,hR'⟩:∃R,R=lx s:=⟨_,rfl⟩;rw [<- hR'] at hR ⊢;have st0:Hid (dP s s.size (sk s false 0) []=R):=ae hR.symm;have hsz:s.size<=8192:=by omega
  have nV:=ae (TV s w);have hsk:=Au s false (Nat.zero_le s.size);have yA:=ae hsz;obtain ⟨i0,hi,hz0,hz1,hz2⟩:=info_parts OM;obtain ⟨p0,hp0⟩:∃p,p=sk s false 0:=⟨_,rfl⟩;rw [<- hp0] at nV st0 hsk;clear hR hR' hp0;go_enter Tryz.func23,Tryz.ntmps23;go_wp2_with fail;refine nV.out.mono ?_;rintro e u0 ⟨rfl,hbg⟩;have TW:=ae hbg;clear hbg;go_wp2_with fail;go_loopw [5,6] (fun tv av w'=>∃(acc:List Tk) (i f:Nat),av=.int .i64 i/\i<=s.size/\w'.ownsRow w.heap.size 47 4 tv acc.length (flat acc)/\Below w.heap.size w w'/\acc.length<=4096/\Hid (s.size<=i+f)/\Hid (dP s f i acc=R)) (fun _ av _=>match av with | .int _ k=>s.size-k.toNat|_=>0)
  case atStart=>exact ⟨[],p0,s.size,rfl,hsk,World.ownsRow_nil _ _ _ _,TW.out,by simp,ae (by omega),st0⟩
  case round =>
   obtain ⟨acc,i,f,rfl,hle,hown,hbel,hlen,hf,hR⟩:=hrel;clear st0 nV hsk TW;by_cases hp:i<s.size
   ·have q1:=aJ s.size i hp yA.out;obtain ⟨g,hg,hst⟩:=Oz s f i acc hp hf.out;rw [hR.out] at hst;obtain ⟨tx,htx⟩:∃t,t=s.extract i s.size:=⟨_,rfl⟩;have GU:0<tx.size/\tx.size<=s.size:=by rw [htx,p9];omega
    have Eg:=I3 s i hp;rw [<- htx] at Eg;have HO:=ae (ZM tx GU.1 (Nat.lt_of_le_of_lt GU.2 (by omega)) (Nat.le_trans GU.2 (by omega)) wr (fV.on hbel));have hsl:s.extract i s.size=tx:=htx.symm;clear GU htx
    obtain ⟨o5,c5,kr⟩:∃o c,u5=.slice o acc.length c:=by
     rcases hown.2 with ⟨h1,h2⟩|⟨g,cap,cur,h1,_⟩
     ·exact ⟨none,0,by rw [h1,h2]⟩
     ·exact ⟨_,_,h1⟩
    cases ho:one tx 0 with
    | error z =>
     rw [Eg,ho] at hst;rw [ho] at HO;obtain ⟨q2,q3⟩:=aN (OO ho);have HR:=ae (show R=([],(i:Int),z) from hst);have HB:=ae hbel;subst kr;clear hst ho Eg hR hf hown hbel hg;go_wp2_with fail;refine Calls.mono (show Calls _ _ _ _ _ from HO.out) ?_;rintro e u ⟨rfl,hb⟩;have HB2:=ae (az HB.out hb);simp only [bQ];clear hb HO;go_wp2;refine bodyPost_ret (results_tmp3 rfl _ _ _) rfl ?_;exact Lv HR.out (HB2.out.alloc (HB2.out.size) _)
    | ok r =>
     obtain ⟨k,x,n,e'⟩:=r;have hoe:one s i=.ok (k,x,n,i+e'):=by rw [Eg,ho];rfl
     obtain ⟨he1,he2⟩:=yp hp hoe;rw [hoe] at hst;rw [ho] at HO;clear Eg;by_cases h4:acc.length=4096
     ·have q2:=aL h4;have HR:=ae (show R=([],(i:Int),3) from by rw [hst];exact if_pos h4);have HB:=ae hbel;subst kr;clear hst ho hoe hR hf hown hbel hg he1 he2;go_wp2_with fail;refine Calls.mono (show Calls _ _ _ _ _ from HO.out) ?_;rintro e u ⟨rfl,hb⟩;have HB2:=ae (az HB.out hb);simp only [bQ];clear hb HO;go_wp2;refine bodyPost_ret (results_tmp3 rfl _ _ _) rfl ?_;exact Lv HR.out (HB2.out.alloc (HB2.out.size) _)
     ·have q2:=aM h4;have HR:=ae (show R=dP s g (sk s false (i+e')) (acc++[⟨k,x,n,i⟩]) from by rw [hst];exact if_neg h4);have HB:=ae hbel;have HOW:=ae hown;obtain ⟨e2,TZ⟩:∃e2,e2=i+e':=⟨_,rfl⟩;obtain ⟨T9,Ua⟩:=aR he2 yA.out;rw [<- TZ] at T9 Ua HR he1 he2;obtain ⟨t2,ht2⟩:∃t,t=s.extract e2 s.size:=⟨_,rfl⟩;have afd:s.extract e2 s.size=t2:=ht2.symm;have nV:=fun (u:World)=>ae (TV t2 u);have hs0:=Fa s false e2;have hs1:=Au s false he2;have hfr:=JR s e2 he2 false;rw [<- ht2] at hfr;obtain ⟨p1,hp1⟩:∃p,p=sk s false e2:=⟨_,rfl⟩;rw [<- hp1] at HR hs0 hs1 hfr;generalize sk t2 false 0=d2 at *;have hwb:wrap64 ((e2:Int)+(d2:Int))=(p1:Int):=by rw [(aR (by rw [hfr];exact hs1) yA.out).1,hfr]
      have acB:(e2:Int)+(d2:Int)=(p1:Int):=by rw [(aR (by rw [hfr];exact hs1) yA.out).2,hfr]
      have afe:=he2;have Ly:=ae (aV hs1 yA.out);have HG:Hid (s.size<=p1+g):=ae (aS2 hf.out hg hs0 he1);have HL:Hid (acc.length+1<=4096):=ae (by omega);have HE:Hid (e2<=p1/\p1<=s.size/\i<e2):=ae ⟨hs0,hs1,he1⟩;clear hst ho hoe hR hf hown hbel hg hp1 hs0 hs1 he1 he2 hlen hfr ht2 TZ;subst kr;go_wp2_with fail;refine Calls.mono (show Calls _ _ _ _ _ from HO.out) ?_;rintro e u ⟨rfl,hb⟩;have HB2:=ae (az HB.out hb);have fJ:=ae (I9 HOW.out hb);simp only [bQ];clear hb HO HOW HB;go_wp2_with (first|(at_builtin;refine wpList_append_own _ rfl _ _ 41 rfl w.heap.size 47 i0 _ 4 40 Tryz.underlying41 hi hz0 hz1 hz2 rfl (by decide) _ acc.length (flat acc) rfl ((fJ.out.alloc _).alloc _) ⟨u.heap.size+1,0,none⟩ 1 1 [.int .i64 k,.string x,.int .i64 n,.int .i64 i] rfl rfl ?c1 ?c2 ?c3 ?c4 ?c5 ?c6))
      case c1=>exact OP _ _ (by simp) _ _ _ _ _
      case c2=>exact OQ k x n i
      case c3=>exact (aP _ HL.out).1
      case c4=>exact (aP _ HL.out).2
      case c5=>exact aQ HB2.out _ _
      case c6 =>
       intro v' w9 hown' hgr _;have aW:=ae (OU HB2.out fJ.out _ _ hgr);have Fb:=ae (OT hown');clear hown' hgr HB2 fJ;go_wp2_with fail;refine (nV _).out.mono ?_;rintro e u9 ⟨rfl,LA⟩;have fD:=ae (az aW.out LA);have HO4:=ae (I9 Fb.out LA);clear nV LA aW Fb;go_wp2;go_roundw
       case rel=>exact ⟨acc++[⟨k,x,n,i⟩],p1,g,congrArg (Value.int .i64) Ly.out,HE.out.2.1,HO4.out,fD.out,by rw [List.length_append];exact HL.out,HG,ae HR.out.symm⟩
       case measure=>clear T9 Ua hwb acB;have h1:=HE.out;simp only [Ly.out];clear Ly;simp;omega
   ·have q1:=aK s.size i hp;have HR:=ae (hR.out.symm.trans (vJ s f i acc hp));have HOW:=ae hown;have HB:=ae hbel;clear hR hf hown hbel;go_wp2;refine bodyPost_ret (results_tmp3 rfl _ _ _) rfl ?_;exact acA HR.out HB.out HOW.out
end Go.Proofs.YtkdbgopgjbfhbaaGreatDoor
namespace Go.Proofs.YtkdbgopgjbfhbaaGreatDoor
open Go.RowKit Lx Pz bb
set_option linter.unusedVariables false
set_option maxRecDepth 100000
set_option maxHeartbeats 4000000
namespace Pz
theorem acu {u t:World} {B:Nat} {e:TypeId} {v:Value} {l:List Tk} (h:u.ownsRow B e 4 v l.length (flat l)) (ht:∀k,B<=k->t.heap[k]?=u.heap[k]?):lq t v l:=by
 rcases CL h with ⟨h1,h2⟩|⟨g,cap,rfl,hc⟩
 ·exact .inl ⟨h1,h2⟩
 ·exact .inr ⟨g,cap,rfl,fun i x hi j y hj=>(World.cell?_of_block (ht g (h.lt g rfl).1)).trans (hc i x hi j y hj)⟩
theorem TL {w u t:World} {cs:Array Value} {a:Int} {B:Nat} {e:TypeId} {v:Value} {L:List Tk} (hB:w.heap.size+3<=B) (h:u.ownsRow B e 4 v L.length (flat L)) (hl:L.length<=4096) (en:Int) (ht:t=(u.setCell ⟨w.heap.size+1,0,none⟩ (.int .i64 a)).setCell ⟨w.heap.size+2,0,none⟩ (.int .i64 0)) :
  PR t t.heap.size L v en 0 (t.alloc (.cells #[v,.int .i64 0,.int .i64 en] 54)):=by
 have hsz:t.heap.size=u.heap.size:=by rw [ht];simp
 have ha:lq t v L:=acu h (fun k hk=>by rw [ht,Below.heap_setCell _ _ _ _ (by show k≠w.heap.size+2;omega),Below.heap_setCell _ _ _ _ (by show k≠w.heap.size+1;omega)]);exact ⟨dh t _,Nat.le_refl _,heap_alloc_new t _,Nat.zero_le _,ha.on (dh t _),hl,fun g o n c hv=>by subst hv;rw [hsz];exact (h.lt g rfl).2⟩
end Pz
theorem acv (s:ByteArray) (w:World) (fV:WL w) (z:Int) (h0:(lx s).2.2=0) (hz:kz (lx s).1 s.size=.error z):Calls Tryz.prog 10 #[.string s] w fun e w'=>e=.returned (.tuple #[.agg dB,.int .i64 z,.int .i64 120])/\Below w.heap.size w w':=by
 have H0:=ae (PE.start w);have TM:∀(fn:Fn) (first cap:Array Value) (w:World),(Instr.makeFunc fn first cap).run Tryz.prog w=.ok (.func fn first cap) w:=fun _ _ _ _=>rfl;have jw:=ae (Ll s (qq w) (fV.on (PE.start w).below));have HG:=ae (OY s);have ve:=ae (Tg s);have HZ:=ae hz;obtain ⟨⟨L,cK,er⟩,hL⟩:∃R,R=lx s:=⟨_,rfl⟩;rw [<- hL] at jw HG ve HZ h0
 change er=0 at h0
 subst h0;clear hL hz fV
 go_enter_defers Tryz.func10,Tryz.ntmps10
 go_upto_region 2 with fail;obtain ⟨wb,hwb⟩:∃wb,wb=qq w:=⟨_,rfl⟩;rw [<- hwb] at H0 jw;have rY:=hwb;unfold qq at rY;rw [<- rY];clear hwb rY;go_wp2_with fail;refine jw.out.mono ?_;rintro e u ⟨v,rfl,hown,hb⟩;obtain ⟨oV,cV,rfl⟩:=DR (CL hown);have H1:=ae (H0.out.on hb);have HOW:=ae hown;have c1:=af H1.out.b1 0 _ rfl;have c2:=af H1.out.b2 0 _ rfl;have f1:u.frozen? ⟨w.heap.size+1,0,none⟩=false:=by unfold World.frozen?;rw [H1.out.b1];simp
 have f2:u.frozen? ⟨w.heap.size+2,0,none⟩=false:=by unfold World.frozen?;rw [H1.out.b2];simp
 clear hown hb jw;go_upto_region 3 with fail;obtain ⟨t1,ht1⟩:∃t1,t1=(u.setCell ⟨w.heap.size+1,0,none⟩ (.int .i64 cK)).setCell ⟨w.heap.size+2,0,none⟩ (.int .i64 0):=⟨_,rfl⟩;have P1:Hid (PE w dB cK 0 t1):=ae (by rw [ht1];exact (H1.out.set1 cK).set2 0);have Ef:w.heap.size+3<=wb.heap.size:=(Array.getElem?_eq_some_iff.1 H0.out.b2).1;have R1:=ae (TL (cs:=dB) Ef HOW.out ve.out (s.size:Int) ht1);have d2:=af P1.out.b2 0 _ rfl;have HC:=ae (Tz HG.out _ R1.out);rw [HZ.out] at HC;rw [<- ht1];clear ht1 H1 c1 c2 f1 f2 HOW HZ Ef HG ve H0 R1;go_wp2_with fail;refine HC.out.mono ?_;rintro e u3 ⟨rfl,hb3⟩;have P3:=ae (P1.out.on hb3);clear hb3 HC P1 d2;go_wp2_with fail;refine leaves_cons (f:=22) (args:=#[.pointer (some ⟨w.heap.size,0,none⟩),.pointer (some ⟨w.heap.size+1,0,none⟩),.pointer (some ⟨w.heap.size+2,0,none⟩)]) (by simp) (by simp [go_sem]) ?_;refine (P3.out.catch z).mono ?_;rintro e u' w9 ⟨rfl,rfl,gN⟩;have z0:=af gN.b0 0 _ rfl;have z1:=af gN.b0 1 _ rfl;have z2:=af gN.b0 2 _ rfl;have z3:=af gN.b0 3 _ rfl;have z4:=af gN.b0 4 _ rfl;have z5:=af gN.b0 5 _ rfl;have z6:=af gN.b0 6 _ rfl;have z7:=af gN.b0 7 _ rfl;have y1:=af gN.b1 0 _ rfl;have y2:=af gN.b2 0 _ rfl;simp [Leaves,settle,results,Tryz.results10,go_sem,z0,z1,z2,z3,z4,z5,z6,z7,y1,y2];exact gN.below
namespace Pz
theorem JZ {B:Nat} {t u z:Value} {k n a:Int} {x y:ByteArray} {w:World} (h:aY B t (.agg #[.int .i64 k,.string x,.string y,.int .i64 n,u,z,.int .i64 a]) w):u.oneCell'=true/\z.oneCell'=true:=by
 obtain ⟨d,k',x',y',n',es,ps,a',u',z',h0,h1,h2,h3⟩:=h;obtain ⟨o,c,rfl,_⟩:=cF h2;obtain ⟨o',c',rfl,_⟩:=cF h3;injection h1 with h1;have e1:=congrArg (fun l:Array Value=>l[4]?) h1;have e2:=congrArg (fun l:Array Value=>l[5]?) h1;simp at e1 e2;subst e1 e2;exact ⟨rfl,rfl⟩
theorem aY.tq {B:Nat} {t v:Value} {w w':World} (h:aY B t v w) (hb:bT B w w'):aY B t v w':=by
 obtain ⟨d,hd⟩:=h;exact ⟨d,hd.but hb⟩
theorem ny.tq {B:Nat} {r:List Value × Value} {v:Value} {w w':World} (h:ny B r v w) (hb:bT B w w'):ny B r v w':=by
 obtain ⟨u,k,x,y,n,vu,vz,a,h0,h1,h2⟩:=h;exact ⟨u,k,x,y,n,vu,vz,a,h0,h1.on hb (Nat.le_refl _),h2.tq hb⟩
theorem ny.low {B C:Nat} {r:List Value × Value} {v:Value} {w:World} (h:ny B r v w) (hc:C<=B):ny C r v w:=by
 obtain ⟨u,k,x,y,n,vu,vz,a,h0,h1,d,h2⟩:=h;exact ⟨u,k,x,y,n,vu,vz,a,h0,h1.on (fun _ _ _=>rfl) hc,d,h2.lo hc⟩
theorem PE.Hz {w u:World} {cs:Array Value} {y x:Int} (h:PE w cs y x u) (vs:Array Value) (hv:vs.size=8):∃W,u.setCells w.heap.size 0 vs.toList=W/\u.there w.heap.size 0 vs.size/\PE w vs y x W/\(∀m,m≠w.heap.size->W.heap[m]?=u.heap[m]?)/\u.heap.size<=W.heap.size:=by
 obtain ⟨W,h1,h2,h3⟩:=h.put vs hv;exact ⟨W,h1,h2,h3,fun m hm=>by rw [<- h1];exact vY _ m hm _ 0 u,by rw [<- h1];exact (mY 0 _ (Nat.zero_le _) vs.toList 0 u u (Below.refl _ u)).size⟩
theorem PE.Hb {w u:World} {cs:Array Value} {y x:Int} (h:PE w cs y x u):u.frozen? ⟨w.heap.size+1,0,none⟩=false:=by unfold World.frozen?;rw [h.b1];simp
theorem PE.Hd {w u:World} {cs:Array Value} {y x:Int} (h:PE w cs y x u):u.frozen? ⟨w.heap.size+2,0,none⟩=false:=by unfold World.frozen?;rw [h.b2];simp
def Ha (w:World) (R:Except (Int × Int) (List Value × Value)) (e:Ending) (w':World):Prop:=Below w.heap.size w w'/\match R with
 | .error (a,z)=>e=.returned (.tuple #[.agg dB,.int .i64 a,.int .i64 z])
 | .ok r=>∃v,e=.returned (.tuple #[v,.int .i64 0,.int .i64 0])/\ny w.heap.size r v w'
def ni (d:Nat) (ds:List Value) (t:Value):Except (Int × Int) (List Value × Value):=if kS d ds t=true then .error (0,3) else if oo 256 ds t=true then .error (0,4) else .ok (ds,t)
theorem PE.VJ {w u u':World} (h:∀m,m≠w.heap.size->u'.heap[m]?=u.heap[m]?) {B:Nat} (hB:w.heap.size<B):bT B u u':=fun k hk hl=>h k (by omega)
theorem VK (u:World) (b j:Nat) (v:Value) {B:Nat} (hB:b<B):bT B u (u.setCell ⟨b,j,none⟩ v):=fun k hk hl=>Below.heap_setCell u ⟨b,j,none⟩ v k (by show k≠b;omega)
end Pz
theorem aep (s:ByteArray) (w:World) (fV:WL w) (ds:List Value) (t:Value) (j:Nat) (h0:(lx s).2.2=0) (hz:kz (lx s).1 s.size=.ok ((ds,t),j)):Calls Tryz.prog 10 #[.string s] w fun e w'=>∃d,fit d t/\Ha w (ni d ds t) e w':=by
 have H0:=ae (PE.start w);have TM:∀(fn:Fn) (first cap:Array Value) (w:World),(Instr.makeFunc fn first cap).run Tryz.prog w=.ok (.func fn first cap) w:=fun _ _ _ _=>rfl;have jw:=ae (Ll s (qq w) (fV.on (PE.start w).below));have HG:=ae (OY s);have ve:=ae (Tg s);have HZ:=ae hz;obtain ⟨⟨L,cK,er⟩,hL⟩:∃R,R=lx s:=⟨_,rfl⟩;rw [<- hL] at jw HG ve HZ h0
 change er=0 at h0
 subst h0;clear hL hz fV
 go_enter_defers Tryz.func10,Tryz.ntmps10
 go_upto_region 2 with fail;obtain ⟨wb,hwb⟩:∃wb,wb=qq w:=⟨_,rfl⟩;rw [<- hwb] at H0 jw;have rY:=hwb;unfold qq at rY;rw [<- rY];clear hwb rY;go_wp2_with fail;refine jw.out.mono ?_;rintro e u ⟨v,rfl,hown,hb⟩;obtain ⟨oV,cV,rfl⟩:=DR (CL hown);have H1:=ae (H0.out.on hb);have HOW:=ae hown;have c1:=af H1.out.b1 0 _ rfl;have c2:=af H1.out.b2 0 _ rfl;have f1:u.frozen? ⟨w.heap.size+1,0,none⟩=false:=by unfold World.frozen?;rw [H1.out.b1];simp
 have f2:u.frozen? ⟨w.heap.size+2,0,none⟩=false:=by unfold World.frozen?;rw [H1.out.b2];simp
 clear hown hb jw;go_upto_region 3 with fail;obtain ⟨t1,ht1⟩:∃t1,t1=(u.setCell ⟨w.heap.size+1,0,none⟩ (.int .i64 cK)).setCell ⟨w.heap.size+2,0,none⟩ (.int .i64 0):=⟨_,rfl⟩;have P1:Hid (PE w dB cK 0 t1):=ae (by rw [ht1];exact (H1.out.set1 cK).set2 0);have Ef:w.heap.size+3<=wb.heap.size:=(Array.getElem?_eq_some_iff.1 H0.out.b2).1;have R1:=ae (TL (cs:=dB) Ef HOW.out ve.out (s.size:Int) ht1);have d2:=af P1.out.b2 0 _ rfl;have HC:=ae (Tz HG.out _ R1.out);rw [HZ.out] at HC;have hlt1:w.heap.size<t1.heap.size:=(Array.getElem?_eq_some_iff.1 P1.out.b0).1;have hlt2:w.heap.size+2<t1.heap.size:=(Array.getElem?_eq_some_iff.1 P1.out.b2).1;have hsz:(t1.alloc (.cells #[.slice oV L.length cV,.int .i64 0,.int .i64 (s.size:Int)] 54)).heap.size=t1.heap.size+1:=by simp
 rw [hsz] at HC;have kv:=ae hlt2;rw [<- ht1];clear ht1 H1 c1 c2 f1 f2 HOW HZ Ef HG ve H0 R1 hsz hlt1 hlt2;go_wp2_with fail;refine HC.out.mono ?_;rintro e u3 ⟨⟨v9,rfl,hpr⟩,Bv,-⟩;have VL:=hpr;obtain ⟨u0,k0,x0,y0,n0,BN,BO,a0,rfl,hD,hM⟩:=hpr;obtain ⟨q1,q2⟩:=JZ hM;have q0:u0.oneCell'=true:=by obtain ⟨oD,cD,rfl,_⟩:=cF hD;rfl
 have P3:=ae (P1.out.on Bv.below);obtain ⟨W,hW,hth,ze,hoth,-⟩:=P3.out.Hz #[u0,.int .i64 k0,.string x0,.string y0,.int .i64 n0,BN,BO,.int .i64 a0] rfl;have hab:bT (t1.heap.size+1) u3 W:=PE.VJ hoth (by have:=kv.out;omega);have VM:=ae hth;have HW1:=ae hW;have wK:=ae (VL.tq hab);have PA:=ae ze;clear VL hD hM Bv P1 d2 HC hth hW hoth hab ze P3;have g0:=af PA.out.b0 0 _ rfl;have g1:=af PA.out.b0 1 _ rfl;have g2:=af PA.out.b0 2 _ rfl;have g3:=af PA.out.b0 3 _ rfl;have g4:=af PA.out.b0 4 _ rfl;have g5:=af PA.out.b0 5 _ rfl;have g6:=af PA.out.b0 6 _ rfl;have g7:=af PA.out.b0 7 _ rfl;obtain ⟨u9,k9,x9,y9,n9,vu9,vz9,a9,bD,hD,dd,hM⟩:=wK.out;injection bD with bD;simp only [Array.mk.injEq,List.cons.injEq,Value.int.injEq,Value.string.injEq,true_and,and_true] at bD;obtain ⟨rfl,rfl,rfl,rfl,rfl,rfl,rfl,rfl⟩:=bD;have HF:=ae hM.fit;have VN:=ae (abH dd ds t u0 BN BO k0 n0 a0 x0 y0 W (hD.on (fun _ _ _=>rfl) (Nat.zero_le _)) (hM.lo (Nat.zero_le _)));clear hD hM;go_wp2_with (refine wpList_store_mid rfl 29 (.tmp 2) (.tmp 25) rfl w.heap.size 0 #[u0,.int .i64 k0,.string x0,.string y0,.int .i64 n0,BN,BO,.int .i64 a0] rfl rfl VM.out qm (by simp [Value.oneCell'] at q0 q1 q2 ⊢;exact ⟨q0,q1,q2⟩) ?_;rw [HW1.out]);clear VM HW1;refine Calls.mono (show Calls _ _ _ _ _ from VN.out) ?_;rintro e u4 ⟨rfl,hb4⟩;have P4:=ae (PA.out.on hb4);have MN:=ae (wK.out.tq (bT.of hb4));clear hb4 VN PA wK g0 g1 g2 g3 g4 g5 g6 g7;have g0:=af P4.out.b0 0 _ rfl;have g1:=af P4.out.b0 1 _ rfl;have g2:=af P4.out.b0 2 _ rfl;have g3:=af P4.out.b0 3 _ rfl;have g4:=af P4.out.b0 4 _ rfl;have g5:=af P4.out.b0 5 _ rfl;have g6:=af P4.out.b0 6 _ rfl;have g7:=af P4.out.b0 7 _ rfl;cases hT:kS dd ds t with
 | true =>
  have jw:=ae (show ni dd ds t=.error (0,3) by unfold ni;rw [if_pos hT]);clear hT;obtain ⟨W9,xO,xP,gN,xQ,xR⟩:=P4.out.Hz dB rfl;have Ae:=ae xP;have Ad:=ae xO;have c1:=af gN.b1 0 _ rfl;have c2:=af gN.b2 0 _ rfl;have f1:=gN.Hb;have f2:=gN.Hd;have Ex:=ae gN;have uZ:=ae xQ;have MO:=ae xR;clear xO xP gN xQ xR;go_wp2_with (refine wpList_store_mid rfl 29 (.tmp 2) (.tmp 29) rfl w.heap.size 0 dB rfl rfl Ae.out qm (by simp [Value.oneCell']) ?_;rw [Ad.out]);refine leaves_cons (f:=22) (args:=#[.pointer (some ⟨w.heap.size,0,none⟩),.pointer (some ⟨w.heap.size+1,0,none⟩),.pointer (some ⟨w.heap.size+2,0,none⟩)]) (by simp) (by simp [go_sem]) ?_;refine (Fe w.heap.size (w.heap.size+1) (w.heap.size+2) _).mono ?_;rintro e u' w9 ⟨rfl,rfl,rfl⟩;have eF:PE w dB 0 3 ((W9.setCell ⟨w.heap.size+1,0,none⟩ (.int .i64 0)).setCell ⟨w.heap.size+2,0,none⟩ (.int .i64 3)):=(Ex.out.set1 0).set2 3;generalize MP:((W9.setCell ⟨w.heap.size+1,0,none⟩ (.int .i64 0)).setCell ⟨w.heap.size+2,0,none⟩ (.int .i64 3))=WX at *;clear c1 c2 f1 f2;have z0:=af eF.b0 0 _ rfl;have z1:=af eF.b0 1 _ rfl;have z2:=af eF.b0 2 _ rfl;have z3:=af eF.b0 3 _ rfl;have z4:=af eF.b0 4 _ rfl;have z5:=af eF.b0 5 _ rfl;have z6:=af eF.b0 6 _ rfl;have z7:=af eF.b0 7 _ rfl;have qi:=af eF.b1 0 _ rfl;have Ac:=af eF.b2 0 _ rfl;simp [Leaves,settle,results,Tryz.results10,go_sem,z0,z1,z2,z3,z4,z5,z6,z7,qi,Ac];exact ⟨dd,HF.out,eF.below,by rw [jw.out]⟩
 | false =>
  have VO:=ae (acs ds t _ u4 (MN.out.low (Nat.zero_le _)));go_wp2_with fail;refine Calls.mono (show Calls _ _ _ _ _ from VO.out) ?_;rintro e u5 ⟨rfl,hb5⟩;have P5:=ae (P4.out.on hb5);have aev:=ae (MN.out.tq (bT.of hb5));clear hb5 VO P4 MN g0 g1 g2 g3 g4 g5 g6 g7;have g0:=af P5.out.b0 0 _ rfl;have g1:=af P5.out.b0 1 _ rfl;have g2:=af P5.out.b0 2 _ rfl;have g3:=af P5.out.b0 3 _ rfl;have g4:=af P5.out.b0 4 _ rfl;have g5:=af P5.out.b0 5 _ rfl;have g6:=af P5.out.b0 6 _ rfl;have g7:=af P5.out.b0 7 _ rfl;cases hP:oo 256 ds t with
  | true =>
   have jw:=ae (show ni dd ds t=.error (0,4) by unfold ni;rw [if_neg (by rw [hT];simp),if_pos hP]);clear hT hP;obtain ⟨W9,xO,xP,gN,xQ,xR⟩:=P5.out.Hz dB rfl;have Ae:=ae xP;have Ad:=ae xO;have c1:=af gN.b1 0 _ rfl;have c2:=af gN.b2 0 _ rfl;have f1:=gN.Hb;have f2:=gN.Hd;have Ex:=ae gN;have uZ:=ae xQ;have MO:=ae xR;clear xO xP gN xQ xR;go_wp2_with (refine wpList_store_mid rfl 29 (.tmp 2) (.tmp 33) rfl w.heap.size 0 dB rfl rfl Ae.out qm (by simp [Value.oneCell']) ?_;rw [Ad.out]);refine leaves_cons (f:=22) (args:=#[.pointer (some ⟨w.heap.size,0,none⟩),.pointer (some ⟨w.heap.size+1,0,none⟩),.pointer (some ⟨w.heap.size+2,0,none⟩)]) (by simp) (by simp [go_sem]) ?_;refine (Fe w.heap.size (w.heap.size+1) (w.heap.size+2) _).mono ?_;rintro e u' w9 ⟨rfl,rfl,rfl⟩;have eF:PE w dB 0 4 ((W9.setCell ⟨w.heap.size+1,0,none⟩ (.int .i64 0)).setCell ⟨w.heap.size+2,0,none⟩ (.int .i64 4)):=(Ex.out.set1 0).set2 4;generalize MP:((W9.setCell ⟨w.heap.size+1,0,none⟩ (.int .i64 0)).setCell ⟨w.heap.size+2,0,none⟩ (.int .i64 4))=WX at *;clear c1 c2 f1 f2;have z0:=af eF.b0 0 _ rfl;have z1:=af eF.b0 1 _ rfl;have z2:=af eF.b0 2 _ rfl;have z3:=af eF.b0 3 _ rfl;have z4:=af eF.b0 4 _ rfl;have z5:=af eF.b0 5 _ rfl;have z6:=af eF.b0 6 _ rfl;have z7:=af eF.b0 7 _ rfl;have qi:=af eF.b1 0 _ rfl;have Ac:=af eF.b2 0 _ rfl;simp [Leaves,settle,results,Tryz.results10,go_sem,z0,z1,z2,z3,z4,z5,z6,z7,qi,Ac];exact ⟨dd,HF.out,eF.below,by rw [jw.out]⟩
  | false =>
   have jw:=ae (show ni dd ds t=.ok (ds,t) by unfold ni;rw [if_neg (by rw [hT];simp),if_neg (by rw [hP];simp)]);clear hT hP;obtain ⟨W9,xO,xP,gN,xQ,xR⟩:=P5.out.Hz #[u0,.int .i64 k0,.string x0,.string y0,.int .i64 n0,BN,BO,.int .i64 a0] rfl;have Ae:=ae xP;have Ad:=ae xO;have c1:=af gN.b1 0 _ rfl;have c2:=af gN.b2 0 _ rfl;have f1:=gN.Hb;have f2:=gN.Hd;have Ex:=ae gN;have uZ:=ae xQ;have MO:=ae xR;clear xO xP gN xQ xR;go_wp2_with (refine wpList_store_mid rfl 29 (.tmp 2) (.tmp 34) rfl w.heap.size 0 #[u0,.int .i64 k0,.string x0,.string y0,.int .i64 n0,BN,BO,.int .i64 a0] rfl rfl Ae.out qm (by simp [Value.oneCell'] at q0 q1 q2 ⊢;exact ⟨q0,q1,q2⟩) ?_;rw [Ad.out]);refine leaves_cons (f:=22) (args:=#[.pointer (some ⟨w.heap.size,0,none⟩),.pointer (some ⟨w.heap.size+1,0,none⟩),.pointer (some ⟨w.heap.size+2,0,none⟩)]) (by simp) (by simp [go_sem]) ?_;refine (Fe w.heap.size (w.heap.size+1) (w.heap.size+2) _).mono ?_;rintro e u' w9 ⟨rfl,rfl,rfl⟩;have eF:PE w #[u0,.int .i64 k0,.string x0,.string y0,.int .i64 n0,BN,BO,.int .i64 a0] 0 0 ((W9.setCell ⟨w.heap.size+1,0,none⟩ (.int .i64 0)).setCell ⟨w.heap.size+2,0,none⟩ (.int .i64 0)):=(Ex.out.set1 0).set2 0;generalize MP:((W9.setCell ⟨w.heap.size+1,0,none⟩ (.int .i64 0)).setCell ⟨w.heap.size+2,0,none⟩ (.int .i64 0))=WX at *;clear c1 c2 f1 f2;have z0:=af eF.b0 0 _ rfl;have z1:=af eF.b0 1 _ rfl;have z2:=af eF.b0 2 _ rfl;have z3:=af eF.b0 3 _ rfl;have z4:=af eF.b0 4 _ rfl;have z5:=af eF.b0 5 _ rfl;have z6:=af eF.b0 6 _ rfl;have z7:=af eF.b0 7 _ rfl;have qi:=af eF.b1 0 _ rfl;have Ac:=af eF.b2 0 _ rfl;simp [Leaves,settle,results,Tryz.results10,go_sem,z0,z1,z2,z3,z4,z5,z6,z7,qi,Ac]
   have hab:bT (t1.heap.size+1) u5 WX:=by
    have hl:=kv.out;have hz:=MO.out;rw [<- MP];exact bT.trans (PE.VJ uZ.out (by omega)) hz (bT.trans (VK _ _ _ _ (by omega)) (by simp) (VK _ _ _ _ (by omega)))
   refine ⟨dd,HF.out,eF.below,?_⟩;rw [jw.out];exact ⟨_,rfl,(aev.out.tq hab).low (by have:=kv.out;omega)⟩
namespace Pz
def sQ (pl:Bool) (a b:Value):Bool:=(jG a == jG b) && (decide (wy a=wy b) && (decide (Fu a=Fu b) && ((uB a == uB b) && (!pl || (ju a == ju b)))))
def fS (pl:Bool):Nat->List Value->List Value->Bool
 | 0,l,k=>dF (fun _ _=>false) l k
 | d+1,l,k=>dF (fun a b=>sQ pl a b && (fS pl d (dw a) (dw b) && fS pl d (iH a) (iH b))) l k
def sm (pl:Bool) (d:Nat) (a b:Value):Bool:=sQ pl a b && (fS pl d (dw a) (dw b) && fS pl d (iH a) (iH b))
theorem Ao (pl:Bool) (d:Nat) (l k:List Value):fS pl (d+1) l k=dF (sm pl d) l k:=rfl
def mi:Nat->List Value->Prop
 | 0,l=>l = []
 | d+1,l=>∀x ∈ l,fit d x
theorem CJ:∀ {d:Nat} {t:Value},fit d t->mi d (dw t)/\mi d (iH t)
 | 0,t,h=>⟨h.2.1,h.2.2⟩
 | d+1,t,h=>⟨h.2.1,h.2.2⟩
def mW (d:Nat) (a b:Value):Bool:=decide (wz a=wz b) && fS false d (yh a) (yh b)
def Ju (d:Nat) (c:Value):Prop:=mi d (yh c)
def wB (d:Nat) (c:Value):Prop:=∀x ∈ uh c,Ju d x
theorem str_eq (x y:ByteArray):(x.toList == y.toList)=decide (x=y):=by
 rw [ByteArray.toList_eq,ByteArray.toList_eq];by_cases he:x=y
 ·subst he;simp
 ·rw [decide_eq_false he,beq_eq_false_iff_ne];exact fun e=>he (ByteArray.ext (Array.toList_inj.1 e))
theorem PO (ps:List ByteArray):(ps.map Value.string).map wC=ps:=by
 rw [List.map_map];exact List.map_id' ps
end Pz
namespace Pz
theorem Yo (pl:Bool) (a:Value):sQ pl a a=true:=by unfold sQ;simp
theorem Fp {α:Type} {f:α->α->Bool}:∀ {l:List α},(∀a ∈ l,f a a=true)->dF f l l=true
 | [],_=>rfl
 | a :: l,h=>by unfold dF;rw [h a (List.Mem.head _),Fp (fun b hb=>h b (List.Mem.tail _ hb))];rfl
theorem Jm (pl:Bool):∀(d:Nat) (l:List Value),mi d l->fS pl d l l=true
 | 0,l,h=>by have h':l = []:=h;subst h';rfl
 | d+1,l,h=>by
  refine Fp fun a ha=>?_;obtain ⟨h1,h2⟩:=CJ (h a ha);rw [Yo,Jm pl d _ h1,Jm pl d _ h2];rfl
end Pz
namespace Pz
def l2 {α β:Type} (P:α->β->Prop):List α->List β->Prop
 | [],[]=>True
 | a :: l,b :: k=>P a b/\l2 P l k
 | _,_=>False
section
variable {α β:Type} {P Q:α->β->Prop}
theorem SY:∀ {l:List α} {k:List β} {l':List α} {k':List β},l2 P l k->l2 P l' k'->l2 P (l++l') (k++k')
 | [],[],_,_,_,h=>h
 | a :: l,b :: k,_,_,h,h'=>⟨h.1,SY h.2 h'⟩
 | [],_ :: _,_,_,h,_=>h.elim
 | _ :: _,[],_,_,h,_=>h.elim
theorem xA (hm:∀a b,P a b->Q a b):∀ {l:List α} {k:List β},l2 P l k->l2 Q l k
 | [],[],_=>trivial
 | a :: l,b :: k,h=>⟨hm a b h.1,xA hm h.2⟩
 | [],_ :: _,h=>h.elim
 | _ :: _,[],h=>h.elim
theorem GJ {l:List α} {k:List β} {a:α} {b:β} (h:l2 P l k) (h':P a b):l2 P (l++[a]) (k++[b]):=SY h ⟨h',trivial⟩
theorem SZ:l2 P [] []:=trivial
theorem S5 {a a':α} {b b':β} (h:P a b) (h':P a' b'):l2 P [a,a'] [b,b']:=⟨h,h',trivial⟩
end
theorem K4 {α:Type}:∀ {l k:List α},l2 (fun a b=>a=b) l k->l=k
 | [],[],_=>rfl
 | a :: l,b :: k,h=>by rw [h.1,K4 h.2]
 | [],_ :: _,h=>h.elim
 | _ :: _,[],h=>h.elim
def lk (Pl:Int->Int->Prop):Nat->Value->Value->Prop
 | 0,_,_=>False
 | d+1,a,b=>∃k x y n es ps es' ps' u v,a=nd k x y n es ps u/\b=nd k x y n es' ps' v/\Pl u v/\l2 (fun p q=>lk Pl d p q) es es'/\l2 (fun p q=>lk Pl d p q) ps ps'
section
variable {Pl:Int->Int->Prop}
theorem K5:∀(d:Nat) (a b:Value),lk Pl d a b->lk Pl (d+1) a b
 | 0,_,_,h=>h.elim
 | d+1,a,b,⟨k,x,y,n,es,ps,es',ps',u,v,h1,h2,hp,h3,h4⟩=>⟨k,x,y,n,es,ps,es',ps',u,v,h1,h2,hp,xA (fun p q h=>K5 d p q h) h3,xA (fun p q h=>K5 d p q h) h4⟩
theorem GL {d e:Nat} (h:d<=e) {a b:Value} (hl:lk Pl d a b):lk Pl e a b:=by
 induction h with
 | refl=>exact hl
 | step _ ih=>exact K5 _ _ _ ih
end
def AL (Pl:Int->Int->Prop) (a b:Value):Prop:=∃d,lk Pl d a b
section
variable {Pl:Int->Int->Prop}
theorem K6:∀ {l k:List Value},l2 (AL Pl) l k->∃d,l2 (fun p q=>lk Pl d p q) l k
 | [],[],_=>⟨0,trivial⟩
 | a :: l,b :: k,⟨⟨d,hd⟩,h⟩=>by
  obtain ⟨e,he⟩:=K6 h;exact ⟨max d e,GL (Nat.le_max_left d e) hd,xA (fun p q h=>GL (Nat.le_max_right d e) h) he⟩
 | [],_ :: _,h=>h.elim
 | _ :: _,[],h=>h.elim
theorem AL.nd {k:Int} {x y:ByteArray} {n:Int} {es ps es' ps':List Value} {u v:Int} (hp:Pl u v) (h:l2 (AL Pl) es es') (h':l2 (AL Pl) ps ps'):AL Pl (nd k x y n es ps u) (nd k x y n es' ps' v):=by
 obtain ⟨d,hd⟩:=K6 h;obtain ⟨e,he⟩:=K6 h';exact ⟨max d e+1,k,x,y,n,es,ps,es',ps',u,v,rfl,rfl,hp,xA (fun p q h=>GL (Nat.le_max_left d e) h) hd,xA (fun p q h=>GL (Nat.le_max_right d e) h) he⟩
theorem AL.leaf {k:Int} {x y:ByteArray} {n:Int} {u v:Int} (hp:Pl u v):AL Pl (Pz.nd k x y n [] [] u) (Pz.nd k x y n [] [] v):=AL.nd hp trivial trivial
theorem AL.at_ {a b:Value} (h:AL Pl a b):Pl (ju a) (ju b):=by
 obtain ⟨d,hd⟩:=h;cases d with
 | zero=>exact hd.elim
 | succ d =>
  obtain ⟨k,x,y,n,es,ps,es',ps',u,v,rfl,rfl,hp,_,_⟩:=hd;exact hp
end
def rV (Pl:Int->Int->Prop) (a b:Value):Prop:=∃x ps cs u v,a=oH x ps cs u/\b=oH x ps cs v/\Pl u v
def Sm {α β:Type} (Q:α->β->Prop) (n k m:Nat) (a:Rd α) (b:Rd β):Prop:=∀x j,a=.ok (x,j)->m<=j/\j<=n/\∃y,b=.ok (y,k+j)/\Q x y
section
variable {α β γ δ:Type} {Q:α->β->Prop} {Q':γ->δ->Prop} {n k m m':Nat}
theorem Sm.er {z:Int} {b:Rd β}:Sm Q n k m (.error z) b:=fun x j h=>by cases h
theorem Sm.ok {x:α} {y:β} {j:Nat} (h1:m<=j) (h2:j<=n) (h:Q x y):Sm Q n k m (.ok (x,j)) (.ok (y,k+j)):=fun x' j' h'=>by
 injection h' with h';injection h' with h3 h4;subst h3;subst h4;exact ⟨h1,h2,y,rfl,h⟩
theorem Sm.lo {a:Rd α} {b:Rd β} (h:Sm Q n k m a b) (hm:m'<=m):Sm Q n k m' a b:=fun x j h'=>by
 obtain ⟨h1,h2⟩:=h x j h';exact ⟨Nat.le_trans hm h1,h2⟩
theorem Sm.cs {a:Rd α} {b:Rd β} (h:Sm Q n k m a b):(∃z,a=.error z)\/∃x y j,a=.ok (x,j)/\b=.ok (y,k+j)/\m<=j/\j<=n/\Q x y:=by
 cases a with
 | error z=>exact .inl ⟨z,rfl⟩
 | ok r =>
  obtain ⟨x,j⟩:=r;obtain ⟨h1,h2,y,hy,hq⟩:=h x j rfl;exact .inr ⟨x,y,j,rfl,hy,h1,h2,hq⟩
end
def pK (Pl:Int->Int->Prop) (t u:Tk):Prop:=(t.k=u.k/\t.x=u.x/\t.n=u.n/\Pl t.a u.a)\/(t.k=0/\(u.k≠1/\u.k≠2/\u.k≠3/\u.k≠4)/\∀s,s≠sR/\s≠tZ->bE u s=false)
section
variable {Pl:Int->Int->Prop} {t u:Tk}
theorem KV {s:ByteArray} (h:t.k=0):bE t s=false:=by unfold bE;rw [h];rfl
theorem S9 {s:ByteArray} (h1:t.k=u.k) (h2:t.x=u.x):bE t s=bE u s:=by unfold bE;rw [h1,h2]
theorem pK.sg (h:pK Pl t u) {s:ByteArray} (hs:s≠sR/\s≠tZ):bE t s=bE u s:=by
 rcases h with h|h
 ·exact S9 h.1 h.2.1
 ·rw [KV h.1,h.2.2 s hs]
theorem pK.sg1 (h:pK Pl t u) {s:ByteArray} (hs:bE t s=true):bE u s=true:=by
 rcases h with h|h
 ·rw [<- S9 h.1 h.2.1];exact hs
 ·rw [KV h.1] at hs;cases hs
theorem pK.kd (h:pK Pl t u) {c:Int} (hc:c=1\/c=2\/c=3\/c=4):(t.k=c)↔(u.k=c):=by
 rcases h with h|h
 ·rw [h.1]
 ·obtain ⟨h0,⟨q1,q2,q3,q4⟩,_⟩:=h;rw [h0];constructor
  ·intro h;subst h;rcases hc with h|h|h|h<;>cases h
  ·intro h;subst h;rcases hc with h|h|h|h
   ·exact absurd h q1
   ·exact absurd h q2
   ·exact absurd h q3
   ·exact absurd h q4
theorem pK.kb (h:pK Pl t u) {c:Int} (hc:c=1\/c=2\/c=3\/c=4):(t.k == c)=(u.k == c):=by
 rw [Bool.eq_iff_iff,beq_iff_eq,beq_iff_eq];exact h.kd hc
theorem pK.xn (h:pK Pl t u) (h0:t.k≠0):t.x=u.x/\t.n=u.n:=by
 rcases h with h|h
 ·exact ⟨h.2.1,h.2.2.1⟩
 ·exact absurd h.1 h0
theorem pK.pl (h:pK Pl t u) (h0:t.k≠0):Pl t.a u.a:=by
 rcases h with h|h
 ·exact h.2.2.2
 ·exact absurd h.1 h0
theorem zQ {s:ByteArray} (h:bE t s=true):t.k≠0:=by rcases qX h with h|h<;>rw [h]<;>decide
end
end Pz
end Go.Proofs.YtkdbgopgjbfhbaaGreatDoor
