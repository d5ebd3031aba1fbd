/- Texts that the claim needs. -/
import Derived.Test.YtkdbgopgjbfhbaaGreatDoorQPW33
import Derived.Test.YtkdbgopgjbfhbaaGreatDoorQPW29
import Derived.Test.YtkdbgopgjbfhbaaGreatDoorQPW30
namespace Go.Proofs.YtkdbgopgjbfhbaaGreatDoor
open Go.RowKit Lx
set_option linter.unusedVariables false
set_option maxRecDepth 100000
set_option maxHeartbeats 8000000
namespace Lx
def LO (w:World) (R:List Tk × Int × Int) (e:Ending) (w':World):Prop :=
 ∃v,e=.returned (.tuple #[v,.int .i64 R.2.1,.int .i64 R.2.2])/\w'.ownsRow w.heap.size 47 4 v R.1.length (flat R.1)/\Below w.heap.size w w'
theorem LP {w w':World} {a z:Int} {R:List Tk × Int × Int} (hR:R=([],a,z)) (hb:Below w.heap.size w w'):LO w R (.returned (.tuple #[.slice none 0 0,.int .i64 a,.int .i64 z])) w':=by
 subst hR;exact ⟨_,rfl,World.ownsRow_nil _ _ _ _,hb⟩
theorem acd {w w':World} {v:Value} {l:List Tk} {R:List Tk × Int × Int} (hR:R=(l,0,0)) (hb:Below w.heap.size w w') (ho:w'.ownsRow w.heap.size 47 4 v l.length (flat l)):LO w R (.returned (.tuple #[v,.int .i64 0,.int .i64 0])) w':=by
 subst hR;exact ⟨_,rfl,ho,hb⟩
end Lx
theorem LJ (s:ByteArray) (w:World) (fT:WL w):Calls Tryz.prog 23 #[.string s] w (LO w (lx s)):=by
 by_cases hbig:8192<s.size
 ·have hR:lx s=([],0,2):=if_pos hbig;have HR:=ae hR;have q0:decide ((s.size:Int) > 8192)=true:=decide_eq_true (by omega);generalize lx s=R at *;clear hR;go_enter Tryz.func23,Tryz.ntmps23;go_wp2;refine bodyPost_ret (results_tmp3 rfl _ _ _) rfl ?_;exact LP HR.out (Below.refl _ _)
 ·have hR:lx s=bH s s.size (sk s false 0) []:=if_neg hbig;have q0:decide ((s.size:Int) > 8192)=false:=decide_eq_false (by omega);obtain ⟨R,hR'⟩:∃R,R=lx s:=⟨_,rfl⟩;rw [<- hR'] at hR ⊢;have st0:Hid (bH s s.size (sk s false 0) []=R):=ae hR.symm;have hsz:s.size<=8192:=by omega
  have BC:=ae (TQ s w);have hsk:=zq s false (Nat.zero_le s.size);have Ep:=ae hsz;obtain ⟨i0,hi,hz0,hz1,hz2⟩:=info_parts XA;obtain ⟨p0,hp0⟩:∃p,p=sk s false 0:=⟨_,rfl⟩;rw [<- hp0] at BC st0 hsk;clear hR hR' hp0;go_enter Tryz.func23,Tryz.ntmps23;go_wp2_with fail;refine BC.out.mono ?_;rintro e u0 ⟨rfl,hbg⟩;have TR:=ae hbg;clear hbg;go_wp2_with fail;go_loopw [5,6] (fun tv av w'=>∃(acc:List Tk) (i f:Nat),av=.int .i64 i/\i<=s.size/\w'.ownsRow w.heap.size 47 4 tv acc.length (flat acc)/\Below w.heap.size w w'/\acc.length<=4096/\Hid (s.size<=i+f)/\Hid (bH s f i acc=R)) (fun _ av _=>match av with | .int _ k=>s.size-k.toNat|_=>0)
  case atStart=>exact ⟨[],p0,s.size,rfl,hsk,World.ownsRow_nil _ _ _ _,TR.out,by simp,ae (by omega),st0⟩
  case round =>
   obtain ⟨acc,i,f,rfl,hle,hown,hbel,hlen,hf,hR⟩:=hrel;clear st0 BC hsk TR;by_cases hp:i<s.size
   ·have q1:=aJ s.size i hp Ep.out;obtain ⟨g,hg,hst⟩:=Xz s f i acc hp hf.out;rw [hR.out] at hst;obtain ⟨tx,htx⟩:∃t,t=s.extract i s.size:=⟨_,rfl⟩;have G1:0<tx.size/\tx.size<=s.size:=by rw [htx,qJ];omega
    have Er:=I8 s i hp;rw [<- htx] at Er;have HO:=ae (Zh tx G1.1 (Nat.lt_of_le_of_lt G1.2 (by omega)) (Nat.le_trans G1.2 (by omega)) wr (fT.on hbel));have hsl:s.extract i s.size=tx:=htx.symm;clear G1 htx
    obtain ⟨o5,c5,mQ⟩:∃o c,u5=.slice o acc.length c:=by
     rcases hown.2 with ⟨h1,h2⟩|⟨g,cap,cur,h1,_⟩
     ·exact ⟨none,0,by rw [h1,h2]⟩
     ·exact ⟨_,_,h1⟩
    cases ho:one tx 0 with
    | error z =>
     rw [Er,ho] at hst;rw [ho] at HO;obtain ⟨q2,q3⟩:=aN (XB ho);have HR:=ae (show R=([],(i:Int),z) from hst);have HB:=ae hbel;subst mQ;clear hst ho Er hR hf hown hbel hg;go_wp2_with fail;refine Calls.mono (show Calls _ _ _ _ _ from HO.out) ?_;rintro e u ⟨rfl,hb⟩;have HB2:=ae (aB HB.out hb);simp only [gM];clear hb HO;go_wp2;refine bodyPost_ret (results_tmp3 rfl _ _ _) rfl ?_;exact LP HR.out (HB2.out.alloc (HB2.out.size) _)
    | ok r =>
     obtain ⟨k,x,n,e'⟩:=r;have hoe:one s i=.ok (k,x,n,i+e'):=by rw [Er,ho];rfl
     obtain ⟨he1,he2⟩:=wh hp hoe;rw [hoe] at hst;rw [ho] at HO;clear Er;by_cases h4:acc.length=4096
     ·have q2:=aL h4;have HR:=ae (show R=([],(i:Int),3) from by rw [hst];exact if_pos h4);have HB:=ae hbel;subst mQ;clear hst ho hoe hR hf hown hbel hg he1 he2;go_wp2_with fail;refine Calls.mono (show Calls _ _ _ _ _ from HO.out) ?_;rintro e u ⟨rfl,hb⟩;have HB2:=ae (aB HB.out hb);simp only [gM];clear hb HO;go_wp2;refine bodyPost_ret (results_tmp3 rfl _ _ _) rfl ?_;exact LP HR.out (HB2.out.alloc (HB2.out.size) _)
     ·have q2:=aM h4;have HR:=ae (show R=bH s g (sk s false (i+e')) (acc++[⟨k,x,n,i⟩]) from by rw [hst];exact if_neg h4);have HB:=ae hbel;have HOW:=ae hown;obtain ⟨e2,TS⟩:∃e2,e2=i+e':=⟨_,rfl⟩;obtain ⟨TT,TU⟩:=aR he2 Ep.out;rw [<- TS] at TT TU HR he1 he2;obtain ⟨t2,ht2⟩:∃t,t=s.extract e2 s.size:=⟨_,rfl⟩;have aeW:s.extract e2 s.size=t2:=ht2.symm;have BC:=fun (u:World)=>ae (TQ t2 u);have hs0:=Dt s false e2;have hs1:=zq s false he2;have hfr:=JG s e2 he2 false;rw [<- ht2] at hfr;obtain ⟨p1,hp1⟩:∃p,p=sk s false e2:=⟨_,rfl⟩;rw [<- hp1] at HR hs0 hs1 hfr;generalize sk t2 false 0=d2 at *;have hwb:wrap64 ((e2:Int)+(d2:Int))=(p1:Int):=by rw [(aR (by rw [hfr];exact hs1) Ep.out).1,hfr]
      have ace:(e2:Int)+(d2:Int)=(p1:Int):=by rw [(aR (by rw [hfr];exact hs1) Ep.out).2,hfr]
      have aeX:=he2;have LQ:=ae (aV hs1 Ep.out);have HG:Hid (s.size<=p1+g):=ae (aS2 hf.out hg hs0 he1);have HL:Hid (acc.length+1<=4096):=ae (by omega);have HE:Hid (e2<=p1/\p1<=s.size/\i<e2):=ae ⟨hs0,hs1,he1⟩;clear hst ho hoe hR hf hown hbel hg hp1 hs0 hs1 he1 he2 hlen hfr ht2 TS;subst mQ;go_wp2_with fail;refine Calls.mono (show Calls _ _ _ _ _ from HO.out) ?_;rintro e u ⟨rfl,hb⟩;have HB2:=ae (aB HB.out hb);have jR:=ae (OY HOW.out hb);simp only [gM];clear hb HO HOW HB;go_wp2_with (first|(at_builtin;refine wpList_append_own _ rfl _ _ 41 rfl w.heap.size 47 i0 _ 4 40 Tryz.underlying41 hi hz0 hz1 hz2 rfl (by decide) _ acc.length (flat acc) rfl ((jR.out.alloc _).alloc _) ⟨u.heap.size+1,0,none⟩ 1 1 [.int .i64 k,.string x,.int .i64 n,.int .i64 i] rfl rfl ?c1 ?c2 ?c3 ?c4 ?c5 ?c6))
      case c1=>exact XD _ _ (by simp) _ _ _ _ _
      case c2=>exact XE k x n i
      case c3=>exact (aP _ HL.out).1
      case c4=>exact (aP _ HL.out).2
      case c5=>exact aQ HB2.out _ _
      case c6 =>
       intro v' w9 hown' hgr _;have bb:=ae (XG HB2.out jR.out _ _ hgr);have TV:=ae (XF hown');clear hown' hgr HB2 jR;go_wp2_with fail;refine (BC _).out.mono ?_;rintro e u9 ⟨rfl,LR⟩;have fF:=ae (aB bb.out LR);have HO4:=ae (OY TV.out LR);clear BC LR bb TV;go_wp2;go_roundw
       case rel=>exact ⟨acc++[⟨k,x,n,i⟩],p1,g,congrArg (Value.int .i64) LQ.out,HE.out.2.1,HO4.out,fF.out,by rw [List.length_append];exact HL.out,HG,ae HR.out.symm⟩
       case measure=>clear TT TU hwb ace;have h1:=HE.out;simp only [LQ.out];clear LQ;simp;omega
   ·have q1:=aK s.size i hp;have HR:=ae (hR.out.symm.trans (qK s f i acc hp));have HOW:=ae hown;have HB:=ae hbel;clear hR hf hown hbel;go_wp2;refine bodyPost_ret (results_tmp3 rfl _ _ _) rfl ?_;exact acd HR.out HB.out HOW.out
end Go.Proofs.YtkdbgopgjbfhbaaGreatDoor
namespace Go.Proofs.YtkdbgopgjbfhbaaGreatDoor
open Go.RowKit Lx Pz bq
set_option linter.unusedVariables false
set_option maxRecDepth 100000
set_option maxHeartbeats 4000000
namespace Pz
theorem ab5 {u t:World} {B:Nat} {e:TypeId} {v:Value} {l:List Tk} (h:u.ownsRow B e 4 v l.length (flat l)) (ht:∀k,B<=k->t.heap[k]?=u.heap[k]?):nH t v l:=by
 rcases Fj h with ⟨h1,h2⟩|⟨g,cap,rfl,hc⟩
 ·exact .inl ⟨h1,h2⟩
 ·exact .inr ⟨g,cap,rfl,fun i x hi j y hj=>(World.cell?_of_block (ht g (h.lt g rfl).1)).trans (hc i x hi j y hj)⟩
theorem TF {w u t:World} {cs:Array Value} {a:Int} {B:Nat} {e:TypeId} {v:Value} {L:List Tk} (hB:w.heap.size+3<=B) (h:u.ownsRow B e 4 v L.length (flat L)) (hl:L.length<=4096) (en:Int) (ht:t=(u.setCell ⟨w.heap.size+1,0,none⟩ (.int .i64 a)).setCell ⟨w.heap.size+2,0,none⟩ (.int .i64 0)) :
  PR t t.heap.size L v en 0 (t.alloc (.cells #[v,.int .i64 0,.int .i64 en] 54)):=by
 have hsz:t.heap.size=u.heap.size:=by rw [ht];simp
 have ha:nH t v L:=ab5 h (fun k hk=>by rw [ht,Below.heap_setCell _ _ _ _ (by show k≠w.heap.size+2;omega),Below.heap_setCell _ _ _ _ (by show k≠w.heap.size+1;omega)]);exact ⟨dF t _,Nat.le_refl _,heap_alloc_new t _,Nat.zero_le _,ha.on (dF t _),hl,fun g o n c hv=>by subst hv;rw [hsz];exact (h.lt g rfl).2⟩
end Pz
theorem ab6 (s:ByteArray) (w:World) (fT:WL w) (z:Int) (h0:(lx s).2.2=0) (hz:jQ (lx s).1 s.size=.error z):Calls Tryz.prog 10 #[.string s] w fun e w'=>e=.returned (.tuple #[.agg dG,.int .i64 z,.int .i64 120])/\Below w.heap.size w w':=by
 have H0:=ae (PE.start w);have TG:∀(fn:Fn) (first cap:Array Value) (w:World),(Instr.makeFunc fn first cap).run Tryz.prog w=.ok (.func fn first cap) w:=fun _ _ _ _=>rfl;have kC:=ae (LJ s (rf w) (fT.on (PE.start w).below));have HG:=ae (O1 s);have vI:=ae (DI s);have HZ:=ae hz;obtain ⟨⟨L,db,er⟩,hL⟩:∃R,R=lx s:=⟨_,rfl⟩;rw [<- hL] at kC HG vI HZ h0
 change er=0 at h0
 subst h0;clear hL hz fT
 go_enter_defers Tryz.func10,Tryz.ntmps10
 go_upto_region 2 with fail;obtain ⟨wb,hwb⟩:∃wb,wb=rf w:=⟨_,rfl⟩;rw [<- hwb] at H0 kC;have sP:=hwb;unfold rf at sP;rw [<- sP];clear hwb sP;go_wp2_with fail;refine kC.out.mono ?_;rintro e u ⟨v,rfl,hown,hb⟩;obtain ⟨oV,cV,rfl⟩:=DR (Fj hown);have H1:=ae (H0.out.on hb);have HOW:=ae hown;have c1:=ak H1.out.b1 0 _ rfl;have c2:=ak H1.out.b2 0 _ rfl;have f1:u.frozen? ⟨w.heap.size+1,0,none⟩=false:=by unfold World.frozen?;rw [H1.out.b1];simp
 have f2:u.frozen? ⟨w.heap.size+2,0,none⟩=false:=by unfold World.frozen?;rw [H1.out.b2];simp
 clear hown hb kC;go_upto_region 3 with fail;obtain ⟨t1,ht1⟩:∃t1,t1=(u.setCell ⟨w.heap.size+1,0,none⟩ (.int .i64 db)).setCell ⟨w.heap.size+2,0,none⟩ (.int .i64 0):=⟨_,rfl⟩;have P1:Hid (PE w dG db 0 t1):=ae (by rw [ht1];exact (H1.out.set1 db).set2 0);have En:w.heap.size+3<=wb.heap.size:=(Array.getElem?_eq_some_iff.1 H0.out.b2).1;have R1:=ae (TF (cs:=dG) En HOW.out vI.out (s.size:Int) ht1);have d2:=ak P1.out.b2 0 _ rfl;have HC:=ae (Tv HG.out _ R1.out);rw [HZ.out] at HC;rw [<- ht1];clear ht1 H1 c1 c2 f1 f2 HOW HZ En HG vI H0 R1;go_wp2_with fail;refine HC.out.mono ?_;rintro e u3 ⟨rfl,hb3⟩;have P3:=ae (P1.out.on hb3);clear hb3 HC P1 d2;go_wp2_with fail;refine leaves_cons (f:=22) (args:=#[.pointer (some ⟨w.heap.size,0,none⟩),.pointer (some ⟨w.heap.size+1,0,none⟩),.pointer (some ⟨w.heap.size+2,0,none⟩)]) (by simp) (by simp [go_sem]) ?_;refine (P3.out.catch z).mono ?_;rintro e u' w9 ⟨rfl,rfl,gN⟩;have z0:=ak gN.b0 0 _ rfl;have z1:=ak gN.b0 1 _ rfl;have z2:=ak gN.b0 2 _ rfl;have z3:=ak gN.b0 3 _ rfl;have z4:=ak gN.b0 4 _ rfl;have z5:=ak gN.b0 5 _ rfl;have z6:=ak gN.b0 6 _ rfl;have z7:=ak gN.b0 7 _ rfl;have y1:=ak gN.b1 0 _ rfl;have y2:=ak gN.b2 0 _ rfl;simp [Leaves,settle,results,Tryz.results10,go_sem,z0,z1,z2,z3,z4,z5,z6,z7,y1,y2];exact gN.below
namespace Pz
theorem Du {B:Nat} {t u z:Value} {k n a:Int} {x y:ByteArray} {w:World} (h:aX B t (.agg #[.int .i64 k,.string x,.string y,.int .i64 n,u,z,.int .i64 a]) w):u.oneCell'=true/\z.oneCell'=true:=by
 obtain ⟨d,k',x',y',n',es,ps,a',u',z',h0,h1,h2,h3⟩:=h;obtain ⟨o,c,rfl,_⟩:=cF h2;obtain ⟨o',c',rfl,_⟩:=cF h3;injection h1 with h1;have e1:=congrArg (fun l:Array Value=>l[4]?) h1;have e2:=congrArg (fun l:Array Value=>l[5]?) h1;simp at e1 e2;subst e1 e2;exact ⟨rfl,rfl⟩
theorem aX.pI {B:Nat} {t v:Value} {w w':World} (h:aX B t v w) (hb:bX B w w'):aX B t v w':=by
 obtain ⟨d,hd⟩:=h;exact ⟨d,hd.but hb⟩
theorem lD.pI {B:Nat} {r:List Value × Value} {v:Value} {w w':World} (h:lD B r v w) (hb:bX B w w'):lD B r v w':=by
 obtain ⟨u,k,x,y,n,vu,vz,a,h0,h1,h2⟩:=h;exact ⟨u,k,x,y,n,vu,vz,a,h0,h1.on hb (Nat.le_refl _),h2.pI hb⟩
theorem lD.low {B C:Nat} {r:List Value × Value} {v:Value} {w:World} (h:lD B r v w) (hc:C<=B):lD C r v w:=by
 obtain ⟨u,k,x,y,n,vu,vz,a,h0,h1,d,h2⟩:=h;exact ⟨u,k,x,y,n,vu,vz,a,h0,h1.on (fun _ _ _=>rfl) hc,d,h2.lo hc⟩
theorem PE.Ib {w u:World} {cs:Array Value} {y x:Int} (h:PE w cs y x u) (vs:Array Value) (hv:vs.size=8):∃W,u.setCells w.heap.size 0 vs.toList=W/\u.there w.heap.size 0 vs.size/\PE w vs y x W/\(∀m,m≠w.heap.size->W.heap[m]?=u.heap[m]?)/\u.heap.size<=W.heap.size:=by
 obtain ⟨W,h1,h2,h3⟩:=h.put vs hv;exact ⟨W,h1,h2,h3,fun m hm=>by rw [<- h1];exact wH _ m hm _ 0 u,by rw [<- h1];exact (nL 0 _ (Nat.zero_le _) vs.toList 0 u u (Below.refl _ u)).size⟩
theorem PE.Hj {w u:World} {cs:Array Value} {y x:Int} (h:PE w cs y x u):u.frozen? ⟨w.heap.size+1,0,none⟩=false:=by unfold World.frozen?;rw [h.b1];simp
theorem PE.Hk {w u:World} {cs:Array Value} {y x:Int} (h:PE w cs y x u):u.frozen? ⟨w.heap.size+2,0,none⟩=false:=by unfold World.frozen?;rw [h.b2];simp
def zH (w:World) (R:Except (Int × Int) (List Value × Value)) (e:Ending) (w':World):Prop:=Below w.heap.size w w'/\match R with
 | .error (a,z)=>e=.returned (.tuple #[.agg dG,.int .i64 a,.int .i64 z])
 | .ok r=>∃v,e=.returned (.tuple #[v,.int .i64 0,.int .i64 0])/\lD w.heap.size r v w'
def kX (d:Nat) (ds:List Value) (t:Value):Except (Int × Int) (List Value × Value):=if kV d ds t=true then .error (0,3) else if pq 256 ds t=true then .error (0,4) else .ok (ds,t)
theorem PE.VG {w u u':World} (h:∀m,m≠w.heap.size->u'.heap[m]?=u.heap[m]?) {B:Nat} (hB:w.heap.size<B):bX B u u':=fun k hk hl=>h k (by omega)
theorem VH (u:World) (b j:Nat) (v:Value) {B:Nat} (hB:b<B):bX B u (u.setCell ⟨b,j,none⟩ v):=fun k hk hl=>Below.heap_setCell u ⟨b,j,none⟩ v k (by show k≠b;omega)
end Pz
theorem ad7 (s:ByteArray) (w:World) (fT:WL w) (ds:List Value) (t:Value) (j:Nat) (h0:(lx s).2.2=0) (hz:jQ (lx s).1 s.size=.ok ((ds,t),j)):Calls Tryz.prog 10 #[.string s] w fun e w'=>∃d,fit d t/\zH w (kX d ds t) e w':=by
 have H0:=ae (PE.start w);have TG:∀(fn:Fn) (first cap:Array Value) (w:World),(Instr.makeFunc fn first cap).run Tryz.prog w=.ok (.func fn first cap) w:=fun _ _ _ _=>rfl;have kC:=ae (LJ s (rf w) (fT.on (PE.start w).below));have HG:=ae (O1 s);have vI:=ae (DI s);have HZ:=ae hz;obtain ⟨⟨L,db,er⟩,hL⟩:∃R,R=lx s:=⟨_,rfl⟩;rw [<- hL] at kC HG vI HZ h0
 change er=0 at h0
 subst h0;clear hL hz fT
 go_enter_defers Tryz.func10,Tryz.ntmps10
 go_upto_region 2 with fail;obtain ⟨wb,hwb⟩:∃wb,wb=rf w:=⟨_,rfl⟩;rw [<- hwb] at H0 kC;have sP:=hwb;unfold rf at sP;rw [<- sP];clear hwb sP;go_wp2_with fail;refine kC.out.mono ?_;rintro e u ⟨v,rfl,hown,hb⟩;obtain ⟨oV,cV,rfl⟩:=DR (Fj hown);have H1:=ae (H0.out.on hb);have HOW:=ae hown;have c1:=ak H1.out.b1 0 _ rfl;have c2:=ak H1.out.b2 0 _ rfl;have f1:u.frozen? ⟨w.heap.size+1,0,none⟩=false:=by unfold World.frozen?;rw [H1.out.b1];simp
 have f2:u.frozen? ⟨w.heap.size+2,0,none⟩=false:=by unfold World.frozen?;rw [H1.out.b2];simp
 clear hown hb kC;go_upto_region 3 with fail;obtain ⟨t1,ht1⟩:∃t1,t1=(u.setCell ⟨w.heap.size+1,0,none⟩ (.int .i64 db)).setCell ⟨w.heap.size+2,0,none⟩ (.int .i64 0):=⟨_,rfl⟩;have P1:Hid (PE w dG db 0 t1):=ae (by rw [ht1];exact (H1.out.set1 db).set2 0);have En:w.heap.size+3<=wb.heap.size:=(Array.getElem?_eq_some_iff.1 H0.out.b2).1;have R1:=ae (TF (cs:=dG) En HOW.out vI.out (s.size:Int) ht1);have d2:=ak P1.out.b2 0 _ rfl;have HC:=ae (Tv HG.out _ R1.out);rw [HZ.out] at HC;have hlt1:w.heap.size<t1.heap.size:=(Array.getElem?_eq_some_iff.1 P1.out.b0).1;have hlt2:w.heap.size+2<t1.heap.size:=(Array.getElem?_eq_some_iff.1 P1.out.b2).1;have hsz:(t1.alloc (.cells #[.slice oV L.length cV,.int .i64 0,.int .i64 (s.size:Int)] 54)).heap.size=t1.heap.size+1:=by simp
 rw [hsz] at HC;have mi:=ae hlt2;rw [<- ht1];clear ht1 H1 c1 c2 f1 f2 HOW HZ En HG vI H0 R1 hsz hlt1 hlt2;go_wp2_with fail;refine HC.out.mono ?_;rintro e u3 ⟨⟨v9,rfl,hpr⟩,xK,-⟩;have VI:=hpr;obtain ⟨u0,k0,x0,y0,n0,BO,BP,a0,rfl,hD,hM⟩:=hpr;obtain ⟨q1,q2⟩:=Du hM;have q0:u0.oneCell'=true:=by obtain ⟨oD,cD,rfl,_⟩:=cF hD;rfl
 have P3:=ae (P1.out.on xK.below);obtain ⟨W,hW,hth,zo,hoth,-⟩:=P3.out.Ib #[u0,.int .i64 k0,.string x0,.string y0,.int .i64 n0,BO,BP,.int .i64 a0] rfl;have hab:bX (t1.heap.size+1) u3 W:=PE.VG hoth (by have:=mi.out;omega);have VJ:=ae hth;have HW1:=ae hW;have tY:=ae (VI.pI hab);have PA:=ae zo;clear VI hD hM xK P1 d2 HC hth hW hoth hab zo P3;have g0:=ak PA.out.b0 0 _ rfl;have g1:=ak PA.out.b0 1 _ rfl;have g2:=ak PA.out.b0 2 _ rfl;have g3:=ak PA.out.b0 3 _ rfl;have g4:=ak PA.out.b0 4 _ rfl;have g5:=ak PA.out.b0 5 _ rfl;have g6:=ak PA.out.b0 6 _ rfl;have g7:=ak PA.out.b0 7 _ rfl;obtain ⟨u9,k9,x9,y9,n9,vu9,vz9,a9,bQ,hD,dd,hM⟩:=tY.out;injection bQ with bQ;simp only [Array.mk.injEq,List.cons.injEq,Value.int.injEq,Value.string.injEq,true_and,and_true] at bQ;obtain ⟨rfl,rfl,rfl,rfl,rfl,rfl,rfl,rfl⟩:=bQ;have HF:=ae hM.fit;have VK:=ae (aba dd ds t u0 BO BP k0 n0 a0 x0 y0 W (hD.on (fun _ _ _=>rfl) (Nat.zero_le _)) (hM.lo (Nat.zero_le _)));clear hD hM;go_wp2_with (refine wpList_store_mid rfl 29 (.tmp 2) (.tmp 25) rfl w.heap.size 0 #[u0,.int .i64 k0,.string x0,.string y0,.int .i64 n0,BO,BP,.int .i64 a0] rfl rfl VJ.out nO (by simp [Value.oneCell'] at q0 q1 q2 ⊢;exact ⟨q0,q1,q2⟩) ?_;rw [HW1.out]);clear VJ HW1;refine Calls.mono (show Calls _ _ _ _ _ from VK.out) ?_;rintro e u4 ⟨rfl,hb4⟩;have P4:=ae (PA.out.on hb4);have M5:=ae (tY.out.pI (bX.of hb4));clear hb4 VK PA tY g0 g1 g2 g3 g4 g5 g6 g7;have g0:=ak P4.out.b0 0 _ rfl;have g1:=ak P4.out.b0 1 _ rfl;have g2:=ak P4.out.b0 2 _ rfl;have g3:=ak P4.out.b0 3 _ rfl;have g4:=ak P4.out.b0 4 _ rfl;have g5:=ak P4.out.b0 5 _ rfl;have g6:=ak P4.out.b0 6 _ rfl;have g7:=ak P4.out.b0 7 _ rfl;cases hT:kV dd ds t with
 | true =>
  have kC:=ae (show kX dd ds t=.error (0,3) by unfold kX;rw [if_pos hT]);clear hT;obtain ⟨W9,yn,yo,gN,yp,yt⟩:=P4.out.Ib dG rfl;have Av:=ae yo;have gB:=ae yn;have c1:=ak gN.b1 0 _ rfl;have c2:=ak gN.b2 0 _ rfl;have f1:=gN.Hj;have f2:=gN.Hk;have ED:=ae gN;have vH:=ae yp;have M6:=ae yt;clear yn yo gN yp yt;go_wp2_with (refine wpList_store_mid rfl 29 (.tmp 2) (.tmp 29) rfl w.heap.size 0 dG rfl rfl Av.out nO (by simp [Value.oneCell']) ?_;rw [gB.out]);refine leaves_cons (f:=22) (args:=#[.pointer (some ⟨w.heap.size,0,none⟩),.pointer (some ⟨w.heap.size+1,0,none⟩),.pointer (some ⟨w.heap.size+2,0,none⟩)]) (by simp) (by simp [go_sem]) ?_;refine (Fq w.heap.size (w.heap.size+1) (w.heap.size+2) _).mono ?_;rintro e u' w9 ⟨rfl,rfl,rfl⟩;have eH:PE w dG 0 3 ((W9.setCell ⟨w.heap.size+1,0,none⟩ (.int .i64 0)).setCell ⟨w.heap.size+2,0,none⟩ (.int .i64 3)):=(ED.out.set1 0).set2 3;generalize M7:((W9.setCell ⟨w.heap.size+1,0,none⟩ (.int .i64 0)).setCell ⟨w.heap.size+2,0,none⟩ (.int .i64 3))=WX at *;clear c1 c2 f1 f2;have z0:=ak eH.b0 0 _ rfl;have z1:=ak eH.b0 1 _ rfl;have z2:=ak eH.b0 2 _ rfl;have z3:=ak eH.b0 3 _ rfl;have z4:=ak eH.b0 4 _ rfl;have z5:=ak eH.b0 5 _ rfl;have z6:=ak eH.b0 6 _ rfl;have z7:=ak eH.b0 7 _ rfl;have qZ:=ak eH.b1 0 _ rfl;have Au:=ak eH.b2 0 _ rfl;simp [Leaves,settle,results,Tryz.results10,go_sem,z0,z1,z2,z3,z4,z5,z6,z7,qZ,Au];exact ⟨dd,HF.out,eH.below,by rw [kC.out]⟩
 | false =>
  have VL:=ae (ab4 ds t _ u4 (M5.out.low (Nat.zero_le _)));go_wp2_with fail;refine Calls.mono (show Calls _ _ _ _ _ from VL.out) ?_;rintro e u5 ⟨rfl,hb5⟩;have P5:=ae (P4.out.on hb5);have aee:=ae (M5.out.pI (bX.of hb5));clear hb5 VL P4 M5 g0 g1 g2 g3 g4 g5 g6 g7;have g0:=ak P5.out.b0 0 _ rfl;have g1:=ak P5.out.b0 1 _ rfl;have g2:=ak P5.out.b0 2 _ rfl;have g3:=ak P5.out.b0 3 _ rfl;have g4:=ak P5.out.b0 4 _ rfl;have g5:=ak P5.out.b0 5 _ rfl;have g6:=ak P5.out.b0 6 _ rfl;have g7:=ak P5.out.b0 7 _ rfl;cases hP:pq 256 ds t with
  | true =>
   have kC:=ae (show kX dd ds t=.error (0,4) by unfold kX;rw [if_neg (by rw [hT];simp),if_pos hP]);clear hT hP;obtain ⟨W9,yn,yo,gN,yp,yt⟩:=P5.out.Ib dG rfl;have Av:=ae yo;have gB:=ae yn;have c1:=ak gN.b1 0 _ rfl;have c2:=ak gN.b2 0 _ rfl;have f1:=gN.Hj;have f2:=gN.Hk;have ED:=ae gN;have vH:=ae yp;have M6:=ae yt;clear yn yo gN yp yt;go_wp2_with (refine wpList_store_mid rfl 29 (.tmp 2) (.tmp 33) rfl w.heap.size 0 dG rfl rfl Av.out nO (by simp [Value.oneCell']) ?_;rw [gB.out]);refine leaves_cons (f:=22) (args:=#[.pointer (some ⟨w.heap.size,0,none⟩),.pointer (some ⟨w.heap.size+1,0,none⟩),.pointer (some ⟨w.heap.size+2,0,none⟩)]) (by simp) (by simp [go_sem]) ?_;refine (Fq w.heap.size (w.heap.size+1) (w.heap.size+2) _).mono ?_;rintro e u' w9 ⟨rfl,rfl,rfl⟩;have eH:PE w dG 0 4 ((W9.setCell ⟨w.heap.size+1,0,none⟩ (.int .i64 0)).setCell ⟨w.heap.size+2,0,none⟩ (.int .i64 4)):=(ED.out.set1 0).set2 4;generalize M7:((W9.setCell ⟨w.heap.size+1,0,none⟩ (.int .i64 0)).setCell ⟨w.heap.size+2,0,none⟩ (.int .i64 4))=WX at *;clear c1 c2 f1 f2;have z0:=ak eH.b0 0 _ rfl;have z1:=ak eH.b0 1 _ rfl;have z2:=ak eH.b0 2 _ rfl;have z3:=ak eH.b0 3 _ rfl;have z4:=ak eH.b0 4 _ rfl;have z5:=ak eH.b0 5 _ rfl;have z6:=ak eH.b0 6 _ rfl;have z7:=ak eH.b0 7 _ rfl;have qZ:=ak eH.b1 0 _ rfl;have Au:=ak eH.b2 0 _ rfl;simp [Leaves,settle,results,Tryz.results10,go_sem,z0,z1,z2,z3,z4,z5,z6,z7,qZ,Au];exact ⟨dd,HF.out,eH.below,by rw [kC.out]⟩
  | false =>
   have kC:=ae (show kX dd ds t=.ok (ds,t) by unfold kX;rw [if_neg (by rw [hT];simp),if_neg (by rw [hP];simp)]);clear hT hP;obtain ⟨W9,yn,yo,gN,yp,yt⟩:=P5.out.Ib #[u0,.int .i64 k0,.string x0,.string y0,.int .i64 n0,BO,BP,.int .i64 a0] rfl;have Av:=ae yo;have gB:=ae yn;have c1:=ak gN.b1 0 _ rfl;have c2:=ak gN.b2 0 _ rfl;have f1:=gN.Hj;have f2:=gN.Hk;have ED:=ae gN;have vH:=ae yp;have M6:=ae yt;clear yn yo gN yp yt;go_wp2_with (refine wpList_store_mid rfl 29 (.tmp 2) (.tmp 34) rfl w.heap.size 0 #[u0,.int .i64 k0,.string x0,.string y0,.int .i64 n0,BO,BP,.int .i64 a0] rfl rfl Av.out nO (by simp [Value.oneCell'] at q0 q1 q2 ⊢;exact ⟨q0,q1,q2⟩) ?_;rw [gB.out]);refine leaves_cons (f:=22) (args:=#[.pointer (some ⟨w.heap.size,0,none⟩),.pointer (some ⟨w.heap.size+1,0,none⟩),.pointer (some ⟨w.heap.size+2,0,none⟩)]) (by simp) (by simp [go_sem]) ?_;refine (Fq w.heap.size (w.heap.size+1) (w.heap.size+2) _).mono ?_;rintro e u' w9 ⟨rfl,rfl,rfl⟩;have eH:PE w #[u0,.int .i64 k0,.string x0,.string y0,.int .i64 n0,BO,BP,.int .i64 a0] 0 0 ((W9.setCell ⟨w.heap.size+1,0,none⟩ (.int .i64 0)).setCell ⟨w.heap.size+2,0,none⟩ (.int .i64 0)):=(ED.out.set1 0).set2 0;generalize M7:((W9.setCell ⟨w.heap.size+1,0,none⟩ (.int .i64 0)).setCell ⟨w.heap.size+2,0,none⟩ (.int .i64 0))=WX at *;clear c1 c2 f1 f2;have z0:=ak eH.b0 0 _ rfl;have z1:=ak eH.b0 1 _ rfl;have z2:=ak eH.b0 2 _ rfl;have z3:=ak eH.b0 3 _ rfl;have z4:=ak eH.b0 4 _ rfl;have z5:=ak eH.b0 5 _ rfl;have z6:=ak eH.b0 6 _ rfl;have z7:=ak eH.b0 7 _ rfl;have qZ:=ak eH.b1 0 _ rfl;have Au:=ak eH.b2 0 _ rfl;simp [Leaves,settle,results,Tryz.results10,go_sem,z0,z1,z2,z3,z4,z5,z6,z7,qZ,Au]
   have hab:bX (t1.heap.size+1) u5 WX:=by
    have hl:=mi.out;have hz:=M6.out;rw [<- M7];exact bX.trans (PE.VG vH.out (by omega)) hz (bX.trans (VH _ _ _ _ (by omega)) (by simp) (VH _ _ _ _ (by omega)))
   refine ⟨dd,HF.out,eH.below,?_⟩;rw [kC.out];exact ⟨_,rfl,(aee.out.pI hab).low (by have:=mi.out;omega)⟩
namespace Pz
def tL (pl:Bool) (a b:Value):Bool:=(jE a == jE b) && (decide (wL a=wL b) && (decide (FA a=FA b) && ((uN a == uN b) && (!pl || (iS a == iS b)))))
def fQ (pl:Bool):Nat->List Value->List Value->Bool
 | 0,l,k=>dL (fun _ _=>false) l k
 | d+1,l,k=>dL (fun a b=>tL pl a b && (fQ pl d (dE a) (dE b) && fQ pl d (gV a) (gV b))) l k
def sm (pl:Bool) (d:Nat) (a b:Value):Bool:=tL pl a b && (fQ pl d (dE a) (dE b) && fQ pl d (gV a) (gV b))
theorem AO (pl:Bool) (d:Nat) (l k:List Value):fQ pl (d+1) l k=dL (sm pl d) l k:=rfl
def mI:Nat->List Value->Prop
 | 0,l=>l = []
 | d+1,l=>∀x ∈ l,fit d x
theorem CK:∀ {d:Nat} {t:Value},fit d t->mI d (dE t)/\mI d (gV t)
 | 0,t,h=>⟨h.2.1,h.2.2⟩
 | d+1,t,h=>⟨h.2.1,h.2.2⟩
def nK (d:Nat) (a b:Value):Bool:=decide (wM a=wM b) && fQ false d (yH a) (yH b)
def Jn (d:Nat) (c:Value):Prop:=mI d (yH c)
def wN (d:Nat) (c:Value):Prop:=∀x ∈ uB c,Jn d x
theorem str_eq (x y:ByteArray):(x.toList == y.toList)=decide (x=y):=by
 rw [ByteArray.toList_eq,ByteArray.toList_eq];by_cases he:x=y
 ·subst he;simp
 ·rw [decide_eq_false he,beq_eq_false_iff_ne];exact fun e=>he (ByteArray.ext (Array.toList_inj.1 e))
theorem Pk (ps:List ByteArray):(ps.map Value.string).map wO=ps:=by
 rw [List.map_map];exact List.map_id' ps
end Pz
namespace Pz
theorem X9 (pl:Bool) (a:Value):tL pl a a=true:=by unfold tL;simp
theorem Ft {α:Type} {f:α->α->Bool}:∀ {l:List α},(∀a ∈ l,f a a=true)->dL f l l=true
 | [],_=>rfl
 | a :: l,h=>by unfold dL;rw [h a (List.Mem.head _),Ft (fun b hb=>h b (List.Mem.tail _ hb))];rfl
theorem Jg (pl:Bool):∀(d:Nat) (l:List Value),mI d l->fQ pl d l l=true
 | 0,l,h=>by have h':l = []:=h;subst h';rfl
 | d+1,l,h=>by
  refine Ft fun a ha=>?_;obtain ⟨h1,h2⟩:=CK (h a ha);rw [X9,Jg pl d _ h1,Jg pl d _ h2];rfl
end Pz
namespace Pz
def l2 {α β:Type} (P:α->β->Prop):List α->List β->Prop
 | [],[]=>True
 | a :: l,b :: k=>P a b/\l2 P l k
 | _,_=>False
section
variable {α β:Type} {P Q:α->β->Prop}
theorem RY:∀ {l:List α} {k:List β} {l':List α} {k':List β},l2 P l k->l2 P l' k'->l2 P (l++l') (k++k')
 | [],[],_,_,_,h=>h
 | a :: l,b :: k,_,_,h,h'=>⟨h.1,RY h.2 h'⟩
 | [],_ :: _,_,_,h,_=>h.elim
 | _ :: _,[],_,_,h,_=>h.elim
theorem xM (hm:∀a b,P a b->Q a b):∀ {l:List α} {k:List β},l2 P l k->l2 Q l k
 | [],[],_=>trivial
 | a :: l,b :: k,h=>⟨hm a b h.1,xM hm h.2⟩
 | [],_ :: _,h=>h.elim
 | _ :: _,[],h=>h.elim
theorem GN {l:List α} {k:List β} {a:α} {b:β} (h:l2 P l k) (h':P a b):l2 P (l++[a]) (k++[b]):=RY h ⟨h',trivial⟩
theorem RZ:l2 P [] []:=trivial
theorem R6 {a a':α} {b b':β} (h:P a b) (h':P a' b'):l2 P [a,a'] [b,b']:=⟨h,h',trivial⟩
end
theorem KY {α:Type}:∀ {l k:List α},l2 (fun a b=>a=b) l k->l=k
 | [],[],_=>rfl
 | a :: l,b :: k,h=>by rw [h.1,KY h.2]
 | [],_ :: _,h=>h.elim
 | _ :: _,[],h=>h.elim
def lk (Pl:Int->Int->Prop):Nat->Value->Value->Prop
 | 0,_,_=>False
 | d+1,a,b=>∃k x y n es ps es' ps' u v,a=nd k x y n es ps u/\b=nd k x y n es' ps' v/\Pl u v/\l2 (fun p q=>lk Pl d p q) es es'/\l2 (fun p q=>lk Pl d p q) ps ps'
section
variable {Pl:Int->Int->Prop}
theorem K3:∀(d:Nat) (a b:Value),lk Pl d a b->lk Pl (d+1) a b
 | 0,_,_,h=>h.elim
 | d+1,a,b,⟨k,x,y,n,es,ps,es',ps',u,v,h1,h2,hp,h3,h4⟩=>⟨k,x,y,n,es,ps,es',ps',u,v,h1,h2,hp,xM (fun p q h=>K3 d p q h) h3,xM (fun p q h=>K3 d p q h) h4⟩
theorem GQ {d e:Nat} (h:d<=e) {a b:Value} (hl:lk Pl d a b):lk Pl e a b:=by
 induction h with
 | refl=>exact hl
 | step _ ih=>exact K3 _ _ _ ih
end
def AL (Pl:Int->Int->Prop) (a b:Value):Prop:=∃d,lk Pl d a b
section
variable {Pl:Int->Int->Prop}
theorem K4:∀ {l k:List Value},l2 (AL Pl) l k->∃d,l2 (fun p q=>lk Pl d p q) l k
 | [],[],_=>⟨0,trivial⟩
 | a :: l,b :: k,⟨⟨d,hd⟩,h⟩=>by
  obtain ⟨e,he⟩:=K4 h;exact ⟨max d e,GQ (Nat.le_max_left d e) hd,xM (fun p q h=>GQ (Nat.le_max_right d e) h) he⟩
 | [],_ :: _,h=>h.elim
 | _ :: _,[],h=>h.elim
theorem AL.nd {k:Int} {x y:ByteArray} {n:Int} {es ps es' ps':List Value} {u v:Int} (hp:Pl u v) (h:l2 (AL Pl) es es') (h':l2 (AL Pl) ps ps'):AL Pl (nd k x y n es ps u) (nd k x y n es' ps' v):=by
 obtain ⟨d,hd⟩:=K4 h;obtain ⟨e,he⟩:=K4 h';exact ⟨max d e+1,k,x,y,n,es,ps,es',ps',u,v,rfl,rfl,hp,xM (fun p q h=>GQ (Nat.le_max_left d e) h) hd,xM (fun p q h=>GQ (Nat.le_max_right d e) h) he⟩
theorem AL.leaf {k:Int} {x y:ByteArray} {n:Int} {u v:Int} (hp:Pl u v):AL Pl (Pz.nd k x y n [] [] u) (Pz.nd k x y n [] [] v):=AL.nd hp trivial trivial
theorem AL.at_ {a b:Value} (h:AL Pl a b):Pl (iS a) (iS b):=by
 obtain ⟨d,hd⟩:=h;cases d with
 | zero=>exact hd.elim
 | succ d =>
  obtain ⟨k,x,y,n,es,ps,es',ps',u,v,rfl,rfl,hp,_,_⟩:=hd;exact hp
end
def vA (Pl:Int->Int->Prop) (a b:Value):Prop:=∃x ps cs u v,a=pM x ps cs u/\b=pM x ps cs v/\Pl u v
def Sm {α β:Type} (Q:α->β->Prop) (n k m:Nat) (a:Rd α) (b:Rd β):Prop:=∀x j,a=.ok (x,j)->m<=j/\j<=n/\∃y,b=.ok (y,k+j)/\Q x y
section
variable {α β γ δ:Type} {Q:α->β->Prop} {Q':γ->δ->Prop} {n k m m':Nat}
theorem Sm.er {z:Int} {b:Rd β}:Sm Q n k m (.error z) b:=fun x j h=>by cases h
theorem Sm.ok {x:α} {y:β} {j:Nat} (h1:m<=j) (h2:j<=n) (h:Q x y):Sm Q n k m (.ok (x,j)) (.ok (y,k+j)):=fun x' j' h'=>by
 injection h' with h';injection h' with h3 h4;subst h3;subst h4;exact ⟨h1,h2,y,rfl,h⟩
theorem Sm.lo {a:Rd α} {b:Rd β} (h:Sm Q n k m a b) (hm:m'<=m):Sm Q n k m' a b:=fun x j h'=>by
 obtain ⟨h1,h2⟩:=h x j h';exact ⟨Nat.le_trans hm h1,h2⟩
theorem Sm.cs {a:Rd α} {b:Rd β} (h:Sm Q n k m a b):(∃z,a=.error z)\/∃x y j,a=.ok (x,j)/\b=.ok (y,k+j)/\m<=j/\j<=n/\Q x y:=by
 cases a with
 | error z=>exact .inl ⟨z,rfl⟩
 | ok r =>
  obtain ⟨x,j⟩:=r;obtain ⟨h1,h2,y,hy,hq⟩:=h x j rfl;exact .inr ⟨x,y,j,rfl,hy,h1,h2,hq⟩
end
def qj (Pl:Int->Int->Prop) (t u:Tk):Prop:=(t.k=u.k/\t.x=u.x/\t.n=u.n/\Pl t.a u.a)\/(t.k=0/\(u.k≠1/\u.k≠2/\u.k≠3/\u.k≠4)/\∀s,s≠sR/\s≠lq->bn u s=false)
section
variable {Pl:Int->Int->Prop} {t u:Tk}
theorem Je {s:ByteArray} (h:t.k=0):bn t s=false:=by unfold bn;rw [h];rfl
theorem R7 {s:ByteArray} (h1:t.k=u.k) (h2:t.x=u.x):bn t s=bn u s:=by unfold bn;rw [h1,h2]
theorem qj.sg (h:qj Pl t u) {s:ByteArray} (hs:s≠sR/\s≠lq):bn t s=bn u s:=by
 rcases h with h|h
 ·exact R7 h.1 h.2.1
 ·rw [Je h.1,h.2.2 s hs]
theorem qj.sg1 (h:qj Pl t u) {s:ByteArray} (hs:bn t s=true):bn u s=true:=by
 rcases h with h|h
 ·rw [<- R7 h.1 h.2.1];exact hs
 ·rw [Je h.1] at hs;cases hs
theorem qj.kd (h:qj Pl t u) {c:Int} (hc:c=1\/c=2\/c=3\/c=4):(t.k=c)↔(u.k=c):=by
 rcases h with h|h
 ·rw [h.1]
 ·obtain ⟨h0,⟨q1,q2,q3,q4⟩,_⟩:=h;rw [h0];constructor
  ·intro h;subst h;rcases hc with h|h|h|h<;>cases h
  ·intro h;subst h;rcases hc with h|h|h|h
   ·exact absurd h q1
   ·exact absurd h q2
   ·exact absurd h q3
   ·exact absurd h q4
theorem qj.kb (h:qj Pl t u) {c:Int} (hc:c=1\/c=2\/c=3\/c=4):(t.k == c)=(u.k == c):=by
 rw [Bool.eq_iff_iff,beq_iff_eq,beq_iff_eq];exact h.kd hc
theorem qj.xn (h:qj Pl t u) (h0:t.k≠0):t.x=u.x/\t.n=u.n:=by
 rcases h with h|h
 ·exact ⟨h.2.1,h.2.2.1⟩
 ·exact absurd h.1 h0
theorem qj.pl (h:qj Pl t u) (h0:t.k≠0):Pl t.a u.a:=by
 rcases h with h|h
 ·exact h.2.2.2
 ·exact absurd h.1 h0
theorem zZ {s:ByteArray} (h:bn t s=true):t.k≠0:=by rcases pV h with h|h<;>rw [h]<;>decide
end
end Pz
end Go.Proofs.YtkdbgopgjbfhbaaGreatDoor
