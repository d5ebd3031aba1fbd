/- Texts that the claim needs. -/
import Derived.Test.YtkdbgopgjbfhbaaGreatDoorQPV34
import Derived.Test.YtkdbgopgjbfhbaaGreatDoorQPV36
import Derived.Test.YtkdbgopgjbfhbaaGreatDoorQPV29
import Derived.Test.YtkdbgopgjbfhbaaGreatDoorQPV13
namespace Go.Proofs.YtkdbgopgjbfhbaaGreatDoor
open Go.RowKit Lx
set_option linter.unusedVariables false
set_option maxRecDepth 100000
set_option maxHeartbeats 8000000
namespace Lx
def KT (w:World) (R:List Tk × Int × Int) (e:Ending) (w':World):Prop :=
 ∃v,e=.returned (.tuple #[v,.int .i64 R.2.1,.int .i64 R.2.2])/\w'.ownsRow w.heap.size 47 4 v R.1.length (flat R.1)/\Below w.heap.size w w'
theorem KU {w w':World} {a z:Int} {R:List Tk × Int × Int} (hR:R=([],a,z)) (hb:Below w.heap.size w w'):KT w R (.returned (.tuple #[.slice none 0 0,.int .i64 a,.int .i64 z])) w':=by
 subst hR;exact ⟨_,rfl,World.ownsRow_nil _ _ _ _,hb⟩
theorem aaW {w w':World} {v:Value} {l:List Tk} {R:List Tk × Int × Int} (hR:R=(l,0,0)) (hb:Below w.heap.size w w') (ho:w'.ownsRow w.heap.size 47 4 v l.length (flat l)):KT w R (.returned (.tuple #[v,.int .i64 0,.int .i64 0])) w':=by
 subst hR;exact ⟨_,rfl,ho,hb⟩
end Lx
theorem KN (s:ByteArray) (w:World) (fC:WL w):Calls Tryz.prog 23 #[.string s] w (KT w (lx s)):=by
 by_cases hbig:8192<s.size
 ·have hR:lx s=([],0,2):=if_pos hbig;have HR:=ae hR;have q0:decide ((s.size:Int) > 8192)=true:=decide_eq_true (by omega);generalize lx s=R at *;clear hR;go_enter Tryz.func23,Tryz.ntmps23;go_wp2;refine bodyPost_ret (results_tmp3 rfl _ _ _) rfl ?_;exact KU HR.out (Below.refl _ _)
 ·have hR:lx s=lI s s.size (sk s false 0) []:=if_neg hbig;have q0:decide ((s.size:Int) > 8192)=false:=decide_eq_false (by omega);obtain ⟨R,hR'⟩:∃R,R=lx s:=⟨_,rfl⟩;rw [<- hR'] at hR ⊢;have st0:Hid (lI s s.size (sk s false 0) []=R):=ae hR.symm;have hsz:s.size<=8192:=by omega
  have Bc:=ae (RZ s w);have hsk:=O4 s false (Nat.zero_le s.size);have D8:=ae hsz;obtain ⟨i0,hi,hz0,hz1,hz2⟩:=info_parts VF;obtain ⟨p0,hp0⟩:∃p,p=sk s false 0:=⟨_,rfl⟩;rw [<- hp0] at Bc st0 hsk;clear hR hR' hp0;go_enter Tryz.func23,Tryz.ntmps23;go_wp2_with fail;refine Bc.out.mono ?_;rintro e u0 ⟨rfl,hbg⟩;have R5:=ae hbg;clear hbg;go_wp2_with fail;go_loopw [5,6] (fun tv av w'=>∃(acc:List Tk) (i f:Nat),av=.int .i64 i/\i<=s.size/\w'.ownsRow w.heap.size 47 4 tv acc.length (flat acc)/\Below w.heap.size w w'/\acc.length<=4096/\Hid (s.size<=i+f)/\Hid (lI s f i acc=R)) (fun _ av _=>match av with | .int _ k=>s.size-k.toNat|_=>0)
  case atStart=>exact ⟨[],p0,s.size,rfl,hsk,World.ownsRow_nil _ _ _ _,R5.out,by simp,ae (by omega),st0⟩
  case round =>
   obtain ⟨acc,i,f,rfl,hle,hown,hbel,hlen,hf,hR⟩:=hrel;clear st0 Bc hsk R5;by_cases hp:i<s.size
   ·have q1:=aJ s.size i hp D8.out;obtain ⟨g,hg,hst⟩:=VE s f i acc hp hf.out;rw [hR.out] at hst;obtain ⟨tx,htx⟩:∃t,t=s.extract i s.size:=⟨_,rfl⟩;have GH:0<tx.size/\tx.size<=s.size:=by rw [htx,qb];omega
    have D9:=VC s i hp;rw [<- htx] at D9;have HO:=ae (XS tx GH.1 (Nat.lt_of_le_of_lt GH.2 (by omega)) (Nat.le_trans GH.2 (by omega)) wr (fC.on hbel));have hsl:s.extract i s.size=tx:=htx.symm;clear GH htx
    obtain ⟨o5,c5,l9⟩:∃o c,u5=.slice o acc.length c:=by
     rcases hown.2 with ⟨h1,h2⟩|⟨g,cap,cur,h1,_⟩
     ·exact ⟨none,0,by rw [h1,h2]⟩
     ·exact ⟨_,_,h1⟩
    cases ho:one tx 0 with
    | error z =>
     rw [D9,ho] at hst;rw [ho] at HO;obtain ⟨q2,q3⟩:=aN (VG ho);have HR:=ae (show R=([],(i:Int),z) from hst);have HB:=ae hbel;subst l9;clear hst ho D9 hR hf hown hbel hg;go_wp2_with fail;refine Calls.mono (show Calls _ _ _ _ _ from HO.out) ?_;rintro e u ⟨rfl,hb⟩;have HB2:=ae (ax HB.out hb);simp only [gp];clear hb HO;go_wp2;refine bodyPost_ret (results_tmp3 rfl _ _ _) rfl ?_;exact KU HR.out (HB2.out.alloc (HB2.out.size) _)
    | ok r =>
     obtain ⟨k,x,n,e'⟩:=r;have hoe:one s i=.ok (k,x,n,i+e'):=by rw [D9,ho];rfl
     obtain ⟨he1,he2⟩:=VA hp hoe;rw [hoe] at hst;rw [ho] at HO;clear D9;by_cases h4:acc.length=4096
     ·have q2:=aL h4;have HR:=ae (show R=([],(i:Int),3) from by rw [hst];exact if_pos h4);have HB:=ae hbel;subst l9;clear hst ho hoe hR hf hown hbel hg he1 he2;go_wp2_with fail;refine Calls.mono (show Calls _ _ _ _ _ from HO.out) ?_;rintro e u ⟨rfl,hb⟩;have HB2:=ae (ax HB.out hb);simp only [gp];clear hb HO;go_wp2;refine bodyPost_ret (results_tmp3 rfl _ _ _) rfl ?_;exact KU HR.out (HB2.out.alloc (HB2.out.size) _)
     ·have q2:=aM h4;have HR:=ae (show R=lI s g (sk s false (i+e')) (acc++[⟨k,x,n,i⟩]) from by rw [hst];exact if_neg h4);have HB:=ae hbel;have HOW:=ae hown;obtain ⟨e2,R6⟩:∃e2,e2=i+e':=⟨_,rfl⟩;obtain ⟨R7,R8⟩:=aR he2 D8.out;rw [<- R6] at R7 R8 HR he1 he2;obtain ⟨t2,ht2⟩:∃t,t=s.extract e2 s.size:=⟨_,rfl⟩;have adz:s.extract e2 s.size=t2:=ht2.symm;have Bc:=fun (u:World)=>ae (RZ t2 u);have hs0:=Xr s false e2;have hs1:=O4 s false he2;have hfr:=Xt s e2 he2 false;rw [<- ht2] at hfr;obtain ⟨p1,hp1⟩:∃p,p=sk s false e2:=⟨_,rfl⟩;rw [<- hp1] at HR hs0 hs1 hfr;generalize sk t2 false 0=d2 at *;have hwb:wrap64 ((e2:Int)+(d2:Int))=(p1:Int):=by rw [(aR (by rw [hfr];exact hs1) D8.out).1,hfr]
      have aaX:(e2:Int)+(d2:Int)=(p1:Int):=by rw [(aR (by rw [hfr];exact hs1) D8.out).2,hfr]
      have adA:=he2;have KV:=ae (aV hs1 D8.out);have HG:Hid (s.size<=p1+g):=ae (aS2 hf.out hg hs0 he1);have HL:Hid (acc.length+1<=4096):=ae (by omega);have HE:Hid (e2<=p1/\p1<=s.size/\i<e2):=ae ⟨hs0,hs1,he1⟩;clear hst ho hoe hR hf hown hbel hg hp1 hs0 hs1 he1 he2 hlen hfr ht2 R6;subst l9;go_wp2_with fail;refine Calls.mono (show Calls _ _ _ _ _ from HO.out) ?_;rintro e u ⟨rfl,hb⟩;have HB2:=ae (ax HB.out hb);have jS:=ae (NM HOW.out hb);simp only [gp];clear hb HO HOW HB;go_wp2_with (first|(at_builtin;refine wpList_append_own _ rfl _ _ 41 rfl w.heap.size 47 i0 _ 4 40 Tryz.underlying41 hi hz0 hz1 hz2 rfl (by decide) _ acc.length (flat acc) rfl ((jS.out.alloc _).alloc _) ⟨u.heap.size+1,0,none⟩ 1 1 [.int .i64 k,.string x,.int .i64 n,.int .i64 i] rfl rfl ?c1 ?c2 ?c3 ?c4 ?c5 ?c6))
      case c1=>exact VI _ _ (by simp) _ _ _ _ _
      case c2=>exact VJ k x n i
      case c3=>exact (aP _ HL.out).1
      case c4=>exact (aP _ HL.out).2
      case c5=>exact aQ HB2.out _ _
      case c6 =>
       intro v' w9 hown' hgr _;have aD:=ae (VL HB2.out jS.out _ _ hgr);have R9:=ae (VK hown');clear hown' hgr HB2 jS;go_wp2_with fail;refine (Bc _).out.mono ?_;rintro e u9 ⟨rfl,KW⟩;have dF:=ae (ax aD.out KW);have sI:=ae (NM R9.out KW);clear Bc KW aD R9;go_wp2;go_roundw
       case rel=>exact ⟨acc++[⟨k,x,n,i⟩],p1,g,congrArg (Value.int .i64) KV.out,HE.out.2.1,sI.out,dF.out,by rw [List.length_append];exact HL.out,HG,ae HR.out.symm⟩
       case measure=>clear R7 R8 hwb aaX;have h1:=HE.out;simp only [KV.out];clear KV;simp;omega
   ·have q1:=aK s.size i hp;have HR:=ae (hR.out.symm.trans (VD s f i acc hp));have HOW:=ae hown;have HB:=ae hbel;clear hR hf hown hbel;go_wp2;refine bodyPost_ret (results_tmp3 rfl _ _ _) rfl ?_;exact aaW HR.out HB.out HOW.out
end Go.Proofs.YtkdbgopgjbfhbaaGreatDoor
namespace Go.Proofs.YtkdbgopgjbfhbaaGreatDoor
open Go.RowKit Lx Pz bw
set_option linter.unusedVariables false
set_option maxRecDepth 100000
set_option maxHeartbeats 4000000
namespace Pz
theorem aaR {u t:World} {B:Nat} {e:TypeId} {v:Value} {l:List Tk} (h:u.ownsRow B e 4 v l.length (flat l)) (ht:∀k,B<=k->t.heap[k]?=u.heap[k]?):mI t v l:=by
 rcases EU h with ⟨h1,h2⟩|⟨g,cap,rfl,hc⟩
 ·exact .inl ⟨h1,h2⟩
 ·exact .inr ⟨g,cap,rfl,fun i x hi j y hj=>(World.cell?_of_block (ht g (h.lt g rfl).1)).trans (hc i x hi j y hj)⟩
theorem RP {w u t:World} {cs:Array Value} {a:Int} {B:Nat} {e:TypeId} {v:Value} {L:List Tk} (hB:w.heap.size+3<=B) (h:u.ownsRow B e 4 v L.length (flat L)) (hl:L.length<=4096) (en:Int) (ht:t=(u.setCell ⟨w.heap.size+1,0,none⟩ (.int .i64 a)).setCell ⟨w.heap.size+2,0,none⟩ (.int .i64 0)) :
  PR t t.heap.size L v en 0 (t.alloc (.cells #[v,.int .i64 0,.int .i64 en] 54)):=by
 have hsz:t.heap.size=u.heap.size:=by rw [ht];simp
 have ha:mI t v L:=aaR h (fun k hk=>by rw [ht,Below.heap_setCell _ _ _ _ (by show k≠w.heap.size+2;omega),Below.heap_setCell _ _ _ _ (by show k≠w.heap.size+1;omega)]);exact ⟨bN t _,Nat.le_refl _,heap_alloc_new t _,Nat.zero_le _,ha.on (bN t _),hl,fun g o n c hv=>by subst hv;rw [hsz];exact (h.lt g rfl).2⟩
end Pz
theorem aaS (s:ByteArray) (w:World) (fC:WL w) (z:Int) (h0:(lx s).2.2=0) (hz:mM (lx s).1 s.size=.error z):Calls Tryz.prog 10 #[.string s] w fun e w'=>e=.returned (.tuple #[.agg eQ,.int .i64 z,.int .i64 120])/\Below w.heap.size w w':=by
 have H0:=ae (PE.start w);have RQ:∀(fn:Fn) (first cap:Array Value) (w:World),(Instr.makeFunc fn first cap).run Tryz.prog w=.ok (.func fn first cap) w:=fun _ _ _ _=>rfl;have kg:=ae (KN s (qm w) (fC.on (PE.start w).below));have HG:=ae (NR s);have lG:=ae (Rz s);have HZ:=ae hz;obtain ⟨⟨L,dc,er⟩,hL⟩:∃R,R=lx s:=⟨_,rfl⟩;rw [<- hL] at kg HG lG HZ h0
 change er=0 at h0
 subst h0;clear hL hz fC
 go_enter_defers Tryz.func10,Tryz.ntmps10
 go_upto_region 2 with fail;obtain ⟨wb,hwb⟩:∃wb,wb=qm w:=⟨_,rfl⟩;rw [<- hwb] at H0 kg;have rZ:=hwb;unfold qm at rZ;rw [<- rZ];clear hwb rZ;go_wp2_with fail;refine kg.out.mono ?_;rintro e u ⟨v,rfl,hown,hb⟩;obtain ⟨oV,cV,rfl⟩:=Du (EU hown);have H1:=ae (H0.out.on hb);have HOW:=ae hown;have c1:=af H1.out.b1 0 _ rfl;have c2:=af H1.out.b2 0 _ rfl;have f1:u.frozen? ⟨w.heap.size+1,0,none⟩=false:=by unfold World.frozen?;rw [H1.out.b1];simp
 have f2:u.frozen? ⟨w.heap.size+2,0,none⟩=false:=by unfold World.frozen?;rw [H1.out.b2];simp
 clear hown hb kg;go_upto_region 3 with fail;obtain ⟨t1,ht1⟩:∃t1,t1=(u.setCell ⟨w.heap.size+1,0,none⟩ (.int .i64 dc)).setCell ⟨w.heap.size+2,0,none⟩ (.int .i64 0):=⟨_,rfl⟩;have P1:Hid (PE w eQ dc 0 t1):=ae (by rw [ht1];exact (H1.out.set1 dc).set2 0);have qw:w.heap.size+3<=wb.heap.size:=(Array.getElem?_eq_some_iff.1 H0.out.b2).1;have R1:=ae (RP (cs:=eQ) qw HOW.out lG.out (s.size:Int) ht1);have d2:=af P1.out.b2 0 _ rfl;have HC:=ae (RG HG.out _ R1.out);rw [HZ.out] at HC;rw [<- ht1];clear ht1 H1 c1 c2 f1 f2 HOW HZ qw HG lG H0 R1;go_wp2_with fail;refine HC.out.mono ?_;rintro e u3 ⟨rfl,hb3⟩;have P3:=ae (P1.out.on hb3);clear hb3 HC P1 d2;go_wp2_with fail;refine leaves_cons (f:=22) (args:=#[.pointer (some ⟨w.heap.size,0,none⟩),.pointer (some ⟨w.heap.size+1,0,none⟩),.pointer (some ⟨w.heap.size+2,0,none⟩)]) (by simp) (by simp [go_sem]) ?_;refine (P3.out.catch z).mono ?_;rintro e u' w9 ⟨rfl,rfl,gq⟩;have z0:=af gq.b0 0 _ rfl;have z1:=af gq.b0 1 _ rfl;have z2:=af gq.b0 2 _ rfl;have z3:=af gq.b0 3 _ rfl;have z4:=af gq.b0 4 _ rfl;have z5:=af gq.b0 5 _ rfl;have z6:=af gq.b0 6 _ rfl;have z7:=af gq.b0 7 _ rfl;have y1:=af gq.b1 0 _ rfl;have y2:=af gq.b2 0 _ rfl;simp [Leaves,settle,results,Tryz.results10,go_sem,z0,z1,z2,z3,z4,z5,z6,z7,y1,y2];exact gq.below
namespace Pz
theorem yO {B:Nat} {t u z:Value} {k n a:Int} {x y:ByteArray} {w:World} (h:aW B t (.agg #[.int .i64 k,.string x,.string y,.int .i64 n,u,z,.int .i64 a]) w):u.oneCell'=true/\z.oneCell'=true:=by
 obtain ⟨d,k',x',y',n',es,ps,a',u',z',h0,h1,h2,h3⟩:=h;obtain ⟨o,c,rfl,_⟩:=bz h2;obtain ⟨o',c',rfl,_⟩:=bz h3;injection h1 with h1;have e1:=congrArg (fun l:Array Value=>l[4]?) h1;have e2:=congrArg (fun l:Array Value=>l[5]?) h1;simp at e1 e2;subst e1 e2;exact ⟨rfl,rfl⟩
theorem aW.rC {B:Nat} {t v:Value} {w w':World} (h:aW B t v w) (hb:bF B w w'):aW B t v w':=by
 obtain ⟨d,hd⟩:=h;exact ⟨d,hd.but hb⟩
theorem fw.rC {B:Nat} {r:List Value × Value} {v:Value} {w w':World} (h:fw B r v w) (hb:bF B w w'):fw B r v w':=by
 obtain ⟨u,k,x,y,n,vu,vz,a,h0,h1,h2⟩:=h;exact ⟨u,k,x,y,n,vu,vz,a,h0,h1.on hb (Nat.le_refl _),h2.rC hb⟩
theorem fw.low {B C:Nat} {r:List Value × Value} {v:Value} {w:World} (h:fw B r v w) (hc:C<=B):fw C r v w:=by
 obtain ⟨u,k,x,y,n,vu,vz,a,h0,h1,d,h2⟩:=h;exact ⟨u,k,x,y,n,vu,vz,a,h0,h1.on (fun _ _ _=>rfl) hc,d,h2.lo hc⟩
theorem PE.Hl {w u:World} {cs:Array Value} {y x:Int} (h:PE w cs y x u) (vs:Array Value) (hv:vs.size=8):∃W,u.setCells w.heap.size 0 vs.toList=W/\u.there w.heap.size 0 vs.size/\PE w vs y x W/\(∀m,m≠w.heap.size->W.heap[m]?=u.heap[m]?)/\u.heap.size<=W.heap.size:=by
 obtain ⟨W,h1,h2,h3⟩:=h.put vs hv;exact ⟨W,h1,h2,h3,fun m hm=>by rw [<- h1];exact uw _ m hm _ 0 u,by rw [<- h1];exact (lZ 0 _ (Nat.zero_le _) vs.toList 0 u u (Below.refl _ u)).size⟩
theorem PE.GX {w u:World} {cs:Array Value} {y x:Int} (h:PE w cs y x u):u.frozen? ⟨w.heap.size+1,0,none⟩=false:=by unfold World.frozen?;rw [h.b1];simp
theorem PE.GY {w u:World} {cs:Array Value} {y x:Int} (h:PE w cs y x u):u.frozen? ⟨w.heap.size+2,0,none⟩=false:=by unfold World.frozen?;rw [h.b2];simp
def GV (w:World) (R:Except (Int × Int) (List Value × Value)) (e:Ending) (w':World):Prop:=Below w.heap.size w w'/\match R with
 | .error (a,z)=>e=.returned (.tuple #[.agg eQ,.int .i64 a,.int .i64 z])
 | .ok r=>∃v,e=.returned (.tuple #[v,.int .i64 0,.int .i64 0])/\fw w.heap.size r v w'
def pq (d:Nat) (ds:List Value) (t:Value):Except (Int × Int) (List Value × Value):=if lY d ds t=true then .error (0,3) else if rS 256 ds t=true then .error (0,4) else .ok (ds,t)
theorem PE.TK {w u u':World} (h:∀m,m≠w.heap.size->u'.heap[m]?=u.heap[m]?) {B:Nat} (hB:w.heap.size<B):bF B u u':=fun k hk hl=>h k (by omega)
theorem TL (u:World) (b j:Nat) (v:Value) {B:Nat} (hB:b<B):bF B u (u.setCell ⟨b,j,none⟩ v):=fun k hk hl=>Below.heap_setCell u ⟨b,j,none⟩ v k (by show k≠b;omega)
end Pz
theorem acH (s:ByteArray) (w:World) (fC:WL w) (ds:List Value) (t:Value) (j:Nat) (h0:(lx s).2.2=0) (hz:mM (lx s).1 s.size=.ok ((ds,t),j)):Calls Tryz.prog 10 #[.string s] w fun e w'=>∃d,fit d t/\GV w (pq d ds t) e w':=by
 have H0:=ae (PE.start w);have RQ:∀(fn:Fn) (first cap:Array Value) (w:World),(Instr.makeFunc fn first cap).run Tryz.prog w=.ok (.func fn first cap) w:=fun _ _ _ _=>rfl;have kg:=ae (KN s (qm w) (fC.on (PE.start w).below));have HG:=ae (NR s);have lG:=ae (Rz s);have HZ:=ae hz;obtain ⟨⟨L,dc,er⟩,hL⟩:∃R,R=lx s:=⟨_,rfl⟩;rw [<- hL] at kg HG lG HZ h0
 change er=0 at h0
 subst h0;clear hL hz fC
 go_enter_defers Tryz.func10,Tryz.ntmps10
 go_upto_region 2 with fail;obtain ⟨wb,hwb⟩:∃wb,wb=qm w:=⟨_,rfl⟩;rw [<- hwb] at H0 kg;have rZ:=hwb;unfold qm at rZ;rw [<- rZ];clear hwb rZ;go_wp2_with fail;refine kg.out.mono ?_;rintro e u ⟨v,rfl,hown,hb⟩;obtain ⟨oV,cV,rfl⟩:=Du (EU hown);have H1:=ae (H0.out.on hb);have HOW:=ae hown;have c1:=af H1.out.b1 0 _ rfl;have c2:=af H1.out.b2 0 _ rfl;have f1:u.frozen? ⟨w.heap.size+1,0,none⟩=false:=by unfold World.frozen?;rw [H1.out.b1];simp
 have f2:u.frozen? ⟨w.heap.size+2,0,none⟩=false:=by unfold World.frozen?;rw [H1.out.b2];simp
 clear hown hb kg;go_upto_region 3 with fail;obtain ⟨t1,ht1⟩:∃t1,t1=(u.setCell ⟨w.heap.size+1,0,none⟩ (.int .i64 dc)).setCell ⟨w.heap.size+2,0,none⟩ (.int .i64 0):=⟨_,rfl⟩;have P1:Hid (PE w eQ dc 0 t1):=ae (by rw [ht1];exact (H1.out.set1 dc).set2 0);have qw:w.heap.size+3<=wb.heap.size:=(Array.getElem?_eq_some_iff.1 H0.out.b2).1;have R1:=ae (RP (cs:=eQ) qw HOW.out lG.out (s.size:Int) ht1);have d2:=af P1.out.b2 0 _ rfl;have HC:=ae (RG HG.out _ R1.out);rw [HZ.out] at HC;have hlt1:w.heap.size<t1.heap.size:=(Array.getElem?_eq_some_iff.1 P1.out.b0).1;have hlt2:w.heap.size+2<t1.heap.size:=(Array.getElem?_eq_some_iff.1 P1.out.b2).1;have hsz:(t1.alloc (.cells #[.slice oV L.length cV,.int .i64 0,.int .i64 (s.size:Int)] 54)).heap.size=t1.heap.size+1:=by simp
 rw [hsz] at HC;have nW:=ae hlt2;rw [<- ht1];clear ht1 H1 c1 c2 f1 f2 HOW HZ qw HG lG H0 R1 hsz hlt1 hlt2;go_wp2_with fail;refine HC.out.mono ?_;rintro e u3 ⟨⟨v9,rfl,hpr⟩,A7,-⟩;have TM:=hpr;obtain ⟨u0,k0,x0,y0,n0,Bi,Bj,a0,rfl,hD,hM⟩:=hpr;obtain ⟨q1,q2⟩:=yO hM;have q0:u0.oneCell'=true:=by obtain ⟨oD,cD,rfl,_⟩:=bz hD;rfl
 have P3:=ae (P1.out.on A7.below);obtain ⟨W,hW,hth,yM,hoth,-⟩:=P3.out.Hl #[u0,.int .i64 k0,.string x0,.string y0,.int .i64 n0,Bi,Bj,.int .i64 a0] rfl;have hab:bF (t1.heap.size+1) u3 W:=PE.TK hoth (by have:=nW.out;omega);have lS:=ae hth;have HW1:=ae hW;have yR:=ae (TM.rC hab);have PA:=ae yM;clear TM hD hM A7 P1 d2 HC hth hW hoth hab yM P3;have g0:=af PA.out.b0 0 _ rfl;have g1:=af PA.out.b0 1 _ rfl;have g2:=af PA.out.b0 2 _ rfl;have g3:=af PA.out.b0 3 _ rfl;have g4:=af PA.out.b0 4 _ rfl;have g5:=af PA.out.b0 5 _ rfl;have g6:=af PA.out.b0 6 _ rfl;have g7:=af PA.out.b0 7 _ rfl;obtain ⟨u9,k9,x9,y9,n9,vu9,vz9,a9,bG,hD,dd,hM⟩:=yR.out;injection bG with bG;simp only [Array.mk.injEq,List.cons.injEq,Value.int.injEq,Value.string.injEq,true_and,and_true] at bG;obtain ⟨rfl,rfl,rfl,rfl,rfl,rfl,rfl,rfl⟩:=bG;have HF:=ae hM.fit;have TN:=ae (aai dd ds t u0 Bi Bj k0 n0 a0 x0 y0 W (hD.on (fun _ _ _=>rfl) (Nat.zero_le _)) (hM.lo (Nat.zero_le _)));clear hD hM;go_wp2_with (refine wpList_store_mid rfl 29 (.tmp 2) (.tmp 25) rfl w.heap.size 0 #[u0,.int .i64 k0,.string x0,.string y0,.int .i64 n0,Bi,Bj,.int .i64 a0] rfl rfl lS.out sW (by simp [Value.oneCell'] at q0 q1 q2 ⊢;exact ⟨q0,q1,q2⟩) ?_;rw [HW1.out]);clear lS HW1;refine Calls.mono (show Calls _ _ _ _ _ from TN.out) ?_;rintro e u4 ⟨rfl,hb4⟩;have P4:=ae (PA.out.on hb4);have LW:=ae (yR.out.rC (bF.of hb4));clear hb4 TN PA yR g0 g1 g2 g3 g4 g5 g6 g7;have g0:=af P4.out.b0 0 _ rfl;have g1:=af P4.out.b0 1 _ rfl;have g2:=af P4.out.b0 2 _ rfl;have g3:=af P4.out.b0 3 _ rfl;have g4:=af P4.out.b0 4 _ rfl;have g5:=af P4.out.b0 5 _ rfl;have g6:=af P4.out.b0 6 _ rfl;have g7:=af P4.out.b0 7 _ rfl;cases hT:lY dd ds t with
 | true =>
  have kg:=ae (show pq dd ds t=.error (0,3) by unfold pq;rw [if_pos hT]);clear hT;obtain ⟨W9,xM,xN,gq,xO,xP⟩:=P4.out.Hl eQ rfl;have zR:=ae xN;have zQ:=ae xM;have c1:=af gq.b1 0 _ rfl;have c2:=af gq.b2 0 _ rfl;have f1:=gq.GX;have f2:=gq.GY;have mF:=ae gq;have vq:=ae xO;have LX:=ae xP;clear xM xN gq xO xP;go_wp2_with (refine wpList_store_mid rfl 29 (.tmp 2) (.tmp 29) rfl w.heap.size 0 eQ rfl rfl zR.out sW (by simp [Value.oneCell']) ?_;rw [zQ.out]);refine leaves_cons (f:=22) (args:=#[.pointer (some ⟨w.heap.size,0,none⟩),.pointer (some ⟨w.heap.size+1,0,none⟩),.pointer (some ⟨w.heap.size+2,0,none⟩)]) (by simp) (by simp [go_sem]) ?_;refine (EX w.heap.size (w.heap.size+1) (w.heap.size+2) _).mono ?_;rintro e u' w9 ⟨rfl,rfl,rfl⟩;have eM:PE w eQ 0 3 ((W9.setCell ⟨w.heap.size+1,0,none⟩ (.int .i64 0)).setCell ⟨w.heap.size+2,0,none⟩ (.int .i64 3)):=(mF.out.set1 0).set2 3;generalize LY:((W9.setCell ⟨w.heap.size+1,0,none⟩ (.int .i64 0)).setCell ⟨w.heap.size+2,0,none⟩ (.int .i64 3))=WX at *;clear c1 c2 f1 f2;have z0:=af eM.b0 0 _ rfl;have z1:=af eM.b0 1 _ rfl;have z2:=af eM.b0 2 _ rfl;have z3:=af eM.b0 3 _ rfl;have z4:=af eM.b0 4 _ rfl;have z5:=af eM.b0 5 _ rfl;have z6:=af eM.b0 6 _ rfl;have z7:=af eM.b0 7 _ rfl;have gm:=af eM.b1 0 _ rfl;have zP:=af eM.b2 0 _ rfl;simp [Leaves,settle,results,Tryz.results10,go_sem,z0,z1,z2,z3,z4,z5,z6,z7,gm,zP];exact ⟨dd,HF.out,eM.below,by rw [kg.out]⟩
 | false =>
  have qh:=ae (aaQ ds t _ u4 (LW.out.low (Nat.zero_le _)));go_wp2_with fail;refine Calls.mono (show Calls _ _ _ _ _ from qh.out) ?_;rintro e u5 ⟨rfl,hb5⟩;have P5:=ae (P4.out.on hb5);have acM:=ae (LW.out.rC (bF.of hb5));clear hb5 qh P4 LW g0 g1 g2 g3 g4 g5 g6 g7;have g0:=af P5.out.b0 0 _ rfl;have g1:=af P5.out.b0 1 _ rfl;have g2:=af P5.out.b0 2 _ rfl;have g3:=af P5.out.b0 3 _ rfl;have g4:=af P5.out.b0 4 _ rfl;have g5:=af P5.out.b0 5 _ rfl;have g6:=af P5.out.b0 6 _ rfl;have g7:=af P5.out.b0 7 _ rfl;cases hP:rS 256 ds t with
  | true =>
   have kg:=ae (show pq dd ds t=.error (0,4) by unfold pq;rw [if_neg (by rw [hT];simp),if_pos hP]);clear hT hP;obtain ⟨W9,xM,xN,gq,xO,xP⟩:=P5.out.Hl eQ rfl;have zR:=ae xN;have zQ:=ae xM;have c1:=af gq.b1 0 _ rfl;have c2:=af gq.b2 0 _ rfl;have f1:=gq.GX;have f2:=gq.GY;have mF:=ae gq;have vq:=ae xO;have LX:=ae xP;clear xM xN gq xO xP;go_wp2_with (refine wpList_store_mid rfl 29 (.tmp 2) (.tmp 33) rfl w.heap.size 0 eQ rfl rfl zR.out sW (by simp [Value.oneCell']) ?_;rw [zQ.out]);refine leaves_cons (f:=22) (args:=#[.pointer (some ⟨w.heap.size,0,none⟩),.pointer (some ⟨w.heap.size+1,0,none⟩),.pointer (some ⟨w.heap.size+2,0,none⟩)]) (by simp) (by simp [go_sem]) ?_;refine (EX w.heap.size (w.heap.size+1) (w.heap.size+2) _).mono ?_;rintro e u' w9 ⟨rfl,rfl,rfl⟩;have eM:PE w eQ 0 4 ((W9.setCell ⟨w.heap.size+1,0,none⟩ (.int .i64 0)).setCell ⟨w.heap.size+2,0,none⟩ (.int .i64 4)):=(mF.out.set1 0).set2 4;generalize LY:((W9.setCell ⟨w.heap.size+1,0,none⟩ (.int .i64 0)).setCell ⟨w.heap.size+2,0,none⟩ (.int .i64 4))=WX at *;clear c1 c2 f1 f2;have z0:=af eM.b0 0 _ rfl;have z1:=af eM.b0 1 _ rfl;have z2:=af eM.b0 2 _ rfl;have z3:=af eM.b0 3 _ rfl;have z4:=af eM.b0 4 _ rfl;have z5:=af eM.b0 5 _ rfl;have z6:=af eM.b0 6 _ rfl;have z7:=af eM.b0 7 _ rfl;have gm:=af eM.b1 0 _ rfl;have zP:=af eM.b2 0 _ rfl;simp [Leaves,settle,results,Tryz.results10,go_sem,z0,z1,z2,z3,z4,z5,z6,z7,gm,zP];exact ⟨dd,HF.out,eM.below,by rw [kg.out]⟩
  | false =>
   have kg:=ae (show pq dd ds t=.ok (ds,t) by unfold pq;rw [if_neg (by rw [hT];simp),if_neg (by rw [hP];simp)]);clear hT hP;obtain ⟨W9,xM,xN,gq,xO,xP⟩:=P5.out.Hl #[u0,.int .i64 k0,.string x0,.string y0,.int .i64 n0,Bi,Bj,.int .i64 a0] rfl;have zR:=ae xN;have zQ:=ae xM;have c1:=af gq.b1 0 _ rfl;have c2:=af gq.b2 0 _ rfl;have f1:=gq.GX;have f2:=gq.GY;have mF:=ae gq;have vq:=ae xO;have LX:=ae xP;clear xM xN gq xO xP;go_wp2_with (refine wpList_store_mid rfl 29 (.tmp 2) (.tmp 34) rfl w.heap.size 0 #[u0,.int .i64 k0,.string x0,.string y0,.int .i64 n0,Bi,Bj,.int .i64 a0] rfl rfl zR.out sW (by simp [Value.oneCell'] at q0 q1 q2 ⊢;exact ⟨q0,q1,q2⟩) ?_;rw [zQ.out]);refine leaves_cons (f:=22) (args:=#[.pointer (some ⟨w.heap.size,0,none⟩),.pointer (some ⟨w.heap.size+1,0,none⟩),.pointer (some ⟨w.heap.size+2,0,none⟩)]) (by simp) (by simp [go_sem]) ?_;refine (EX w.heap.size (w.heap.size+1) (w.heap.size+2) _).mono ?_;rintro e u' w9 ⟨rfl,rfl,rfl⟩;have eM:PE w #[u0,.int .i64 k0,.string x0,.string y0,.int .i64 n0,Bi,Bj,.int .i64 a0] 0 0 ((W9.setCell ⟨w.heap.size+1,0,none⟩ (.int .i64 0)).setCell ⟨w.heap.size+2,0,none⟩ (.int .i64 0)):=(mF.out.set1 0).set2 0;generalize LY:((W9.setCell ⟨w.heap.size+1,0,none⟩ (.int .i64 0)).setCell ⟨w.heap.size+2,0,none⟩ (.int .i64 0))=WX at *;clear c1 c2 f1 f2;have z0:=af eM.b0 0 _ rfl;have z1:=af eM.b0 1 _ rfl;have z2:=af eM.b0 2 _ rfl;have z3:=af eM.b0 3 _ rfl;have z4:=af eM.b0 4 _ rfl;have z5:=af eM.b0 5 _ rfl;have z6:=af eM.b0 6 _ rfl;have z7:=af eM.b0 7 _ rfl;have gm:=af eM.b1 0 _ rfl;have zP:=af eM.b2 0 _ rfl;simp [Leaves,settle,results,Tryz.results10,go_sem,z0,z1,z2,z3,z4,z5,z6,z7,gm,zP]
   have hab:bF (t1.heap.size+1) u5 WX:=by
    have hl:=nW.out;have hz:=LX.out;rw [<- LY];exact bF.trans (PE.TK vq.out (by omega)) hz (bF.trans (TL _ _ _ _ (by omega)) (by simp) (TL _ _ _ _ (by omega)))
   refine ⟨dd,HF.out,eM.below,?_⟩;rw [kg.out];exact ⟨_,rfl,(acM.out.rC hab).low (by have:=nW.out;omega)⟩
theorem acF (s:ByteArray) (w:World) (fC:WL w) (h0:(lx s).2.2≠0):Calls Tryz.prog 10 #[.string s] w fun e w'=>GV w (.error ((lx s).2.1,(lx s).2.2)) e w':=by
 have H0:=ae (PE.start w);have RQ:∀(fn:Fn) (first cap:Array Value) (w:World),(Instr.makeFunc fn first cap).run Tryz.prog w=.ok (.func fn first cap) w:=fun _ _ _ _=>rfl;have kg:=ae (KN s (qm w) (fC.on (PE.start w).below));obtain ⟨⟨L,dc,er⟩,hL⟩:∃R,R=lx s:=⟨_,rfl⟩;rw [<- hL] at kg h0 ⊢
 change er≠0 at h0
 have hq:(er != 0)=true:=bne_iff_ne.2 h0;show Calls _ _ _ _ fun e w'=>GV w (.error (dc,er)) e w';clear hL fC h0
 go_enter_defers Tryz.func10,Tryz.ntmps10
 go_upto_region 2 with fail;obtain ⟨wb,hwb⟩:∃wb,wb=qm w:=⟨_,rfl⟩;rw [<- hwb] at H0 kg;have rZ:=hwb;unfold qm at rZ;rw [<- rZ];clear hwb rZ;go_wp2_with fail;refine kg.out.mono ?_;rintro e u ⟨v,rfl,hown,hb⟩;obtain ⟨oV,cV,rfl⟩:=Du (EU hown);have H1:=ae (H0.out.on hb);have c1:=af H1.out.b1 0 _ rfl;have c2:=af H1.out.b2 0 _ rfl;have f1:u.frozen? ⟨w.heap.size+1,0,none⟩=false:=by unfold World.frozen?;rw [H1.out.b1];simp
 have f2:u.frozen? ⟨w.heap.size+2,0,none⟩=false:=by unfold World.frozen?;rw [H1.out.b2];simp
 clear hown hb kg;go_upto_region 3 with fail;obtain ⟨t1,ht1⟩:∃t1,t1=(u.setCell ⟨w.heap.size+1,0,none⟩ (.int .i64 dc)).setCell ⟨w.heap.size+2,0,none⟩ (.int .i64 er):=⟨_,rfl⟩;have P1:Hid (PE w eQ dc er t1):=ae (by rw [ht1];exact (H1.out.set1 dc).set2 er);have d2:=af P1.out.b2 0 _ rfl;rw [<- ht1];clear ht1 H1 c1 c2 f1 f2 H0;go_wp2_with fail;refine ah.Pm 6 35 (fun i=>16+i) [3,4,5] [] (fun _ _ u'=>PE w eQ dc er u') (fun u=>PE w eQ dc er u) (fun _ _=>True) (fun i v _=>(i=0->v=.agg eQ)/\(i=1->v=.int .i64 dc)/\(i=2->v=.int .i64 er)) (by kernel_rfl) (by kernel_rfl) (by kernel_rfl) (by kernel_rfl) rfl ?hN (fun i k v u u' _ _ _ _ _ _ hG _=>hG) (fun _ _ _ _ _ _ _ _ _ _ _=>trivial) (fun k u u' _ _ hT=>hT) ?hstep ?hend (P1.out.on (gZ _)) (fun _ _=>trivial)
 case hN =>
  intro i hi v v' u h;have hc:i=3\/i=4\/i=5:=by simpa using hi
  rcases hc with rfl|rfl|rfl<;>exact ⟨fun h=>absurd h (by decide),fun h=>absurd h (by decide),fun h=>absurd h (by decide)⟩
 case hstep =>
  intro j o a v hj ho hF hK hR hd;have f2:a.eval (.tmp 2)=.pointer (some ⟨w.heap.size,0,none⟩):=hF.eval 2 (fun i hi=>by show 16+i≠2;omega);have f3:a.tmps[3]?.getD undef=.pointer (some ⟨w.heap.size+1,0,none⟩):=ah.ak (hF.eval 3 (fun i hi=>by show 16+i≠3;omega));have f4:a.tmps[4]?.getD undef=.pointer (some ⟨w.heap.size+1+1,0,none⟩):=ah.ak (hF.eval 4 (fun i hi=>by show 16+i≠4;omega));have HK:=ae hK;have c1:=af hK.b1 0 _ rfl;have c2:=af hK.b2 0 _ rfl;have g1:=hK.GX;have g2:=hK.GY;have hcase:j=0\/j=1\/j=2\/j=3\/j=4\/j=5:=by omega
  clear hj hR hK;rcases hcase with rfl|rfl|rfl|rfl|rfl|rfl
  all_goals (simp only [List.getElem?_toArray,List.getElem?_cons_succ,List.getElem?_cons_zero,Option.some.injEq] at ho;subst ho;refine ah.bh fun K aj=>?_)
  ·go_simp;exact aj _ _ ⟨_,rfl,HK.out,fun _=>rfl,fun h=>absurd h (by decide),fun h=>absurd h (by decide)⟩
  ·go_simp;exact aj _ _ ⟨_,rfl,HK.out,fun h=>absurd h (by decide),fun _=>rfl,fun h=>absurd h (by decide)⟩
  ·go_simp;exact aj _ _ ⟨_,rfl,HK.out,fun h=>absurd h (by decide),fun h=>absurd h (by decide),fun _=>rfl⟩
  ·have q:a.eval (.tmp 16)=.agg eQ:=(hd 0 (by decide)).1 rfl;obtain ⟨W,hW,hth,hP⟩:=HK.out.put eQ rfl;refine wp_store_mid 29 (.tmp 2) (.tmp 16) rfl w.heap.size 0 eQ f2 q hth sW (by simp [Value.oneCell']) ?_;rw [hW];exact aj _ _ ⟨undef,rfl,hP,fun h=>absurd h (by decide),fun h=>absurd h (by decide),fun h=>absurd h (by decide)⟩
  ·have q:a.tmps[17]?.getD undef=.int .i64 dc:=ah.ak ((hd 1 (by decide)).2.1 rfl);go_simp;exact aj _ _ ⟨undef,rfl,HK.out.set1 dc,fun h=>absurd h (by decide),fun h=>absurd h (by decide),fun h=>absurd h (by decide)⟩
  ·have q:a.tmps[18]?.getD undef=.int .i64 er:=ah.ak ((hd 2 (by decide)).2.2 rfl);go_simp;exact aj _ _ ⟨undef,rfl,HK.out.set2 er,fun h=>absurd h (by decide),fun h=>absurd h (by decide),fun h=>absurd h (by decide)⟩
 case hend =>
  intro a v hF hK hn;obtain ⟨xl,hxl,rfl,hev⟩:=hF.lit (by simp)
  obtain ⟨x0,x1,x2,x3,x4,x5,rfl⟩:∃x0 x1 x2 x3 x4 x5,xl = [x0,x1,x2,x3,x4,x5]:=by
   match xl,hxl with
   | [x0,x1,x2,x3,x4,x5],_=>exact ⟨x0,x1,x2,x3,x4,x5,rfl⟩
  have HK:=ae hK;clear hev hxl hF hn hK;simp only [List.take_succ_cons,List.take_zero,List.drop_succ_cons,List.drop_zero,List.cons_append,List.nil_append];go_wp2_with fail;refine leaves_cons (f:=22) (args:=#[.pointer (some ⟨w.heap.size,0,none⟩),.pointer (some ⟨w.heap.size+1,0,none⟩),.pointer (some ⟨w.heap.size+2,0,none⟩)]) (by simp) (by simp [go_sem]) ?_;refine (EX w.heap.size (w.heap.size+1) (w.heap.size+2) _).mono ?_;rintro e u' w9 ⟨rfl,rfl,rfl⟩;have eM:=HK.out;have z0:=af eM.b0 0 _ rfl;have z1:=af eM.b0 1 _ rfl;have z2:=af eM.b0 2 _ rfl;have z3:=af eM.b0 3 _ rfl;have z4:=af eM.b0 4 _ rfl;have z5:=af eM.b0 5 _ rfl;have z6:=af eM.b0 6 _ rfl;have z7:=af eM.b0 7 _ rfl;have gm:=af eM.b1 0 _ rfl;have zP:=af eM.b2 0 _ rfl;simp [Leaves,settle,results,Tryz.results10,go_sem,z0,z1,z2,z3,z4,z5,z6,z7,gm,zP];exact ⟨eM.below,rfl⟩
namespace Pz
def Says (s:ByteArray) (R:Except (Int × Int) (List Value × Value)):Prop :=
 if (lx s).2.2≠0 then R=.error ((lx s).2.1,(lx s).2.2) else
 match mM (lx s).1 s.size with
 | .error z=>R=.error (z,120)
 | .ok ((ds,t),_)=>∃d,fit d t/\R=pq d ds t
theorem acG {d e:Nat} {t:Value} (hd:fit d t) (he:fit e t) (ds:List Value):pq e ds t=pq d ds t:=by
 unfold pq;rw [OB hd he]
theorem Says.one {s:ByteArray} {R R':Except (Int × Int) (List Value × Value)} (h:Says s R) (h':Says s R'):R=R':=by
 unfold Says at h h';split at h
 ·rename_i hc;rw [if_pos hc] at h';rw [h,h']
 ·rename_i hc;rw [if_neg hc] at h';cases hp:mM (lx s).1 s.size with
  | error z=>rw [hp] at h h';rw [h,h']
  | ok r =>
   obtain ⟨⟨ds,t⟩,j⟩:=r;rw [hp] at h h';obtain ⟨d,hd,rfl⟩:=h;obtain ⟨e,he,rfl⟩:=h';exact acG he hd ds
theorem Says.good {s:ByteArray} {ds:List Value} {t:Value} (h:Says s (.ok (ds,t))):∃j d,mM (lx s).1 s.size=.ok ((ds,t),j)/\fit d t/\lY d ds t=false/\rS 256 ds t=false:=by
 unfold Says at h;split at h
 ·cases h
 ·split at h
  ·cases h
  ·rename_i ds' t' j hp;obtain ⟨d,hd,hl⟩:=h;unfold pq at hl;split at hl
   ·cases hl
   ·rename_i h1;split at hl
    ·cases hl
    ·rename_i h2;injection hl with hl;injection hl with e1 e2;subst e1 e2;exact ⟨j,d,hp,hd,by simpa using h1,by simpa using h2⟩
end Pz
theorem Pd (s:ByteArray) (w:World) (fC:WL w):Calls Tryz.prog 10 #[.string s] w fun e w'=>∃R,Says s R/\GV w R e w':=by
 by_cases h0:(lx s).2.2=0
 ·cases hp:mM (lx s).1 s.size with
  | error z =>
   refine (aaS s w fC z h0 hp).mono ?_;rintro e w' ⟨he,hb⟩;exact ⟨.error (z,120),by unfold Says;rw [if_neg (by simpa using h0),hp],hb,he⟩
  | ok r =>
   obtain ⟨⟨ds,t⟩,j⟩:=r;refine (acH s w fC ds t j h0 hp).mono ?_;rintro e w' ⟨d,hd,hP⟩;exact ⟨_,by unfold Says;rw [if_neg (by simpa using h0),hp];exact ⟨d,hd,rfl⟩,hP⟩
 ·refine (acF s w fC h0).mono ?_;rintro e w' hP;exact ⟨_,by unfold Says;rw [if_pos h0],hP⟩
namespace ah
theorem Fr.two {l:List Value} {ds:List Deferred} {N:Nat} {dst:Nat->Nat} {a:Act} {s1 s2 lo n:Nat} {v1 v2:Value} (hF:Fr ⟨l.toArray,ds⟩ dst N a) (h1:a.eval (.tmp s1)=v1) (h2:a.eval (.tmp s2)=v2) (hs:s1<l.length/\s2<l.length/\s1≠s2) (hd:∀k,k≠s1->k≠s2->(∀i,i<n->lo+i≠k)->∀i,i<N->dst i≠k):Fr ⟨((l.set s1 v1).set s2 v2).toArray,ds⟩ (fun i=>lo+i) n a:=by
 obtain ⟨hs1,hs2,hne⟩:=hs;have hsz:a.tmps.size=l.length:=by rw [hF.size];simp
 have key:∀s v,s<l.length->a.eval (.tmp s)=v->a.tmps[s]?=some v:=fun s v hs h=>by
  have hl:s<a.tmps.size:=by omega
  rw [Array.getElem?_eq_getElem hl];have h':a.tmps.getD s undef=v:=h;simp [Array.getD,hl] at h';rw [h']
 refine ⟨hF.defers,by simpa using hF.size,fun k hk=>?_⟩;simp only [List.getElem?_toArray];by_cases e2:k=s2
 ·subst e2;rw [List.getElem?_set_self (by simpa using hs2)];exact key _ _ hs2 h2
 ·rw [List.getElem?_set_ne (fun e=>e2 e.symm)];by_cases e1:k=s1
  ·subst e1;rw [List.getElem?_set_self hs1];exact key _ _ hs1 h1
  ·rw [List.getElem?_set_ne (fun e=>e1 e.symm)]
   have:=hF.rest k (hd k e1 e2 hk)
   simpa using this
end ah
namespace Pz
def KZ (B:Nat) (w w':World):Prop:=Below B w w'/\∀b,B<=b->w.heap[b]?=some (.cells bS 27 (0,0))->w'.heap[b]?=some (.cells bS 27 (0,0))
theorem KZ.refl (B:Nat) (w:World):KZ B w w:=⟨Below.refl _ _,fun _ _ h=>h⟩
theorem KZ.alloc {B:Nat} (w:World) (hB:B<=w.heap.size) (o:Obj):KZ B w (w.alloc o) :=
 ⟨(Below.refl _ _).alloc hB _,fun b _ h=>by rw [((Below.refl _ w).alloc (Nat.le_refl _) o).block b (Array.getElem?_eq_some_iff.1 h).1];exact h⟩
theorem KZ.put {B b:Nat} {w:World} (hB:B<=b) (h:w.heap[b]?=some (.cells bS 27 (0,0))):∃W,w.setCells b 0 bS.toList=W/\w.there b 0 bS.size/\KZ B w W:=by
 obtain ⟨W,hW,hth,hbk,hoth⟩:=Cq w 27 bS bS h rfl;refine ⟨W,hW,hth,?_,fun b' hb' h'=>?_⟩
 ·rw [<- hW];exact lZ B b hB bS.toList 0 w w (Below.refl _ w)
 ·by_cases he:b'=b
  ·subst he;exact hbk
  ·rw [hoth b' he];exact h'
end Pz
end Go.Proofs.YtkdbgopgjbfhbaaGreatDoor
