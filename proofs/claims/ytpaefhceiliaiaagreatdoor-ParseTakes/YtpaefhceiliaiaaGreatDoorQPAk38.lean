/- Texts that the claim needs. -/
import Derived.Test.YtpaefhceiliaiaaGreatDoorQPAk37
import Derived.Test.YtpaefhceiliaiaaGreatDoorQPAk33
import Derived.Test.YtpaefhceiliaiaaGreatDoorQPAk29
namespace Go.Proofs.YtpaefhceiliaiaaGreatDoor
open Go.RowKit Lx Pz bB
set_option linter.unusedVariables false
namespace Pz
structure PE (w:World) (cs:Array Value) (y x:Int) (u:World):Prop where
 below:Below w.heap.size w u
 b0:u.heap[w.heap.size]?=some (.cells cs 29 (0,0))
 sz:cs.size=8
 b1:u.heap[w.heap.size+1]?=some (.cells #[.int .i64 y] 3 (0,0))
 b2:u.heap[w.heap.size+2]?=some (.cells #[.int .i64 x] 30 (0,0))
def oh (w:World):World:=((w.alloc (.cells dw 29)).alloc (.cells #[.int .i64 0] 3)).alloc (.cells #[.int .i64 0] 30)
theorem qM (w:World) (o:Obj) {g:Nat} (h:w.heap.size=g):(w.alloc o).heap[g]?=some o:=by rw [<- h];exact heap_alloc_new w o
theorem PE.on {w u u':World} {cs:Array Value} {y x:Int} (h:PE w cs y x u) (hb:Below u.heap.size u u'):PE w cs y x u' :=
 ⟨au h.below hb,by rw [hb.block _ (Array.getElem?_eq_some_iff.1 h.b0).1];exact h.b0,h.sz,by rw [hb.block _ (Array.getElem?_eq_some_iff.1 h.b1).1];exact h.b1,by rw [hb.block _ (Array.getElem?_eq_some_iff.1 h.b2).1];exact h.b2⟩
theorem PE.start (w:World):PE w dw 0 0 (oh w):=by
 have k1:=bO w (.cells dw 29);have k2:=bO (w.alloc (.cells dw 29)) (.cells #[.int .i64 0] 3);have k3:=bO ((w.alloc (.cells dw 29)).alloc (.cells #[.int .i64 0] 3)) (.cells #[.int .i64 0] 30);refine ⟨au (au k1 k2) k3,?_,rfl,?_,qM _ _ (by simp)⟩
 ·unfold oh;rw [k3.block _ (by simp;omega),k2.block _ (by simp)];exact heap_alloc_new w _
 ·unfold oh;rw [k3.block _ (by simp)];exact qM _ _ (by simp)
theorem PE.set1 {w u:World} {cs:Array Value} {y x:Int} (h:PE w cs y x u) (y':Int):PE w cs y' x (u.setCell ⟨w.heap.size+1,0,none⟩ (.int .i64 y')) :=
 ⟨h.below.setCell (by show w.heap.size<=w.heap.size+1;omega) _,by rw [Below.heap_setCell _ _ _ _ (by show w.heap.size≠w.heap.size+1;omega)];exact h.b0,h.sz,heap_setCell_same u _ 0 _ _ _ h.b1,by rw [Below.heap_setCell _ _ _ _ (by show w.heap.size+2≠w.heap.size+1;omega)];exact h.b2⟩
theorem PE.set2 {w u:World} {cs:Array Value} {y x:Int} (h:PE w cs y x u) (x':Int):PE w cs y x' (u.setCell ⟨w.heap.size+2,0,none⟩ (.int .i64 x')) :=
 ⟨h.below.setCell (by show w.heap.size<=w.heap.size+2;omega) _,by rw [Below.heap_setCell _ _ _ _ (by show w.heap.size≠w.heap.size+2;omega)];exact h.b0,h.sz,by rw [Below.heap_setCell _ _ _ _ (by show w.heap.size+1≠w.heap.size+2;omega)];exact h.b1,heap_setCell_same u _ 0 _ _ _ h.b2⟩
theorem PE.put {w u:World} {cs:Array Value} {y x:Int} (h:PE w cs y x u) (vs:Array Value) (hv:vs.size=8):∃W,u.setCells w.heap.size 0 vs.toList=W/\u.there w.heap.size 0 vs.size/\PE w vs y x W:=by
 obtain ⟨W,hW,hth,hbk,hoth⟩:=G1 u 29 cs vs h.b0 (h.sz.trans hv.symm);refine ⟨W,hW,hth,?_,hbk,hv,(hoth _ (by omega)).trans h.b1,(hoth _ (by omega)).trans h.b2⟩;rw [<- hW];exact nC w.heap.size w.heap.size (Nat.le_refl _) vs.toList 0 w u h.below
theorem PE.catch {w u : World} {cs : Array Value} {y x : Int} (h : PE w cs y x u) (k : Int) : CallsD Tryz.prog 22 #[.pointer (some ⟨w.heap.size, 0, none⟩), .pointer (some ⟨w.heap.size + 1, 0, none⟩), .pointer (some ⟨w.heap.size + 2, 0, none⟩)] (.panicking (yP k)) u fun e u' w' =>
      e = .returned (.tuple #[]) ∧ u' = .panicking ({ v := .iface 48 (.int .i64 k), recovered := true } :: []) ∧ PE w dw k 120 w' := by
  refine (XD w.heap.size (w.heap.size + 1) (w.heap.size + 2) cs _ _ k [] u h.b0 h.sz h.b1 h.b2 (by omega) (by omega) (by omega)).mono ?_;rintro e u' w' ⟨he, hu, hw⟩;refine ⟨he, hu, ?_⟩;obtain ⟨W, hW, _, hP⟩ := h.put dw rfl;rw [hw, hW];exact (hP.set1 k).set2 120
end Pz
end Go.Proofs.YtpaefhceiliaiaaGreatDoor
namespace Go.Proofs.YtpaefhceiliaiaaGreatDoor
open Go.RowKit Lx
set_option linter.unusedVariables false
set_option maxRecDepth 100000
set_option maxHeartbeats 8000000
namespace Lx
def JG (w:World) (R:List Tk × Int × Int) (e:Ending) (w':World):Prop :=
 ∃v,e=.returned (.tuple #[v,.int .i64 R.2.1,.int .i64 R.2.2])/\w'.ownsRow w.heap.size 47 4 v R.1.length (flat R.1)/\Below w.heap.size w w'
theorem JH {w w':World} {a z:Int} {R:List Tk × Int × Int} (hR:R=([],a,z)) (hb:Below w.heap.size w w'):JG w R (.returned (.tuple #[.slice none 0 0,.int .i64 a,.int .i64 z])) w':=by
 subst hR;exact ⟨_,rfl,World.ownsRow_nil _ _ _ _,hb⟩
theorem aae {w w':World} {v:Value} {l:List Tk} {R:List Tk × Int × Int} (hR:R=(l,0,0)) (hb:Below w.heap.size w w') (ho:w'.ownsRow w.heap.size 47 4 v l.length (flat l)):JG w R (.returned (.tuple #[v,.int .i64 0,.int .i64 0])) w':=by
 subst hR;exact ⟨_,rfl,ho,hb⟩
end Lx
theorem JB (s:ByteArray) (w:World) (ek:WL w):Calls Tryz.prog 23 #[.string s] w (JG w (lx s)):=by
 by_cases hbig:8192<s.size
 ·have hR:lx s=([],0,2):=if_pos hbig;have HR:=ae hR;have q0:decide ((s.size:Int) > 8192)=true:=decide_eq_true (by omega);generalize lx s=R at *;clear hR;go_enter Tryz.func23,Tryz.ntmps23;go_wp2;refine bodyPost_ret (results_tmp3 rfl _ _ _) rfl ?_;exact JH HR.out (Below.refl _ _)
 ·have hR:lx s=iL s s.size (sk s false 0) []:=if_neg hbig;have q0:decide ((s.size:Int) > 8192)=false:=decide_eq_false (by omega);obtain ⟨R,hR'⟩:∃R,R=lx s:=⟨_,rfl⟩;rw [<- hR'] at hR ⊢;have st0:Hid (iL s s.size (sk s false 0) []=R):=ae hR.symm;have hsz:s.size<=8192:=by omega
  have zo:=ae (QO s w);have hsk:=DZ s false (Nat.zero_le s.size);have lM:=ae hsz;obtain ⟨i0,hi,hz0,hz1,hz2⟩:=info_parts UY;obtain ⟨p0,hp0⟩:∃p,p=sk s false 0:=⟨_,rfl⟩;rw [<- hp0] at zo st0 hsk;clear hR hR' hp0;go_enter Tryz.func23,Tryz.ntmps23;go_wp2_with fail;refine zo.out.mono ?_;rintro e u0 ⟨rfl,hbg⟩;have QP:=ae hbg;clear hbg;go_wp2_with fail;go_loopw [5,6] (fun tv av w'=>∃(acc:List Tk) (i f:Nat),av=.int .i64 i/\i<=s.size/\w'.ownsRow w.heap.size 47 4 tv acc.length (flat acc)/\Below w.heap.size w w'/\acc.length<=4096/\Hid (s.size<=i+f)/\Hid (iL s f i acc=R)) (fun _ av _=>match av with | .int _ k=>s.size-k.toNat|_=>0)
  case atStart=>exact ⟨[],p0,s.size,rfl,hsk,World.ownsRow_nil _ _ _ _,QP.out,by simp,ae (by omega),st0⟩
  case round =>
   obtain ⟨acc,i,f,rfl,hle,hown,hbel,hlen,hf,hR⟩:=hrel;clear st0 zo hsk QP;by_cases hp:i<s.size
   ·have q1:=aJ s.size i hp lM.out;obtain ⟨g,hg,hst⟩:=UX s f i acc hp hf.out;rw [hR.out] at hst;obtain ⟨tx,htx⟩:∃t,t=s.extract i s.size:=⟨_,rfl⟩;have EY:0<tx.size/\tx.size<=s.size:=by rw [htx,nV];omega
    have Cg:=UT s i hp;rw [<- htx] at Cg;have HO:=ae (Ny tx EY.1 (Nat.lt_of_le_of_lt EY.2 (by omega)) (Nat.le_trans EY.2 (by omega)) wr (ek.on hbel));have hsl:s.extract i s.size=tx:=htx.symm;clear EY htx
    obtain ⟨o5,c5,jX⟩:∃o c,u5=.slice o acc.length c:=by
     rcases hown.2 with ⟨h1,h2⟩|⟨g,cap,cur,h1,_⟩
     ·exact ⟨none,0,by rw [h1,h2]⟩
     ·exact ⟨_,_,h1⟩
    cases ho:one tx 0 with
    | error z =>
     rw [Cg,ho] at hst;rw [ho] at HO;obtain ⟨q2,q3⟩:=aN (MI ho);have HR:=ae (show R=([],(i:Int),z) from hst);have HB:=ae hbel;subst jX;clear hst ho Cg hR hf hown hbel hg;go_wp2_with fail;refine Calls.mono (show Calls _ _ _ _ _ from HO.out) ?_;rintro e u ⟨rfl,hb⟩;have HB2:=ae (au HB.out hb);simp only [eP];clear hb HO;go_wp2;refine bodyPost_ret (results_tmp3 rfl _ _ _) rfl ?_;exact JH HR.out (HB2.out.alloc (HB2.out.size) _)
    | ok r =>
     obtain ⟨k,x,n,e'⟩:=r;have hoe:one s i=.ok (k,x,n,i+e'):=by rw [Cg,ho];rfl
     obtain ⟨he1,he2⟩:=ME hp hoe;rw [hoe] at hst;rw [ho] at HO;clear Cg;by_cases h4:acc.length=4096
     ·have q2:=aL h4;have HR:=ae (show R=([],(i:Int),3) from by rw [hst];exact if_pos h4);have HB:=ae hbel;subst jX;clear hst ho hoe hR hf hown hbel hg he1 he2;go_wp2_with fail;refine Calls.mono (show Calls _ _ _ _ _ from HO.out) ?_;rintro e u ⟨rfl,hb⟩;have HB2:=ae (au HB.out hb);simp only [eP];clear hb HO;go_wp2;refine bodyPost_ret (results_tmp3 rfl _ _ _) rfl ?_;exact JH HR.out (HB2.out.alloc (HB2.out.size) _)
     ·have q2:=aM h4;have HR:=ae (show R=iL s g (sk s false (i+e')) (acc++[⟨k,x,n,i⟩]) from by rw [hst];exact if_neg h4);have HB:=ae hbel;have HOW:=ae hown;obtain ⟨e2,QQ⟩:∃e2,e2=i+e':=⟨_,rfl⟩;obtain ⟨QR,QS⟩:=aR he2 lM.out;rw [<- QQ] at QR QS HR he1 he2;obtain ⟨t2,ht2⟩:∃t,t=s.extract e2 s.size:=⟨_,rfl⟩;have ads:s.extract e2 s.size=t2:=ht2.symm;have zo:=fun (u:World)=>ae (QO t2 u);have hs0:=WZ s false e2;have hs1:=DZ s false he2;have hfr:=W7 s e2 he2 false;rw [<- ht2] at hfr;obtain ⟨p1,hp1⟩:∃p,p=sk s false e2:=⟨_,rfl⟩;rw [<- hp1] at HR hs0 hs1 hfr;generalize sk t2 false 0=d2 at *;have hwb:wrap64 ((e2:Int)+(d2:Int))=(p1:Int):=by rw [(aR (by rw [hfr];exact hs1) lM.out).1,hfr]
      have aaf:(e2:Int)+(d2:Int)=(p1:Int):=by rw [(aR (by rw [hfr];exact hs1) lM.out).2,hfr]
      have adt:=he2;have JI:=ae (aV hs1 lM.out);have HG:Hid (s.size<=p1+g):=ae (ZO hf.out hg hs0 he1);have HL:Hid (acc.length+1<=4096):=ae (by omega);have HE:Hid (e2<=p1/\p1<=s.size/\i<e2):=ae ⟨hs0,hs1,he1⟩;clear hst ho hoe hR hf hown hbel hg hp1 hs0 hs1 he1 he2 hlen hfr ht2 QQ;subst jX;go_wp2_with fail;refine Calls.mono (show Calls _ _ _ _ _ from HO.out) ?_;rintro e u ⟨rfl,hb⟩;have HB2:=ae (au HB.out hb);have je:=ae (MH HOW.out hb);simp only [eP];clear hb HO HOW HB;go_wp2_with (first|(at_builtin;refine wpList_append_own _ rfl _ _ 41 rfl w.heap.size 47 i0 _ 4 40 Tryz.underlying41 hi hz0 hz1 hz2 rfl (by decide) _ acc.length (flat acc) rfl ((je.out.alloc _).alloc _) ⟨u.heap.size+1,0,none⟩ 1 1 [.int .i64 k,.string x,.int .i64 n,.int .i64 i] rfl rfl ?c1 ?c2 ?c3 ?c4 ?c5 ?c6))
      case c1=>exact U1 _ _ (by simp) _ _ _ _ _
      case c2=>exact U2 k x n i
      case c3=>exact (aP _ HL.out).1
      case c4=>exact (aP _ HL.out).2
      case c5=>exact aQ HB2.out _ _
      case c6 =>
       intro v' w9 hown' hgr _;have aT:=ae (U7 HB2.out je.out _ _ hgr);have QT:=ae (U5 hown');clear hown' hgr HB2 je;go_wp2_with fail;refine (zo _).out.mono ?_;rintro e u9 ⟨rfl,JJ⟩;have dR:=ae (au aT.out JJ);have HO4:=ae (MH QT.out JJ);clear zo JJ aT QT;go_wp2;go_roundw
       case rel=>exact ⟨acc++[⟨k,x,n,i⟩],p1,g,congrArg (Value.int .i64) JI.out,HE.out.2.1,HO4.out,dR.out,by rw [List.length_append];exact HL.out,HG,ae HR.out.symm⟩
       case measure=>clear QR QS hwb aaf;have h1:=HE.out;simp only [JI.out];clear JI;simp;omega
   ·have q1:=aK s.size i hp;have HR:=ae (hR.out.symm.trans (UW s f i acc hp));have HOW:=ae hown;have HB:=ae hbel;clear hR hf hown hbel;go_wp2;refine bodyPost_ret (results_tmp3 rfl _ _ _) rfl ?_;exact aae HR.out HB.out HOW.out
end Go.Proofs.YtpaefhceiliaiaaGreatDoor
namespace Go.Proofs.YtpaefhceiliaiaaGreatDoor
open Go.RowKit Lx Pz bB
set_option linter.unusedVariables false
set_option maxRecDepth 100000
set_option maxHeartbeats 4000000
namespace Pz
theorem aaa {u t:World} {B:Nat} {e:TypeId} {v:Value} {l:List Tk} (h:u.ownsRow B e 4 v l.length (flat l)) (ht:∀k,B<=k->t.heap[k]?=u.heap[k]?):kG t v l:=by
 rcases Dp h with ⟨h1,h2⟩|⟨g,cap,rfl,hc⟩
 ·exact .inl ⟨h1,h2⟩
 ·exact .inr ⟨g,cap,rfl,fun i x hi j y hj=>(World.cell?_of_block (ht g (h.lt g rfl).1)).trans (hc i x hi j y hj)⟩
theorem QH {w u t:World} {cs:Array Value} {a:Int} {B:Nat} {e:TypeId} {v:Value} {L:List Tk} (hB:w.heap.size+3<=B) (h:u.ownsRow B e 4 v L.length (flat L)) (hl:L.length<=4096) (en:Int) (ht:t=(u.setCell ⟨w.heap.size+1,0,none⟩ (.int .i64 a)).setCell ⟨w.heap.size+2,0,none⟩ (.int .i64 0)) :
  PR t t.heap.size L v en 0 (t.alloc (.cells #[v,.int .i64 0,.int .i64 en] 54)):=by
 have hsz:t.heap.size=u.heap.size:=by rw [ht];simp
 have ha:kG t v L:=aaa h (fun k hk=>by rw [ht,Below.heap_setCell _ _ _ _ (by show k≠w.heap.size+2;omega),Below.heap_setCell _ _ _ _ (by show k≠w.heap.size+1;omega)]);exact ⟨bO t _,Nat.le_refl _,heap_alloc_new t _,Nat.zero_le _,ha.on (bO t _),hl,fun g o n c hv=>by subst hv;rw [hsz];exact (h.lt g rfl).2⟩
end Pz
theorem aab (s:ByteArray) (w:World) (ek:WL w) (z:Int) (h0:(lx s).2.2=0) (hz:kJ (lx s).1 s.size=.error z):Calls Tryz.prog 10 #[.string s] w fun e w'=>e=.returned (.tuple #[.agg dw,.int .i64 z,.int .i64 120])/\Below w.heap.size w w':=by
 have H0:=ae (PE.start w);have QI:∀(fn:Fn) (first cap:Array Value) (w:World),(Instr.makeFunc fn first cap).run Tryz.prog w=.ok (.func fn first cap) w:=fun _ _ _ _=>rfl;have jr:=ae (JB s (oh w) (ek.on (PE.start w).below));have HG:=ae (MM s);have tT:=ae (Qr s);have HZ:=ae hz;obtain ⟨⟨L,cH,er⟩,hL⟩:∃R,R=lx s:=⟨_,rfl⟩;rw [<- hL] at jr HG tT HZ h0
 change er=0 at h0
 subst h0;clear hL hz ek
 go_enter_defers Tryz.func10,Tryz.ntmps10
 go_upto_region 2 with fail;obtain ⟨wb,hwb⟩:∃wb,wb=oh w:=⟨_,rfl⟩;rw [<- hwb] at H0 jr;have qi:=hwb;unfold oh at qi;rw [<- qi];clear hwb qi;go_wp2_with fail;refine jr.out.mono ?_;rintro e u ⟨v,rfl,hown,hb⟩;obtain ⟨oV,cV,rfl⟩:=BK (Dp hown);have H1:=ae (H0.out.on hb);have HOW:=ae hown;have c1:=af H1.out.b1 0 _ rfl;have c2:=af H1.out.b2 0 _ rfl;have f1:u.frozen? ⟨w.heap.size+1,0,none⟩=false:=by unfold World.frozen?;rw [H1.out.b1];simp
 have f2:u.frozen? ⟨w.heap.size+2,0,none⟩=false:=by unfold World.frozen?;rw [H1.out.b2];simp
 clear hown hb jr;go_upto_region 3 with fail;obtain ⟨t1,ht1⟩:∃t1,t1=(u.setCell ⟨w.heap.size+1,0,none⟩ (.int .i64 cH)).setCell ⟨w.heap.size+2,0,none⟩ (.int .i64 0):=⟨_,rfl⟩;have P1:Hid (PE w dw cH 0 t1):=ae (by rw [ht1];exact (H1.out.set1 cH).set2 0);have Ce:w.heap.size+3<=wb.heap.size:=(Array.getElem?_eq_some_iff.1 H0.out.b2).1;have R1:=ae (QH (cs:=dw) Ce HOW.out tT.out (s.size:Int) ht1);have d2:=af P1.out.b2 0 _ rfl;have HC:=ae (Qw HG.out _ R1.out);rw [HZ.out] at HC;rw [<- ht1];clear ht1 H1 c1 c2 f1 f2 HOW HZ Ce HG tT H0 R1;go_wp2_with fail;refine HC.out.mono ?_;rintro e u3 ⟨rfl,hb3⟩;have P3:=ae (P1.out.on hb3);clear hb3 HC P1 d2;go_wp2_with fail;refine leaves_cons (f:=22) (args:=#[.pointer (some ⟨w.heap.size,0,none⟩),.pointer (some ⟨w.heap.size+1,0,none⟩),.pointer (some ⟨w.heap.size+2,0,none⟩)]) (by simp) (by simp [go_sem]) ?_;refine (P3.out.catch z).mono ?_;rintro e u' w9 ⟨rfl,rfl,fM⟩;have z0:=af fM.b0 0 _ rfl;have z1:=af fM.b0 1 _ rfl;have z2:=af fM.b0 2 _ rfl;have z3:=af fM.b0 3 _ rfl;have z4:=af fM.b0 4 _ rfl;have z5:=af fM.b0 5 _ rfl;have z6:=af fM.b0 6 _ rfl;have z7:=af fM.b0 7 _ rfl;have y1:=af fM.b1 0 _ rfl;have y2:=af fM.b2 0 _ rfl;simp [Leaves,settle,results,Tryz.results10,go_sem,z0,z1,z2,z3,z4,z5,z6,z7,y1,y2];exact fM.below
namespace Pz
theorem Ir {B:Nat} {t u z:Value} {k n a:Int} {x y:ByteArray} {w:World} (h:aU B t (.agg #[.int .i64 k,.string x,.string y,.int .i64 n,u,z,.int .i64 a]) w):u.oneCell'=true/\z.oneCell'=true:=by
 obtain ⟨d,k',x',y',n',es,ps,a',u',z',h0,h1,h2,h3⟩:=h;obtain ⟨o,c,rfl,_⟩:=bP h2;obtain ⟨o',c',rfl,_⟩:=bP h3;injection h1 with h1;have e1:=congrArg (fun l:Array Value=>l[4]?) h1;have e2:=congrArg (fun l:Array Value=>l[5]?) h1;simp at e1 e2;subst e1 e2;exact ⟨rfl,rfl⟩
theorem aU.pE {B:Nat} {t v:Value} {w w':World} (h:aU B t v w) (hb:bS B w w'):aU B t v w':=by
 obtain ⟨d,hd⟩:=h;exact ⟨d,hd.but hb⟩
theorem kY.pE {B:Nat} {r:List Value × Value} {v:Value} {w w':World} (h:kY B r v w) (hb:bS B w w'):kY B r v w':=by
 obtain ⟨u,k,x,y,n,vu,vz,a,h0,h1,h2⟩:=h;exact ⟨u,k,x,y,n,vu,vz,a,h0,h1.on hb (Nat.le_refl _),h2.pE hb⟩
theorem kY.low {B C:Nat} {r:List Value × Value} {v:Value} {w:World} (h:kY B r v w) (hc:C<=B):kY C r v w:=by
 obtain ⟨u,k,x,y,n,vu,vz,a,h0,h1,d,h2⟩:=h;exact ⟨u,k,x,y,n,vu,vz,a,h0,h1.on (fun _ _ _=>rfl) hc,d,h2.lo hc⟩
theorem PE.FP {w u:World} {cs:Array Value} {y x:Int} (h:PE w cs y x u) (vs:Array Value) (hv:vs.size=8):∃W,u.setCells w.heap.size 0 vs.toList=W/\u.there w.heap.size 0 vs.size/\PE w vs y x W/\(∀m,m≠w.heap.size->W.heap[m]?=u.heap[m]?)/\u.heap.size<=W.heap.size:=by
 obtain ⟨W,h1,h2,h3⟩:=h.put vs hv;exact ⟨W,h1,h2,h3,fun m hm=>by rw [<- h1];exact uI _ m hm _ 0 u,by rw [<- h1];exact (nC 0 _ (Nat.zero_le _) vs.toList 0 u u (Below.refl _ u)).size⟩
theorem PE.Fv {w u:World} {cs:Array Value} {y x:Int} (h:PE w cs y x u):u.frozen? ⟨w.heap.size+1,0,none⟩=false:=by unfold World.frozen?;rw [h.b1];simp
theorem PE.Fw {w u:World} {cs:Array Value} {y x:Int} (h:PE w cs y x u):u.frozen? ⟨w.heap.size+2,0,none⟩=false:=by unfold World.frozen?;rw [h.b2];simp
def Fu (w:World) (R:Except (Int × Int) (List Value × Value)) (e:Ending) (w':World):Prop:=Below w.heap.size w w'/\match R with
 | .error (a,z)=>e=.returned (.tuple #[.agg dw,.int .i64 a,.int .i64 z])
 | .ok r=>∃v,e=.returned (.tuple #[v,.int .i64 0,.int .i64 0])/\kY w.heap.size r v w'
def mH (d:Nat) (ds:List Value) (t:Value):Except (Int × Int) (List Value × Value):=if jb d ds t=true then .error (0,3) else if kK 256 ds t=true then .error (0,4) else .ok (ds,t)
theorem PE.SK {w u u':World} (h:∀m,m≠w.heap.size->u'.heap[m]?=u.heap[m]?) {B:Nat} (hB:w.heap.size<B):bS B u u':=fun k hk hl=>h k (by omega)
theorem SL (u:World) (b j:Nat) (v:Value) {B:Nat} (hB:b<B):bS B u (u.setCell ⟨b,j,none⟩ v):=fun k hk hl=>Below.heap_setCell u ⟨b,j,none⟩ v k (by show k≠b;omega)
end Pz
theorem acs (s:ByteArray) (w:World) (ek:WL w) (ds:List Value) (t:Value) (j:Nat) (h0:(lx s).2.2=0) (hz:kJ (lx s).1 s.size=.ok ((ds,t),j)):Calls Tryz.prog 10 #[.string s] w fun e w'=>∃d,fit d t/\Fu w (mH d ds t) e w':=by
 have H0:=ae (PE.start w);have QI:∀(fn:Fn) (first cap:Array Value) (w:World),(Instr.makeFunc fn first cap).run Tryz.prog w=.ok (.func fn first cap) w:=fun _ _ _ _=>rfl;have jr:=ae (JB s (oh w) (ek.on (PE.start w).below));have HG:=ae (MM s);have tT:=ae (Qr s);have HZ:=ae hz;obtain ⟨⟨L,cH,er⟩,hL⟩:∃R,R=lx s:=⟨_,rfl⟩;rw [<- hL] at jr HG tT HZ h0
 change er=0 at h0
 subst h0;clear hL hz ek
 go_enter_defers Tryz.func10,Tryz.ntmps10
 go_upto_region 2 with fail;obtain ⟨wb,hwb⟩:∃wb,wb=oh w:=⟨_,rfl⟩;rw [<- hwb] at H0 jr;have qi:=hwb;unfold oh at qi;rw [<- qi];clear hwb qi;go_wp2_with fail;refine jr.out.mono ?_;rintro e u ⟨v,rfl,hown,hb⟩;obtain ⟨oV,cV,rfl⟩:=BK (Dp hown);have H1:=ae (H0.out.on hb);have HOW:=ae hown;have c1:=af H1.out.b1 0 _ rfl;have c2:=af H1.out.b2 0 _ rfl;have f1:u.frozen? ⟨w.heap.size+1,0,none⟩=false:=by unfold World.frozen?;rw [H1.out.b1];simp
 have f2:u.frozen? ⟨w.heap.size+2,0,none⟩=false:=by unfold World.frozen?;rw [H1.out.b2];simp
 clear hown hb jr;go_upto_region 3 with fail;obtain ⟨t1,ht1⟩:∃t1,t1=(u.setCell ⟨w.heap.size+1,0,none⟩ (.int .i64 cH)).setCell ⟨w.heap.size+2,0,none⟩ (.int .i64 0):=⟨_,rfl⟩;have P1:Hid (PE w dw cH 0 t1):=ae (by rw [ht1];exact (H1.out.set1 cH).set2 0);have Ce:w.heap.size+3<=wb.heap.size:=(Array.getElem?_eq_some_iff.1 H0.out.b2).1;have R1:=ae (QH (cs:=dw) Ce HOW.out tT.out (s.size:Int) ht1);have d2:=af P1.out.b2 0 _ rfl;have HC:=ae (Qw HG.out _ R1.out);rw [HZ.out] at HC;have hlt1:w.heap.size<t1.heap.size:=(Array.getElem?_eq_some_iff.1 P1.out.b0).1;have hlt2:w.heap.size+2<t1.heap.size:=(Array.getElem?_eq_some_iff.1 P1.out.b2).1;have hsz:(t1.alloc (.cells #[.slice oV L.length cV,.int .i64 0,.int .i64 (s.size:Int)] 54)).heap.size=t1.heap.size+1:=by simp
 rw [hsz] at HC;have mJ:=ae hlt2;rw [<- ht1];clear ht1 H1 c1 c2 f1 f2 HOW HZ Ce HG tT H0 R1 hsz hlt1 hlt2;go_wp2_with fail;refine HC.out.mono ?_;rintro e u3 ⟨⟨v9,rfl,hpr⟩,zm,-⟩;have SN:=hpr;obtain ⟨u0,k0,x0,y0,n0,zB,zC,a0,rfl,hD,hM⟩:=hpr;obtain ⟨q1,q2⟩:=Ir hM;have q0:u0.oneCell'=true:=by obtain ⟨oD,cD,rfl,_⟩:=bP hD;rfl
 have P3:=ae (P1.out.on zm.below);obtain ⟨W,hW,hth,xx,hoth,-⟩:=P3.out.FP #[u0,.int .i64 k0,.string x0,.string y0,.int .i64 n0,zB,zC,.int .i64 a0] rfl;have hab:bS (t1.heap.size+1) u3 W:=PE.SK hoth (by have:=mJ.out;omega);have kO:=ae hth;have HW1:=ae hW;have q8:=ae (SN.pE hab);have PA:=ae xx;clear SN hD hM zm P1 d2 HC hth hW hoth hab xx P3;have g0:=af PA.out.b0 0 _ rfl;have g1:=af PA.out.b0 1 _ rfl;have g2:=af PA.out.b0 2 _ rfl;have g3:=af PA.out.b0 3 _ rfl;have g4:=af PA.out.b0 4 _ rfl;have g5:=af PA.out.b0 5 _ rfl;have g6:=af PA.out.b0 6 _ rfl;have g7:=af PA.out.b0 7 _ rfl;obtain ⟨u9,k9,x9,y9,n9,vu9,vz9,a9,bJ,hD,dd,hM⟩:=q8.out;injection bJ with bJ;simp only [Array.mk.injEq,List.cons.injEq,Value.int.injEq,Value.string.injEq,true_and,and_true] at bJ;obtain ⟨rfl,rfl,rfl,rfl,rfl,rfl,rfl,rfl⟩:=bJ;have HF:=ae hM.fit;have CB:=ae (Qg dd ds t u0 zB zC k0 n0 a0 x0 y0 W (hD.on (fun _ _ _=>rfl) (Nat.zero_le _)) (hM.lo (Nat.zero_le _)));clear hD hM;go_wp2_with (refine wpList_store_mid rfl 29 (.tmp 2) (.tmp 25) rfl w.heap.size 0 #[u0,.int .i64 k0,.string x0,.string y0,.int .i64 n0,zB,zC,.int .i64 a0] rfl rfl kO.out pW (by simp [Value.oneCell'] at q0 q1 q2 ⊢;exact ⟨q0,q1,q2⟩) ?_;rw [HW1.out]);clear kO HW1;refine Calls.mono (show Calls _ _ _ _ _ from CB.out) ?_;rintro e u4 ⟨rfl,hb4⟩;have P4:=ae (PA.out.on hb4);have KO:=ae (q8.out.pE (bS.of hb4));clear hb4 CB PA q8 g0 g1 g2 g3 g4 g5 g6 g7;have g0:=af P4.out.b0 0 _ rfl;have g1:=af P4.out.b0 1 _ rfl;have g2:=af P4.out.b0 2 _ rfl;have g3:=af P4.out.b0 3 _ rfl;have g4:=af P4.out.b0 4 _ rfl;have g5:=af P4.out.b0 5 _ rfl;have g6:=af P4.out.b0 6 _ rfl;have g7:=af P4.out.b0 7 _ rfl;cases hT:jb dd ds t with
 | true =>
  have jr:=ae (show mH dd ds t=.error (0,3) by unfold mH;rw [if_pos hT]);clear hT;obtain ⟨W9,wE,wF,fM,wG,wH⟩:=P4.out.FP dw rfl;have yg:=ae wF;have yf:=ae wE;have c1:=af fM.b1 0 _ rfl;have c2:=af fM.b2 0 _ rfl;have f1:=fM.Fv;have f2:=fM.Fw;have CC:=ae fM;have tQ:=ae wG;have KP:=ae wH;clear wE wF fM wG wH;go_wp2_with (refine wpList_store_mid rfl 29 (.tmp 2) (.tmp 29) rfl w.heap.size 0 dw rfl rfl yg.out pW (by simp [Value.oneCell']) ?_;rw [yf.out]);refine leaves_cons (f:=22) (args:=#[.pointer (some ⟨w.heap.size,0,none⟩),.pointer (some ⟨w.heap.size+1,0,none⟩),.pointer (some ⟨w.heap.size+2,0,none⟩)]) (by simp) (by simp [go_sem]) ?_;refine (Dr w.heap.size (w.heap.size+1) (w.heap.size+2) _).mono ?_;rintro e u' w9 ⟨rfl,rfl,rfl⟩;have dY:PE w dw 0 3 ((W9.setCell ⟨w.heap.size+1,0,none⟩ (.int .i64 0)).setCell ⟨w.heap.size+2,0,none⟩ (.int .i64 3)):=(CC.out.set1 0).set2 3;generalize KQ:((W9.setCell ⟨w.heap.size+1,0,none⟩ (.int .i64 0)).setCell ⟨w.heap.size+2,0,none⟩ (.int .i64 3))=WX at *;clear c1 c2 f1 f2;have z0:=af dY.b0 0 _ rfl;have z1:=af dY.b0 1 _ rfl;have z2:=af dY.b0 2 _ rfl;have z3:=af dY.b0 3 _ rfl;have z4:=af dY.b0 4 _ rfl;have z5:=af dY.b0 5 _ rfl;have z6:=af dY.b0 6 _ rfl;have z7:=af dY.b0 7 _ rfl;have nZ:=af dY.b1 0 _ rfl;have yc:=af dY.b2 0 _ rfl;simp [Leaves,settle,results,Tryz.results10,go_sem,z0,z1,z2,z3,z4,z5,z6,z7,nZ,yc];exact ⟨dd,HF.out,dY.below,by rw [jr.out]⟩
 | false =>
  have SQ:=ae (QG ds t _ u4 (KO.out.low (Nat.zero_le _)));go_wp2_with fail;refine Calls.mono (show Calls _ _ _ _ _ from SQ.out) ?_;rintro e u5 ⟨rfl,hb5⟩;have P5:=ae (P4.out.on hb5);have acz:=ae (KO.out.pE (bS.of hb5));clear hb5 SQ P4 KO g0 g1 g2 g3 g4 g5 g6 g7;have g0:=af P5.out.b0 0 _ rfl;have g1:=af P5.out.b0 1 _ rfl;have g2:=af P5.out.b0 2 _ rfl;have g3:=af P5.out.b0 3 _ rfl;have g4:=af P5.out.b0 4 _ rfl;have g5:=af P5.out.b0 5 _ rfl;have g6:=af P5.out.b0 6 _ rfl;have g7:=af P5.out.b0 7 _ rfl;cases hP:kK 256 ds t with
  | true =>
   have jr:=ae (show mH dd ds t=.error (0,4) by unfold mH;rw [if_neg (by rw [hT];simp),if_pos hP]);clear hT hP;obtain ⟨W9,wE,wF,fM,wG,wH⟩:=P5.out.FP dw rfl;have yg:=ae wF;have yf:=ae wE;have c1:=af fM.b1 0 _ rfl;have c2:=af fM.b2 0 _ rfl;have f1:=fM.Fv;have f2:=fM.Fw;have CC:=ae fM;have tQ:=ae wG;have KP:=ae wH;clear wE wF fM wG wH;go_wp2_with (refine wpList_store_mid rfl 29 (.tmp 2) (.tmp 33) rfl w.heap.size 0 dw rfl rfl yg.out pW (by simp [Value.oneCell']) ?_;rw [yf.out]);refine leaves_cons (f:=22) (args:=#[.pointer (some ⟨w.heap.size,0,none⟩),.pointer (some ⟨w.heap.size+1,0,none⟩),.pointer (some ⟨w.heap.size+2,0,none⟩)]) (by simp) (by simp [go_sem]) ?_;refine (Dr w.heap.size (w.heap.size+1) (w.heap.size+2) _).mono ?_;rintro e u' w9 ⟨rfl,rfl,rfl⟩;have dY:PE w dw 0 4 ((W9.setCell ⟨w.heap.size+1,0,none⟩ (.int .i64 0)).setCell ⟨w.heap.size+2,0,none⟩ (.int .i64 4)):=(CC.out.set1 0).set2 4;generalize KQ:((W9.setCell ⟨w.heap.size+1,0,none⟩ (.int .i64 0)).setCell ⟨w.heap.size+2,0,none⟩ (.int .i64 4))=WX at *;clear c1 c2 f1 f2;have z0:=af dY.b0 0 _ rfl;have z1:=af dY.b0 1 _ rfl;have z2:=af dY.b0 2 _ rfl;have z3:=af dY.b0 3 _ rfl;have z4:=af dY.b0 4 _ rfl;have z5:=af dY.b0 5 _ rfl;have z6:=af dY.b0 6 _ rfl;have z7:=af dY.b0 7 _ rfl;have nZ:=af dY.b1 0 _ rfl;have yc:=af dY.b2 0 _ rfl;simp [Leaves,settle,results,Tryz.results10,go_sem,z0,z1,z2,z3,z4,z5,z6,z7,nZ,yc];exact ⟨dd,HF.out,dY.below,by rw [jr.out]⟩
  | false =>
   have jr:=ae (show mH dd ds t=.ok (ds,t) by unfold mH;rw [if_neg (by rw [hT];simp),if_neg (by rw [hP];simp)]);clear hT hP;obtain ⟨W9,wE,wF,fM,wG,wH⟩:=P5.out.FP #[u0,.int .i64 k0,.string x0,.string y0,.int .i64 n0,zB,zC,.int .i64 a0] rfl;have yg:=ae wF;have yf:=ae wE;have c1:=af fM.b1 0 _ rfl;have c2:=af fM.b2 0 _ rfl;have f1:=fM.Fv;have f2:=fM.Fw;have CC:=ae fM;have tQ:=ae wG;have KP:=ae wH;clear wE wF fM wG wH;go_wp2_with (refine wpList_store_mid rfl 29 (.tmp 2) (.tmp 34) rfl w.heap.size 0 #[u0,.int .i64 k0,.string x0,.string y0,.int .i64 n0,zB,zC,.int .i64 a0] rfl rfl yg.out pW (by simp [Value.oneCell'] at q0 q1 q2 ⊢;exact ⟨q0,q1,q2⟩) ?_;rw [yf.out]);refine leaves_cons (f:=22) (args:=#[.pointer (some ⟨w.heap.size,0,none⟩),.pointer (some ⟨w.heap.size+1,0,none⟩),.pointer (some ⟨w.heap.size+2,0,none⟩)]) (by simp) (by simp [go_sem]) ?_;refine (Dr w.heap.size (w.heap.size+1) (w.heap.size+2) _).mono ?_;rintro e u' w9 ⟨rfl,rfl,rfl⟩;have dY:PE w #[u0,.int .i64 k0,.string x0,.string y0,.int .i64 n0,zB,zC,.int .i64 a0] 0 0 ((W9.setCell ⟨w.heap.size+1,0,none⟩ (.int .i64 0)).setCell ⟨w.heap.size+2,0,none⟩ (.int .i64 0)):=(CC.out.set1 0).set2 0;generalize KQ:((W9.setCell ⟨w.heap.size+1,0,none⟩ (.int .i64 0)).setCell ⟨w.heap.size+2,0,none⟩ (.int .i64 0))=WX at *;clear c1 c2 f1 f2;have z0:=af dY.b0 0 _ rfl;have z1:=af dY.b0 1 _ rfl;have z2:=af dY.b0 2 _ rfl;have z3:=af dY.b0 3 _ rfl;have z4:=af dY.b0 4 _ rfl;have z5:=af dY.b0 5 _ rfl;have z6:=af dY.b0 6 _ rfl;have z7:=af dY.b0 7 _ rfl;have nZ:=af dY.b1 0 _ rfl;have yc:=af dY.b2 0 _ rfl;simp [Leaves,settle,results,Tryz.results10,go_sem,z0,z1,z2,z3,z4,z5,z6,z7,nZ,yc]
   have hab:bS (t1.heap.size+1) u5 WX:=by
    have hl:=mJ.out;have hz:=KP.out;rw [<- KQ];exact bS.trans (PE.SK tQ.out (by omega)) hz (bS.trans (SL _ _ _ _ (by omega)) (by simp) (SL _ _ _ _ (by omega)))
   refine ⟨dd,HF.out,dY.below,?_⟩;rw [jr.out];exact ⟨_,rfl,(acz.out.pE hab).low (by have:=mJ.out;omega)⟩
end Go.Proofs.YtpaefhceiliaiaaGreatDoor
