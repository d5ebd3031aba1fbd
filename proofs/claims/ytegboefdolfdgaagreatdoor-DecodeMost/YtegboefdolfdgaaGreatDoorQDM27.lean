/- Texts that the claim needs. -/
import Derived.Test.YtegboefdolfdgaaGreatDoorQDM26
namespace Go.Proofs.YtegboefdolfdgaaGreatDoor
open Go.RowKit aA ai
set_option linter.unusedVariables false
set_option maxRecDepth 100000
set_option maxHeartbeats 4000000
namespace ai
def nN (s:ByteArray) (en i n:Nat):R2 (List Int × IL 81) :=
 bL (lift (ru s en i) n) fun z j m=>bL (qD s (min en (j+z.toNat)) j m) fun x m2 n2=>if m2=j+z.toNat then .ok (x,m2,n2) else .error 50
end ai
theorem QT (w0:World) (p:Nat) (s:ByteArray) (c:Nat->Value) (en k i n g ob L:Nat) (ty:Nat->Int) (a b:Nat->Value) (q br bf:Nat) (w:World) (h:RS w0 p s c en k i n w) (hn:n<=65536) (hf:FB g ob L ty a b w) (hq:q<L) (oF:g≠p) (hg0:w0.heap.size<=g) (hrg:br≠g) (hfg:bf≠g) (jG:br≠p) (hfp:bf≠p)
  (hr:w.heap[br]?=some (.cells #[.pointer (some ⟨p,0,none⟩)] 48 (0,0))) (hx:w.heap[bf]?=some (.cells #[.pointer (some ⟨g,ob+q*3,none⟩)] 112 (0,0))) :
  Calls Tryz.prog 26 #[.pointer (some ⟨p,0,none⟩),.func (.func 76) #[] #[.pointer (some ⟨br,0,none⟩),.pointer (some ⟨bf,0,none⟩)]] w (nV w0 p s c en k g ob L ty a b q w (nN s en i n)):=by
 have HC:=aa (gh w0 p s c en k i n w h);unfold nN;cases hR:ru s en i with
 | error z =>
  rw [hR] at HC;clear h hf hr hx;go_enter Tryz.func26,Tryz.ntmps26;go_wp2_with fail;refine HC.out.mono ?_;rintro e u ⟨rfl,hb⟩;exact ⟨rfl,rfl,hb⟩
 | ok vv =>
  obtain ⟨zi,j⟩:=vv;obtain ⟨hij,LU,hz0,hz1⟩:=iP h.len hR;rw [hR] at HC;obtain ⟨z,rfl⟩:=Int.eq_ofNat_of_zero_le hz0;have hlen:=h.len;have hbig:=h.big;have hpw:=h.lt;have rz:=hf.lt;clear h hR;show Calls _ _ _ _ (nV w0 p s c en k g ob L ty a b q w (bL (qD s (min en (j+z)) j n) fun x m2 n2=>if m2=j+z then .ok (x,m2,n2) else .error 50))
  have HI:Hid (∀(u1:World) (E:Nat),RS w0 p s c en k j n u1->But p w u1->j<=E->E<=en->Calls Tryz.prog 76 #[.pointer (some ⟨br,0,none⟩),.pointer (some ⟨bf,0,none⟩)] (u1.setCell ⟨p,2,none⟩ (.int .i64 E)) (fun e w'=>nV w0 p s c E k g ob L ty a b q (u1.setCell ⟨p,2,none⟩ (.int .i64 E)) (qD s E j n) e w')):=aa fun u1 E h1 hB Cy LV=>by
   have nZ:But p w (u1.setCell ⟨p,2,none⟩ (.int .i64 E)):=hB.trans (But.set p 2 u1 _);exact QX w0 p s c E k j n g ob L ty a b q br bf _ (h1.end_ Cy (by omega)) hn (hf.keep (nZ.block g rz (by simpa using oF))) hq oF hg0 hrg hfg jG hfp (wO nZ jG hr) (wO nZ hfp hx)
  have HJ:Hid (∀(u1:World) (E:Nat) (w3:World) (x:List Int × IL 81) (m n3:Nat),But p w u1->nV w0 p s c E k g ob L ty a b q (u1.setCell ⟨p,2,none⟩ (.int .i64 E)) (.ok (x,m,n3)) (.returned (.tuple #[])) w3->E<=en ->
    nV w0 p s c en k g ob L ty a b q w (.ok (x,m,n3)) (.returned (.tuple #[])) (w3.setCell ⟨p,2,none⟩ (.int .i64 en))/\w3.cell? ⟨p,1,none⟩=some (.int .i64 m)/\w3.cell? ⟨p,2,none⟩=some (.int .i64 E)/\w3.frozen? ⟨p,2,none⟩=false/\Below w0.heap.size w0 w3):=aa fun u1 E w3 x m n3 hB ⟨_,⟨vl,vb,h3,f3,i3,a3⟩,b3⟩ hE=>by
   have hbs:=But.set p 2 w3 (.int .i64 (en:Int));have nZ:But p w (u1.setCell ⟨p,2,none⟩ (.int .i64 E)):=hB.trans (But.set p 2 u1 _)
   have hkp:∀k',Since (u1.setCell ⟨p,2,none⟩ (.int .i64 E)).heap.size w3 none k'->Since w.heap.size (w3.setCell ⟨p,2,none⟩ (.int .i64 en)) none k'/\(w3.setCell ⟨p,2,none⟩ (.int .i64 en)).heap[k']?=w3.heap[k']?:=fun k' hk'=>by
    have h1:=hk'.1;have h2:=nZ.size;exact ⟨⟨by omega,by simpa using hk'.2.1,by simp⟩,hbs.block k' hk'.2.1 (by simp;omega)⟩
   exact ⟨⟨rfl,⟨vl,vb,h3.end_ (Nat.le_trans h3.le hE) hlen,f3.keep (hbs.block g f3.lt (by simpa using oF)),i3.keep hkp,ah.keep hkp _ _ _ a3⟩,((bn.of nZ).trans b3).trans (bn.of hbs)⟩,h3.cell 1 _ rfl,h3.cell 2 _ rfl,h3.ag 2,h3.below⟩
  have HX:=aa (fun u1 h1 hB=>HI.out u1 (min en (j+z)) h1 hB (by omega) (by omega));have uN:=aa (fun u1 w3 x m n3 hB hx=>HJ.out u1 (min en (j+z)) w3 x m n3 hB hx (by omega));clear HI HJ hf hr hx;rw [show ((min en (j+z):Nat):Int)=min (en:Int) ((j:Int)+(z:Int)) by omega] at HX uN;generalize qD s (min en (j+z)) j n=X at HX ⊢;have fin:Hid (∀e w',nV w0 p s c en k g ob L ty a b q w (bL X fun x m2 n2=>if m2=j+z then .ok (x,m2,n2) else .error 50) e w'->nV w0 p s c en k g ob L ty a b q w (bL X fun x m2 n2=>if m2=j+z then .ok (x,m2,n2) else .error 50) e w'):=aa fun _ _ h=>h;go_enter Tryz.func26,Tryz.ntmps26;go_wp2_with fail;refine HC.out.mono ?_;rintro e u ⟨⟨v,rfl,hv⟩,h1,h2⟩;have hv:v=.int .i64 z:=hv;subst hv;have d1:=h1.cell 1 _ rfl;have d2:=h1.cell 2 _ rfl;have H1:=aa h1;have H2:=aa h2;clear h1 h2 HC hv;go_wp2_with fail;go_quiet (fail);have h1':=H1.out.on (bN u nq);have xO:But p w (u.drewN nq):=H2.out.trans (But.of p (bN u nq));generalize u.drewN nq=u1 at *;clear d1 d2 H1 H2;have e1:=h1'.cell 1 _ rfl;have e2:=h1'.cell 2 _ rfl;have f2:=h1'.ag 2;have H1:=aa h1';have HB:=aa xO;clear h1' xO;go_wp2_with fail;refine (HX.out u1 H1.out HB.out).mono ?_;intro e w3 hr;cases X with
  | error zz =>
   obtain ⟨rfl,hb⟩:=hr;exact ⟨rfl,rfl,hb⟩
  | ok vv =>
   obtain ⟨x,m,n3⟩:=vv;obtain ⟨rfl,hrr⟩:=hr;obtain ⟨hr3,c1,c2,f3,hbe⟩:=uN.out u1 w3 x m n3 HB.out ⟨rfl,hrr⟩;have HR3:=aa hr3;have BD:=aa hbe;clear hr3 hrr hbe HX uN H1 HB e1 e2 f2;by_cases hm:m=j+z
   ·have dm:((m:Int) == (j:Int)+(z:Int))=true:=by simp;omega
    go_wp2_with fail;refine (bH _ _).mono ?_;rintro e w' ⟨rfl,rfl⟩;go_wp2;go_end0;refine fin.out _ _ ?_;show nV w0 p s c en k g ob L ty a b q w (if m=j+z then .ok (x,m,n3) else .error 50) _ _;rw [if_pos hm];exact HR3.out
   ·have dm:((m:Int) == (j:Int)+(z:Int))=false:=by simp;omega
    go_wp2_with fail;refine (eZ _ _).mono ?_;rintro e w' ⟨rfl,rfl⟩;refine ⟨rfl,fin.out _ _ ?_⟩;show nV w0 p s c en k g ob L ty a b q w (if m=j+z then .ok (x,m,n3) else .error 50) _ _;rw [if_neg hm];exact ⟨rfl,BD.out⟩
namespace ai
theorem Ha {s:ByteArray} {en i n:Nat} {l:IL 81} {j m:Nat} (hn:n<=65536) (h:ny s en i n=.ok (l,j,m)):m<=65536:=by
 unfold ny at h;obtain ⟨a,i1,k1,h1,h2⟩:=fO h;by_cases h3:a.2=11
 ·rw [if_pos h3] at h2;cases h2;exact wE s en 81 0 _ _ _ _ _ hn h1
 ·rw [if_neg h3] at h2;cases h2
theorem Gc {s:ByteArray} {en i n:Nat} {x:List Int × IL 81} {j m:Nat} (hn:n<=65536) (h:nN s en i n=.ok (x,j,m)):m<=65536:=by
 unfold nN at h;obtain ⟨z,j1,n1,h1,h2⟩:=fO h;obtain ⟨y,j2,n2,h3,h4⟩:=fO h2;have e1:=(mR h1).2
 have h5:n2=m:=by
  by_cases hm:j2=j1+z.toNat
  ·rw [if_pos hm] at h4;cases h4;rfl
  ·rw [if_neg hm] at h4;cases h4
 unfold qD at h3;obtain ⟨l,j3,n3,h6,h7⟩:=fO h3;obtain ⟨b,j4,n4,h8,h9⟩:=fO h7;have e2:=(mR h6).2;cases h9;rw [<- h5];exact Ha (by omega) h8
def oq (s:ByteArray) (en:Nat):Nat->List (List Int × IL 81)->Nat->Nat->R2 (List (List Int × IL 81))
 | 0,l,i,n=>.ok (l,i,n)
 | r+1,l,i,n=>bL (nN s en i n) fun x j m=>oq s en r (l++[x]) j m
theorem xV (s:ByteArray) (en r:Nat) (l:List (List Int × IL 81)) (i n:Nat):oq s en (r+1) l i n=bL (nN s en i n) fun x j m=>oq s en r (l++[x]) j m:=rfl
def gQ (s:ByteArray) (en L i n:Nat):R2 (List (List Int × IL 81)):=bL (lift (rc s en i) n) fun z j m=>if z=(L:Int) then oq s en L [] j m else .error 50
theorem RS.QR {w0 w:World} {p:Nat} {s:ByteArray} {c:Nat->Value} {en k i n:Nat} (h:RS w0 p s c en k i n w) (m:Nat):RS w0 p s c en m i n (w.setCell ⟨p,13,none⟩ (.int .i64 m)) :=
 ⟨h.below.setCell h.base _,h.base,heap_setCell_same w p 13 _ _ _ h.blk,h.le,h.len,h.big⟩
def Dy (w0:World) (p:Nat) (s:ByteArray) (c:Nat->Value) (en g ob L:Nat) (ty:Nat->Int) (w:World) (x:R2 (List (List Int × IL 81))) (e:Ending) (w':World):Prop :=
 match x with
 | .ok (fs,j,m)=>e=.returned (.tuple #[])/\(RS w0 p s c en L j m w'/\fs.length=L/\(0<L->∃a b,FB g ob L ty a b w'/\∀q x,fs[q]?=some x->aH w' (Since w.heap.size w' none) (a q) x.1/\ah w' (Since w.heap.size w' none) 81 (b q) x.2))/\bn p g w w'
 | .error z=>e=.panicked (gave z)/\Below w0.heap.size w0 w'
structure KR (p br:Nat) (W w:World):Prop where
 but:But p W w
 hr:w.heap[br]?=some (.cells #[.pointer (some ⟨p,0,none⟩)] 48 (0,0))
theorem KR.on {p br:Nat} {W w w':World} (h:KR p br W w) (jG:br≠p) (hb:But p w w'):KR p br W w':=⟨h.but.trans hb,wO hb jG h.hr⟩
def G2 (RD:Int × Nat->World->Prop) (X:Option (Int × Nat)) (p:Nat):Nat->Value->World->Prop
 | 0,v,_=>v=.pointer (some ⟨p,0,none⟩)
 | 1,v,_=>v=.pointer (some ⟨p,0,none⟩)
 | 2,v,w=>match X with
  | some x=>v=.int .i64 x.1/\RD x w
  | none=>False
 | 3,v,_=>v=.pointer (some ⟨p,0,none⟩)
 | _,v,_=>v=.pointer (some ⟨p,13,none⟩)
def eF (p:Nat) (z:Int) (L:Nat) (o:Option Addr) (cap:Nat):Nat->Value
 | 0=>.pointer (some ⟨p,0,none⟩)
 | 1=>.pointer (some ⟨p,0,none⟩)
 | 2=>.pointer (some ⟨p,13,none⟩)
 | 3=>.int .i64 z
 | 4=>.pointer (some ⟨p,0,none⟩)
 | 5=>.pointer (some ⟨p,0,none⟩)
 | 6=>.pointer (some ⟨p,3,none⟩)
 | 7=>.pointer (some ⟨p,5,none⟩)
 | 8=>.slice o L cap
 | 9=>.int .i64 (L:Int)
 | _=>.bool (z == (L:Int))
structure LF (w0:World) (p:Nat) (s:ByteArray) (c:Nat->Value) (en g ob L:Nat) (ty:Nat->Int) (w:World) (j n q:Nat) (fs:List (List Int × IL 81)) (a b:Nat->Value) (jq nq:Nat) (wr:World):Prop where
 rs:RS w0 p s c en L jq nq wr
 few:nq<=65536
 len:fs.length=q
 run:oq s en L [] j n=oq s en (L-q) fs jq nq
 fb:0<L->FB g ob L ty a b wr/\∀q' x,fs[q']?=some x->aH wr (Since w.heap.size wr none) (a q') x.1/\ah wr (Since w.heap.size wr none) 81 (b q') x.2
 bu:bn p g w wr
 hr:wr.heap[w.heap.size]?=some (.cells #[.pointer (some ⟨p,0,none⟩)] 48 (0,0))
theorem LF.on {w0:World} {p:Nat} {s:ByteArray} {c:Nat->Value} {en g ob L:Nat} {ty:Nat->Int} {w:World} {j n q:Nat} {fs:List (List Int × IL 81)} {a b:Nat->Value} {jq nq:Nat} {wr wr':World} (h:LF w0 p s c en g ob L ty w j n q fs a b jq nq wr) (hb:Below wr.heap.size wr wr'):LF w0 p s c en g ob L ty w j n q fs a b jq nq wr' :=
 ⟨h.rs.on hb,h.few,h.len,h.run,fun h0=>⟨(h.fb h0).1.keep (hb.block g (h.fb h0).1.lt),fun q' x hx=>⟨((h.fb h0).2 q' x hx).1.keep (fw hb),ah.keep (fw hb) _ _ _ ((h.fb h0).2 q' x hx).2⟩⟩,h.bu.trans (bn.of (But.of p hb)),vH hb h.hr⟩
end ai
theorem QS (w0:World) (p:Nat) (s:ByteArray) (c:Nat->Value) (en k i n g ob L cap:Nat) (o:Option Addr) (ty:Nat->Int) (a b:Nat->Value) (w:World) (h:RS w0 p s c en k i n w) (hn:n<=65536) (hc:c 2=.slice o L cap)
  (hf:0<L->o=some ⟨g,ob,none⟩/\FB g ob L ty a b w/\g≠p/\w0.heap.size<=g) :
  Calls Tryz.prog 52 #[.pointer (some ⟨p,0,none⟩)] w (Dy w0 p s c en g ob L ty w (gQ s en L i n)):=by
 obtain ⟨w1,hw1⟩:∃w1,w1=w.alloc (.cells #[.pointer (some ⟨p,0,none⟩)] 48):=⟨_,rfl⟩;have hb1:Below w.heap.size w w1:=by rw [hw1];exact aD w _
 have hr1:w1.heap[w.heap.size]?=some (.cells #[.pointer (some ⟨p,0,none⟩)] 48 (0,0)):=by rw [hw1];exact fB _ _ rfl
 have hd:Below w1.heap.size w1 w1.drew:=⟨rfl,rfl,rfl,Nat.le_refl _,fun _ _=>rfl⟩;have hpw:=h.lt;have hlen:=h.len;have jG:w.heap.size≠p:=by omega
 have HL:=fun u hu=>aa (nQ w0 p s c en k i n u hu);have HK:Hid (KR p w.heap.size w w1.drew):=aa ⟨But.of p (cu hb1 hd),vH hd hr1⟩;have HR:=aa ((h.on hb1).on hd);have HF:=aa hf;have HW:=aa hw1;generalize hX:rc s en i=X at HL;clear h hf hb1 hr1 hd hw1;go_enter Tryz.func52,Tryz.ntmps52;go_wp2_with fail;rw [<- HW.out];clear HW;refine af.Dz 5 (fun i=>4+i) (kC p) (KR p w.heap.size w) (fun j u=>j=2->RS w0 p s c en k i n u) (G2 (fun x u=>RS w0 p s c en k x.2 n u) (match X with | .ok x=>some x | .error _=>none) p) (by kernel_rfl) (by kernel_rfl) (fun i j h1 h2 h=>by have h':4+i=4+j:=h;omega) (af.tP (size:=41) (by kernel_rfl)) ?lC ?hres ?hK ?hstep ?fu HK.out (fun j hj e=>HR.out)
 case hK=>exact fun k' u u' hk cZ hg=>cZ.on jG (DC (DD p k') hg)
 case hres =>
  intro i' k' u u' hi hk hne pM hg e;subst e
  have:kC p k'=none:=by unfold kC;rw [if_neg (by omega)]
  rw [this] at hg;exact (pM rfl).on (rN hg)
 case lC =>
  intro i' k' v u u' hi hk hne cZ hG hg
  match i',hi with
  | 0,_=>exact hG
  | 1,_=>exact hG
  | 2,_ =>
   have:kC p k'=none:=by unfold kC;rw [if_neg (by omega)]
   rw [this] at hg;cases X with
   | error z=>exact hG
   | ok x=>exact ⟨hG.1,RS.on hG.2 (rN hg)⟩
  | 3,_=>exact hG
  | 4,_=>exact hG
 case hstep =>
  intro j o1 a1 u hj ho hF cZ pM hd;have c1:=qE cZ.hr;have q0:a1.tmps[1]?.getD undef=.pointer (some ⟨w.heap.size,0,none⟩):=af.av (hF.eval 1 (fun i hi=>by show 4+i≠1;omega));have hcase:j=0\/j=1\/j=2\/j=3\/j=4:=by omega
  clear hj;rcases hcase with rfl|rfl|rfl|rfl|rfl
  all_goals (simp only [List.getElem?_toArray,List.getElem?_cons_succ,List.getElem?_cons_zero,Option.some.injEq] at ho;subst ho;refine af.aR fun K hK=>?_)
  ·go_simp;exact hK _ _ ⟨_,rfl,oD (Below.refl _ _),rfl⟩
  ·go_simp;exact hK _ _ ⟨_,rfl,oD (Below.refl _ _),rfl⟩
  ·have q3:a1.tmps[5]?.getD undef=.pointer (some ⟨p,0,none⟩):=af.av (hd 1 (by decide));go_simp;refine (HL u (pM rfl)).out.mono ?_;intro e u2 hr2;cases X with
   | error z =>
    obtain ⟨rfl,hb⟩:=hr2;refine ⟨hF.defers,?_⟩;unfold gQ;rw [hX];exact ⟨rfl,hb⟩
   | ok x =>
    obtain ⟨l,j⟩:=x;obtain ⟨⟨v,rfl,hv⟩,h1,h2⟩:=hr2;exact hK _ _ ⟨_,rfl,h2,hv,h1⟩
  ·have q2:a1.tmps[4]?.getD undef=.pointer (some ⟨p,0,none⟩):=af.av (hd 0 (by decide));go_simp;exact hK _ _ ⟨_,rfl,oD (Below.refl _ _),rfl⟩
  ·have q2:a1.tmps[7]?.getD undef=.pointer (some ⟨p,0,none⟩):=af.av (hd 3 (by decide));go_simp;exact hK _ _ ⟨_,rfl,oD (Below.refl _ _),rfl⟩
 case fu =>
  intro a1 u hF cZ hG;have tQ:=hG 2 (by omega);cases X with
  | error z=>exact absurd tQ id
  | ok x =>
   obtain ⟨z,j⟩:=x;obtain ⟨hv,hrs⟩:=tQ;have hv:a1.eval (.tmp 6)=.int .i64 z:=hv;have hrs:RS w0 p s c en k j n u:=hrs;have g4:a1.eval (.tmp 8)=.pointer (some ⟨p,13,none⟩):=hG 4 (by omega);have hrc:=jl hlen hX;obtain ⟨z,rfl⟩:=Int.eq_ofNat_of_zero_le hrc.2.2.1;obtain ⟨xl,hxl,rfl,hev⟩:=hF.lit (by simp);obtain ⟨x0,x1,x2,x3,x4,rfl⟩:=DF hxl;have e2:=hev 2 (by omega);have e4:=hev 4 (by omega);simp only [List.getD_cons_succ,List.getD_cons_zero] at e2 e4;rw [show (4+4)=8 from rfl,g4] at e4;rw [show (4+2)=6 from rfl,hv] at e2;subst e4 e2;clear hev hxl hF hG g4 hv HL HR HK;have c1:=hrs.cell 13 _ rfl;have f1:=hrs.ag 13;obtain ⟨W1,hW1⟩:∃W1,W1=u.setCell ⟨p,13,none⟩ (.int .i64 (z:Int)):=⟨_,rfl⟩;have lD:RS w0 p s c en z j n W1:=by rw [hW1];exact hrs.QR z
   have hK1:KR p w.heap.size w W1:=by rw [hW1];exact cZ.on jG (But.set p 13 u _)
   have yC:Hid (gQ s en L i n=if (z:Int)=(L:Int) then oq s en L [] j n else .error 50):=aa (by unfold gQ;rw [hX];rfl);have HW1:=aa hW1;have HR1:=aa lD;have lZ:=aa hK1;clear lD hK1 hrs cZ hW1 hX;simp only [List.take_succ_cons,List.take_zero,List.drop_succ_cons,List.drop_zero,List.cons_append,List.nil_append];go_wp2_with fail;rw [<- HW1.out];clear HW1;have cb:=qE lZ.out.hr;have c13:=HR1.out.cell 13 _ rfl;have c5:W1.cell? ⟨p,5,none⟩=some (c 2):=HR1.out.cell 5 _ rfl;rw [hc] at c5;by_cases hz:z=L
   ·subst hz;have dq:((z:Int) == (z:Int))=true:=by simp
    go_quiet (first|(go_at_call 11;exact Calls.quiet_of_same (bH _ _)))
    have tT:=aa (bN W1 nq);have rO:Hid (LF w0 p s c en g ob z ty w j n 0 [] a b j n (W1.drewN nq)):=aa (LF.on (wr:=W1) ⟨HR1.out,hn,rfl,rfl,fun h0=>⟨(HF.out h0).2.1.keep (lZ.out.but.block g (HF.out h0).2.1.lt (by simpa using (HF.out h0).2.2.1)),fun q' x hx=>by simp at hx⟩,bn.of lZ.out.but,lZ.out.hr⟩ tT.out);generalize W1.drewN nq=W2 at *;clear tT cb c13 c5 HR1 lZ;have cb:=qE rO.out.hr;have c5:W2.cell? ⟨p,5,none⟩=some (c 2):=rO.out.rs.cell 5 _ rfl;rw [hc] at c5;go_wp2_with fail;clear cb c5;go_loopw [27] (fun u wr=>∃(q:Nat) (fs:List (List Int × IL 81)) (a b:Nat->Value) (jq nq:Nat),u=.int .i64 q/\q<=z/\Hid (LF w0 p s c en g ob z ty w j n q fs a b jq nq wr)) (fun u _=>z-(RowKit.intOf u).toNat)
    case atStart=>exact ⟨0,[],a,b,j,n,rfl,by omega,rO⟩
    case round =>
     clear rO;obtain ⟨q,fs,a2,b2,jq,nq,rfl,hq,HL⟩:=hrel;by_cases hgo:q<z
     ·obtain ⟨rfl,Hb,oF,hg0⟩:=HF.out (by omega);have rz:=Hb.lt;have cb:=qE HL.out.hr;have c5:wr.cell? ⟨p,5,none⟩=some (c 2):=HL.out.rs.cell 5 _ rfl;rw [hc] at c5;have hwp:=HL.out.bu.size;obtain ⟨W3,hW3⟩:∃W3,W3=wr.alloc (.cells #[.pointer (some ⟨g,ob+q*3,none⟩)] 112):=⟨_,rfl⟩;have hb3:Below wr.heap.size wr W3:=by rw [hW3];exact aD wr _
      have hx3:W3.heap[wr.heap.size]?=some (.cells #[.pointer (some ⟨g,ob+q*3,none⟩)] 112 (0,0)):=by
       rw [hW3];exact fB _ _ rfl
      have jy:=aa (HL.out.on hb3);have VM:=hb3.size;have hl3:wr.heap.size<W3.heap.size:=(Array.getElem?_eq_some_iff.1 hx3).1;have HZ:=aa (QT w0 p s c en z jq nq g ob z ty a2 b2 q w.heap.size wr.heap.size W3 jy.out.rs jy.out.few (jy.out.fb (by omega)).1 hgo oF hg0 (by omega) (by omega) jG (by omega) jy.out.hr hx3);have HW3:=aa hW3;have yD:=aa hx3;have hrun:=jy.out.run;have hr1:z-q=(z-(q+1))+1:=by omega
      rw [hr1,xV] at hrun;generalize hY:nN s en jq nq=Y at HZ hrun;have Hd:=aa hrun;clear hrun hW3 hx3 hb3 Hb;have QU:=qE jy.out.hr;go_upto_region 7 with fail;rw [<- HW3.out];clear HW3 cb c5;have rO:=HL;clear HL;go_wp2_with fail;refine HZ.out.mono ?_;intro e w4 hr4;cases Y with
      | error zz =>
       obtain ⟨rfl,hb⟩:=hr4;refine ⟨rfl,?_⟩;rw [yC.out,if_pos trivial,Hd.out];exact ⟨rfl,hb⟩
      | ok x =>
       obtain ⟨x,j4,n4⟩:=x;obtain ⟨rfl,⟨vl,vb,h4,f4,i4,a4⟩,b4⟩:=hr4;have hb4:w.heap.size<=W3.heap.size:=by omega
       have qF:Hid (LF w0 p s c en g ob z ty w j n (q+1) (fs++[x]) (upd a2 q vl) (upd b2 q vb) j4 n4 w4):=aa (by
        have hkp:∀k',Since w.heap.size W3 none k'->Since w.heap.size w4 none k'/\w4.heap[k']?=W3.heap[k']?:=fun k' hk'=>⟨⟨hk'.1,Nat.lt_of_lt_of_le hk'.2.1 b4.size,by simp⟩,b4.block k' hk'.2.1 (by have:=hk'.1;omega) (by have:=hk'.1;omega)⟩;have hk2:∀k',Since W3.heap.size w4 none k'->Since w.heap.size w4 none k'/\w4.heap[k']?=w4.heap[k']?:=fun k' hk'=>⟨⟨Nat.le_trans hb4 hk'.1,hk'.2⟩,rfl⟩;refine ⟨h4,Gc jy.out.few hY,by rw [List.length_append,jy.out.len];rfl,Hd.out,fun h0=>⟨f4,fun q' y hy=>?_⟩,jy.out.bu.trans b4,b4.heap jG (by omega) jy.out.hr⟩;by_cases hqq:q'=q
        ·subst hqq;rw [List.getElem?_append_right (by rw [jy.out.len];omega),jy.out.len,Nat.sub_self] at hy;have hy:x=y:=by simpa using hy
         subst hy;unfold upd;rw [if_pos rfl,if_pos rfl];exact ⟨i4.keep hk2,ah.keep hk2 _ _ _ a4⟩
        ·have hlt:q'<fs.length:=by
          have:=(List.getElem?_eq_some_iff.1 hy).1
          rw [List.length_append,jy.out.len] at this;rw [jy.out.len];simp at this;omega
         rw [List.getElem?_append_left hlt] at hy;unfold upd;rw [if_neg hqq,if_neg hqq]
         have:=(jy.out.fb h0).2 q' y hy
         exact ⟨this.1.keep hkp,ah.keep hkp _ _ _ this.2⟩)
       clear h4 f4 i4 a4 b4 HZ jy rO QU yD;go_wp2;go_roundw
       case rel=>exact ⟨q+1,_,_,_,j4,n4,by go_num,by omega,qF⟩
       case measure=>simp [RowKit.intOf];omega
     ·obtain rfl:q=z:=by omega
      have bq:Hid (Dy w0 p s c en g ob q ty w (gQ s en q i n) (.returned (.tuple #[])) wr):=aa (by
       rw [yC.out,if_pos trivial,HL.out.run,Nat.sub_self];exact ⟨rfl,⟨HL.out.rs,HL.out.len,fun h0=>⟨a2,b2,HL.out.fb h0⟩⟩,HL.out.bu⟩)
      clear HL;go_wp2;go_end0;exact bq.out
   ·have QV:¬ (z:Int)=(L:Int):=by omega
    refine af.yF 11 (fun i=>9+i) (fun j v _=>v=eF p (z:Int) L o cap j) (by kernel_rfl) (by kernel_rfl) (fun i j h1 h2 h=>by have h':9+i=9+j:=h;omega) (af.tP (size:=41) (by kernel_rfl)) (fun i v w w' _ h _=>h) ?DG ?DJ
    case DG =>
     intro j o1 a1 u hj ho hF2 hB hd;have f1:a1.tmps[1]?.getD undef=.pointer (some ⟨w.heap.size,0,none⟩):=af.av (hF2.eval 1 (fun i hi=>by show 9+i≠1;omega));have db:=aF hB cb;have d13:=aF hB c13;have d5:=aF hB c5;have hcase:j=0\/j=1\/j=2\/j=3\/j=4\/j=5\/j=6\/j=7\/j=8\/j=9\/j=10:=by omega
     clear hj cb c13 c5;rcases hcase with rfl|rfl|rfl|rfl|rfl|rfl|rfl|rfl|rfl|rfl|rfl
     all_goals (simp only [List.getElem?_toArray,List.getElem?_cons_succ,List.getElem?_cons_zero,Option.some.injEq] at ho;subst ho;refine af.aR fun K hK=>?_)
     ·go_simp;exact hK _ _ ⟨_,rfl,Below.refl _ _,rfl⟩
     ·have q:a1.tmps[9]?.getD undef=.pointer (some ⟨p,0,none⟩):=af.av (hd 0 (by decide));go_simp;exact hK _ _ ⟨_,rfl,Below.refl _ _,rfl⟩
     ·have q:a1.tmps[10]?.getD undef=.pointer (some ⟨p,0,none⟩):=af.av (hd 1 (by decide));go_simp;exact hK _ _ ⟨_,rfl,Below.refl _ _,rfl⟩
     ·have q:a1.tmps[11]?.getD undef=.pointer (some ⟨p,13,none⟩):=af.av (hd 2 (by decide));go_simp;exact hK _ _ ⟨_,rfl,Below.refl _ _,rfl⟩
     ·go_simp;exact hK _ _ ⟨_,rfl,Below.refl _ _,rfl⟩
     ·have q:a1.tmps[13]?.getD undef=.pointer (some ⟨p,0,none⟩):=af.av (hd 4 (by decide));go_simp;exact hK _ _ ⟨_,rfl,Below.refl _ _,rfl⟩
     ·have q:a1.tmps[14]?.getD undef=.pointer (some ⟨p,0,none⟩):=af.av (hd 5 (by decide));go_simp;exact hK _ _ ⟨_,rfl,Below.refl _ _,rfl⟩
     ·have q:a1.tmps[15]?.getD undef=.pointer (some ⟨p,3,none⟩):=af.av (hd 6 (by decide));go_simp;exact hK _ _ ⟨_,rfl,Below.refl _ _,rfl⟩
     ·have q:a1.tmps[16]?.getD undef=.pointer (some ⟨p,5,none⟩):=af.av (hd 7 (by decide));go_simp;exact hK _ _ ⟨_,rfl,Below.refl _ _,rfl⟩
     ·have q:a1.tmps[17]?.getD undef=.slice o L cap:=af.av (hd 8 (by decide));go_simp;exact hK _ _ ⟨_,rfl,Below.refl _ _,rfl⟩
     ·have q:a1.tmps[12]?.getD undef=.int .i64 (z:Int):=af.av (hd 3 (by decide));have q2:a1.tmps[18]?.getD undef=.int .i64 (L:Int):=af.av (hd 9 (by decide));have dq:((z:Int) == (L:Int))=false:=by simp;omega
      go_simp;exact hK _ _ ⟨_,rfl,Below.refl _ _,dq.symm ▸ rfl⟩
    case DJ =>
     intro a1 u hF2 hB hG;have dq:((z:Int) == (L:Int))=false:=by simp;omega
     have q:a1.tmps[19]?.getD undef=.bool false:=by rw [<- dq];exact af.av (hG 10 (by decide))
     simp only [List.drop_succ_cons,List.drop_zero];refine wpList_plain rfl fun K hK=>?_;go_simp;refine (eZ _ _).mono ?_;rintro e u2 ⟨rfl,rfl⟩;refine ⟨hF2.defers,?_⟩;rw [yC.out,if_neg QV];exact ⟨rfl,HR1.out.below.trans (hB.mono HR1.out.below.size)⟩
end Go.Proofs.YtegboefdolfdgaaGreatDoor
