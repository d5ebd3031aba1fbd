/- Texts that the claim needs. -/
import Derived.Test.YtcfifbgemfladaaGreatDoorQDPa29
import Derived.Test.YtcfifbgemfladaaGreatDoorQDPa30
import Derived.Test.YtcfifbgemfladaaGreatDoorQDPa45
import Derived.Test.YtcfifbgemfladaaGreatDoorQDPa24
import Derived.Test.YtcfifbgemfladaaGreatDoorQDPa5
import Derived.Test.YtcfifbgemfladaaGreatDoorQDPa9
import Derived.Deep.RegionLaw
import Derived.Test.YtcfifbgemfladaaGreatDoorQDPa7
import Derived.Test.YtcfifbgemfladaaGreatDoorRows
import Derived.Lib.LaidIn
import Derived.Lib.LaidU8T
import Derived.ProofKit
namespace Go.Proofs.YtcfifbgemfladaaGreatDoor
open Go.RowKit au Enc aI Go.Lib Go.Proofs.Tryz
set_option linter.unusedVariables false
set_option maxRecDepth 100000
set_option maxHeartbeats 16000000
namespace aI
def pG (t S:AH) (Pq n Q:Nat) (A B Y:AH):Nat->Value
 | 0=>.string t
 | 1=>.string S
 | 2=>.int .i64 Pq
 | 3=>.int .i64 Pq
 | 4=>.int .i64 (Pq+1:Nat)
 | 5=>.string A
 | 6=>.int .u64 n
 | 7=>.int .i64 n
 | 8=>.string B
 | 9=>.string (A++B)
 | 10=>.string S
 | 11=>.int .i64 Q
 | 12=>.int .i64 Q
 | 13=>.int .u64 n
 | 14=>.int .i64 n
 | 15=>.int .i64 (Q+n:Nat)
 | 16=>.string Y
 | 17=>.string (A++B++Y)
 | _=>.string (t++(A++B++Y))
theorem XD {x:List Value} (h:x.length=19):∃x0 x1 x2 x3 x4 x5 x6 x7 x8 x9 cF gD gF gG gH gI gJ gK gm,x = [x0,x1,x2,x3,x4,x5,x6,x7,x8,x9,cF,gD,gF,gG,gH,gI,gJ,gK,gm]:=by
 match x,h with
 | [x0,x1,x2,x3,x4,x5,x6,x7,x8,x9,cF,gD,gF,gG,gH,gI,gJ,gK,gm],_=>exact ⟨x0,x1,x2,x3,x4,x5,x6,x7,x8,x9,cF,gD,gF,gG,gH,gI,gJ,gK,gm,rfl⟩
theorem XE {a b:Nat} (h:a+b<=20000):IntKind.i64.wrap ((a:Int)+(b:Int))=((a+b:Nat):Int)/\wrap64 ((a:Int)+(b:Int))=((a+b:Nat):Int):=by
 refine ⟨?_,?_⟩
 ·rw [IntKind.wrap_i64];omega
 unfold wrap64;omega
theorem XF {a:Nat} (h:a<=20000):IntKind.i64.wrap ((a:Int)+1)=((a+1:Nat):Int)/\wrap64 ((a:Int)+1)=(a:Int)+1:=by
 refine ⟨?_,?_⟩
 ·rw [IntKind.wrap_i64];omega
 unfold wrap64;omega
theorem XG {a:Nat} (h:a<=20000):IntKind.i64.wrap (a:Int)=(a:Int)/\wrap64 (a:Int)=(a:Int):=by
 refine ⟨?_,?_⟩
 ·rw [IntKind.wrap_i64];omega
 unfold wrap64;omega
theorem XH {a N:Nat} (h:a<N):0<=(a:Int)+1/\(a:Int)+1<=(N:Int):=by omega
theorem XI (a:Nat):(a:Int)<=(a:Int)+1:=by omega
theorem XJ {a b N:Nat} (h:a+b<=N):0<=(a:Int)+(b:Int)/\(a:Int)+(b:Int)<=(N:Int):=by omega
theorem XK (a b:Nat):(a:Int)<=(a:Int)+(b:Int):=by omega
theorem Js {a b:Nat} (h:a<=1000000) (h':b<=1000000):¬ 9223372036854775807<a+b:=by omega
theorem XL {a b:Nat} (h:a<b):decide ((a:Int)<(b:Int))=true:=ay
theorem XM {a b:Nat} (h:¬ a<b):decide ((a:Int)<(b:Int))=false:=aj
theorem XN {x:Mod 81} {S:AH} (hc:ny x=0) (hW:tJ x S) {j Pq:Nat} (hj:j<=11) (AV:Pq=pos x j) (hp:Pq<S.size) :
  ∃k n Q:Nat,k+1<=11/\Q+n<=S.size/\Pq+1<=Q/\n<=20000/\af.ig S ((Pq:Int)+1) 32=((n:Int),(Q:Int),0)/\Q+n=pos x (k+1) /\
   strOfNums (jY x (k+1))=strOfNums (jY x j)++(S.extract Pq (Pq+1)++strOfNums (qH n)++S.extract Q (Q+n)):=by
 obtain ⟨k,hjk,vo,hlk,hpk,hzz⟩:=hW.next (11-j) j (by omega) (AV ▸ hp);obtain ⟨XO,hbt,hur,hls,hps⟩:=hW.pay vo hlk;have hbd:=NY hc (k:=k+1) (by omega) (by omega) hlk;have hle:=BW x (j:=k+1) (k:=11) (by omega);have hlen:=hW.len;rw [hpk,<- AV] at hbt hur hls hps;refine ⟨k,(gp x (k+1)).length,Pq+1+(af.uB ((gp x (k+1)).length:Int)).length,by omega,by omega,by omega,XO,hur,hps.symm,?_⟩
 have e1:S.extract Pq (Pq+1)=strOfNums [((k+1:Nat):Int)]:=by
  have:=Jp (s:=S) (i:=Pq) (xs:=[((k+1:Nat):Int)]) (λy hy=>by simp at hy;omega) (λa ha=>by
   have ha':a=0:=by simpa using ha
   subst ha';simpa using hbt) (by show Pq+1<=_;omega)
  exact this
 have e2:=Jp hbd hls (by omega);rw [e1,e2,<- Jo,<- Jo,<- Jo,XP x hjk hzz hlk]
end aI
theorem XQ (d:Nat) (v0 v1 v2 v3 v4 v5 v6 v7 v8 v9:Value) (m:Mod d) (w:AG) (hI:mI w) (hM:iG w d v0 v1 v2 v3 v4 v5 v6 v7 v8 v9 m) (hN:zl m) (hsz:∀x ∈ m.aA,x.bytes.size<=9223372036854775807) (hX:BO m) :
  Calls prog 4 #[.agg #[v0,v1,v2,v3,v4,v5,v6,v7,v8,v9]] w λe w'=>e=.returned (.bool true)/\Below w.heap.size w w':=by
 obtain ⟨o0,k0,rfl⟩:=Row.len hM.types;obtain ⟨o1,k1,rfl⟩:=Row.len hM.imports;obtain ⟨o2,k2,rfl⟩:=Row.len hM.funcs;obtain ⟨o3,k3,rfl⟩:=Row.len hM.tables;obtain ⟨o4,k4,rfl⟩:=Row.len hM.aF;obtain ⟨o5,k5,rfl⟩:=Row.len hM.globals;obtain ⟨o6,k6,rfl⟩:=Row.len hM.exports;obtain ⟨o7,k7,rfl⟩:=Row.len hM.start;obtain ⟨o8,k8,rfl⟩:=Row.len hM.elems;obtain ⟨o9,k9,rfl⟩:=Row.len hM.aA;have NZ:=λ(w2:AG) (hb:Below w.heap.size w w2)=>aa (XR d _ _ _ _ _ _ _ _ _ _ m w2 (hM.on hb) hsz);have HM:=aa hM;have HN:=aa hN;have HX:=aa hX;have HI:=aa hI;clear hM hX hI hsz hN;generalize m.types.length=n0 at *;generalize m.imports.length=n1 at *;generalize m.funcs.length=n2 at *;generalize m.tables.length=n3 at *;generalize m.aF.length=n4 at *;generalize m.globals.length=n5 at *;generalize m.exports.length=n6 at *;generalize m.start.length=n7 at *;generalize m.elems.length=n8 at *;generalize m.aA.length=n9 at *;go_enter func4,ntmps4;go_upto_region 1 with fail;obtain ⟨u1,hu1⟩:∃u1,u1=w.alloc (.cells #[.slice o0 n0 k0,.slice o1 n1 k1,.slice o2 n2 k2,.slice o3 n3 k3,.slice o4 n4 k4,.slice o5 n5 k5,.slice o6 n6 k6,.slice o7 n7 k7,.slice o8 n8 k8,.slice o9 n9 k9] 32):=⟨_,rfl⟩;have HB1:Hid (gW u1 w.heap.size (.slice o0 n0 k0) (.slice o1 n1 k1) (.slice o2 n2 k2) (.slice o3 n3 k3) (.slice o4 n4 k4) (.slice o5 n5 k5) (.slice o6 n6 k6) (.slice o7 n7 k7) (.slice o8 n8 k8) (.slice o9 n9 k9)):=aa (by rw [hu1];exact gW.new rfl);have HU:Hid (Below w.heap.size w u1):=aa (by rw [hu1];exact aQ _ _);rw [<- hu1];clear hu1;have HP:∀w2,Below u1.heap.size u1 w2->Hid (gW w2 w.heap.size (.slice o0 n0 k0) (.slice o1 n1 k1) (.slice o2 n2 k2) (.slice o3 n3 k3) (.slice o4 n4 k4) (.slice o5 n5 k5) (.slice o6 n6 k6) (.slice o7 n7 k7) (.slice o8 n8 k8) (.slice o9 n9 k9)):=λw2 hb=>aa (HB1.out.on hb);have nz:=NZ u1 HU.out;clear NZ;have sV:∀(w2:AG) (x:Mod 81),Below u1.heap.size u1 w2->iG w2 81 (.slice o0 n0 k0) (.slice o1 n1 k1) (.slice o2 n2 k2) (.slice o3 n3 k3) (.slice o4 n4 k4) (.slice o5 n5 k5) (.slice o6 n6 k6) (.slice o7 n7 k7) (.slice o8 n8 k8) (.slice o9 n9 k9) x->Hid (zl x):=λw2 x hb hx=>aa (XS hx (HM.out.on (dM HU.out hb)) HN.out);generalize hp1:w.heap.size=p1 at HP HB1 ⊢;obtain ⟨c0,c1,c2,c3,c4,c5,c6,c7,c8,c9⟩:=HB1.out.nW;go_wp2_with fail;refine nz.out.mono ?_;rintro e u2 ⟨hb2,zm⟩;have HB2:=aa hb2;have N7:=aa (zn HI.out (dM HU.out hb2));rcases zm with rfl|⟨rfl,x,hx,hs,hi1,hi2⟩
 ·clear c0 c1 c2 c3 c4 c5 c6 c7 c8 c9 hb2 sV;go_wp2_with fail;refine (Gl _ N7.out).mono ?_;rintro e u3 ⟨rfl,hb3⟩;have lS:=aa (dM (dM HU.out HB2.out) hb3);clear hb3;go_wp2;go_ret;exact ⟨rfl,lS.out⟩
 have sQ:=sV u2 x hb2 hx;have Jt:=aa hx;have Gm:Hid (BO x):=aa ⟨by rw [hi1];exact HX.out.imports,by rw [hi2];exact HX.out.exports⟩;have iA:Hid (∀y ∈ x.aA,y.bytes.size<=300000):=aa (λy hy=>(hs.aA y hy).2);clear hx hs hi1 hi2 hb2 nz HM HX HN sV c0 c1 c2 c3 c4 c5 c6 c7 c8 c9;have HE:=aa (XT 81 _ _ _ _ _ _ _ _ _ _ x u2 Jt.out Gm.out (λy hy=>by have:=iA.out y hy;omega) (λh=>XU h sQ.out));obtain ⟨S,E,AX⟩:=XV x;have xY:=aa AX;rw [AX] at HE;clear AX;have c0:=(HP u2 HB2.out).out.cell 0 _ rfl;have c1:=(HP u2 HB2.out).out.cell 1 _ rfl;have c2:=(HP u2 HB2.out).out.cell 2 _ rfl;have c3:=(HP u2 HB2.out).out.cell 3 _ rfl;have c4:=(HP u2 HB2.out).out.cell 4 _ rfl;have c5:=(HP u2 HB2.out).out.cell 5 _ rfl;have c6:=(HP u2 HB2.out).out.cell 6 _ rfl;have c7:=(HP u2 HB2.out).out.cell 7 _ rfl;have c8:=(HP u2 HB2.out).out.cell 8 _ rfl;have c9:=(HP u2 HB2.out).out.cell 9 _ rfl;go_wp2_with fail;refine HE.out.mono ?_;rintro e u3 ⟨rfl,hb3⟩;have lS:=aa (HB2.out.trans (hb3.mono HB2.out.size));have cW:=aa (dM HU.out lS.out);have Gn:=aa (zn N7.out hb3);have xa:=aa (Jt.out.on hb3);clear hb3 HE Jt HB2 c0 c1 c2 c3 c4 c5 c6 c7 c8 c9;by_cases hE:E=0
 ·by_cases hS0:(S.size:Int) > 20000
  ·have q1:(E != 0)=false:=by simp [hE]
   have q2:decide ((S.size:Int) > 20000)=true:=ay hS0;clear xY sQ Gm iA xa hE;go_wp2_with fail;refine (Gl _ Gn.out).mono ?_;rintro e u4 ⟨rfl,hb4⟩;have vA:=aa (dM cW.out hb4);clear hb4;go_wp2;go_ret;exact ⟨rfl,vA.out⟩
  have N8:S.size<=20000:=by omega
  obtain ⟨hc,hW,XW⟩:=XC sQ.out xY.out hE N8;have HC:=aa hc;have HW:=aa hW;have Ju:=aa (XX hc sQ.out);have q1:(E != 0)=false:=by simp [hE]
  have q2:decide ((S.size:Int) > 20000)=false:=aj hS0;have h8:8<=S.size:=by have:=BW x (j:=0) (k:=11) (by omega);have:=hW.len;rw [XY] at *;omega
  have aH:Hid (S.extract 0 8=strOfNums (jY x 0)):=aa (by
   have:=Jp Oa hW.hd (by show 0+8<=_;omega)
   rw [show 0+pR.length=8 from rfl] at this;rw [this];unfold jY;show _=strOfNums (pR++[]);rw [List.append_nil])
  have Ob:=aa N8;clear hc hW XW xY Gm iA hE sQ;go_wp2_with fail;generalize S.extract 0 8=t0 at *;go_loopw [5,6] (λtv av wr=>∃(j Pq:Nat) (t:AH),tv=.string t/\av=.int .i64 Pq/\Hid (j<=11/\t=strOfNums (jY x j)/\Pq=pos x j/\Below u3.heap.size u3 wr)) (λ_ av _=>S.size-(RowKit.intOf av).toNat)
  case atStart=>exact ⟨0,8,t0,rfl,rfl,aa ⟨by omega,aH.out,rfl,AC _ _⟩⟩
  case round =>
   obtain ⟨j,Pq,t,rfl,rfl,HJ⟩:=hrel;obtain ⟨hj,ht,AV,hbw⟩:=HJ.out;by_cases hp:Pq<S.size
   ·obtain ⟨k,n,Q,hk,Oc,XZ,hn,hur,hps,hnx⟩:=XN HC.out HW.out hj AV hp;have q3:=XL hp;have X0:=Ob.out;have a1:Pq<=20000:=by omega
    have a2:Q+n<=20000:=by omega
    have a3:S.size<=140737488351232:=by omega
    have a4:n<=262144:=by omega
    have ID:t.size<=300000:=by
     rw [ht,strOfNums_size];have h1:=Jv HW.out j hj;have h2:=BW x hj;have h3:=HW.out.len;omega
    rw [<- ht] at hnx;have sV:=aa hnx;have HU:=aa (λu:AG=>c15 S ((Pq:Int)+1) 32 u a3);simp only [hur] at HU;have Od:=aa (λu:AG=>Ui n u a4);have gQ:=aa hps;have HQ:=aa (And.intro hk (And.intro XZ Oc));have sP:=aa hbw;have xZ:(strOfNums (qH n)).size=5:=by rw [strOfNums_size];rfl
    obtain ⟨Oe,Og⟩:=XF a1;obtain ⟨Jw,Jy⟩:=XE a2;obtain ⟨Oh,Oi⟩:=XG hn;generalize strOfNums (qH n)=B at *;obtain ⟨A,hA⟩:∃A,S.extract Pq (Pq+1)=A:=⟨_,rfl⟩;obtain ⟨Y,hY⟩:∃Y,S.extract Q (Q+n)=Y:=⟨_,rfl⟩;have Gp:A.size<=1:=by rw [<- hA,ByteArray.size_extract];exact eU (Nat.sub_le_sub_right (Nat.min_le_left _ _) _) (by rw [Nat.add_sub_cancel_left];exact aC _)
    have Jz:Y.size<=20000:=by rw [<- hY,ByteArray.size_extract];exact eU (Nat.sub_le _ _) (eU (Nat.min_le_right _ _) X0)
    rw [hA,hY] at sV;clear hnx hur hps hbw HJ ht AV hk aH a1 a2 a3 a4;go_wp2_with fail;refine (HU.out _).mono ?_;rintro e uU ⟨rfl,hue⟩;obtain rfl:wr=uU:=hue.symm;clear HU;go_wp2_with fail;refine ai.oQ 19 (λi=>44+i) (λi v _=>v=pG t S Pq n Q A B Y i) (by kernel_rfl) (by kernel_rfl) (λi j h1 h2 h=>by have h':44+i=44+j:=h;omega) (ai.lJ (size:=82) (by kernel_rfl)) (λi v w w' _ h _=>h) ?hstep ?cO
    case hstep =>
     intro i o a u hi ho hF hB hd;have f5:a.tmps[5]?.getD undef=.string t:=ai.aB (hF.eval 5 (λi hi=>by show 44+i≠5;omega));have f3:a.tmps[3]?.getD undef=.string S:=ai.aB (hF.eval 3 (λi hi=>by show 44+i≠3;omega));have f6:a.tmps[6]?.getD undef=.int .i64 (Pq:Int):=ai.aB (hF.eval 6 (λi hi=>by show 44+i≠6;omega));have f7:a.tmps[7]?.getD undef=.int .u64 (n:Int):=ai.aB (hF.eval 7 (λi hi=>by show 44+i≠7;omega));have f8:a.tmps[8]?.getD undef=.int .i64 (Q:Int):=ai.aB (hF.eval 8 (λi hi=>by show 44+i≠8;omega));have hcase:i=0\/i=1\/i=2\/i=3\/i=4\/i=5\/i=6\/i=7\/i=8\/i=9\/i=10\/i=11\/i=12\/i=13\/i=14\/i=15\/i=16\/i=17\/i=18:=by clear Oe Og Jw Jy Oh Oi;omega
     clear hi;rcases hcase with rfl|rfl|rfl|rfl|rfl|rfl|rfl|rfl|rfl|rfl|rfl|rfl|rfl|rfl|rfl|rfl|rfl|rfl|rfl
     all_goals (simp only [gz,gU,gV,gN] at ho;subst ho;refine ai.aO λK hK=>?_)
     ·go_simp;exact hK _ _ ⟨_,rfl,AC _ _,by first|rfl|(simp only [pG];done)|(simp only [pG];congr 1;done)|(simp only [pG,hA,hY];done)⟩
     ·go_simp;exact hK _ _ ⟨_,rfl,AC _ _,by first|rfl|(simp only [pG];done)|(simp only [pG];congr 1;done)|(simp only [pG,hA,hY];done)⟩
     ·go_simp;exact hK _ _ ⟨_,rfl,AC _ _,by first|rfl|(simp only [pG];done)|(simp only [pG];congr 1;done)|(simp only [pG,hA,hY];done)⟩
     ·go_simp;exact hK _ _ ⟨_,rfl,AC _ _,by first|rfl|(simp only [pG];done)|(simp only [pG];congr 1;done)|(simp only [pG,hA,hY];done)⟩
     ·have g0:a.tmps[47]?.getD undef=.int .i64 (Pq:Int):=ai.aB (hd 3 (by decide));go_simp;exact hK _ _ ⟨_,rfl,AC _ _,by first|rfl|(simp only [pG];done)|(simp only [pG];congr 1;done)|(simp only [pG,hA,hY];done)⟩
     ·have g0:a.tmps[45]?.getD undef=.string S:=ai.aB (hd 1 (by decide));have g1:a.tmps[46]?.getD undef=.int .i64 (Pq:Int):=ai.aB (hd 2 (by decide));have g2:a.tmps[48]?.getD undef=.int .i64 ((Pq+1:Nat):Int):=ai.aB (hd 4 (by decide));go_simp;rw [AE (XH hp),AE (XI Pq)];exact hK _ _ ⟨_,rfl,AC _ _,by first|rfl|(simp only [pG];done)|(simp only [pG];congr 1;done)|(simp only [pG,hA,hY];done)⟩
     ·go_simp;exact hK _ _ ⟨_,rfl,AC _ _,by first|rfl|(simp only [pG];done)|(simp only [pG];congr 1;done)|(simp only [pG,hA,hY];done)⟩
     ·have g0:a.tmps[50]?.getD undef=.int .u64 (n:Int):=ai.aB (hd 6 (by decide));go_simp;exact hK _ _ ⟨_,rfl,AC _ _,by first|rfl|(simp only [pG];done)|(simp only [pG];congr 1;done)|(simp only [pG,hA,hY];done)⟩
     ·have g0:a.tmps[51]?.getD undef=.int .i64 (n:Int):=ai.aB (hd 7 (by decide));have jM:=aa hK;clear hK;go_simp;refine (Od.out _).mono ?_;rintro e w3 ⟨rfl,hb3⟩;exact jM.out _ _ ⟨_,rfl,hb3,rfl⟩
     ·have g0:a.tmps[49]?.getD undef=.string A:=ai.aB (hd 5 (by decide));have g1:a.tmps[52]?.getD undef=.string B:=ai.aB (hd 8 (by decide));have hno:=Js (a:=A.size) (b:=B.size) (eU Gp (by decide)) (by rw [xZ];decide);rw [xZ] at hno;go_simp;exact hK _ _ ⟨_,rfl,AC _ _,by first|rfl|(simp only [pG];done)|(simp only [pG];congr 1;done)|(simp only [pG,hA,hY];done)⟩
     ·go_simp;exact hK _ _ ⟨_,rfl,AC _ _,by first|rfl|(simp only [pG];done)|(simp only [pG];congr 1;done)|(simp only [pG,hA,hY];done)⟩
     ·go_simp;exact hK _ _ ⟨_,rfl,AC _ _,by first|rfl|(simp only [pG];done)|(simp only [pG];congr 1;done)|(simp only [pG,hA,hY];done)⟩
     ·go_simp;exact hK _ _ ⟨_,rfl,AC _ _,by first|rfl|(simp only [pG];done)|(simp only [pG];congr 1;done)|(simp only [pG,hA,hY];done)⟩
     ·go_simp;exact hK _ _ ⟨_,rfl,AC _ _,by first|rfl|(simp only [pG];done)|(simp only [pG];congr 1;done)|(simp only [pG,hA,hY];done)⟩
     ·have g0:a.tmps[57]?.getD undef=.int .u64 (n:Int):=ai.aB (hd 13 (by decide));go_simp;exact hK _ _ ⟨_,rfl,AC _ _,by first|rfl|(simp only [pG];done)|(simp only [pG];congr 1;done)|(simp only [pG,hA,hY];done)⟩
     ·have g0:a.tmps[56]?.getD undef=.int .i64 (Q:Int):=ai.aB (hd 12 (by decide));have g1:a.tmps[58]?.getD undef=.int .i64 (n:Int):=ai.aB (hd 14 (by decide));go_simp;exact hK _ _ ⟨_,rfl,AC _ _,by first|rfl|(simp only [pG];done)|(simp only [pG];congr 1;done)|(simp only [pG,hA,hY];done)⟩
     ·have g0:a.tmps[54]?.getD undef=.string S:=ai.aB (hd 10 (by decide));have g1:a.tmps[55]?.getD undef=.int .i64 (Q:Int):=ai.aB (hd 11 (by decide));have g2:a.tmps[59]?.getD undef=.int .i64 ((Q+n:Nat):Int):=ai.aB (hd 15 (by decide));go_simp;rw [AE (XJ Oc),AE (XK Q n)];exact hK _ _ ⟨_,rfl,AC _ _,by first|rfl|(simp only [pG];done)|(simp only [pG];congr 1;done)|(simp only [pG,hA,hY];done)⟩
     ·have g0:a.tmps[53]?.getD undef=.string (A++B):=ai.aB (hd 9 (by decide));have g1:a.tmps[60]?.getD undef=.string Y:=ai.aB (hd 16 (by decide));have hno:=Js (a:=(A++B).size) (b:=Y.size) (by rw [ByteArray.size_append,xZ];exact eU (Nat.add_le_add_right Gp 5) (by decide)) (eU Jz (by decide));rw [ByteArray.size_append,xZ] at hno;go_simp;exact hK _ _ ⟨_,rfl,AC _ _,by first|rfl|(simp only [pG];done)|(simp only [pG];congr 1;done)|(simp only [pG,hA,hY];done)⟩
     have g0:a.tmps[44]?.getD undef=.string t:=ai.aB (hd 0 (by decide));have g1:a.tmps[61]?.getD undef=.string (A++B++Y):=ai.aB (hd 17 (by decide));have hno:=Js (a:=t.size) (b:=A.size+B.size+Y.size) (eU ID (by decide)) (by rw [xZ];exact eU (Nat.add_le_add (Nat.add_le_add_right Gp 5) Jz) (by decide));rw [xZ] at hno;go_simp;exact hK _ _ ⟨_,rfl,AC _ _,by first|rfl|(simp only [pG];done)|(simp only [pG];congr 1;done)|(simp only [pG,hA,hY];done)⟩
    case cO =>
     intro a u hF hB hG;obtain ⟨xl,hxl,rfl,hev⟩:=hF.lit (by simp);obtain ⟨x0,x1,x2,x3,x4,x5,x6,x7,x8,x9,cF,gD,gF,gG,gH,gI,gJ,gK,gm,rfl⟩:=XD hxl;have e18:gm=.string (t++(A++B++Y)):=(hev 18 (by decide)).symm.trans (hG 18 (by decide));subst e18;have HB2:=aa (dM sP.out hB);clear hev hxl hF hG hB sP Od xZ Gp Jz ID hA hY;simp only [ja,jb,iw,gP,iy,fN];obtain ⟨t',ht'⟩:∃t',t'=t++(A++B++Y):=⟨_,rfl⟩;rw [<- ht'] at sV;simp only [<- ht'];clear ht';obtain ⟨E2,Dh⟩:∃E2,E2=Q+n:=⟨_,rfl⟩;have X3:=aa Dh;rw [<- Dh] at Jw Jy gQ;clear Dh;go_wp2;go_roundw
     case rel=>exact ⟨k+1,E2,t',rfl,by first|rfl|(congr 1;done),aa ⟨HQ.out.1,sV.out.symm,gQ.out,HB2.out⟩⟩
     case measure=>have h1:=X3.out;have h2:=HQ.out;clear Oe Og Jw Jy Oh Oi;simp [RowKit.intOf];omega
   have q3:=XM hp;have hT:t=strOfNums (jY x 11):=by rw [ht,X4 HW.out hj (AV ▸ hp)]
   have hl:(jY x 11).length=t.size:=by rw [hT,strOfNums_size]
   have hz:t.size<=262144:=by have h1:=Jv HW.out 11 (aC _);have h2:=HW.out.len;have h3:=HW.out.short;omega
   have Oj:Ls t 0 (jY x 11):=by rw [hT];exact NU (Ol HC.out HW.out 11 (aC _))
   have hrd:=X5 Ju.out HW.out Oj hl hz;have HD:=aa (X6 t wr (by omega) (zn Gn.out hbw));rw [hrd] at HD;have Om:Hid (x.funcs.length<=9223372036854775807):=aa (by have:=Ju.out.funcs.1;omega);have sP:=aa hbw;have Oo:=aa (zn Gn.out hbw);have Oq:=aa (xa.out.on hbw);have JA:=aa (lS.out.trans (hbw.mono lS.out.size));have Ot:=aa (dM cW.out hbw);clear hT hl hz Oj hrd HJ ht AV hbw aH xa cW Ju HC HW Ob;go_wp2_with fail;refine HD.out.mono ?_;rintro e u4 ⟨hb4,p,c,kk,nn,hmm,rfl⟩;have tK:Hid (iG u4 81 (c 0) (c 1) (c 2) (c 3) (c 4) (c 5) (c 6) (c 7) (c 8) (c 9) x):=aa (X7 hmm Om.out);have vA:=aa hb4;clear hmm hb4 HD Om;generalize c 0=y0 at *;generalize c 1=y1 at *;generalize c 2=y2 at *;generalize c 3=y3 at *;generalize c 4=y4 at *;generalize c 5=y5 at *;generalize c 6=y6 at *;generalize c 7=y7 at *;generalize c 8=y8 at *;generalize c 9=y9 at *;obtain ⟨p0,j0,rfl⟩:=Row.len tK.out.types;obtain ⟨p1,j1,rfl⟩:=Row.len tK.out.imports;obtain ⟨p2,j2,rfl⟩:=Row.len tK.out.funcs;obtain ⟨p3,j3,rfl⟩:=Row.len tK.out.tables;obtain ⟨p4,j4,rfl⟩:=Row.len tK.out.aF;obtain ⟨p5,j5,rfl⟩:=Row.len tK.out.globals;obtain ⟨p6,j6,rfl⟩:=Row.len tK.out.exports;obtain ⟨p7,j7,rfl⟩:=Row.len tK.out.start;obtain ⟨p8,j8,rfl⟩:=Row.len tK.out.elems;obtain ⟨p9,j9,rfl⟩:=Row.len tK.out.aA;obtain ⟨m0,hm0⟩:∃n,x.types.length=n:=⟨_,rfl⟩;obtain ⟨m1,hm1⟩:∃n,x.imports.length=n:=⟨_,rfl⟩;obtain ⟨m2,hm2⟩:∃n,x.funcs.length=n:=⟨_,rfl⟩;obtain ⟨m3,yc⟩:∃n,x.tables.length=n:=⟨_,rfl⟩;obtain ⟨m4,JB⟩:∃n,x.aF.length=n:=⟨_,rfl⟩;obtain ⟨m5,Jm⟩:∃n,x.globals.length=n:=⟨_,rfl⟩;obtain ⟨m6,Ou⟩:∃n,x.exports.length=n:=⟨_,rfl⟩;obtain ⟨m7,Ov⟩:∃n,x.start.length=n:=⟨_,rfl⟩;obtain ⟨m8,Ow⟩:∃n,x.elems.length=n:=⟨_,rfl⟩;obtain ⟨m9,Ox⟩:∃n,x.aA.length=n:=⟨_,rfl⟩;rw [hm0,hm1,hm2,yc,JB,Jm,Ou,Ov,Ow,Ox] at tK ⊢;clear hm0 hm1 hm2 yc JB Jm Ou Ov Ow Ox;have g4:(u4.alloc (.cells #[.slice p0 m0 j0,.slice p1 m1 j1,.slice p2 m2 j2,.slice p3 m3 j3,.slice p4 m4 j4,.slice p5 m5 j5,.slice p6 m6 j6,.slice p7 m7 j7,.slice p8 m8 j8,.slice p9 m9 j9] 32)).heap[u4.heap.size]?=some (.cells #[.slice p0 m0 j0,.slice p1 m1 j1,.slice p2 m2 j2,.slice p3 m3 j3,.slice p4 m4 j4,.slice p5 m5 j5,.slice p6 m6 j6,.slice p7 m7 j7,.slice p8 m8 j8,.slice p9 m9 j9] 32 (0,0)):=mV _ _ rfl;have gB:=aQ u4 (.cells #[.slice p0 m0 j0,.slice p1 m1 j1,.slice p2 m2 j2,.slice p3 m3 j3,.slice p4 m4 j4,.slice p5 m5 j5,.slice p6 m6 j6,.slice p7 m7 j7,.slice p8 m8 j8,.slice p9 m9 j9] 32);have Oy:=aa (tK.out.on gB);have Oz:=aa (Oq.out.on (dM vA.out gB));have Gq:=aa (dM Ot.out (dM vA.out gB));have bI:=aa (JA.out.trans ((dM vA.out gB).mono JA.out.size));have OA:=aa (zn Oo.out (dM vA.out gB));have c0:=(HP _ bI.out).out.cell 0 _ rfl;have c1:=(HP _ bI.out).out.cell 1 _ rfl;have c2:=(HP _ bI.out).out.cell 2 _ rfl;have c3:=(HP _ bI.out).out.cell 3 _ rfl;have c4:=(HP _ bI.out).out.cell 4 _ rfl;have c5:=(HP _ bI.out).out.cell 5 _ rfl;have c6:=(HP _ bI.out).out.cell 6 _ rfl;have c7:=(HP _ bI.out).out.cell 7 _ rfl;have c8:=(HP _ bI.out).out.cell 8 _ rfl;have c9:=(HP _ bI.out).out.cell 9 _ rfl;obtain ⟨e0,e1,e2,e3,e4,e5,e6,e7,e8,e9⟩:=Dy g4;clear g4 gB tK Oq vA JA Ot bI Oo;go_upto_region 15 with fail;generalize u4.alloc (.cells #[.slice p0 m0 j0,.slice p1 m1 j1,.slice p2 m2 j2,.slice p3 m3 j3,.slice p4 m4 j4,.slice p5 m5 j5,.slice p6 m6 j6,.slice p7 m7 j7,.slice p8 m8 j8,.slice p9 m9 j9] 32)=W3 at *;generalize u4.heap.size=g3 at *;go_wp2_with fail;refine (X8 81 _ _ _ _ _ _ _ _ _ _ _ _ _ _ _ _ _ _ _ _ x W3 Oz.out Oy.out).mono ?_;rintro e u5 ⟨rfl,hb5⟩;have AF:=aa (dM Gq.out hb5);have X9:=aa (zn OA.out hb5);clear hb5 Gq Oz Oy OA c0 c1 c2 c3 c4 c5 c6 c7 c8 c9 e0 e1 e2 e3 e4 e5 e6 e7 e8 e9;go_wp2_with fail;refine (Gl _ X9.out).mono ?_;rintro e u6 ⟨rfl,OB⟩;have AJ:=aa (dM AF.out OB);clear OB AF;go_wp2;go_ret;exact ⟨rfl,AJ.out⟩
 have q1:(E != 0)=true:=by simp [hE]
 clear xY sQ Gm iA xa hE;go_wp2_with fail;refine (Gl _ Gn.out).mono ?_;rintro e u4 ⟨rfl,hb4⟩;have vA:=aa (dM cW.out hb4);clear hb4;go_wp2;go_ret;exact ⟨rfl,vA.out⟩
end Go.Proofs.YtcfifbgemfladaaGreatDoor
namespace Go.Proofs.YtcfifbgemfladaaGreatDoor
open Go.RowKit Go.Shelf Go.Lib au Go.Proofs.Tryz
theorem own:ownKnob prog.godebug=none:=by kernel_rfl
theorem Sk:(Rows.laid_unicode_utf8_acceptRanges:DataW Unit)=Lib.acceptData:=by kernel_rfl
theorem Sl:Rows.laid_unicode_utf8_first=Lib.firstData:=by kernel_rfl
theorem abL {W : AG} (hL : laidMetH Tryz.prog [("unicode/utf8.acceptRanges", Rows.laid_unicode_utf8_acceptRanges), ("unicode/utf8.first", Rows.laid_unicode_utf8_first)] W) : mI W := by
 rw [Sk,Sl] at hL;have hM : laidMet Tryz.prog [("unicode/utf8.acceptRanges", Lib.acceptData), ("unicode/utf8.first", Lib.firstData)] W := hL
 exact utf8Tabs_of_readsT (U8Types.of196 Tryz.laysValid) ⟨by kernel_rfl,by kernel_rfl,by kernel_rfl,by kernel_rfl,by kernel_rfl,by kernel_rfl,by kernel_rfl⟩ (Lib.laidMet.reads hM (.tail _ (.head _))) (Lib.laidMet.reads hM (.head _))
noncomputable def KH (os:Os):AG :=
 let w0:=World.holding prog os ⟨#[],#[],[]⟩
 let put (h:Array Obj) (g:Nat) (cs:Array Value):Array Obj:=h.modify g fun
  | .cells _ t frozen=>.cells cs t frozen
  | o=>o
 let h1:=put w0.heap 0 (Lib.firstTab.map λz=>Value.int .u8 z).toArray
 let h2:=put h1 1 ((List.range 16).flatMap λi=>[Value.int .u8 (Lib.accLo i),Value.int .u8 (Lib.accHi i)]).toArray
 { w0 with heap:=h2 }
theorem abP (os : Os) (args : Array Value) : laidMet Tryz.prog [("unicode/utf8.acceptRanges", Rows.laid_unicode_utf8_acceptRanges), ("unicode/utf8.first", Rows.laid_unicode_utf8_first)] ((KH os).forCall (fun _ _ => 0) ⟨#[], args, []⟩).memory := by
 rw [Sk,Sl];exact (LaidIn.of_run (l := [("unicode/utf8.acceptRanges", Lib.acceptData), ("unicode/utf8.first", Lib.firstData)]) [1, 0] 8 (by kernel_rfl) (by kernel_rfl) (by kernel_rfl) (by kernel_rfl)).met
end Go.Proofs.YtcfifbgemfladaaGreatDoor
