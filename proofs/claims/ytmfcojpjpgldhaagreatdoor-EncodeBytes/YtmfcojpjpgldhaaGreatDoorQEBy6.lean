/- Texts that the claim needs. -/
import Derived.Test.YtmfcojpjpgldhaaGreatDoorQEBy5
namespace Go.Proofs.YtmfcojpjpgldhaaGreatDoor
open Go.RowKit aA Go.Proofs.Tryz
set_option linter.unusedVariables false
set_option maxHeartbeats 4000000
namespace aA
structure dN (w:World) (v0 v1 v2 v3 v4 v5 v6 v7 v8 v9:Value) (u:World):Prop where
 c0:u.cell? ⟨w.heap.size,0,none⟩=some v0
 c1:u.cell? ⟨w.heap.size,1,none⟩=some v1
 c2:u.cell? ⟨w.heap.size,2,none⟩=some v2
 c3:u.cell? ⟨w.heap.size,3,none⟩=some v3
 c4:u.cell? ⟨w.heap.size,4,none⟩=some v4
 c5:u.cell? ⟨w.heap.size,5,none⟩=some v5
 c6:u.cell? ⟨w.heap.size,6,none⟩=some v6
 c7:u.cell? ⟨w.heap.size,7,none⟩=some v7
 c8:u.cell? ⟨w.heap.size,8,none⟩=some v8
 c9:u.cell? ⟨w.heap.size,9,none⟩=some v9
 aL:Below w.heap.size w u
theorem dN.on {w:World} {v0 v1 v2 v3 v4 v5 v6 v7 v8 v9:Value} {u u':World} (hb:Below u.heap.size u u') (h:dN w v0 v1 v2 v3 v4 v5 v6 v7 v8 v9 u):dN w v0 v1 v2 v3 v4 v5 v6 v7 v8 v9 u' :=
 ⟨aj hb h.c0,aj hb h.c1,aj hb h.c2,aj hb h.c3,aj hb h.c4,aj hb h.c5,aj hb h.c6,aj hb h.c7,aj hb h.c8,aj hb h.c9,h.aL.trans (hb.mono h.aL.size)⟩
theorem dN.start (w:World) (t:TypeId) (v0 v1 v2 v3 v4 v5 v6 v7 v8 v9:Value):dN w v0 v1 v2 v3 v4 v5 v6 v7 v8 v9 (w.alloc (.cells #[v0,v1,v2,v3,v4,v5,v6,v7,v8,v9] t)):=by
 refine ⟨?_,?_,?_,?_,?_,?_,?_,?_,?_,?_,(Below.refl _ w).alloc (aI _) _⟩
 all_goals exact bQ _ _ _ _ _ rfl
theorem dN.new {w:World} {v0 v1 v2 v3 v4 v5 v6 v7 v8 v9:Value} {u:World} (h:dN w v0 v1 v2 v3 v4 v5 v6 v7 v8 v9 u) (o:Obj):dN w v0 v1 v2 v3 v4 v5 v6 v7 v8 v9 (u.alloc o):=h.on ((Below.refl _ u).alloc (aI _) o)
theorem dN.G8 {w:World} {v0 v1 v2 v3 v4 v5 v6 v7 v8 v9:Value} {u u':World} {o:Obj} (h:dN w v0 v1 v2 v3 v4 v5 v6 v7 v8 v9 u) (e:u'=u.alloc o):dN w v0 v1 v2 v3 v4 v5 v6 v7 v8 v9 u':=by rw [e];exact h.new o
theorem dN.LW {w:World} {v0 v1 v2 v3 v4 v5 v6 v7 v8 v9:Value} {u u':World} {o p:Obj} (h:dN w v0 v1 v2 v3 v4 v5 v6 v7 v8 v9 u) (e:u'=(u.alloc o).alloc p):dN w v0 v1 v2 v3 v4 v5 v6 v7 v8 v9 u':=by rw [e];exact (h.new o).new p
def room {d:Nat}:Nat->List (Dat d)->Bool
 | _,[]=>true
 | r,x :: t=>decide (x.bytes.size<=r)&&room (r-x.bytes.size) t
theorem room_end {d r j:Nat} {l:List (Dat d)} (h:l.length<=j):room r (l.drop j)=true:=by rw [List.drop_of_length_le h];cases r<;>rfl
theorem KY {d r j:Nat} {l:List (Dat d)} {x:Dat d} (hx:l[j]?=some x):room r (l.drop j)=(decide (x.bytes.size<=r)&&room (r-x.bytes.size) (l.drop (j+1))):=by
 have hl:j<l.length:=(fZ.1 hx).1;have he:l[j]=x:=(fZ.1 hx).2;rw [lX hl,he];cases r<;>rfl
def zN (t:FT):Bool:=few t.params.length&&(few t.results.length&&true)
def vL {d:Nat} (f:gy d):Bool:=decide ((f.locals.length:Int)<=256)
def sN {d:Nat} (e:qq d):Bool:=few e.funcs.length&&true
def CH (n:Int):Bool:=decide (n<=1)
def len {α:Type} (l:List α):Int:=l.length
def nO {d:Nat} (m:Mod d):Bool :=
 [len m.types,len m.imports,len m.funcs,len m.tables,len m.aD].all few&&([len m.globals,len m.exports,len m.elems,len m.ax].all few&&(CH (len m.start) &&
  (m.types.all zN&&(m.funcs.all vL&&(m.elems.all sN&&room 262144 m.ax)))))
end aA
theorem Wm (d:Nat) (v0 v1 v2 v3 v4 v5 v6 v7 v8 v9:Value) (m:Mod d) (w:World) (hM:da w d v0 v1 v2 v3 v4 v5 v6 v7 v8 v9 m) (hsz:∀x ∈ m.ax,x.bytes.size<=9223372036854775807) :
  Calls prog 24 #[.agg #[v0,v1,v2,v3,v4,v5,v6,v7,v8,v9]] w λe w'=>iN (nO m) 3 e/\Below w.heap.size w w':=by
 have l0:=hM.types.1;have l2:=hM.funcs.1;have l8:=hM.elems.1;have l9:=hM.ax.1;have HM:=ag hM;have sM:=ag hsz;obtain ⟨o0,c0,rfl⟩:=Row.len hM.types;obtain ⟨o1,c1,rfl⟩:=Row.len hM.imports;obtain ⟨o2,c2,rfl⟩:=Row.len hM.funcs;obtain ⟨o3,c3,rfl⟩:=Row.len hM.tables;obtain ⟨o4,c4,rfl⟩:=Row.len hM.aD;obtain ⟨o5,c5,rfl⟩:=Row.len hM.globals;obtain ⟨o6,c6,rfl⟩:=Row.len hM.exports;obtain ⟨o7,c7,rfl⟩:=Row.len hM.start;obtain ⟨o8,c8,rfl⟩:=Row.len hM.elems;obtain ⟨o9,c9,rfl⟩:=Row.len hM.ax;have yz:=ag (dN.start w 32 (.slice o0 m.types.length c0) (.slice o1 m.imports.length c1) (.slice o2 m.funcs.length c2) (.slice o3 m.tables.length c3) (.slice o4 m.aD.length c4) (.slice o5 m.globals.length c5) (.slice o6 m.exports.length c6) (.slice o7 m.start.length c7) (.slice o8 m.elems.length c8) (.slice o9 m.ax.length c9));obtain ⟨R,hR⟩:∃R,R=nO m:=⟨_,rfl⟩;rw [<- hR];unfold nO at hR;simp only [len] at hR;have HR:=ag hR;clear hM hR hsz;generalize hn0:m.types.length=n0 at *;generalize iK:m.imports.length=n1 at *;generalize gW:m.funcs.length=n2 at *;generalize ja:m.tables.length=n3 at *;generalize iG:m.aD.length=n4 at *;generalize iS:m.globals.length=n5 at *;generalize jD:m.exports.length=n6 at *;generalize iE:m.start.length=n7 at *;generalize iO:m.elems.length=n8 at *;generalize jb:m.ax.length=n9 at *;go_enter func24,ntmps24;go_upto_region 1 with fail;obtain ⟨wb,hwb⟩:∃wb,wb=w.alloc (.cells #[.slice o0 n0 c0,.slice o1 n1 c1,.slice o2 n2 c2,.slice o3 n3 c3,.slice o4 n4 c4,.slice o5 n5 c5,.slice o6 n6 c6,.slice o7 n7 c7,.slice o8 n8 c8,.slice o9 n9 c9] 32):=⟨_,rfl⟩;rw [<- hwb];have HB1:Hid (dN w (.slice o0 n0 c0) (.slice o1 n1 c1) (.slice o2 n2 c2) (.slice o3 n3 c3) (.slice o4 n4 c4) (.slice o5 n5 c5) (.slice o6 n6 c6) (.slice o7 n7 c7) (.slice o8 n8 c8) (.slice o9 n9 c9) wb):=by rw [hwb];exact yz
 clear hwb yz;obtain ⟨q0,q1,q2,q3,q4,q5,q6,q7,q8,q9,qb⟩:=HB1.out;clear qb;go_wp2_with fail;refine (CN _ [(n0:Int),(n1:Int),(n2:Int),(n3:Int),(n4:Int)] _ (oP _ _ _ _ _ (by simp) (by show 5<=_;omega))).mono ?_;rintro e w1 ⟨hN,hu⟩;have HB2:Hid (dN w (.slice o0 n0 c0) (.slice o1 n1 c1) (.slice o2 n2 c2) (.slice o3 n3 c3) (.slice o4 n4 c4) (.slice o5 n5 c5) (.slice o6 n6 c6) (.slice o7 n7 c7) (.slice o8 n8 c8) (.slice o9 n9 c9) w1):=by rw [hu];exact HB1.out.new _
 clear hu q0 q1 q2 q3 q4 q5 q6 q7 q8 q9;rcases hN with ⟨h,rfl⟩|⟨h,rfl⟩
 rotate_left
 ·have HF:R=false:=by rw [HR.out,h,Bool.false_and]
  go_wp2;exact ⟨rfl,.inr ⟨HF,rfl⟩,HB2.out.aL⟩
 have HR1:=ag (HR.out.trans (by rw [h,fN]));clear h HR HB1;obtain ⟨q0,q1,q2,q3,q4,q5,q6,q7,q8,q9,qb⟩:=HB2.out;clear qb;go_wp2_with fail;refine (CN _ [(n5:Int),(n6:Int),(n8:Int),(n9:Int)] _ (oP _ _ _ _ _ (by simp) (by show 4<=_;omega))).mono ?_;rintro e w2 ⟨hN,hu⟩;have eX:Hid (dN w (.slice o0 n0 c0) (.slice o1 n1 c1) (.slice o2 n2 c2) (.slice o3 n3 c3) (.slice o4 n4 c4) (.slice o5 n5 c5) (.slice o6 n6 c6) (.slice o7 n7 c7) (.slice o8 n8 c8) (.slice o9 n9 c9) w2):=by rw [hu];exact HB2.out.new _
 clear hu q0 q1 q2 q3 q4 q5 q6 q7 q8 q9;rcases hN with ⟨h,rfl⟩|⟨h,rfl⟩
 rotate_left
 ·have HF:R=false:=by rw [HR1.out,h,Bool.false_and]
  go_wp2;exact ⟨rfl,.inr ⟨HF,rfl⟩,eX.out.aL⟩
 have HR2:=ag (HR1.out.trans (by rw [h,fN]));clear h HR1 HB2;obtain ⟨q0,q1,q2,q3,q4,q5,q6,q7,q8,q9,qb⟩:=eX.out;clear qb;have LX:CH (n7:Int)=decide ((n7:Int)<=1):=rfl;generalize hfw:CH (n7:Int)=rfw at *;have LY:=ag LX;clear LX hfw;go_wp2_with fail;refine (gJ _ _ _).mono ?_;rintro e u ⟨hN,rfl⟩;rw [<- LY.out] at hN;rcases hN with ⟨h,rfl⟩|⟨h,rfl⟩
 rotate_left
 ·have HF:R=false:=by rw [HR2.out,h,Bool.false_and]
  go_wp2;exact ⟨rfl,.inr ⟨HF,rfl⟩,eX.out.aL⟩
 have HR3:=ag (HR2.out.trans (by rw [h,fN]));clear h HR2 LY;go_wp2_with fail;go_loopw [50] (λi wr=>∃j:Nat,j<=n0/\i=.int .i64 j/\Hid (R=((m.types.drop j).all zN&&(m.funcs.all vL&&(m.elems.all sN&&room 262144 m.ax))))/\Hid (dN w (.slice o0 n0 c0) (.slice o1 n1 c1) (.slice o2 n2 c2) (.slice o3 n3 c3) (.slice o4 n4 c4) (.slice o5 n5 c5) (.slice o6 n6 c6) (.slice o7 n7 c7) (.slice o8 n8 c8) (.slice o9 n9 c9) wr)) (λi _=>n0-(intOf i).toNat)
 case atStart=>exact ⟨0,by omega,rfl,HR3,eX⟩
 case round =>
  obtain ⟨j,hj,rfl,HK,CO⟩:=hrel;clear HR3 eX;clear q0 q1 q2 q3 q4 q5 q6 q7 q8 q9;by_cases hgo:j<n0
  ·have hmr:=HM.out.on CO.out.aL;obtain ⟨b,off,mf,hv2,hx⟩:=Row.some hmr.types (by omega);injection hv2 with ho h2 h3;subst ho;obtain ⟨x,hxk⟩:∃x,m.types[j]?=some x:=⟨_,aY (by omega)⟩;have hx':=hx j x hxk;have HN:=ag hxk;obtain ⟨pv,k0,a0⟩:=hx'.params;obtain ⟨rv,k1,a1⟩:=hx'.results;have b0:=a0.1;have b1:=a1.1;obtain ⟨po,pc,rfl⟩:=Row.len a0;obtain ⟨ro,rc,rfl⟩:=Row.len a1;have HP:Hid (zN x = [(x.params.length:Int),(x.results.length:Int)].all few):=rfl;generalize x.params.length=np at *;generalize x.results.length=nr at *;clear hx' a0 a1;clear hmr hx h2 h3 hxk;go_wp2_with fail;refine (CN _ [(np:Int),(nr:Int)] _ (oP _ _ _ _ _ (by simp) (by show 2<=_;omega))).mono ?_;rintro e u ⟨hN,hu⟩;have mq:=ag (dN.LW CO.out hu);clear hu;rcases hN with ⟨h,rfl⟩|⟨h,rfl⟩
   ·have HF:Hid (R=((m.types.drop (j+1)).all zN&&(m.funcs.all vL&&(m.elems.all sN&&room 262144 m.ax)))):=ag (by rw [HK.out,gK HN.out rfl,HP.out,h,fN]);clear h HK HN HP;go_wp2;go_roundw
    case rel=>exact ⟨j+1,by omega,by go_num,HF,mq⟩
    case measure=>simp [intOf];omega
   have HF:R=false:=by rw [HK.out,gK HN.out rfl,HP.out,h,Bool.false_and,Bool.false_and]
   go_wp2;exact ⟨rfl,.inr ⟨HF,rfl⟩,mq.out.aL⟩
  have Cx:Hid (R=(m.funcs.all vL&&(m.elems.all sN&&room 262144 m.ax))):=ag (by rw [HK.out,oQ (by omega) (rfl:_=(m.types.drop j).all zN),fN]);clear HK;generalize wr=w3 at *;obtain ⟨q0,q1,q2,q3,q4,q5,q6,q7,q8,q9,qb⟩:=CO.out;clear qb;go_wp2_with fail;go_loopw [66] (λi wr=>∃j:Nat,j<=n2/\i=.int .i64 j/\Hid (R=((m.funcs.drop j).all vL&&(m.elems.all sN&&room 262144 m.ax)))/\Hid (dN w (.slice o0 n0 c0) (.slice o1 n1 c1) (.slice o2 n2 c2) (.slice o3 n3 c3) (.slice o4 n4 c4) (.slice o5 n5 c5) (.slice o6 n6 c6) (.slice o7 n7 c7) (.slice o8 n8 c8) (.slice o9 n9 c9) wr)) (λi _=>n2-(intOf i).toNat)
  case atStart=>exact ⟨0,by omega,rfl,Cx,CO⟩
  case round =>
   obtain ⟨j,hj,rfl,HK,CP⟩:=hrel;clear Cx CO;clear q0 q1 q2 q3 q4 q5 q6 q7 q8 q9;by_cases hgo:j<n2
   ·have hmr:=HM.out.on CP.out.aL;obtain ⟨b,off,mf,hv2,hx⟩:=Row.some hmr.funcs (by omega);injection hv2 with ho h2 h3;subst ho;obtain ⟨x,hxk⟩:∃x,m.funcs[j]?=some x:=⟨_,aY (by omega)⟩;have hx':=hx j x hxk;have HN:=ag hxk;have k0:=hx'.type;obtain ⟨pv,k1,a0⟩:=hx'.locals;obtain ⟨rv,k2,a1⟩:=hx'.body;have b0:=a0.1;obtain ⟨po,pc,rfl⟩:=Row.len a0;obtain ⟨ro,rc,rfl⟩:=At.len d rv x.body a1;have HP:Hid (vL x=decide ((x.locals.length:Int)<=256)):=rfl;generalize x.locals.length=np at *;generalize size d x.body=nr at *;clear hx' a0 a1;clear hmr hx h2 h3 hxk;go_wp2_with fail;refine (gJ _ _ _).mono ?_;rintro e u ⟨hN,hu⟩;have mq:=ag (dN.G8 CP.out hu);clear hu;rcases hN with ⟨h,rfl⟩|⟨h,rfl⟩
    ·have HF:Hid (R=((m.funcs.drop (j+1)).all vL&&(m.elems.all sN&&room 262144 m.ax))):=ag (by rw [HK.out,gK HN.out rfl,HP.out,h,fN]);clear h HK HN HP;go_wp2;go_roundw
     case rel=>exact ⟨j+1,by omega,by go_num,HF,mq⟩
     case measure=>simp [intOf];omega
    have HF:R=false:=by rw [HK.out,gK HN.out rfl,HP.out,h,Bool.false_and,Bool.false_and]
    go_wp2;exact ⟨rfl,.inr ⟨HF,rfl⟩,mq.out.aL⟩
   have Cz:Hid (R=(m.elems.all sN&&room 262144 m.ax)):=ag (by rw [HK.out,oQ (by omega) (rfl:_=(m.funcs.drop j).all vL),fN]);clear HK;generalize wr=w4 at *;obtain ⟨q0,q1,q2,q3,q4,q5,q6,q7,q8,q9,qb⟩:=CP.out;clear qb;go_wp2_with fail;go_loopw [79] (λi wr=>∃j:Nat,j<=n8/\i=.int .i64 j/\Hid (R=((m.elems.drop j).all sN&&room 262144 m.ax))/\Hid (dN w (.slice o0 n0 c0) (.slice o1 n1 c1) (.slice o2 n2 c2) (.slice o3 n3 c3) (.slice o4 n4 c4) (.slice o5 n5 c5) (.slice o6 n6 c6) (.slice o7 n7 c7) (.slice o8 n8 c8) (.slice o9 n9 c9) wr)) (λi _=>n8-(intOf i).toNat)
   case atStart=>exact ⟨0,by omega,rfl,Cz,CP⟩
   case round =>
    obtain ⟨j,hj,rfl,HK,CQ⟩:=hrel;clear Cz CP;clear q0 q1 q2 q3 q4 q5 q6 q7 q8 q9;by_cases hgo:j<n8
    ·have hmr:=HM.out.on CQ.out.aL;obtain ⟨b,off,mf,hv2,hx⟩:=Row.some hmr.elems (by omega);injection hv2 with ho h2 h3;subst ho;obtain ⟨x,hxk⟩:∃x,m.elems[j]?=some x:=⟨_,aY (by omega)⟩;have hx':=hx j x hxk;have HN:=ag hxk;obtain ⟨k0,k1,k2,k3,⟨lv,k4,a4⟩,⟨bv,k5,a5⟩,⟨ev,k6,a6⟩⟩:=hx'.offset;obtain ⟨lo,lc,rfl⟩:=Row.len a4;obtain ⟨bo,bc,rfl⟩:=At.len d bv x.offset.body a5;obtain ⟨eo,ec,rfl⟩:=At.len d ev x.offset.els a6;obtain ⟨pv,k7,a0⟩:=hx'.funcs;have b0:=a0.1;obtain ⟨po,pc,rfl⟩:=Row.len a0;have HP:Hid (sN x = [(x.funcs.length:Int)].all few):=rfl;generalize x.funcs.length=np at *;generalize size d x.offset.body=nb at *;generalize size d x.offset.els=ne at *;generalize x.offset.labels.length=nl at *;clear hx' a0 a4 a5 a6;clear hmr hx h2 h3 hxk;go_wp2_with fail;refine (CN _ [(np:Int)] _ (oP _ _ _ _ _ (by simp) (by show 1<=_;omega))).mono ?_;rintro e u ⟨hN,hu⟩;have mq:=ag (dN.LW CQ.out hu);clear hu;rcases hN with ⟨h,rfl⟩|⟨h,rfl⟩
     ·have HF:Hid (R=((m.elems.drop (j+1)).all sN&&room 262144 m.ax)):=ag (by rw [HK.out,gK HN.out rfl,HP.out,h,fN]);clear h HK HN HP;go_wp2;go_roundw
      case rel=>exact ⟨j+1,by omega,by go_num,HF,mq⟩
      case measure=>simp [intOf];omega
     have HF:R=false:=by rw [HK.out,gK HN.out rfl,HP.out,h,Bool.false_and,Bool.false_and]
     go_wp2;exact ⟨rfl,.inr ⟨HF,rfl⟩,mq.out.aL⟩
    have CB:Hid (R=room 262144 m.ax):=ag (by rw [HK.out,oQ (by omega) (rfl:_=(m.elems.drop j).all sN),fN]);clear HK;generalize wr=w5 at *;obtain ⟨q0,q1,q2,q3,q4,q5,q6,q7,q8,q9,qb⟩:=CQ.out;clear qb;go_wp2_with fail;go_loopw [8,92] (λrm i wr=>∃(j r:Nat),j<=n9/\r<=262144/\rm=.int .i64 r/\i=.int .i64 j/\Hid (R=room r (m.ax.drop j))/\Hid (dN w (.slice o0 n0 c0) (.slice o1 n1 c1) (.slice o2 n2 c2) (.slice o3 n3 c3) (.slice o4 n4 c4) (.slice o5 n5 c5) (.slice o6 n6 c6) (.slice o7 n7 c7) (.slice o8 n8 c8) (.slice o9 n9 c9) wr)) (λ_ i _=>n9-(intOf i).toNat)
    case atStart=>exact ⟨0,262144,by omega,by omega,rfl,rfl,CB,CQ⟩
    case round =>
     obtain ⟨j,r,hj,hr,rfl,rfl,HK,EJ⟩:=hrel;clear CB CQ;clear q0 q1 q2 q3 q4 q5 q6 q7 q8 q9;by_cases hgo:j<n9
     ·have hmr:=HM.out.on EJ.out.aL;obtain ⟨b,off,mf,hv2,hx⟩:=Row.some hmr.ax (by omega);injection hv2 with ho h2 h3;subst ho;obtain ⟨x,hxk⟩:∃x,m.ax[j]?=some x:=⟨_,aY (by omega)⟩;have hx':=hx j x hxk;have HN:=ag (HK.out.trans (KY hxk));have hbs:=sM.out x (dK hxk);obtain ⟨k0,k1,k2,k3,⟨lv,k4,a4⟩,⟨bv,k5,a5⟩,⟨ev,k6,a6⟩⟩:=hx'.offset;obtain ⟨lo,lc,rfl⟩:=Row.len a4;obtain ⟨bo,bc,rfl⟩:=At.len d bv x.offset.body a5;obtain ⟨eo,ec,rfl⟩:=At.len d ev x.offset.els a6;have k7:=hx'.bytes;generalize size d x.offset.body=nb at *;generalize size d x.offset.els=ne at *;generalize x.offset.labels.length=nl at *;clear hx' a4 a5 a6;clear hmr hx h2 h3 hxk HK;by_cases hle:x.bytes.size<=r
      ·have d1:decide (0<=(r:Int)-(x.bytes.size:Int))=true:=by simp;omega
       have HF:Hid (R=room (r-x.bytes.size) (m.ax.drop (j+1))):=ag (by rw [HN.out,aC hle,fN]);clear HN;go_wp2_with fail;refine (gJ true _ _).mono ?_;rintro e u ⟨hN,hu⟩;obtain rfl:=hN.yes;have mq:=ag (dN.G8 EJ.out hu);clear hu hN;go_wp2;go_roundw
       case rel=>exact ⟨j+1,r-x.bytes.size,by omega,by omega,by go_num,by go_num,HF,mq⟩
       case measure=>simp [intOf];omega
      have d1:decide (0<=(r:Int)-(x.bytes.size:Int))=false:=by simp;omega
      have HF:R=false:=by rw [HN.out,au hle,Bool.false_and]
      have qH:=ag HF;clear HN HF;go_wp2_with fail;refine (gJ false _ _).mono ?_;rintro e u ⟨hN,hu⟩;obtain rfl:=hN.no;have mq:=ag (dN.G8 EJ.out hu);clear hu hN;go_wp2;exact ⟨rfl,.inr ⟨qH.out,rfl⟩,mq.out.aL⟩
     have kH:Hid (R=true):=ag (by rw [HK.out,room_end (by omega)]);clear HK;go_wp2;go_end0;exact ⟨.inl ⟨kH.out,rfl⟩,EJ.out.aL⟩
end Go.Proofs.YtmfcojpjpgldhaaGreatDoor
