/- Texts that the claim needs. -/
import Derived.Test.YtmfcojpjpgldhaaGreatDoorQEBy11
import Derived.Deep.RegionLaw
import Derived.Deep.CutRange
namespace Go.Proofs.YtmfcojpjpgldhaaGreatDoor
open Go.RowKit aA Go.Proofs.Tryz
set_option linter.unusedVariables false
set_option maxRecDepth 100000
set_option maxHeartbeats 16000000
namespace aA
def T1 {d:Nat} (m:Mod d) (B p1:Nat) (o1:Option Addr) (n1 k1:Nat) (o3:Option Addr) (n3 k3:Nat) (o4:Option Addr) (n4 k4:Nat) (o6:Option Addr) (n6 k6:Nat) (o7:Option Addr) (n7 k7:Nat):Nat->jK
 | 0=>wm B 77
 | 1=>bh (.pointer (some ⟨p1,1,none⟩))
 | 2=>bh (.slice o1 n1 k1)
 | 3=>BB B 77 3 m.imports.length (flat (iZ wo m.imports))
 | 4=>wm B 80
 | 5=>bh (.pointer (some ⟨p1,3,none⟩))
 | 6=>bh (.slice o3 n3 k3)
 | 7=>BB B 80 3 m.tables.length (flat (iZ qo m.tables))
 | 8=>wm B 80
 | 9=>bh (.pointer (some ⟨p1,4,none⟩))
 | 10=>bh (.slice o4 n4 k4)
 | 11=>BB B 80 3 m.aD.length (flat (iZ qo m.aD))
 | 12=>wm B 83
 | 13=>bh (.pointer (some ⟨p1,6,none⟩))
 | 14=>bh (.slice o6 n6 k6)
 | 15=>BB B 83 3 m.exports.length (flat (iZ wu m.exports))
 | 16=>wm B 3
 | 17=>bh (.pointer (some ⟨p1,7,none⟩))
 | 18=>bh (.slice o7 n7 k7)
 | 19=>BC B m.start
 | 20=>I4 B m
 | 21=>I5 B
 | _=>bh undef
def T5 (B b p1 j b1 aJ n0 k0 cT y1 z1 y2 z2:Nat) (oT q1 q2:Option Addr) (x:FT):Nat->jK
 | 0=>bh (.pointer (some ⟨b,0,none⟩))
 | 1=>bh (.slice oT j cT)
 | 2=>wm B 3
 | 3=>bh (.pointer (some ⟨p1,0,none⟩))
 | 4=>bh (.slice (some ⟨b1,aJ,none⟩) n0 k0)
 | 5=>bh (.int .i64 j)
 | 6=>bh (.pointer (some ⟨b1,aJ+j*2,none⟩))
 | 7=>bh (.pointer (some ⟨b1,aJ+j*2,none⟩))
 | 8=>bh (.slice q1 y1 z1)
 | 9=>BC B x.params
 | 10=>wm B 3
 | 11=>bh (.pointer (some ⟨p1,0,none⟩))
 | 12=>bh (.slice (some ⟨b1,aJ,none⟩) n0 k0)
 | 13=>bh (.int .i64 j)
 | 14=>bh (.pointer (some ⟨b1,aJ+j*2,none⟩))
 | 15=>bh (.pointer (some ⟨b1,aJ+j*2+1,none⟩))
 | 16=>bh (.slice q2 y2 z2)
 | 17=>BC B x.results
 | 18=>I6 B nu x
 | 19=>vu B 2 47 nu x
 | _=>bh undef
def T9 {d:Nat} (B b p1 j b1 aJ n2 k2 cT y1 z1 y2 z2:Nat) (oT q1 q2:Option Addr) (x:gy d):Nat->jK
 | 0=>bh (.pointer (some ⟨b,2,none⟩))
 | 1=>bh (.slice oT j cT)
 | 2=>bh (.pointer (some ⟨p1,2,none⟩))
 | 3=>bh (.slice (some ⟨b1,aJ,none⟩) n2 k2)
 | 4=>bh (.int .i64 j)
 | 5=>bh (.pointer (some ⟨b1,aJ+j*3,none⟩))
 | 6=>bh (.pointer (some ⟨b1,aJ+j*3,none⟩))
 | 7=>bh (.int .i64 x.type)
 | 8=>wm B 3
 | 9=>bh (.pointer (some ⟨p1,2,none⟩))
 | 10=>bh (.slice (some ⟨b1,aJ,none⟩) n2 k2)
 | 11=>bh (.int .i64 j)
 | 12=>bh (.pointer (some ⟨b1,aJ+j*3,none⟩))
 | 13=>bh (.pointer (some ⟨b1,aJ+j*3+1,none⟩))
 | 14=>bh (.slice q1 y1 z1)
 | 15=>BC B x.locals
 | 16=>bh (.pointer (some ⟨p1,2,none⟩))
 | 17=>bh (.slice (some ⟨b1,aJ,none⟩) n2 k2)
 | 18=>bh (.int .i64 j)
 | 19=>bh (.pointer (some ⟨b1,aJ+j*3,none⟩))
 | 20=>bh (.pointer (some ⟨b1,aJ+j*3+2,none⟩))
 | 21=>bh (.slice q2 y2 z2)
 | 22=>Dl B d x.body
 | 23=>I7 B (λR=>jW R d) x
 | 24=>vu B 3 45 (λR=>jW R d) x
 | _=>bh undef
def I8 (B:Nat):jK:=⟨λv w=>∃g,v=.pointer (some ⟨g,0,none⟩)/\B<=g/\iD w g (.int .i64 0) (.bool false) (.int .i64 0) (.int .i64 0) (.int .i64 0) (.int .i64 0) (.slice none 0 0) (.slice none 0 0) (.slice none 0 0),λv w w' ⟨g,h1,h2,h3⟩ hb=>⟨g,h1,h2,h3.on hb⟩⟩
def I9 {d:Nat} (B p1 j b1 aJ n5 k5 y4 z4 y5 z5 y6 z6:Nat) (q4 q5 q6:Option Addr) (x:qp d):Nat->jK
 | 0=>bh (.pointer (some ⟨p1,5,none⟩))
 | 1=>bh (.slice (some ⟨b1,aJ,none⟩) n5 k5)
 | 2=>bh (.int .i64 j)
 | 3=>bh (.pointer (some ⟨b1,aJ+j*9,none⟩))
 | 4=>bh (.agg #[.int .i64 x.type,.bool x.jL,.int .i64 x.init.op,.int .i64 x.init.a,.int .i64 x.init.b,.int .i64 x.init.n,.slice q4 y4 z4,.slice q5 y5 z5,.slice q6 y6 z6])
 | 5=>I8 B
 | _=>bh undef
def Ja {d:Nat} (B q y4 z4 y5 z5 y6 z6:Nat) (q4 q5 q6:Option Addr) (x:qp d):Nat->jK
 | 0=>bh (.pointer (some ⟨q,2,none⟩))
 | 1=>bh (.agg #[.int .i64 x.init.op,.int .i64 x.init.a,.int .i64 x.init.b,.int .i64 x.init.n,.slice q4 y4 z4,.slice q5 y5 z5,.slice q6 y6 z6])
 | 2=>Ai x.init
 | 3=>Dl B (d+1) [x.init]
 | 4=>Aj B x.init
 | 5=>Ak B x.init
 | 6=>bh (.pointer (some ⟨q,2,none⟩))
 | _=>bh undef
def Jb {d:Nat} (B b j cT:Nat) (oT:Option Addr) (x:qp d):Nat->jK
 | 0=>bh (.pointer (some ⟨b,5,none⟩))
 | 1=>bh (.slice oT j cT)
 | 2=>Jc B (λR=>mN R d) x
 | 3=>vu B 9 55 (λR=>mN R d) x
 | _=>bh undef
def Jd {d:Nat} (B b p1 j b1 aJ n8 k8 cT y4 z4 y5 z5 y6 z6 y7 z7:Nat) (oT q4 q5 q6 q7:Option Addr) (x:qq d):Nat->jK
 | 0=>bh (.pointer (some ⟨b,8,none⟩))
 | 1=>bh (.slice oT j cT)
 | 2=>bh (.pointer (some ⟨p1,8,none⟩))
 | 3=>bh (.slice (some ⟨b1,aJ,none⟩) n8 k8)
 | 4=>bh (.int .i64 j)
 | 5=>bh (.pointer (some ⟨b1,aJ+j*8,none⟩))
 | 6=>bh (.pointer (some ⟨b1,aJ+j*8,none⟩))
 | 7=>bh (.agg #[.int .i64 x.offset.op,.int .i64 x.offset.a,.int .i64 x.offset.b,.int .i64 x.offset.n,.slice q4 y4 z4,.slice q5 y5 z5,.slice q6 y6 z6])
 | 8=>Ai x.offset
 | 9=>Dl B (d+1) [x.offset]
 | 10=>Aj B x.offset
 | 11=>Ak B x.offset
 | 12=>wm B 3
 | 13=>bh (.pointer (some ⟨p1,8,none⟩))
 | 14=>bh (.slice (some ⟨b1,aJ,none⟩) n8 k8)
 | 15=>bh (.int .i64 j)
 | 16=>bh (.pointer (some ⟨b1,aJ+j*8,none⟩))
 | 17=>bh (.pointer (some ⟨b1,aJ+j*8+7,none⟩))
 | 18=>bh (.slice q7 y7 z7)
 | 19=>BC B x.funcs
 | 20=>Dm B (λR=>mO R d) x
 | 21=>vu B 8 51 (λR=>mO R d) x
 | _=>bh undef
def Je {d:Nat} (B b p1 j b1 aJ n9 k9 cT y4 z4 y5 z5 y6 z6:Nat) (oT q4 q5 q6:Option Addr) (x:Dat d):Nat->jK
 | 0=>bh (.pointer (some ⟨b,9,none⟩))
 | 1=>bh (.slice oT j cT)
 | 2=>bh (.pointer (some ⟨p1,9,none⟩))
 | 3=>bh (.slice (some ⟨b1,aJ,none⟩) n9 k9)
 | 4=>bh (.int .i64 j)
 | 5=>bh (.pointer (some ⟨b1,aJ+j*8,none⟩))
 | 6=>bh (.pointer (some ⟨b1,aJ+j*8,none⟩))
 | 7=>bh (.agg #[.int .i64 x.offset.op,.int .i64 x.offset.a,.int .i64 x.offset.b,.int .i64 x.offset.n,.slice q4 y4 z4,.slice q5 y5 z5,.slice q6 y6 z6])
 | 8=>Ai x.offset
 | 9=>Dl B (d+1) [x.offset]
 | 10=>Aj B x.offset
 | 11=>Ak B x.offset
 | 12=>bh (.pointer (some ⟨p1,9,none⟩))
 | 13=>bh (.slice (some ⟨b1,aJ,none⟩) n9 k9)
 | 14=>bh (.int .i64 j)
 | 15=>bh (.pointer (some ⟨b1,aJ+j*8,none⟩))
 | 16=>bh (.pointer (some ⟨b1,aJ+j*8+7,none⟩))
 | 17=>bh (.string x.bytes)
 | 18=>Dm B (λR=>nR R d) x
 | 19=>vu B 8 53 (λR=>nR R d) x
 | _=>bh undef
theorem OJ {x:List Value} (h:x.length=1):∃x0,x = [x0]:=by
 match x,h with
 | [x0],_=>exact ⟨x0,rfl⟩
def Jf (e0 e2 e5 e8 e9 a1 a3 a4 a6 a7:Option Addr) (n0 f0 n1 b1 n2 f2 n3 b3 n4 b4 n5 f5 n6 b6 n7 b7 n8 f8 n9 f9:Nat):Nat->jK
 | 0=>bh (.agg #[.slice e0 n0 f0,.slice a1 n1 b1,.slice e2 n2 f2,.slice a3 n3 b3,.slice a4 n4 b4,.slice e5 n5 f5,.slice a6 n6 b6,.slice a7 n7 b7,.slice e8 n8 f8,.slice e9 n9 f9])
 | _=>bh undef
end aA
def OL {d:Nat} (m:Mod d) (w:World) (e:Ending) (w':World):Prop:=∃u0 u1 u2 u3 u4 u5 u6 u7 u8 u9,e=.returned (.agg #[u0,u1,u2,u3,u4,u5,u6,u7,u8,u9])/\da w' d u0 u1 u2 u3 u4 u5 u6 u7 u8 u9 m/\Below w.heap.size w w'/\(∀n c,u3=.slice none n c->c=0)/\(∀n c,u4=.slice none n c->c=0)
theorem OM (d:Nat) (v0 v1 v2 v3 v4 v5 v6 v7 v8 v9:Value) (m:Mod d) (w:World) (hM:da w d v0 v1 v2 v3 v4 v5 v6 v7 v8 v9 m) (hs:Small m):Calls prog 6 #[.agg #[v0,v1,v2,v3,v4,v5,v6,v7,v8,v9]] w (OL m w):=by
 obtain ⟨o0,k0,rfl⟩:=Row.len hM.types;obtain ⟨o1,k1,rfl⟩:=Row.len hM.imports;obtain ⟨o2,k2,rfl⟩:=Row.len hM.funcs;obtain ⟨o3,k3,rfl⟩:=Row.len hM.tables;obtain ⟨o4,k4,rfl⟩:=Row.len hM.aD;obtain ⟨o5,k5,rfl⟩:=Row.len hM.globals;obtain ⟨o6,k6,rfl⟩:=Row.len hM.exports;obtain ⟨o7,k7,rfl⟩:=Row.len hM.start;obtain ⟨o8,k8,rfl⟩:=Row.len hM.elems;obtain ⟨o9,k9,rfl⟩:=Row.len hM.ax;have l0:=hs.OO;have l1:=hs.OP;have l2:=hs.OQ;have l3:=hs.OT;have l4:=hs.OU;have l5:=hs.OV;have l6:=hs.OW;have l7:=hs.OX;have l8:=hs.OY;have l9:=hs.OZ;have HM:=aa hM;have HS:=aa hs;clear hM hs;generalize hn0:m.types.length=n0 at *;generalize iK:m.imports.length=n1 at *;generalize gW:m.funcs.length=n2 at *;generalize ja:m.tables.length=n3 at *;generalize iG:m.aD.length=n4 at *;generalize iS:m.globals.length=n5 at *;generalize jD:m.exports.length=n6 at *;generalize iE:m.start.length=n7 at *;generalize iO:m.elems.length=n8 at *;generalize jb:m.ax.length=n9 at *;go_enter func6,ntmps6;go_upto_region 1 with fail;obtain ⟨u1,hu1⟩:∃u1,u1=(w.alloc (.cells #[.slice o0 n0 k0,.slice o1 n1 k1,.slice o2 n2 k2,.slice o3 n3 k3,.slice o4 n4 k4,.slice o5 n5 k5,.slice o6 n6 k6,.slice o7 n7 k7,.slice o8 n8 k8,.slice o9 n9 k9] 32)).alloc (.cells #[.slice none 0 0,.slice none 0 0,.slice none 0 0,.slice none 0 0,.slice none 0 0,.slice none 0 0,.slice none 0 0,.slice none 0 0,.slice none 0 0,.slice none 0 0] 32):=⟨_,rfl⟩;have HB1:Hid (bG u1 w.heap.size (.slice o0 n0 k0) (.slice o1 n1 k1) (.slice o2 n2 k2) (.slice o3 n3 k3) (.slice o4 n4 k4) (.slice o5 n5 k5) (.slice o6 n6 k6) (.slice o7 n7 k7) (.slice o8 n8 k8) (.slice o9 n9 k9)):=aa (by rw [hu1];exact (bG.new rfl).on (aU _ _));have HB2:Hid (bG u1 (w.heap.size+1) (.slice none 0 0) (.slice none 0 0) (.slice none 0 0) (.slice none 0 0) (.slice none 0 0) (.slice none 0 0) (.slice none 0 0) (.slice none 0 0) (.slice none 0 0) (.slice none 0 0)):=aa (by rw [hu1];exact bG.new (by simp));have HU:Hid (Below w.heap.size w u1):=aa (by rw [hu1];exact ky (aU _ _) (aU _ _));have ig:=aa (HM.out.on HU.out);have hsz:u1.heap.size=w.heap.size+2:=by rw [hu1];simp
 rw [<- hu1];clear hu1;have HP:∀w2,Below u1.heap.size u1 w2->Hid (bG w2 w.heap.size (.slice o0 n0 k0) (.slice o1 n1 k1) (.slice o2 n2 k2) (.slice o3 n3 k3) (.slice o4 n4 k4) (.slice o5 n5 k5) (.slice o6 n6 k6) (.slice o7 n7 k7) (.slice o8 n8 k8) (.slice o9 n9 k9)):=λw2 hb=>aa (HB1.out.on hb);generalize hp1:w.heap.size=p1 at *;go_cut [3] from 10 to 30 (λs3 wx=>∃g,s3=.pointer (some ⟨g,0,none⟩)/\∃a1 b1 a3 b3 a4 b4 a6 b6 a7 b7,Hid (BD u1 g m (.slice a1 n1 b1) (.slice a3 n3 b3) (.slice a4 n4 b4) (.slice a6 n6 b6) (.slice a7 n7 b7) 0 wx))
 case first =>
  clear HB2;refine ai.oH 22 (λi=>if i<21 then 10+i else 3) (λi=>(T1 m u1.heap.size p1 o1 n1 k1 o3 n3 k3 o4 n4 k4 o6 n6 k6 o7 n7 k7 i).1) (by kernel_rfl) (by kernel_rfl) (λi j h1 h2 h=>by have h':(if i<21 then 10+i else 3)=(if j<21 then 10+j else 3):=h;split at h'<;>split at h'<;>omega) (ai.kz (size:=180) (by kernel_rfl)) (λi v w w' _ h hb=>(T1 m u1.heap.size p1 o1 n1 k1 o3 n3 k3 o4 n4 k4 o6 n6 k6 o7 n7 k7 i).2 v w w' h hb) ?hstep ?cH
  case hstep =>
   intro i o a w hi ho hF hB hd;have e1:a.tmps[1]?.getD undef=.pointer (some ⟨p1,0,none⟩):=ai.av (hF.eval 1 (λi hi=>by show (if i<21 then 10+i else 3)≠1;split<;>omega))
   have hcase:i=0\/i=1\/i=2\/i=3\/i=4\/i=5\/i=6\/i=7\/i=8\/i=9\/i=10\/i=11\/i=12\/i=13\/i=14\/i=15\/i=16\/i=17\/i=18\/i=19\/i=20\/i=21:=by omega
   clear hi;rcases hcase with rfl|rfl|rfl|rfl|rfl|rfl|rfl|rfl|rfl|rfl|rfl|rfl|rfl|rfl|rfl|rfl|rfl|rfl|rfl|rfl|rfl|rfl
   all_goals (simp only [fI,gX,gz,gA] at ho;subst ho)
   ·refine ai.az λK hK=>?_;go_simp;exact hK _ _ ⟨_,rfl,aU _ _,⟨_,rfl,hB.size,heap_alloc_new _ _⟩⟩
   ·refine ai.az λK hK=>?_;go_simp;exact hK _ _ ⟨_,rfl,Below.refl _ _,rfl⟩
   ·have q0:a.tmps[11]?.getD undef=.pointer (some ⟨p1,1,none⟩):=ai.av (hd 1 (by decide));have c:=(HP w hB).out.cell 1 _ rfl;refine ai.az λK hK=>?_;go_simp;exact hK _ _ ⟨_,rfl,Below.refl _ _,rfl⟩
   ·have qm:Mk u1.heap.size 77 (a.eval (.tmp 10)) w:=hd 0 (by decide);have qx:a.eval (.tmp 12)=.slice o1 n1 k1:=hd 2 (by decide);obtain ⟨i1,i2,i3⟩:=Dn (c:=3) (f:=pU) (cs:=wo) (λ_=>rfl) (λ_ _ _ h=>O0 h) ((ig.out.on hB).imports);refine wA _ _ 23 rfl u1.heap.size 77 underlying23 O1 (by decide) rfl qm rfl _ _ _ qx (flat (iZ wo m.imports)) i1 (by rw [Dp (c:=3) (λ_=>rfl),i2]) i3 (Dq O2) (by unfold maxLen;omega) (by omega) λv' w' ho hb=>⟨v',rfl,hb,?_⟩;rw [i2] at ho;exact ho
   ·refine ai.az λK hK=>?_;go_simp;exact hK _ _ ⟨_,rfl,aU _ _,⟨_,rfl,hB.size,heap_alloc_new _ _⟩⟩
   ·refine ai.az λK hK=>?_;go_simp;exact hK _ _ ⟨_,rfl,Below.refl _ _,rfl⟩
   ·have q0:a.tmps[15]?.getD undef=.pointer (some ⟨p1,3,none⟩):=ai.av (hd 5 (by decide));have c:=(HP w hB).out.cell 3 _ rfl;refine ai.az λK hK=>?_;go_simp;exact hK _ _ ⟨_,rfl,Below.refl _ _,rfl⟩
   ·have qm:Mk u1.heap.size 80 (a.eval (.tmp 14)) w:=hd 4 (by decide);have qx:a.eval (.tmp 16)=.slice o3 n3 k3:=hd 6 (by decide);obtain ⟨i1,i2,i3⟩:=Dn (c:=3) (f:=gD) (cs:=qo) (λ_=>rfl) (λ_ _ _ h=>Jg h) ((ig.out.on hB).tables);refine wA _ _ 25 rfl u1.heap.size 80 underlying25 Jh (by decide) rfl qm rfl _ _ _ qx (flat (iZ qo m.tables)) i1 (by rw [Dp (c:=3) (λ_=>rfl),i2]) i3 (Dq Ji) (by unfold maxLen;omega) (by omega) λv' w' ho hb=>⟨v',rfl,hb,?_⟩;rw [i2] at ho;exact ho
   ·refine ai.az λK hK=>?_;go_simp;exact hK _ _ ⟨_,rfl,aU _ _,⟨_,rfl,hB.size,heap_alloc_new _ _⟩⟩
   ·refine ai.az λK hK=>?_;go_simp;exact hK _ _ ⟨_,rfl,Below.refl _ _,rfl⟩
   ·have q0:a.tmps[19]?.getD undef=.pointer (some ⟨p1,4,none⟩):=ai.av (hd 9 (by decide));have c:=(HP w hB).out.cell 4 _ rfl;refine ai.az λK hK=>?_;go_simp;exact hK _ _ ⟨_,rfl,Below.refl _ _,rfl⟩
   ·have qm:Mk u1.heap.size 80 (a.eval (.tmp 18)) w:=hd 8 (by decide);have qx:a.eval (.tmp 20)=.slice o4 n4 k4:=hd 10 (by decide);obtain ⟨i1,i2,i3⟩:=Dn (c:=3) (f:=gD) (cs:=qo) (λ_=>rfl) (λ_ _ _ h=>Jg h) ((ig.out.on hB).aD);refine wA _ _ 25 rfl u1.heap.size 80 underlying25 Jh (by decide) rfl qm rfl _ _ _ qx (flat (iZ qo m.aD)) i1 (by rw [Dp (c:=3) (λ_=>rfl),i2]) i3 (Dq Ji) (by unfold maxLen;omega) (by omega) λv' w' ho hb=>⟨v',rfl,hb,?_⟩;rw [i2] at ho;exact ho
   ·refine ai.az λK hK=>?_;go_simp;exact hK _ _ ⟨_,rfl,aU _ _,⟨_,rfl,hB.size,heap_alloc_new _ _⟩⟩
   ·refine ai.az λK hK=>?_;go_simp;exact hK _ _ ⟨_,rfl,Below.refl _ _,rfl⟩
   ·have q0:a.tmps[23]?.getD undef=.pointer (some ⟨p1,6,none⟩):=ai.av (hd 13 (by decide));have c:=(HP w hB).out.cell 6 _ rfl;refine ai.az λK hK=>?_;go_simp;exact hK _ _ ⟨_,rfl,Below.refl _ _,rfl⟩
   ·have qm:Mk u1.heap.size 83 (a.eval (.tmp 22)) w:=hd 12 (by decide);have qx:a.eval (.tmp 24)=.slice o6 n6 k6:=hd 14 (by decide);obtain ⟨i1,i2,i3⟩:=Dn (c:=3) (f:=pV) (cs:=wu) (λ_=>rfl) (λ_ _ _ h=>O3 h) ((ig.out.on hB).exports);refine wA _ _ 27 rfl u1.heap.size 83 underlying27 O4 (by decide) rfl qm rfl _ _ _ qx (flat (iZ wu m.exports)) i1 (by rw [Dp (c:=3) (λ_=>rfl),i2]) i3 (Dq O5) (by unfold maxLen;omega) (by omega) λv' w' ho hb=>⟨v',rfl,hb,?_⟩;rw [i2] at ho;exact ho
   ·refine ai.az λK hK=>?_;go_simp;exact hK _ _ ⟨_,rfl,aU _ _,⟨_,rfl,hB.size,heap_alloc_new _ _⟩⟩
   ·refine ai.az λK hK=>?_;go_simp;exact hK _ _ ⟨_,rfl,Below.refl _ _,rfl⟩
   ·have q0:a.tmps[27]?.getD undef=.pointer (some ⟨p1,7,none⟩):=ai.av (hd 17 (by decide));have c:=(HP w hB).out.cell 7 _ rfl;refine ai.az λK hK=>?_;go_simp;exact hK _ _ ⟨_,rfl,Below.refl _ _,rfl⟩
   ·have qm:Mk u1.heap.size 3 (a.eval (.tmp 26)) w:=hd 16 (by decide);have qx:a.eval (.tmp 28)=.slice o7 n7 k7:=hd 18 (by decide);obtain ⟨i1,i2,i3⟩:=BF ((ig.out.on hB).start);refine wA _ _ 28 rfl u1.heap.size 3 underlying28 BG (by decide) rfl qm rfl _ _ _ qx (ints m.start) i1 (by rw [Nat.mul_one,i2];exact oI ..) i3 (Al _) (by unfold maxLen;omega) (by omega) λv' w' ho hb=>⟨v',rfl,hb,?_⟩;rw [i2] at ho;exact ho
   ·have w1:w.ownsRow u1.heap.size 77 3 (a.eval (.tmp 13)) m.imports.length (flat (iZ wo m.imports)):=hd 3 (by decide);obtain ⟨a1,b1,s1⟩:=pq w1;rw [s1] at w1;have t1:=ai.av s1;have w3:w.ownsRow u1.heap.size 80 3 (a.eval (.tmp 17)) m.tables.length (flat (iZ qo m.tables)):=hd 7 (by decide);obtain ⟨a3,b3,s3⟩:=pq w3;rw [s3] at w3;have t3:=ai.av s3;have w4:w.ownsRow u1.heap.size 80 3 (a.eval (.tmp 21)) m.aD.length (flat (iZ qo m.aD)):=hd 11 (by decide);obtain ⟨a4,b4,s4⟩:=pq w4;rw [s4] at w4;have t4:=ai.av s4;have w6:w.ownsRow u1.heap.size 83 3 (a.eval (.tmp 25)) m.exports.length (flat (iZ wu m.exports)):=hd 15 (by decide);obtain ⟨a6,b6,s6⟩:=pq w6;rw [s6] at w6;have t6:=ai.av s6;have w7:w.ownsRow u1.heap.size 3 1 (a.eval (.tmp 29)) m.start.length (ints m.start):=hd 19 (by decide);obtain ⟨a7,b7,s7⟩:=pq w7;rw [s7] at w7;have t7:=ai.av s7;clear HM ig HS iK ja iG jD iE;refine ai.az λK hK=>?_;go_simp;exact hK _ _ ⟨_,rfl,Below.refl _ _,⟨a1,b1,a3,b3,a4,b4,a6,b6,a7,b7,rfl,w1,w3,w4,w6,w7⟩⟩
   refine ai.az λK hK=>?_;go_simp;exact hK _ _ ⟨_,rfl,aU _ _,⟨_,rfl,hB.size,bG.new rfl⟩⟩
  case cH =>
   intro a w2 hF hB hG;have g20:(I4 u1.heap.size m).1 (a.eval (.tmp 30)) w2:=hG 20 (by omega);have g21:(I5 u1.heap.size).1 (a.eval (.tmp 3)) w2:=hG 21 (by omega);clear hG;obtain ⟨a1,b1,a3,b3,a4,b4,a6,b6,a7,b7,h20,w1,w3,w4,w6,w7⟩:=g20;obtain ⟨g,h21,hg,hK⟩:=g21;have HE:=aa (O6 hB hg hK w1 w3 w4 w6 w7 (by omega) (by omega) (by omega) (by omega) (by omega));simp only [fK,fB];refine wpList_plain rfl λK iT=>?_;refine Fq (ai.av h21) (ai.av h20) hK ?_;refine iT _ _ (wpList_nil ?_);obtain ⟨y,xl,hxl,rfl,hy,hev⟩:=hF.Jj (n:=21) (lo:=10) (s:=3) (by decide) (by simp);obtain ⟨x0,x1,x2,x3,x4,x5,x6,x7,x8,x9,bZ,ez,eB,eC,eD,eF,eG,eH,eM,fF,gq,rfl⟩:=O7 hxl;obtain rfl:y=.pointer (some ⟨g,0,none⟩):=hy.symm.trans h21;clear hev hy h20 h21 hxl hF w1 w3 w4 w6 w7 hK iT hB;simp only [iH,iI,fK,fB,iy,ed];rw [iK,ja,iG,jD,iE] at HE ⊢;go_wp2_with fail
   go_meet
   exact ⟨g,rfl,_,_,_,_,_,_,_,_,_,_,HE⟩
 obtain ⟨b,rfl,a1,b1,a3,b3,a4,b4,a6,b6,a7,b7,wB⟩:=hcut;go_wp2_with fail;go_loopw [4] (λi wr=>∃j:Nat,j<=n0/\i=.int .i64 j/\Hid (BD u1 b m (.slice a1 n1 b1) (.slice a3 n3 b3) (.slice a4 n4 b4) (.slice a6 n6 b6) (.slice a7 n7 b7)  j wr)) (λi _=>n0-(intOf i).toNat)
 case atStart=>exact ⟨0,by omega,rfl,wB⟩
 case round =>
  obtain ⟨j,hj,rfl,jM⟩:=hrel;obtain ⟨t,qN,nS,hSt⟩:=jM.out;obtain ⟨oT,cT,rfl⟩:=nS.slice;have di:=aa qN;have nT:=aa nS;have HST:=aa hSt;have kp:=(HP wr hSt.below).out.cell 0 _ rfl;clear qN nS hSt;by_cases hgo:j<n0
  ·obtain ⟨b1,aJ,gb,hv1,hx1⟩:=Row.some ig.out.types (by omega);injection hv1 with cJ e11 e12;subst cJ;obtain ⟨x,hxk⟩:∃x,m.types[j]?=some x:=⟨_,aY (by omega)⟩;have HX:=aa ((hx1 j x hxk).on HST.out.below);have eU:=aa hxk;clear hx1 hxk e11 e12;obtain ⟨⟨v1,bN,ub⟩,⟨v2,cF,uf⟩⟩:=HX.out;obtain ⟨q1,z1,rfl⟩:=Row.len ub;obtain ⟨q2,z2,rfl⟩:=Row.len uf;have wC:=aa ub;have wD:=aa uf;obtain ⟨O8,Jk⟩:=HS.out.types x (dK eU.out);clear ub uf;generalize hy1:x.params.length=y1 at *;generalize hy2:x.results.length=y2 at *;go_upto_region 5 with fail;clear jM ig HM HB2;refine ai.oH 20 (λi=>38+i) (λi=>(T5 wr.heap.size b p1 j b1 aJ n0 k0 cT y1 z1 y2 z2 oT q1 q2 x i).1) (by kernel_rfl) (by kernel_rfl) (λi j h1 h2 h=>by have h':38+i=38+j:=h;omega) (ai.kz (size:=180) (by kernel_rfl)) (λi v w w' _ h hb=>(T5 wr.heap.size b p1 j b1 aJ n0 k0 cT y1 z1 y2 z2 oT q1 q2 x i).2 v w w' h hb) ?hstep ?cH
   case hstep =>
    intro i o a w hi ho hF hB hd;have kb:=(di.out.on hB).cell 0 _ rfl;have kq:=(HP w (HST.out.below.trans (hB.mono HST.out.below.size))).out.cell 0 _ rfl;have qO:=aj hB bN;have qP:=aj hB cF;have e1:a.tmps[1]?.getD undef=.pointer (some ⟨p1,0,none⟩):=ai.av (hF.eval 1 (λi hi=>by show 38+i≠1;omega));have e3:a.tmps[3]?.getD undef=.pointer (some ⟨b,0,none⟩):=ai.av (hF.eval 3 (λi hi=>by show 38+i≠3;omega));have e4:a.tmps[4]?.getD undef=.int .i64 j:=ai.av (hF.eval 4 (λi hi=>by show 38+i≠4;omega));have hcase:i=0\/i=1\/i=2\/i=3\/i=4\/i=5\/i=6\/i=7\/i=8\/i=9\/i=10\/i=11\/i=12\/i=13\/i=14\/i=15\/i=16\/i=17\/i=18\/i=19:=by omega
    clear hi;rcases hcase with rfl|rfl|rfl|rfl|rfl|rfl|rfl|rfl|rfl|rfl|rfl|rfl|rfl|rfl|rfl|rfl|rfl|rfl|rfl|rfl
    all_goals (simp only [fI,gX,gz,gA] at ho;subst ho)
    ·refine ai.az λK hK=>?_;go_simp;exact hK _ _ ⟨_,rfl,Below.refl _ _,rfl⟩
    ·have q0:a.tmps[38]?.getD undef=.pointer (some ⟨b,0,none⟩):=ai.av (hd 0 (by decide));refine ai.az λK hK=>?_;go_simp;exact hK _ _ ⟨_,rfl,Below.refl _ _,rfl⟩
    ·refine ai.az λK hK=>?_;go_simp;exact hK _ _ ⟨_,rfl,aU _ _,⟨_,rfl,hB.size,heap_alloc_new _ _⟩⟩
    ·refine ai.az λK hK=>?_;go_simp;exact hK _ _ ⟨_,rfl,Below.refl _ _,rfl⟩
    ·have q0:a.tmps[41]?.getD undef=.pointer (some ⟨p1,0,none⟩):=ai.av (hd 3 (by decide));refine ai.az λK hK=>?_;go_simp;exact hK _ _ ⟨_,rfl,Below.refl _ _,rfl⟩
    ·refine ai.az λK hK=>?_;go_simp;exact hK _ _ ⟨_,rfl,Below.refl _ _,rfl⟩
    ·have q0:a.tmps[42]?.getD undef=.slice (some ⟨b1,aJ,none⟩) n0 k0:=ai.av (hd 4 (by decide));have q1:a.tmps[43]?.getD undef=.int .i64 j:=ai.av (hd 5 (by decide));refine ai.az λK hK=>?_;go_simp;exact hK _ _ ⟨_,rfl,Below.refl _ _,rfl⟩
    ·have q0:a.tmps[44]?.getD undef=.pointer (some ⟨b1,aJ+j*2,none⟩):=ai.av (hd 6 (by decide));refine ai.az λK hK=>?_;go_simp;exact hK _ _ ⟨_,rfl,Below.refl _ _,rfl⟩
    ·have q0:a.tmps[45]?.getD undef=.pointer (some ⟨b1,aJ+j*2,none⟩):=ai.av (hd 7 (by decide));refine ai.az λK hK=>?_;go_simp;exact hK _ _ ⟨_,rfl,Below.refl _ _,rfl⟩
    ·have qm:Mk wr.heap.size 3 (a.eval (.tmp 40)) w:=hd 2 (by decide);have qx:a.eval (.tmp 46)=.slice q1 y1 z1:=hd 8 (by decide);obtain ⟨i1,i2,i3⟩:=BF (wC.out.on hB);refine wA _ _ 28 rfl wr.heap.size 3 underlying28 BG (by decide) rfl qm rfl _ _ _ qx (ints x.params) i1 (by rw [Nat.mul_one,i2];exact oI ..) i3 (Al _) (by unfold maxLen;omega) (by omega) λv' w' ho hb=>⟨v',rfl,hb,?_⟩;rw [i2] at ho;exact ho
    ·refine ai.az λK hK=>?_;go_simp;exact hK _ _ ⟨_,rfl,aU _ _,⟨_,rfl,hB.size,heap_alloc_new _ _⟩⟩
    ·refine ai.az λK hK=>?_;go_simp;exact hK _ _ ⟨_,rfl,Below.refl _ _,rfl⟩
    ·have q0:a.tmps[49]?.getD undef=.pointer (some ⟨p1,0,none⟩):=ai.av (hd 11 (by decide));refine ai.az λK hK=>?_;go_simp;exact hK _ _ ⟨_,rfl,Below.refl _ _,rfl⟩
    ·refine ai.az λK hK=>?_;go_simp;exact hK _ _ ⟨_,rfl,Below.refl _ _,rfl⟩
    ·have q0:a.tmps[50]?.getD undef=.slice (some ⟨b1,aJ,none⟩) n0 k0:=ai.av (hd 12 (by decide));have q1:a.tmps[51]?.getD undef=.int .i64 j:=ai.av (hd 13 (by decide));refine ai.az λK hK=>?_;go_simp;exact hK _ _ ⟨_,rfl,Below.refl _ _,rfl⟩
    ·have q0:a.tmps[52]?.getD undef=.pointer (some ⟨b1,aJ+j*2,none⟩):=ai.av (hd 14 (by decide));refine ai.az λK hK=>?_;go_simp;exact hK _ _ ⟨_,rfl,Below.refl _ _,rfl⟩
    ·have q0:a.tmps[53]?.getD undef=.pointer (some ⟨b1,aJ+j*2+1,none⟩):=ai.av (hd 15 (by decide));refine ai.az λK hK=>?_;go_simp;exact hK _ _ ⟨_,rfl,Below.refl _ _,rfl⟩
    ·have qm:Mk wr.heap.size 3 (a.eval (.tmp 48)) w:=hd 10 (by decide);have qx:a.eval (.tmp 54)=.slice q2 y2 z2:=hd 16 (by decide);obtain ⟨i1,i2,i3⟩:=BF (wD.out.on hB);refine wA _ _ 28 rfl wr.heap.size 3 underlying28 BG (by decide) rfl qm rfl _ _ _ qx (ints x.results) i1 (by rw [Nat.mul_one,i2];exact oI ..) i3 (Al _) (by unfold maxLen;omega) (by omega) λv' w' ho hb=>⟨v',rfl,hb,?_⟩;rw [i2] at ho;exact ho
    ·have w1:w.ownsRow wr.heap.size 3 1 (a.eval (.tmp 47)) x.params.length (ints x.params):=hd 9 (by decide);have w2:w.ownsRow wr.heap.size 3 1 (a.eval (.tmp 55)) x.results.length (ints x.results):=hd 17 (by decide);obtain ⟨s1,r1,hs1⟩:=pq w1;obtain ⟨s2,r2,hs2⟩:=pq w2;rw [hs1] at w1;rw [hs2] at w2;have mD:=aa (O9 (Dr w1 (by omega)) (Dr w2 (by omega)));rw [hy1,hy2] at mD;clear w1 w2;have t1:=ai.av hs1;have t2:=ai.av hs2;refine ai.az λK hK=>?_;go_simp;exact hK _ _ ⟨_,rfl,Below.refl _ _,⟨_,_,rfl,mD.out⟩⟩
    obtain ⟨x0,x1,hv,hp⟩:=(show (I6 wr.heap.size nu x).1 (a.eval (.tmp 56)) w from hd 18 (by decide));have qv:=ai.av hv;have mD:=aa hp;clear hp hv;refine ai.az λK hK=>?_;go_simp;exact hK _ _ ⟨_,rfl,aU _ _,⟨_,[x0,x1],rfl,heap_alloc_new _ _,mD.out.sub (qw (aU _ _))⟩⟩
   case cH =>
    intro a w2 hF hB hG;have et:a.eval (.tmp 39)=.slice oT j cT:=hG 1 (by omega);obtain ⟨g,cs,hgv,oJ,hpc⟩:=(show (vu wr.heap.size 2 47 nu x).1 (a.eval (.tmp 57)) w2 from hG 19 (by omega));have e3:a.tmps[3]?.getD undef=.pointer (some ⟨b,0,none⟩):=ai.av (hF.eval 3 (λi hi=>by show 38+i≠3;omega));obtain ⟨ps,qQ,qR,nV,nW,qU⟩:=nT.out.below hB;have qV:=hpc.sub (BH (B:=u1.heap.size) (b:=b) (t:=.slice oT j cT) HST.out.below.size di.out.lt (λk hk=>(nT.out.lt k hk).2));have dR:=HST.out.keep (zk hB) (HST.out.below.trans (hB.mono HST.out.below.size));have gF:=di.out.on hB;simp only [fK,fB];refine Pb hF rfl e3 et hgv oJ hpc.len hpc.one gF nV nW (by omega) dR.below.size λa' t' w9 qX ny jE lj=>?_;have nX:=aa (Pd gF dR ps qQ qR nW qU eU.out qV nV ny jE lj);obtain ⟨xl,hxl,rfl,hev⟩:=qX.lit (by simp);obtain ⟨x0,x1,x2,x3,x4,x5,x6,x7,x8,x9,bZ,ez,eB,eC,eD,eF,eG,eH,eM,fF,gq,gS,rfl⟩:=Jl hxl;clear hev hxl hF hG qX ny jE lj hpc qV dR gF qQ qR nV nW qU et hgv oJ e3 hB;simp only [iH,iI,fK,fB,iy,ed];go_wp2;go_roundw
    case rel=>exact ⟨j+1,by omega,by go_num,nX⟩
    case measure=>simp [intOf];omega
  obtain rfl:n0=j:=by omega
  clear di nT HST;obtain ⟨c0,ug⟩:=Pe (hn0 ▸ jM.out) (by omega);have wB:=aa ug;clear ug jM;go_wp2_with fail;go_loopw [5] (λi wr=>∃j:Nat,j<=n2/\i=.int .i64 j/\Hid (Dt u1 b m (.slice a1 n1 b1) (.slice a3 n3 b3) (.slice a4 n4 b4) (.slice a6 n6 b6) (.slice a7 n7 b7) c0 j wr)) (λi _=>n2-(intOf i).toNat)
  case atStart=>exact ⟨0,by omega,rfl,wB⟩
  case round =>
   obtain ⟨j,hj,rfl,jM⟩:=hrel;obtain ⟨t,qN,nS,hSt⟩:=jM.out;obtain ⟨oT,cT,rfl⟩:=nS.slice;have di:=aa qN;have nT:=aa nS;have HST:=aa hSt;have kp:=(HP wr hSt.below).out.cell 2 _ rfl;clear qN nS hSt;by_cases hgo:j<n2
   ·obtain ⟨b1,aJ,gb,hv1,hx1⟩:=Row.some ig.out.funcs (by omega);injection hv1 with cJ e11 e12;subst cJ;obtain ⟨x,hxk⟩:∃x,m.funcs[j]?=some x:=⟨_,aY (by omega)⟩;have HX:=aa ((hx1 j x hxk).on HST.out.below);have eU:=aa hxk;clear hx1 hxk e11 e12;obtain ⟨bN,⟨v1,cF,ub⟩,⟨v2,dn,uf⟩⟩:=HX.out;obtain ⟨q1,z1,rfl⟩:=Row.len ub;obtain ⟨q2,z2,rfl⟩:=At.len d _ _ uf;have wC:=aa ub;have wD:=aa uf;have O8:=(HS.out.funcs x (dK eU.out)).1.1;have Jk:=(HS.out.funcs x (dK eU.out)).2;clear ub uf;generalize hy1:x.locals.length=y1 at *;generalize hy2:size d x.body=y2 at *;go_upto_region 9 with fail;clear jM ig HM HB2;refine ai.oH 25 (λi=>67+i) (λi=>(T9 wr.heap.size b p1 j b1 aJ n2 k2 cT y1 z1 y2 z2 oT q1 q2 x i).1) (by kernel_rfl) (by kernel_rfl) (λi j h1 h2 h=>by have h':67+i=67+j:=h;omega) (ai.kz (size:=180) (by kernel_rfl)) (λi v w w' _ h hb=>(T9 wr.heap.size b p1 j b1 aJ n2 k2 cT y1 z1 y2 z2 oT q1 q2 x i).2 v w w' h hb) ?hstep ?cH
    case hstep =>
     intro i o a w hi ho hF hB hd;have kb:=(di.out.on hB).cell 2 _ rfl;have kq:=(HP w (HST.out.below.trans (hB.mono HST.out.below.size))).out.cell 2 _ rfl;have qO:=aj hB bN;have qP:=aj hB cF;have rR:=aj hB dn;have e1:a.tmps[1]?.getD undef=.pointer (some ⟨p1,0,none⟩):=ai.av (hF.eval 1 (λi hi=>by show 67+i≠1;omega));have e3:a.tmps[3]?.getD undef=.pointer (some ⟨b,0,none⟩):=ai.av (hF.eval 3 (λi hi=>by show 67+i≠3;omega));have e5:a.tmps[5]?.getD undef=.int .i64 j:=ai.av (hF.eval 5 (λi hi=>by show 67+i≠5;omega));have hcase:i=0\/i=1\/i=2\/i=3\/i=4\/i=5\/i=6\/i=7\/i=8\/i=9\/i=10\/i=11\/i=12\/i=13\/i=14\/i=15\/i=16\/i=17\/i=18\/i=19\/i=20\/i=21\/i=22\/i=23\/i=24:=by omega
     clear hi;rcases hcase with rfl|rfl|rfl|rfl|rfl|rfl|rfl|rfl|rfl|rfl|rfl|rfl|rfl|rfl|rfl|rfl|rfl|rfl|rfl|rfl|rfl|rfl|rfl|rfl|rfl
     all_goals (simp only [fI,gX,gz,gA] at ho;subst ho)
     ·refine ai.az λK hK=>?_;go_simp;exact hK _ _ ⟨_,rfl,Below.refl _ _,rfl⟩
     ·have q0:a.tmps[67]?.getD undef=.pointer (some ⟨b,2,none⟩):=ai.av (hd 0 (by decide));refine ai.az λK hK=>?_;go_simp;exact hK _ _ ⟨_,rfl,Below.refl _ _,rfl⟩
     ·refine ai.az λK hK=>?_;go_simp;exact hK _ _ ⟨_,rfl,Below.refl _ _,rfl⟩
     ·have q0:a.tmps[69]?.getD undef=.pointer (some ⟨p1,2,none⟩):=ai.av (hd 2 (by decide));refine ai.az λK hK=>?_;go_simp;exact hK _ _ ⟨_,rfl,Below.refl _ _,rfl⟩
     ·refine ai.az λK hK=>?_;go_simp;exact hK _ _ ⟨_,rfl,Below.refl _ _,rfl⟩
     ·have q0:a.tmps[70]?.getD undef=.slice (some ⟨b1,aJ,none⟩) n2 k2:=ai.av (hd 3 (by decide));have q1:a.tmps[71]?.getD undef=.int .i64 j:=ai.av (hd 4 (by decide));refine ai.az λK hK=>?_;go_simp;exact hK _ _ ⟨_,rfl,Below.refl _ _,rfl⟩
     ·have q0:a.tmps[72]?.getD undef=.pointer (some ⟨b1,aJ+j*3,none⟩):=ai.av (hd 5 (by decide));refine ai.az λK hK=>?_;go_simp;exact hK _ _ ⟨_,rfl,Below.refl _ _,rfl⟩
     ·have q0:a.tmps[73]?.getD undef=.pointer (some ⟨b1,aJ+j*3,none⟩):=ai.av (hd 6 (by decide));refine ai.az λK hK=>?_;go_simp;exact hK _ _ ⟨_,rfl,Below.refl _ _,rfl⟩
     ·refine ai.az λK hK=>?_;go_simp;exact hK _ _ ⟨_,rfl,aU _ _,⟨_,rfl,hB.size,heap_alloc_new _ _⟩⟩
     ·refine ai.az λK hK=>?_;go_simp;exact hK _ _ ⟨_,rfl,Below.refl _ _,rfl⟩
     ·have q0:a.tmps[76]?.getD undef=.pointer (some ⟨p1,2,none⟩):=ai.av (hd 9 (by decide));refine ai.az λK hK=>?_;go_simp;exact hK _ _ ⟨_,rfl,Below.refl _ _,rfl⟩
     ·refine ai.az λK hK=>?_;go_simp;exact hK _ _ ⟨_,rfl,Below.refl _ _,rfl⟩
     ·have q0:a.tmps[77]?.getD undef=.slice (some ⟨b1,aJ,none⟩) n2 k2:=ai.av (hd 10 (by decide));have q1:a.tmps[78]?.getD undef=.int .i64 j:=ai.av (hd 11 (by decide));refine ai.az λK hK=>?_;go_simp;exact hK _ _ ⟨_,rfl,Below.refl _ _,rfl⟩
     ·have q0:a.tmps[79]?.getD undef=.pointer (some ⟨b1,aJ+j*3,none⟩):=ai.av (hd 12 (by decide));refine ai.az λK hK=>?_;go_simp;exact hK _ _ ⟨_,rfl,Below.refl _ _,rfl⟩
     ·have q0:a.tmps[80]?.getD undef=.pointer (some ⟨b1,aJ+j*3+1,none⟩):=ai.av (hd 13 (by decide));refine ai.az λK hK=>?_;go_simp;exact hK _ _ ⟨_,rfl,Below.refl _ _,rfl⟩
     ·have qm:Mk wr.heap.size 3 (a.eval (.tmp 75)) w:=hd 8 (by decide);have qx:a.eval (.tmp 81)=.slice q1 y1 z1:=hd 14 (by decide);obtain ⟨i1,i2,i3⟩:=BF (wC.out.on hB);refine wA _ _ 28 rfl wr.heap.size 3 underlying28 BG (by decide) rfl qm rfl _ _ _ qx (ints x.locals) i1 (by rw [Nat.mul_one,i2];exact oI ..) i3 (Al _) (by unfold maxLen;omega) (by omega) λv' w' ho hb=>⟨v',rfl,hb,?_⟩;rw [i2] at ho;exact ho
     ·refine ai.az λK hK=>?_;go_simp;exact hK _ _ ⟨_,rfl,Below.refl _ _,rfl⟩
     ·have q0:a.tmps[83]?.getD undef=.pointer (some ⟨p1,2,none⟩):=ai.av (hd 16 (by decide));refine ai.az λK hK=>?_;go_simp;exact hK _ _ ⟨_,rfl,Below.refl _ _,rfl⟩
     ·refine ai.az λK hK=>?_;go_simp;exact hK _ _ ⟨_,rfl,Below.refl _ _,rfl⟩
     ·have q0:a.tmps[84]?.getD undef=.slice (some ⟨b1,aJ,none⟩) n2 k2:=ai.av (hd 17 (by decide));have q1:a.tmps[85]?.getD undef=.int .i64 j:=ai.av (hd 18 (by decide));refine ai.az λK hK=>?_;go_simp;exact hK _ _ ⟨_,rfl,Below.refl _ _,rfl⟩
     ·have q0:a.tmps[86]?.getD undef=.pointer (some ⟨b1,aJ+j*3,none⟩):=ai.av (hd 19 (by decide));refine ai.az λK hK=>?_;go_simp;exact hK _ _ ⟨_,rfl,Below.refl _ _,rfl⟩
     ·have q0:a.tmps[87]?.getD undef=.pointer (some ⟨b1,aJ+j*3+2,none⟩):=ai.av (hd 20 (by decide));refine ai.az λK hK=>?_;go_simp;exact hK _ _ ⟨_,rfl,Below.refl _ _,rfl⟩
     ·have q0:a.tmps[88]?.getD undef=.slice q2 y2 z2:=ai.av (hd 21 (by decide));have zl:=aa (At.on hB d _ _ wD.out);refine ai.az λK hK=>?_;have gY:=aa hK;clear hK;go_simp;refine (BI d _ x.body w zl.out Jk).mono ?_;rintro e w' ⟨v',rfl,hA,hb⟩;exact gY.out _ _ ⟨v',rfl,hb,Du hA hB.size⟩
     ·have w0:a.tmps[74]?.getD undef=.int .i64 x.type:=ai.av (hd 7 (by decide));have w1:w.ownsRow wr.heap.size 3 1 (a.eval (.tmp 82)) x.locals.length (ints x.locals):=hd 15 (by decide);have w2:At (only w (ge wr.heap.size)) d (a.eval (.tmp 89)) x.body:=hd 22 (by decide);obtain ⟨s1,r1,hs1⟩:=pq w1;obtain ⟨s2,r2,hs2⟩:=At.len d _ _ w2;rw [hs1] at w1;rw [hs2] at w2;have mD:=aa (Pf (Dr w1 (by omega)) w2);rw [hy1,hy2] at mD;clear w1 w2;have t1:=ai.av hs1;have t2:=ai.av hs2;refine ai.az λK hK=>?_;go_simp;exact hK _ _ ⟨_,rfl,Below.refl _ _,⟨_,_,_,rfl,mD.out⟩⟩
     obtain ⟨x0,x1,x2,hv,hp⟩:=(show (I7 wr.heap.size (λR=>jW R d) x).1 (a.eval (.tmp 90)) w from hd 23 (by decide));have qv:=ai.av hv;have mD:=aa hp;clear hp hv;refine ai.az λK hK=>?_;go_simp;exact hK _ _ ⟨_,rfl,aU _ _,⟨_,[x0,x1,x2],rfl,heap_alloc_new _ _,mD.out.sub (qw (aU _ _))⟩⟩
    case cH =>
     intro a w2 hF hB hG;have et:a.eval (.tmp 68)=.slice oT j cT:=hG 1 (by omega);obtain ⟨g,cs,hgv,oJ,hpc⟩:=(show (vu wr.heap.size 3 45 (λR=>jW R d) x).1 (a.eval (.tmp 91)) w2 from hG 24 (by omega));have e3:a.tmps[3]?.getD undef=.pointer (some ⟨b,0,none⟩):=ai.av (hF.eval 3 (λi hi=>by show 67+i≠3;omega));obtain ⟨ps,qQ,qR,nV,nW,qU⟩:=nT.out.below hB;have qV:=hpc.sub (BH (B:=u1.heap.size) (b:=b) (t:=.slice oT j cT) HST.out.below.size di.out.lt (λk hk=>(nT.out.lt k hk).2));have dR:=HST.out.keep (zk hB) (HST.out.below.trans (hB.mono HST.out.below.size));have gF:=di.out.on hB;simp only [fK,fB];refine Pg hF rfl e3 et hgv oJ hpc.len hpc.one gF nV nW (by omega) dR.below.size λa' t' w9 qX ny jE lj=>?_;have nX:=aa (Ph gF dR ps qQ qR nW qU eU.out qV nV ny jE lj);obtain ⟨xl,hxl,rfl,hev⟩:=qX.lit (by simp);obtain ⟨x0,x1,x2,x3,x4,x5,x6,x7,x8,x9,bZ,ez,eB,eC,eD,eF,eG,eH,eM,fF,gq,gS,iL,iM,jN,ll,lq,rfl⟩:=Pj hxl;clear hev hxl hF hG qX ny jE lj hpc qV dR gF qQ qR nV nW qU et hgv oJ e3 hB;simp only [iH,iI,fK,fB,iy,ed];go_wp2;go_roundw
     case rel=>exact ⟨j+1,by omega,by go_num,nX⟩
     case measure=>simp [intOf];omega
   obtain rfl:n2=j:=by omega
   clear di nT HST;obtain ⟨c2,ug⟩:=Pk (gW ▸ jM.out) (by omega);have wB:=aa ug;clear ug jM;go_wp2_with fail;go_loopw [6] (λi wr=>∃j:Nat,j<=n5/\i=.int .i64 j/\Hid (Dv u1 b m (.slice a1 n1 b1) (.slice a3 n3 b3) (.slice a4 n4 b4) (.slice a6 n6 b6) (.slice a7 n7 b7) c0 c2 j wr)) (λi _=>n5-(intOf i).toNat)
   case atStart=>exact ⟨0,by omega,rfl,wB⟩
   case round =>
    obtain ⟨j,hj,rfl,jM⟩:=hrel;obtain ⟨t,qN,nS,hSt⟩:=jM.out;obtain ⟨oT,cT,rfl⟩:=nS.slice;have di:=aa qN;have nT:=aa nS;have HST:=aa hSt;have kp:=(HP wr hSt.below).out.cell 5 _ rfl;clear qN nS hSt;by_cases hgo:j<n5
    ·obtain ⟨b1,aJ,gb,hv1,hx1⟩:=Row.some ig.out.globals (by omega);injection hv1 with cJ e11 e12;subst cJ;obtain ⟨x,hxk⟩:∃x,m.globals[j]?=some x:=⟨_,aY (by omega)⟩;have HX:=aa ((hx1 j x hxk).on HST.out.below);have eU:=aa hxk;clear hx1 hxk e11 e12;obtain ⟨bN,cF,⟨dn,jO,jP,jQ,⟨v4,jR,dw⟩,⟨v5,nz,dx⟩,⟨v6,Am,dz⟩⟩⟩:=HX.out;obtain ⟨q4,z4,rfl⟩:=Row.len dw;obtain ⟨q5,z5,rfl⟩:=At.len d _ _ dx;obtain ⟨q6,z6,rfl⟩:=At.len d _ _ dz;have jX:=aa dw;have jc:=aa dx;have iP:=aa dz;have BJ:=HS.out.globals x (dK eU.out);clear dw dx dz;generalize oK:x.init.labels.length=y4 at *;generalize oM:size d x.init.body=y5 at *;generalize nC:size d x.init.els=y6 at *;go_upto_region 13 with fail;clear jM ig HM HB2;refine ai.BK 6 (λi=>if i<5 then 101+i else 7) (λi=>(I9 wr.heap.size p1 j b1 aJ n5 k5 y4 z4 y5 z5 y6 z6 q4 q5 q6 x i).1) ?hn (λi j h1 h2 h=>by have h':(if i<5 then 101+i else 7)=(if j<5 then 101+j else 7):=h;split at h'<;>split at h'<;>omega) (ai.kz (size:=180) (by kernel_rfl)) (λi v w w' _ h hb=>(I9 wr.heap.size p1 j b1 aJ n5 k5 y4 z4 y5 z5 y6 z6 q4 q5 q6 x i).2 v w w' h hb) ?hstep ?cH
     case hn=>simp
     case hstep =>
      intro i o a w hi ho hF hB hd;have kq:=(HP w (HST.out.below.trans (hB.mono HST.out.below.size))).out.cell 5 _ rfl;have qO:=aj hB bN;have qP:=aj hB cF;have rR:=aj hB dn;have zm:=aj hB jO;have zn:=aj hB jP;have zo:=aj hB jQ;have zq:=aj hB jR;have zr:=aj hB nz;have Fs:=aj hB Am;have e1:a.tmps[1]?.getD undef=.pointer (some ⟨p1,0,none⟩):=ai.av (hF.eval 1 (λi hi=>by show (if i<5 then 101+i else 7)≠1;split<;>omega))
      have e6:a.tmps[6]?.getD undef=.int .i64 j:=ai.av (hF.eval 6 (λi hi=>by show (if i<5 then 101+i else 7)≠6;split<;>omega))
      have hcase:i=0\/i=1\/i=2\/i=3\/i=4\/i=5:=by omega
      clear hi;rcases hcase with rfl|rfl|rfl|rfl|rfl|rfl
      all_goals (simp only [fI,gX,gz,gA] at ho;subst ho)
      ·refine ai.az λK hK=>?_;go_simp;exact hK _ _ ⟨_,rfl,Below.refl _ _,rfl⟩
      ·have q0:a.tmps[101]?.getD undef=.pointer (some ⟨p1,5,none⟩):=ai.av (hd 0 (by decide));refine ai.az λK hK=>?_;go_simp;exact hK _ _ ⟨_,rfl,Below.refl _ _,rfl⟩
      ·refine ai.az λK hK=>?_;go_simp;exact hK _ _ ⟨_,rfl,Below.refl _ _,rfl⟩
      ·have q0:a.tmps[102]?.getD undef=.slice (some ⟨b1,aJ,none⟩) n5 k5:=ai.av (hd 1 (by decide));have q1:a.tmps[103]?.getD undef=.int .i64 j:=ai.av (hd 2 (by decide));refine ai.az λK hK=>?_;go_simp;exact hK _ _ ⟨_,rfl,Below.refl _ _,rfl⟩
      ·have q0:a.tmps[104]?.getD undef=.pointer (some ⟨b1,aJ+j*9,none⟩):=ai.av (hd 3 (by decide));refine ai.az λK hK=>?_;go_simp;exact hK _ _ ⟨_,rfl,Below.refl _ _,rfl⟩
      refine ai.az λK hK=>?_;go_simp;exact hK _ _ ⟨_,rfl,aU _ _,⟨_,rfl,hB.size,iD.new rfl⟩⟩
     case cH =>
      intro a w2 hF hB hG;obtain ⟨q,h7,hq,hZ⟩:=(show (I8 wr.heap.size).1 (a.eval (.tmp 7)) w2 from hG 5 (by omega));have Jm:a.tmps[105]?.getD undef=.agg #[.int .i64 x.type,.bool x.jL,.int .i64 x.init.op,.int .i64 x.init.a,.int .i64 x.init.b,.int .i64 x.init.n,.slice q4 y4 z4,.slice q5 y5 z5,.slice q6 y6 z6]:=ai.av (show a.eval (.tmp 105)=_ from hG 4 (by omega));have wE:=aa (hZ.xY (.int .i64 x.type) (.bool x.jL) (.int .i64 x.init.op) (.int .i64 x.init.a) (.int .i64 x.init.b) (.int .i64 x.init.n) (.slice q4 y4 z4) (.slice q5 y5 z5) (.slice q6 y6 z6));have eX:=aa (Pm hB hq (.int .i64 x.type) (.bool x.jL) (.int .i64 x.init.op) (.int .i64 x.init.a) (.int .i64 x.init.b) (.int .i64 x.init.n) (.slice q4 y4 z4) (.slice q5 y5 z5) (.slice q6 y6 z6));simp only [fK,fB];refine wpList_plain rfl λK iT=>?_;refine Pn (ai.av h7) Jm hZ ?_;refine iT _ _ (wpList_nil ?_);clear iT hZ Jm;generalize xY w2 q (.int .i64 x.type) (.bool x.jL) (.int .i64 x.init.op) (.int .i64 x.init.a) (.int .i64 x.init.b) (.int .i64 x.init.n) (.slice q4 y4 z4) (.slice q5 y5 z5) (.slice q6 y6 z6)=w3 at *;obtain ⟨y,xl,hxl,rfl,hy,hev⟩:=hF.Jj (n:=5) (lo:=101) (s:=7) (by decide) (by simp);obtain ⟨x0,x1,x2,x3,x4,rfl⟩:=Po hxl;obtain rfl:y=.pointer (some ⟨q,0,none⟩):=hy.symm.trans h7;clear hev hy h7 hxl hF hG hB;simp only [iH,iI,fK,fB,iy,ed];have hw3:wr.heap.size<=w3.heap.size:=eX.out.size;have tq:=aa (jX.out.on eX.out);have qY:=aa (At.on eX.out d _ _ jc.out);have pW:=aa (At.on eX.out d _ _ iP.out);go_upto_region 14 with fail;refine ai.BK 7 (λi=>106+i) (λi=>(Ja w3.heap.size q y4 z4 y5 z5 y6 z6 q4 q5 q6 x i).1) ?hn (λi j h1 h2 h=>by have h':106+i=106+j:=h;omega) (ai.kz (size:=180) (by kernel_rfl)) (λi v w w' _ h hb=>(Ja w3.heap.size q y4 z4 y5 z5 y6 z6 q4 q5 q6 x i).2 v w w' h hb) ?hstep ?cH
      case hn=>simp
      case hstep =>
       intro i o a w hi ho hF hB hd;have rR:=(wE.out.on hB).cell 2 _ rfl;have zm:=(wE.out.on hB).cell 3 _ rfl;have zn:=(wE.out.on hB).cell 4 _ rfl;have zo:=(wE.out.on hB).cell 5 _ rfl;have zq:=(wE.out.on hB).cell 6 _ rfl;have zr:=(wE.out.on hB).cell 7 _ rfl;have Fs:=(wE.out.on hB).cell 8 _ rfl;have e7:a.tmps[7]?.getD undef=.pointer (some ⟨q,0,none⟩):=ai.av (hF.eval 7 (λi hi=>by show 106+i≠7;omega));have hcase:i=0\/i=1\/i=2\/i=3\/i=4\/i=5\/i=6:=by omega
       clear hi;rcases hcase with rfl|rfl|rfl|rfl|rfl|rfl|rfl
       all_goals (simp only [fI,gX,gz,gA] at ho;subst ho)
       ·refine ai.az λK hK=>?_;go_simp;exact hK _ _ ⟨_,rfl,Below.refl _ _,rfl⟩
       ·have q0:a.tmps[106]?.getD undef=.pointer (some ⟨q,2,none⟩):=ai.av (hd 0 (by decide));refine ai.az λK hK=>?_;go_simp;exact hK _ _ ⟨_,rfl,Below.refl _ _,rfl⟩
       ·have q0:a.tmps[107]?.getD undef=.agg #[.int .i64 x.init.op,.int .i64 x.init.a,.int .i64 x.init.b,.int .i64 x.init.n,.slice q4 y4 z4,.slice q5 y5 z5,.slice q6 y6 z6]:=ai.av (hd 1 (by decide));have HO:=aa (Ft (tq.out.on hB) (At.on hB d _ _ qY.out) (At.on hB d _ _ pW.out));refine ai.az λK hK=>?_;go_simp;exact hK _ _ ⟨_,rfl,aU _ _,⟨_,rfl,HO.out⟩⟩
       ·obtain ⟨g,hv,hAt⟩:=(show (Ai x.init).1 (a.eval (.tmp 108)) w from hd 2 (by decide));rw [hv] at hAt;have zl:=aa hAt;have q0:=ai.av hv;clear hv hAt;refine ai.az λK hK=>?_;have gY:=aa hK;clear hK;go_simp;refine (BI (d+1) _ [x.init] w zl.out ⟨by simp,λy hy=>by rw [List.mem_singleton.1 hy];exact BJ⟩).mono ?_;rintro e w' ⟨v',rfl,hA,hb⟩;exact gY.out _ _ ⟨v',rfl,hb,Du hA hB.size⟩
       ·obtain ⟨g,o,cc,hv,hc⟩:=Row.some (show Row 7 _ (a.eval (.tmp 109)) [x.init] from hd 3 (by decide)) (by simp);have HC:=aa (hc 0 _ rfl);have q0:=ai.av hv;simp only [bI,bP,Nat.zero_add] at q0;clear hv hc;refine ai.az λK hK=>?_;go_simp;exact hK _ _ ⟨_,rfl,Below.refl _ _,⟨g,o,rfl,by have:=HC.out;simpa using this⟩⟩
       ·obtain ⟨g,o,hv,hc⟩:=(show (Aj w3.heap.size x.init).1 (a.eval (.tmp 110)) w from hd 4 (by decide));have q0:=ai.av hv;obtain ⟨r0,r1,r2,r3,⟨u4,r4,s4⟩,⟨u5,r5,s5⟩,⟨u6,r6,s6⟩⟩:=hc;obtain ⟨j4,l4,rfl⟩:=Row.len s4;obtain ⟨j5,l5,rfl⟩:=At.len d _ _ s5;obtain ⟨j6,l6,rfl⟩:=At.len d _ _ s6;have HV:=aa (tu.mk s4 s5 s6);rw [oK,oM,nC] at HV;clear hv s4 s5 s6;have r0:=mP _ _ _ _ _ r0;have r1:=mP _ _ _ _ _ r1;have r2:=mP _ _ _ _ _ r2;have r3:=mP _ _ _ _ _ r3;have r4:=mP _ _ _ _ _ r4;have r5:=mP _ _ _ _ _ r5;have r6:=mP _ _ _ _ _ r6;refine ai.az λK hK=>?_;go_simp;exact hK _ _ ⟨_,rfl,Below.refl _ _,⟨_,_,_,_,_,_,_,_,_,rfl,HV.out⟩⟩
       refine ai.az λK hK=>?_;go_simp;exact hK _ _ ⟨_,rfl,Below.refl _ _,rfl⟩
      case cH =>
       intro a w4 hF hB hG;obtain ⟨o4,m4,Dw,o5,m5,Dx,o6,m6,Dy,hv,hV⟩:=(show (Ak w3.heap.size x.init).1 (a.eval (.tmp 111)) w4 from hG 5 (by omega));have Jn:a.tmps[112]?.getD undef=.pointer (some ⟨q,2,none⟩):=ai.av (show a.eval (.tmp 112)=_ from hG 6 (by omega));have Fu:=wE.out.on hB;have wF:=aa (Fu.tz (.int .i64 x.init.op) (.int .i64 x.init.a) (.int .i64 x.init.b) (.int .i64 x.init.n) (.slice o4 m4 Dw) (.slice o5 m5 Dx) (.slice o6 m6 Dy));have mQ:Hid (Below wr.heap.size wr (tz w4 q (.int .i64 x.init.op) (.int .i64 x.init.a) (.int .i64 x.init.b) (.int .i64 x.init.n) (.slice o4 m4 Dw) (.slice o5 m5 Dx) (.slice o6 m6 Dy))):=aa (Pp (eX.out.trans (hB.mono hw3)) hq _ _ _ _ _ _ _);have hqw:q<w3.heap.size:=wE.out.lt;have hsub:Sub (only w4 (ge w3.heap.size)) (only (tz w4 q (.int .i64 x.init.op) (.int .i64 x.init.a) (.int .i64 x.init.b) (.int .i64 x.init.n) (.slice o4 m4 Dw) (.slice o5 m5 Dx) (.slice o6 m6 Dy)) (ge w3.heap.size)):=wG λk _ hk=>⟨hk,Pq _ _ _ _ _ _ _ k (by have:=of_decide_eq_true hk;omega)⟩;have mD:=aa (Ps (x:=x) (hV.sub hsub));simp only [fK,fB];refine wpList_plain rfl λK iT=>?_;refine Pt Jn (ai.av hv) Fu ?_;refine iT _ _ (wpList_nil ?_);clear iT Fu hsub hV;generalize tz w4 q (.int .i64 x.init.op) (.int .i64 x.init.a) (.int .i64 x.init.b) (.int .i64 x.init.n) (.slice o4 m4 Dw) (.slice o5 m5 Dx) (.slice o6 m6 Dy)=w5 at *;obtain ⟨xl,hxl,rfl,hev⟩:=hF.lit (by simp);obtain ⟨x0,x1,x2,x3,x4,x5,x6,rfl⟩:=Dz hxl;clear hev hxl hF hG hv Jn hB;simp only [iH,iI,fK,fB,iy,ed];have jF:=aa (di.out.on mQ.out);have Pu:=aa (nT.out.below mQ.out);have kK:=aa (HST.out.keep (zk mQ.out) (HST.out.below.trans (mQ.out.mono HST.out.below.size)));go_upto_region 15 with fail;refine ai.BK 4 (λi=>113+i) (λi=>(Jb w3.heap.size b j cT oT x i).1) ?hn (λi j h1 h2 h=>by have h':113+i=113+j:=h;omega) (ai.kz (size:=180) (by kernel_rfl)) (λi v w w' _ h hb=>(Jb w3.heap.size b j cT oT x i).2 v w w' h hb) ?hstep ?cH
       case hn=>simp
       case hstep =>
        intro i o a w hi ho hF hB hd;have kb:=(jF.out.on hB).cell 5 _ rfl;have qO:=(wF.out.on hB).cell 0 _ rfl;have qP:=(wF.out.on hB).cell 1 _ rfl;have rR:=(wF.out.on hB).cell 2 _ rfl;have zm:=(wF.out.on hB).cell 3 _ rfl;have zn:=(wF.out.on hB).cell 4 _ rfl;have zo:=(wF.out.on hB).cell 5 _ rfl;have zq:=(wF.out.on hB).cell 6 _ rfl;have zr:=(wF.out.on hB).cell 7 _ rfl;have Fs:=(wF.out.on hB).cell 8 _ rfl;have e3:a.tmps[3]?.getD undef=.pointer (some ⟨b,0,none⟩):=ai.av (hF.eval 3 (λi hi=>by show 113+i≠3;omega));have e7:a.tmps[7]?.getD undef=.pointer (some ⟨q,0,none⟩):=ai.av (hF.eval 7 (λi hi=>by show 113+i≠7;omega));have hcase:i=0\/i=1\/i=2\/i=3:=by omega
        clear hi;rcases hcase with rfl|rfl|rfl|rfl
        all_goals (simp only [fI,gX,gz,gA] at ho;subst ho)
        ·refine ai.az λK hK=>?_;go_simp;exact hK _ _ ⟨_,rfl,Below.refl _ _,rfl⟩
        ·have q0:a.tmps[113]?.getD undef=.pointer (some ⟨b,5,none⟩):=ai.av (hd 0 (by decide));refine ai.az λK hK=>?_;go_simp;exact hK _ _ ⟨_,rfl,Below.refl _ _,rfl⟩
        ·refine ai.az λK hK=>?_;go_simp;exact hK _ _ ⟨_,rfl,Below.refl _ _,⟨_,_,_,_,_,_,_,_,_,rfl,mD.out.sub (qw hB)⟩⟩
        obtain ⟨x0,x1,x2,x3,x4,x5,x6,x7,x8,hv,hp⟩:=(show (Jc w3.heap.size (λR=>mN R d) x).1 (a.eval (.tmp 115)) w from hd 2 (by decide));have qv:=ai.av hv;have mD:=aa hp;clear hp hv;refine ai.az λK hK=>?_;go_simp;exact hK _ _ ⟨_,rfl,aU _ _,⟨_,[x0,x1,x2,x3,x4,x5,x6,x7,x8],rfl,heap_alloc_new _ _,mD.out.sub (qw (aU _ _))⟩⟩
       case cH =>
        intro a w2 hF hB hG;have et:a.eval (.tmp 114)=.slice oT j cT:=hG 1 (by omega);obtain ⟨g,cs,hgv,oJ,hpc⟩:=(show (vu w3.heap.size 9 55 (λR=>mN R d) x).1 (a.eval (.tmp 116)) w2 from hG 3 (by omega));have e3:a.tmps[3]?.getD undef=.pointer (some ⟨b,0,none⟩):=ai.av (hF.eval 3 (λi hi=>by show 113+i≠3;omega));obtain ⟨ps,qQ,qR,nV,nW,qU⟩:=Pu.out.below hB;have qV:=hpc.sub (BH (B:=u1.heap.size) (b:=b) (t:=.slice oT j cT) (by have:=HST.out.below.size;omega) (by have:=di.out.lt;omega) (λk hk=>by have:=(nT.out.lt k hk).2;omega));have dR:=kK.out.keep (zk hB) (kK.out.below.trans (hB.mono kK.out.below.size));have gF:=jF.out.on hB;simp only [fK,fB];refine Pv hF rfl e3 et hgv oJ hpc.len hpc.one gF nV nW (by omega) dR.below.size λa' t' w9 qX ny jE lj=>?_;have nX:=aa (Pw gF dR ps qQ qR nW qU eU.out qV nV ny jE lj);obtain ⟨xl,hxl,rfl,hev⟩:=qX.lit (by simp);obtain ⟨x0,x1,x2,x3,x4,x5,rfl⟩:=rS hxl;clear hev hxl hF hG qX ny jE lj hpc qV dR gF qQ qR nV nW qU et hgv oJ e3 hB;simp only [iH,iI,fK,fB,iy,ed];go_wp2;go_roundw
        case rel=>exact ⟨j+1,by omega,by go_num,nX⟩
        case measure=>simp [intOf];omega
    obtain rfl:n5=j:=by omega
    clear di nT HST;obtain ⟨c5,ug⟩:=Px (iS ▸ jM.out) (by omega);have wB:=aa ug;clear ug jM;go_wp2_with fail;go_loopw [8] (λi wr=>∃j:Nat,j<=n8/\i=.int .i64 j/\Hid (DC u1 b m (.slice a1 n1 b1) (.slice a3 n3 b3) (.slice a4 n4 b4) (.slice a6 n6 b6) (.slice a7 n7 b7) c0 c2 c5 j wr)) (λi _=>n8-(intOf i).toNat)
    case atStart=>exact ⟨0,by omega,rfl,wB⟩
    case round =>
     obtain ⟨j,hj,rfl,jM⟩:=hrel;obtain ⟨t,qN,nS,hSt⟩:=jM.out;obtain ⟨oT,cT,rfl⟩:=nS.slice;have di:=aa qN;have nT:=aa nS;have HST:=aa hSt;have kp:=(HP wr hSt.below).out.cell 8 _ rfl;clear qN nS hSt;by_cases hgo:j<n8
     ·obtain ⟨b1,aJ,gb,hv1,hx1⟩:=Row.some ig.out.elems (by omega);injection hv1 with cJ e11 e12;subst cJ;obtain ⟨x,hxk⟩:∃x,m.elems[j]?=some x:=⟨_,aY (by omega)⟩;have HX:=aa ((hx1 j x hxk).on HST.out.below);have eU:=aa hxk;clear hx1 hxk e11 e12;obtain ⟨⟨bN,cF,dn,jO,⟨v4,jP,dw⟩,⟨v5,jQ,dx⟩,⟨v6,jR,dz⟩⟩,⟨v7,nz,uh⟩⟩:=HX.out;obtain ⟨q4,z4,rfl⟩:=Row.len dw;obtain ⟨q5,z5,rfl⟩:=At.len d _ _ dx;obtain ⟨q6,z6,rfl⟩:=At.len d _ _ dz;have jX:=aa dw;have jc:=aa dx;have iP:=aa dz;obtain ⟨q7,z7,rfl⟩:=Row.len uh;have BL:=aa uh;obtain ⟨BJ,Py⟩:=HS.out.elems x (dK eU.out);clear dw dx dz uh;generalize oK:x.offset.labels.length=y4 at *;generalize oM:size d x.offset.body=y5 at *;generalize nC:size d x.offset.els=y6 at *;generalize DD:x.funcs.length=y7 at *;go_upto_region 19 with fail;clear jM ig HM HB2;refine ai.oH 22 (λi=>126+i) (λi=>(Jd wr.heap.size b p1 j b1 aJ n8 k8 cT y4 z4 y5 z5 y6 z6 y7 z7 oT q4 q5 q6 q7 x i).1) (by kernel_rfl) (by kernel_rfl) (λi j h1 h2 h=>by have h':126+i=126+j:=h;omega) (ai.kz (size:=180) (by kernel_rfl)) (λi v w w' _ h hb=>(Jd wr.heap.size b p1 j b1 aJ n8 k8 cT y4 z4 y5 z5 y6 z6 y7 z7 oT q4 q5 q6 q7 x i).2 v w w' h hb) ?hstep ?cH
      case hstep =>
       intro i o a w hi ho hF hB hd;have kb:=(di.out.on hB).cell 8 _ rfl;have kq:=(HP w (HST.out.below.trans (hB.mono HST.out.below.size))).out.cell 8 _ rfl;have qO:=aj hB bN;have qP:=aj hB cF;have rR:=aj hB dn;have zm:=aj hB jO;have zn:=aj hB jP;have zo:=aj hB jQ;have zq:=aj hB jR;have zr:=aj hB nz;have e1:a.tmps[1]?.getD undef=.pointer (some ⟨p1,0,none⟩):=ai.av (hF.eval 1 (λi hi=>by show 126+i≠1;omega));have e3:a.tmps[3]?.getD undef=.pointer (some ⟨b,0,none⟩):=ai.av (hF.eval 3 (λi hi=>by show 126+i≠3;omega));have e8:a.tmps[8]?.getD undef=.int .i64 j:=ai.av (hF.eval 8 (λi hi=>by show 126+i≠8;omega));have hcase:i=0\/i=1\/i=2\/i=3\/i=4\/i=5\/i=6\/i=7\/i=8\/i=9\/i=10\/i=11\/i=12\/i=13\/i=14\/i=15\/i=16\/i=17\/i=18\/i=19\/i=20\/i=21:=by omega
       clear hi;rcases hcase with rfl|rfl|rfl|rfl|rfl|rfl|rfl|rfl|rfl|rfl|rfl|rfl|rfl|rfl|rfl|rfl|rfl|rfl|rfl|rfl|rfl|rfl
       all_goals (simp only [fI,gX,gz,gA] at ho;subst ho)
       ·refine ai.az λK hK=>?_;go_simp;exact hK _ _ ⟨_,rfl,Below.refl _ _,rfl⟩
       ·have q0:a.tmps[126]?.getD undef=.pointer (some ⟨b,8,none⟩):=ai.av (hd 0 (by decide));refine ai.az λK hK=>?_;go_simp;exact hK _ _ ⟨_,rfl,Below.refl _ _,rfl⟩
       ·refine ai.az λK hK=>?_;go_simp;exact hK _ _ ⟨_,rfl,Below.refl _ _,rfl⟩
       ·have q0:a.tmps[128]?.getD undef=.pointer (some ⟨p1,8,none⟩):=ai.av (hd 2 (by decide));refine ai.az λK hK=>?_;go_simp;exact hK _ _ ⟨_,rfl,Below.refl _ _,rfl⟩
       ·refine ai.az λK hK=>?_;go_simp;exact hK _ _ ⟨_,rfl,Below.refl _ _,rfl⟩
       ·have q0:a.tmps[129]?.getD undef=.slice (some ⟨b1,aJ,none⟩) n8 k8:=ai.av (hd 3 (by decide));have q1:a.tmps[130]?.getD undef=.int .i64 j:=ai.av (hd 4 (by decide));refine ai.az λK hK=>?_;go_simp;exact hK _ _ ⟨_,rfl,Below.refl _ _,rfl⟩
       ·have q0:a.tmps[131]?.getD undef=.pointer (some ⟨b1,aJ+j*8,none⟩):=ai.av (hd 5 (by decide));refine ai.az λK hK=>?_;go_simp;exact hK _ _ ⟨_,rfl,Below.refl _ _,rfl⟩
       ·have q0:a.tmps[132]?.getD undef=.pointer (some ⟨b1,aJ+j*8,none⟩):=ai.av (hd 6 (by decide));refine ai.az λK hK=>?_;go_simp;exact hK _ _ ⟨_,rfl,Below.refl _ _,rfl⟩
       ·have q0:a.tmps[133]?.getD undef=.agg #[.int .i64 x.offset.op,.int .i64 x.offset.a,.int .i64 x.offset.b,.int .i64 x.offset.n,.slice q4 y4 z4,.slice q5 y5 z5,.slice q6 y6 z6]:=ai.av (hd 7 (by decide));have HO:=aa (Ft (jX.out.on hB) (At.on hB d _ _ jc.out) (At.on hB d _ _ iP.out));refine ai.az λK hK=>?_;go_simp;exact hK _ _ ⟨_,rfl,aU _ _,⟨_,rfl,HO.out⟩⟩
       ·obtain ⟨g,hv,hAt⟩:=(show (Ai x.offset).1 (a.eval (.tmp 134)) w from hd 8 (by decide));rw [hv] at hAt;have zl:=aa hAt;have q0:=ai.av hv;clear hv hAt;refine ai.az λK hK=>?_;have gY:=aa hK;clear hK;go_simp;refine (BI (d+1) _ [x.offset] w zl.out ⟨by simp,λy hy=>by rw [List.mem_singleton.1 hy];exact BJ⟩).mono ?_;rintro e w' ⟨v',rfl,hA,hb⟩;exact gY.out _ _ ⟨v',rfl,hb,Du hA hB.size⟩
       ·obtain ⟨g,o,cc,hv,hc⟩:=Row.some (show Row 7 _ (a.eval (.tmp 135)) [x.offset] from hd 9 (by decide)) (by simp);have HC:=aa (hc 0 _ rfl);have q0:=ai.av hv;simp only [bI,bP,Nat.zero_add] at q0;clear hv hc;refine ai.az λK hK=>?_;go_simp;exact hK _ _ ⟨_,rfl,Below.refl _ _,⟨g,o,rfl,by have:=HC.out;simpa using this⟩⟩
       ·obtain ⟨g,o,hv,hc⟩:=(show (Aj wr.heap.size x.offset).1 (a.eval (.tmp 136)) w from hd 10 (by decide));have q0:=ai.av hv;obtain ⟨r0,r1,r2,r3,⟨u4,r4,s4⟩,⟨u5,r5,s5⟩,⟨u6,r6,s6⟩⟩:=hc;obtain ⟨j4,l4,rfl⟩:=Row.len s4;obtain ⟨j5,l5,rfl⟩:=At.len d _ _ s5;obtain ⟨j6,l6,rfl⟩:=At.len d _ _ s6;have HV:=aa (tu.mk s4 s5 s6);rw [oK,oM,nC] at HV;clear hv s4 s5 s6;have r0:=mP _ _ _ _ _ r0;have r1:=mP _ _ _ _ _ r1;have r2:=mP _ _ _ _ _ r2;have r3:=mP _ _ _ _ _ r3;have r4:=mP _ _ _ _ _ r4;have r5:=mP _ _ _ _ _ r5;have r6:=mP _ _ _ _ _ r6;refine ai.az λK hK=>?_;go_simp;exact hK _ _ ⟨_,rfl,Below.refl _ _,⟨_,_,_,_,_,_,_,_,_,rfl,HV.out⟩⟩
       ·refine ai.az λK hK=>?_;go_simp;exact hK _ _ ⟨_,rfl,aU _ _,⟨_,rfl,hB.size,heap_alloc_new _ _⟩⟩
       ·refine ai.az λK hK=>?_;go_simp;exact hK _ _ ⟨_,rfl,Below.refl _ _,rfl⟩
       ·have q0:a.tmps[139]?.getD undef=.pointer (some ⟨p1,8,none⟩):=ai.av (hd 13 (by decide));refine ai.az λK hK=>?_;go_simp;exact hK _ _ ⟨_,rfl,Below.refl _ _,rfl⟩
       ·refine ai.az λK hK=>?_;go_simp;exact hK _ _ ⟨_,rfl,Below.refl _ _,rfl⟩
       ·have q0:a.tmps[140]?.getD undef=.slice (some ⟨b1,aJ,none⟩) n8 k8:=ai.av (hd 14 (by decide));have q1:a.tmps[141]?.getD undef=.int .i64 j:=ai.av (hd 15 (by decide));refine ai.az λK hK=>?_;go_simp;exact hK _ _ ⟨_,rfl,Below.refl _ _,rfl⟩
       ·have q0:a.tmps[142]?.getD undef=.pointer (some ⟨b1,aJ+j*8,none⟩):=ai.av (hd 16 (by decide));refine ai.az λK hK=>?_;go_simp;exact hK _ _ ⟨_,rfl,Below.refl _ _,rfl⟩
       ·have q0:a.tmps[143]?.getD undef=.pointer (some ⟨b1,aJ+j*8+7,none⟩):=ai.av (hd 17 (by decide));refine ai.az λK hK=>?_;go_simp;exact hK _ _ ⟨_,rfl,Below.refl _ _,rfl⟩
       ·have qm:Mk wr.heap.size 3 (a.eval (.tmp 138)) w:=hd 12 (by decide);have qx:a.eval (.tmp 144)=.slice q7 y7 z7:=hd 18 (by decide);obtain ⟨i1,i2,i3⟩:=BF (BL.out.on hB);refine wA _ _ 28 rfl wr.heap.size 3 underlying28 BG (by decide) rfl qm rfl _ _ _ qx (ints x.funcs) i1 (by rw [Nat.mul_one,i2];exact oI ..) i3 (Al _) (by unfold maxLen;omega) (by omega) λv' w' ho hb=>⟨v',rfl,hb,?_⟩;rw [i2] at ho;exact ho
       ·obtain ⟨o4,m4,c4,o5,m5,c5,o6,m6,c6,hv,hV⟩:=(show (Ak wr.heap.size x.offset).1 (a.eval (.tmp 137)) w from hd 11 (by decide));have w1:w.ownsRow wr.heap.size 3 1 (a.eval (.tmp 145)) x.funcs.length (ints x.funcs):=hd 19 (by decide);obtain ⟨s1,r1,hs1⟩:=pq w1;rw [hs1] at w1;have mD:=aa (Pz hV (Dr w1 (by omega)));rw [DD] at mD;clear w1 hV;have t0:=ai.av hv;have t1:=ai.av hs1;refine ai.az λK hK=>?_;go_simp;exact hK _ _ ⟨_,rfl,Below.refl _ _,⟨_,_,_,_,_,_,_,_,rfl,mD.out⟩⟩
       obtain ⟨x0,x1,x2,x3,x4,x5,x6,x7,hv,hp⟩:=(show (Dm wr.heap.size (λR=>mO R d) x).1 (a.eval (.tmp 146)) w from hd 20 (by decide));have qv:=ai.av hv;have mD:=aa hp;clear hp hv;refine ai.az λK hK=>?_;go_simp;exact hK _ _ ⟨_,rfl,aU _ _,⟨_,[x0,x1,x2,x3,x4,x5,x6,x7],rfl,heap_alloc_new _ _,mD.out.sub (qw (aU _ _))⟩⟩
      case cH =>
       intro a w2 hF hB hG;have et:a.eval (.tmp 127)=.slice oT j cT:=hG 1 (by omega);obtain ⟨g,cs,hgv,oJ,hpc⟩:=(show (vu wr.heap.size 8 51 (λR=>mO R d) x).1 (a.eval (.tmp 147)) w2 from hG 21 (by omega));have e3:a.tmps[3]?.getD undef=.pointer (some ⟨b,0,none⟩):=ai.av (hF.eval 3 (λi hi=>by show 126+i≠3;omega));obtain ⟨ps,qQ,qR,nV,nW,qU⟩:=nT.out.below hB;have qV:=hpc.sub (BH (B:=u1.heap.size) (b:=b) (t:=.slice oT j cT) HST.out.below.size di.out.lt (λk hk=>(nT.out.lt k hk).2));have dR:=HST.out.keep (zk hB) (HST.out.below.trans (hB.mono HST.out.below.size));have gF:=di.out.on hB;simp only [fK,fB];refine PD hF rfl e3 et hgv oJ hpc.len hpc.one gF nV nW (by omega) dR.below.size λa' t' w9 qX ny jE lj=>?_;have nX:=aa (PE gF dR ps qQ qR nW qU eU.out qV nV ny jE lj);obtain ⟨xl,hxl,rfl,hev⟩:=qX.lit (by simp);obtain ⟨x0,x1,x2,x3,x4,x5,x6,x7,x8,x9,bZ,ez,eB,eC,eD,eF,eG,eH,eM,fF,gq,gS,iL,iM,rfl⟩:=PF hxl;clear hev hxl hF hG qX ny jE lj hpc qV dR gF qQ qR nV nW qU et hgv oJ e3 hB;simp only [iH,iI,fK,fB,iy,ed];go_wp2;go_roundw
       case rel=>exact ⟨j+1,by omega,by go_num,nX⟩
       case measure=>simp [intOf];omega
     obtain rfl:n8=j:=by omega
     clear di nT HST;obtain ⟨c8,ug⟩:=PG (iO ▸ jM.out) (by omega);have wB:=aa ug;clear ug jM;go_wp2_with fail;go_loopw [9] (λi wr=>∃j:Nat,j<=n9/\i=.int .i64 j/\Hid (DF u1 b m (.slice a1 n1 b1) (.slice a3 n3 b3) (.slice a4 n4 b4) (.slice a6 n6 b6) (.slice a7 n7 b7) c0 c2 c5 c8 j wr)) (λi _=>n9-(intOf i).toNat)
     case atStart=>exact ⟨0,by omega,rfl,wB⟩
     case round =>
      obtain ⟨j,hj,rfl,jM⟩:=hrel;obtain ⟨t,qN,nS,hSt⟩:=jM.out;obtain ⟨oT,cT,rfl⟩:=nS.slice;have di:=aa qN;have nT:=aa nS;have HST:=aa hSt;have kp:=(HP wr hSt.below).out.cell 9 _ rfl;clear qN nS hSt;by_cases hgo:j<n9
      ·obtain ⟨b1,aJ,gb,hv1,hx1⟩:=Row.some ig.out.ax (by omega);injection hv1 with cJ e11 e12;subst cJ;obtain ⟨x,hxk⟩:∃x,m.ax[j]?=some x:=⟨_,aY (by omega)⟩;have HX:=aa ((hx1 j x hxk).on HST.out.below);have eU:=aa hxk;clear hx1 hxk e11 e12;obtain ⟨⟨bN,cF,dn,jO,⟨v4,jP,dw⟩,⟨v5,jQ,dx⟩,⟨v6,jR,dz⟩⟩,nz⟩:=HX.out;obtain ⟨q4,z4,rfl⟩:=Row.len dw;obtain ⟨q5,z5,rfl⟩:=At.len d _ _ dx;obtain ⟨q6,z6,rfl⟩:=At.len d _ _ dz;have jX:=aa dw;have jc:=aa dx;have iP:=aa dz;obtain ⟨BJ,Py⟩:=HS.out.ax x (dK eU.out);clear dw dx dz;generalize oK:x.offset.labels.length=y4 at *;generalize oM:size d x.offset.body=y5 at *;generalize nC:size d x.offset.els=y6 at *;go_upto_region 23 with fail;clear jM ig HM HB2;refine ai.oH 20 (λi=>157+i) (λi=>(Je wr.heap.size b p1 j b1 aJ n9 k9 cT y4 z4 y5 z5 y6 z6 oT q4 q5 q6 x i).1) (by kernel_rfl) (by kernel_rfl) (λi j h1 h2 h=>by have h':157+i=157+j:=h;omega) (ai.kz (size:=180) (by kernel_rfl)) (λi v w w' _ h hb=>(Je wr.heap.size b p1 j b1 aJ n9 k9 cT y4 z4 y5 z5 y6 z6 oT q4 q5 q6 x i).2 v w w' h hb) ?hstep ?cH
       case hstep =>
        intro i o a w hi ho hF hB hd;have kb:=(di.out.on hB).cell 9 _ rfl;have kq:=(HP w (HST.out.below.trans (hB.mono HST.out.below.size))).out.cell 9 _ rfl;have qO:=aj hB bN;have qP:=aj hB cF;have rR:=aj hB dn;have zm:=aj hB jO;have zn:=aj hB jP;have zo:=aj hB jQ;have zq:=aj hB jR;have zr:=aj hB nz;have e1:a.tmps[1]?.getD undef=.pointer (some ⟨p1,0,none⟩):=ai.av (hF.eval 1 (λi hi=>by show 157+i≠1;omega));have e3:a.tmps[3]?.getD undef=.pointer (some ⟨b,0,none⟩):=ai.av (hF.eval 3 (λi hi=>by show 157+i≠3;omega));have e9:a.tmps[9]?.getD undef=.int .i64 j:=ai.av (hF.eval 9 (λi hi=>by show 157+i≠9;omega));have hcase:i=0\/i=1\/i=2\/i=3\/i=4\/i=5\/i=6\/i=7\/i=8\/i=9\/i=10\/i=11\/i=12\/i=13\/i=14\/i=15\/i=16\/i=17\/i=18\/i=19:=by omega
        clear hi;rcases hcase with rfl|rfl|rfl|rfl|rfl|rfl|rfl|rfl|rfl|rfl|rfl|rfl|rfl|rfl|rfl|rfl|rfl|rfl|rfl|rfl
        all_goals (simp only [fI,gX,gz,gA] at ho;subst ho)
        ·refine ai.az λK hK=>?_;go_simp;exact hK _ _ ⟨_,rfl,Below.refl _ _,rfl⟩
        ·have q0:a.tmps[157]?.getD undef=.pointer (some ⟨b,9,none⟩):=ai.av (hd 0 (by decide));refine ai.az λK hK=>?_;go_simp;exact hK _ _ ⟨_,rfl,Below.refl _ _,rfl⟩
        ·refine ai.az λK hK=>?_;go_simp;exact hK _ _ ⟨_,rfl,Below.refl _ _,rfl⟩
        ·have q0:a.tmps[159]?.getD undef=.pointer (some ⟨p1,9,none⟩):=ai.av (hd 2 (by decide));refine ai.az λK hK=>?_;go_simp;exact hK _ _ ⟨_,rfl,Below.refl _ _,rfl⟩
        ·refine ai.az λK hK=>?_;go_simp;exact hK _ _ ⟨_,rfl,Below.refl _ _,rfl⟩
        ·have q0:a.tmps[160]?.getD undef=.slice (some ⟨b1,aJ,none⟩) n9 k9:=ai.av (hd 3 (by decide));have q1:a.tmps[161]?.getD undef=.int .i64 j:=ai.av (hd 4 (by decide));refine ai.az λK hK=>?_;go_simp;exact hK _ _ ⟨_,rfl,Below.refl _ _,rfl⟩
        ·have q0:a.tmps[162]?.getD undef=.pointer (some ⟨b1,aJ+j*8,none⟩):=ai.av (hd 5 (by decide));refine ai.az λK hK=>?_;go_simp;exact hK _ _ ⟨_,rfl,Below.refl _ _,rfl⟩
        ·have q0:a.tmps[163]?.getD undef=.pointer (some ⟨b1,aJ+j*8,none⟩):=ai.av (hd 6 (by decide));refine ai.az λK hK=>?_;go_simp;exact hK _ _ ⟨_,rfl,Below.refl _ _,rfl⟩
        ·have q0:a.tmps[164]?.getD undef=.agg #[.int .i64 x.offset.op,.int .i64 x.offset.a,.int .i64 x.offset.b,.int .i64 x.offset.n,.slice q4 y4 z4,.slice q5 y5 z5,.slice q6 y6 z6]:=ai.av (hd 7 (by decide));have HO:=aa (Ft (jX.out.on hB) (At.on hB d _ _ jc.out) (At.on hB d _ _ iP.out));refine ai.az λK hK=>?_;go_simp;exact hK _ _ ⟨_,rfl,aU _ _,⟨_,rfl,HO.out⟩⟩
        ·obtain ⟨g,hv,hAt⟩:=(show (Ai x.offset).1 (a.eval (.tmp 165)) w from hd 8 (by decide));rw [hv] at hAt;have zl:=aa hAt;have q0:=ai.av hv;clear hv hAt;refine ai.az λK hK=>?_;have gY:=aa hK;clear hK;go_simp;refine (BI (d+1) _ [x.offset] w zl.out ⟨by simp,λy hy=>by rw [List.mem_singleton.1 hy];exact BJ⟩).mono ?_;rintro e w' ⟨v',rfl,hA,hb⟩;exact gY.out _ _ ⟨v',rfl,hb,Du hA hB.size⟩
        ·obtain ⟨g,o,cc,hv,hc⟩:=Row.some (show Row 7 _ (a.eval (.tmp 166)) [x.offset] from hd 9 (by decide)) (by simp);have HC:=aa (hc 0 _ rfl);have q0:=ai.av hv;simp only [bI,bP,Nat.zero_add] at q0;clear hv hc;refine ai.az λK hK=>?_;go_simp;exact hK _ _ ⟨_,rfl,Below.refl _ _,⟨g,o,rfl,by have:=HC.out;simpa using this⟩⟩
        ·obtain ⟨g,o,hv,hc⟩:=(show (Aj wr.heap.size x.offset).1 (a.eval (.tmp 167)) w from hd 10 (by decide));have q0:=ai.av hv;obtain ⟨r0,r1,r2,r3,⟨u4,r4,s4⟩,⟨u5,r5,s5⟩,⟨u6,r6,s6⟩⟩:=hc;obtain ⟨j4,l4,rfl⟩:=Row.len s4;obtain ⟨j5,l5,rfl⟩:=At.len d _ _ s5;obtain ⟨j6,l6,rfl⟩:=At.len d _ _ s6;have HV:=aa (tu.mk s4 s5 s6);rw [oK,oM,nC] at HV;clear hv s4 s5 s6;have r0:=mP _ _ _ _ _ r0;have r1:=mP _ _ _ _ _ r1;have r2:=mP _ _ _ _ _ r2;have r3:=mP _ _ _ _ _ r3;have r4:=mP _ _ _ _ _ r4;have r5:=mP _ _ _ _ _ r5;have r6:=mP _ _ _ _ _ r6;refine ai.az λK hK=>?_;go_simp;exact hK _ _ ⟨_,rfl,Below.refl _ _,⟨_,_,_,_,_,_,_,_,_,rfl,HV.out⟩⟩
        ·refine ai.az λK hK=>?_;go_simp;exact hK _ _ ⟨_,rfl,Below.refl _ _,rfl⟩
        ·have q0:a.tmps[169]?.getD undef=.pointer (some ⟨p1,9,none⟩):=ai.av (hd 12 (by decide));refine ai.az λK hK=>?_;go_simp;exact hK _ _ ⟨_,rfl,Below.refl _ _,rfl⟩
        ·refine ai.az λK hK=>?_;go_simp;exact hK _ _ ⟨_,rfl,Below.refl _ _,rfl⟩
        ·have q0:a.tmps[170]?.getD undef=.slice (some ⟨b1,aJ,none⟩) n9 k9:=ai.av (hd 13 (by decide));have q1:a.tmps[171]?.getD undef=.int .i64 j:=ai.av (hd 14 (by decide));refine ai.az λK hK=>?_;go_simp;exact hK _ _ ⟨_,rfl,Below.refl _ _,rfl⟩
        ·have q0:a.tmps[172]?.getD undef=.pointer (some ⟨b1,aJ+j*8,none⟩):=ai.av (hd 15 (by decide));refine ai.az λK hK=>?_;go_simp;exact hK _ _ ⟨_,rfl,Below.refl _ _,rfl⟩
        ·have q0:a.tmps[173]?.getD undef=.pointer (some ⟨b1,aJ+j*8+7,none⟩):=ai.av (hd 16 (by decide));refine ai.az λK hK=>?_;go_simp;exact hK _ _ ⟨_,rfl,Below.refl _ _,rfl⟩
        ·obtain ⟨o4,m4,c4,o5,m5,c5,o6,m6,c6,hv,hV⟩:=(show (Ak wr.heap.size x.offset).1 (a.eval (.tmp 168)) w from hd 11 (by decide));have t1:a.tmps[174]?.getD undef=.string x.bytes:=ai.av (hd 17 (by decide));have mD:=aa (PH hV);clear hV;have t0:=ai.av hv;refine ai.az λK hK=>?_;go_simp;exact hK _ _ ⟨_,rfl,Below.refl _ _,⟨_,_,_,_,_,_,_,_,rfl,mD.out⟩⟩
        obtain ⟨x0,x1,x2,x3,x4,x5,x6,x7,hv,hp⟩:=(show (Dm wr.heap.size (λR=>nR R d) x).1 (a.eval (.tmp 175)) w from hd 18 (by decide));have qv:=ai.av hv;have mD:=aa hp;clear hp hv;refine ai.az λK hK=>?_;go_simp;exact hK _ _ ⟨_,rfl,aU _ _,⟨_,[x0,x1,x2,x3,x4,x5,x6,x7],rfl,heap_alloc_new _ _,mD.out.sub (qw (aU _ _))⟩⟩
       case cH =>
        intro a w2 hF hB hG;have et:a.eval (.tmp 158)=.slice oT j cT:=hG 1 (by omega);obtain ⟨g,cs,hgv,oJ,hpc⟩:=(show (vu wr.heap.size 8 53 (λR=>nR R d) x).1 (a.eval (.tmp 176)) w2 from hG 19 (by omega));have e3:a.tmps[3]?.getD undef=.pointer (some ⟨b,0,none⟩):=ai.av (hF.eval 3 (λi hi=>by show 157+i≠3;omega));obtain ⟨ps,qQ,qR,nV,nW,qU⟩:=nT.out.below hB;have qV:=hpc.sub (BH (B:=u1.heap.size) (b:=b) (t:=.slice oT j cT) HST.out.below.size di.out.lt (λk hk=>(nT.out.lt k hk).2));have dR:=HST.out.keep (zk hB) (HST.out.below.trans (hB.mono HST.out.below.size));have gF:=di.out.on hB;simp only [fK,fB];refine PI hF rfl e3 et hgv oJ hpc.len hpc.one gF nV nW (by omega) dR.below.size λa' t' w9 qX ny jE lj=>?_;have nX:=aa (PK gF dR ps qQ qR nW qU eU.out qV nV ny jE lj);obtain ⟨xl,hxl,rfl,hev⟩:=qX.lit (by simp);obtain ⟨x0,x1,x2,x3,x4,x5,x6,x7,x8,x9,bZ,ez,eB,eC,eD,eF,eG,eH,eM,fF,gq,gS,rfl⟩:=Jl hxl;clear hev hxl hF hG qX ny jE lj hpc qV dR gF qQ qR nV nW qU et hgv oJ e3 hB;simp only [iH,iI,fK,fB,iy,ed];go_wp2;go_roundw
        case rel=>exact ⟨j+1,by omega,by go_num,nX⟩
        case measure=>simp [intOf];omega
      obtain rfl:n9=j:=by omega
      clear di nT HST;obtain ⟨c9,hK,_,hM1,Jo,Jp⟩:=Jq (w':=wr) (jb ▸ jM.out) (by omega) (λ_ _ _=>rfl);obtain ⟨e0,f0,rfl⟩:=Row.len hM1.types;obtain ⟨e2,f2,rfl⟩:=Row.len hM1.funcs;obtain ⟨e5,f5,rfl⟩:=Row.len hM1.globals;obtain ⟨e8,f8,rfl⟩:=Row.len hM1.elems;obtain ⟨e9,f9,rfl⟩:=Row.len hM1.ax;have hBel:Below u1.heap.size u1 wr:=by obtain ⟨t,_,_,hs⟩:=jM.out;exact hs.below
      have HR:=aa (HB2.out.on hBel);rw [hn0,gW,iS,iO,jb] at hK
      have wH:∀w2,Below wr.heap.size wr w2->da (qZ w2 (p1+1) (.slice e0 n0 f0) (.slice a1 n1 b1) (.slice e2 n2 f2) (.slice a3 n3 b3) (.slice a4 n4 b4) (.slice e5 n5 f5) (.slice a6 n6 b6) (.slice a7 n7 b7) (.slice e8 n8 f8) (.slice e9 n9 f9)) d (.slice e0 n0 f0) (.slice a1 n1 b1) (.slice e2 n2 f2) (.slice a3 n3 b3) (.slice a4 n4 b4) (.slice e5 n5 f5) (.slice a6 n6 b6) (.slice a7 n7 b7) (.slice e8 n8 f8) (.slice e9 n9 f9) m:=λw2 hb=>by
       obtain ⟨c9,hK',_,hM2,_,_⟩:=Jq (w':=qZ w2 (p1+1) (.slice e0 n0 f0) (.slice a1 n1 b1) (.slice e2 n2 f2) (.slice a3 n3 b3) (.slice a4 n4 b4) (.slice e5 n5 f5) (.slice a6 n6 b6) (.slice a7 n7 b7) (.slice e8 n8 f8) (.slice e9 n9 f9)) (jb ▸ jM.out) (by omega) (λk hk hk2=>by rw [Jr _ _ _ _ _ _ _ _ _ _ k (by omega),hb.block k hk2]);unfold bG at hK hK';rw [hK] at hK';rw [hn0,gW,iS,iO] at hK';have he:c9=.slice e9 n9 f9:=by simpa using hK'.symm
       rw [he] at hM2;rw [hn0,gW,iS,iO] at hM2;exact hM2
      have rT:=aa hK;have DG:=aa Jo;have DI:=aa Jp;clear hK hM1 jM ig HM HB2 Jo Jp;go_upto_region 24 with fail;refine ai.BK 1 (λi=>179+i) (λi=>(Jf e0 e2 e5 e8 e9 a1 a3 a4 a6 a7 n0 f0 n1 b1 n2 f2 n3 b3 n4 b4 n5 f5 n6 b6 n7 b7 n8 f8 n9 f9 i).1) ?hn (λi j h1 h2 h=>by have h':179+i=179+j:=h;omega) (ai.kz (size:=180) (by kernel_rfl)) (λi v w w' _ h hb=>(Jf e0 e2 e5 e8 e9 a1 a3 a4 a6 a7 n0 f0 n1 b1 n2 f2 n3 b3 n4 b4 n5 f5 n6 b6 n7 b7 n8 f8 n9 f9 i).2 v w w' h hb) ?hstep ?cH
      case hn=>simp
      case hstep =>
       intro i o a w hi ho hF hB hd;have kb0:=(rT.out.on hB).cell 0 _ rfl;have kb1:=(rT.out.on hB).cell 1 _ rfl;have kb2:=(rT.out.on hB).cell 2 _ rfl;have kb3:=(rT.out.on hB).cell 3 _ rfl;have kb4:=(rT.out.on hB).cell 4 _ rfl;have kb5:=(rT.out.on hB).cell 5 _ rfl;have kb6:=(rT.out.on hB).cell 6 _ rfl;have kb7:=(rT.out.on hB).cell 7 _ rfl;have kb8:=(rT.out.on hB).cell 8 _ rfl;have kb9:=(rT.out.on hB).cell 9 _ rfl;have e3:a.tmps[3]?.getD undef=.pointer (some ⟨b,0,none⟩):=ai.av (hF.eval 3 (λi hi=>by show 179+i≠3;omega));have hcase:i=0:=by omega
       clear hi;rcases hcase with rfl;simp only [fI,gz,gA] at ho;subst ho;refine ai.az λK hK=>?_;go_simp;exact hK _ _ ⟨_,rfl,Below.refl _ _,rfl⟩
      case cH =>
       intro a w2 hF hB hG;have Js:a.tmps[179]?.getD undef=.agg #[.slice e0 n0 f0,.slice a1 n1 b1,.slice e2 n2 f2,.slice a3 n3 b3,.slice a4 n4 b4,.slice e5 n5 f5,.slice a6 n6 b6,.slice a7 n7 b7,.slice e8 n8 f8,.slice e9 n9 f9]:=ai.av (show a.eval (.tmp 179)=_ from hG 0 (by omega));have h2:a.tmps[2]?.getD undef=.pointer (some ⟨p1+1,0,none⟩):=ai.av (hF.eval 2 (λi hi=>by show 179+i≠2;omega));have Fv:=HR.out.on hB;have HW:=aa (wH w2 hB);have PL:=aa (Fw ((HU.out.trans (hBel.mono (by omega))).trans (hB.mono (by have:=hBel.size;omega))) (Nat.le_succ p1) (.slice e0 n0 f0) (.slice a1 n1 b1) (.slice e2 n2 f2) (.slice a3 n3 b3) (.slice a4 n4 b4) (.slice e5 n5 f5) (.slice a6 n6 b6) (.slice a7 n7 b7) (.slice e8 n8 f8) (.slice e9 n9 f9));have PM:=aa (Fv.all (.slice e0 n0 f0) (.slice a1 n1 b1) (.slice e2 n2 f2) (.slice a3 n3 b3) (.slice a4 n4 b4) (.slice e5 n5 f5) (.slice a6 n6 b6) (.slice a7 n7 b7) (.slice e8 n8 f8) (.slice e9 n9 f9));simp only [fK,fB];refine wpList_plain rfl λK iT=>?_;refine Fq h2 Js Fv ?_;refine iT _ _ (wpList_nil ?_);clear iT Fv Js h2;generalize qZ w2 (p1+1) (.slice e0 n0 f0) (.slice a1 n1 b1) (.slice e2 n2 f2) (.slice a3 n3 b3) (.slice a4 n4 b4) (.slice e5 n5 f5) (.slice a6 n6 b6) (.slice a7 n7 b7) (.slice e8 n8 f8) (.slice e9 n9 f9)=wf at *;obtain ⟨xl,hxl,rfl,hev⟩:=hF.lit (by simp);obtain ⟨x0,rfl⟩:=OJ hxl;clear hev hxl hF hG hB wH hBel;simp only [iH,iI,fK,fB,iy,ed];go_wp2_with fail
       try simp only [Exit.inBlock,Exit.then]
       refine bodyPost_ret (PN rfl PM.out) rfl ?_;exact ⟨_,_,_,_,_,_,_,_,_,_,rfl,HW.out,by rw [hp1];exact PL.out,DG.out,DI.out⟩
end Go.Proofs.YtmfcojpjpgldhaaGreatDoor
