/- Texts that the claim needs. -/
import Derived.Test.YtmfcojpjpgldhaaGreatDoorQEBy2
import Derived.Test.YtmfcojpjpgldhaaGreatDoorQEBy0
import Derived.Test.YtmfcojpjpgldhaaGreatDoorQEBy6
import Derived.Deep.CutRange
namespace Go.Proofs.YtmfcojpjpgldhaaGreatDoor
open Go.RowKit aA Go.Proofs.Tryz
set_option linter.unusedVariables false
set_option maxRecDepth 100000
set_option maxHeartbeats 8000000
namespace aA
theorem Eu {w:World}:∀(k:Nat) (v:Value),sZ w k v->sZ w (k+1) v
 | 0,v,⟨l,⟨o,cap,hv⟩,_⟩=>by subst hv;exact Bw w _ o cap
 | k+1,v,⟨l,hA,hL⟩=>by
  have hR:Row 7 (fA w (At w k)) v l:=hA;have hB:Ag (Lb k) l:=hL;rcases hR with ⟨hl,⟨hnil,o,cap,rfl⟩|⟨b,off,cap,rfl,hx⟩⟩
  ·exact Bw w _ o cap
  refine IQ w (k+1) b off _ cap hB.1 λt ht=>?_;obtain ⟨x,hxt⟩:∃x,getElem? (coll:=List (Ins (IL k))) l t=some x:=⟨_,aY ht⟩;have hI:=hx t x hxt;obtain ⟨g1,g2,g3⟩:=hB.2 x (dK hxt);obtain ⟨v4,q4,i4⟩:=hI.labels;obtain ⟨v5,q5,a5⟩:=hI.body;obtain ⟨v6,q6,a6⟩:=hI.els;exact Fh hI.op hI.a hI.b hI.n q4 i4 g1 q5 q6 (Eu k v5 ⟨_,a5,g2⟩) (Eu k v6 ⟨_,a6,g3⟩)
theorem GG {w:World} {k b o:Nat} (h:Fit w k b o):Fit w (k+1) b o:=by
 obtain ⟨x,hI,g1,g2,g3⟩:=h;obtain ⟨v4,q4,i4⟩:=hI.labels;obtain ⟨v5,q5,a5⟩:=hI.body;obtain ⟨v6,q6,a6⟩:=hI.els;exact Fh hI.op hI.a hI.b hI.n q4 i4 g1 q5 q6 (Eu k v5 ⟨_,a5,g2⟩) (Eu k v6 ⟨_,a6,g3⟩)
theorem sZ.on {w w':World} (hb:Below w.heap.size w w') {k:Nat} {v:Value} (h:sZ w k v):sZ w' k v:=let ⟨l,a,b⟩:=h;⟨l,At.on hb k v l a,b⟩
theorem Fit.on {w w':World} (hb:Below w.heap.size w w') {k b o:Nat} (h:Fit w k b o):Fit w' k b o:=let ⟨z,a,b⟩:=h;⟨z,a.on hb (At.on hb k),b⟩
theorem GH {w:World} {k b o b' o':Nat} (h:Fit w k b' o') (hc:∀j,j<7->w.cell? ⟨b',o'+j,none⟩=w.cell? ⟨b,o+j,none⟩):Fit w k b o:=by
 obtain ⟨x,hI,g⟩:=h;obtain ⟨v4,q4,i4⟩:=hI.labels;obtain ⟨v5,q5,a5⟩:=hI.body;obtain ⟨v6,q6,a6⟩:=hI.els;exact ⟨x,⟨(hc 0 (by omega)).symm.trans hI.op,(hc 1 (by omega)).symm.trans hI.a,(hc 2 (by omega)).symm.trans hI.b,(hc 3 (by omega)).symm.trans hI.n,⟨v4,(hc 4 (by omega)).symm.trans q4,i4⟩,⟨v5,(hc 5 (by omega)).symm.trans q5,a5⟩,⟨v6,(hc 6 (by omega)).symm.trans q6,a6⟩⟩,g⟩
theorem GI {w:World} {k b off cap:Nat} (h:sZ w (k+1) (.slice (some ⟨b,off,none⟩) 1 cap)):Fit w k b off:=by
 obtain ⟨l,hA,hL⟩:=h;have hR:Row 7 (fA w (At w k)) (.slice (some ⟨b,off,none⟩) 1 cap) l:=hA;have hB:Ag (Lb k) l:=hL;rcases hR with ⟨hl,⟨hnil,o,cap',hv⟩|⟨b',off',cap',hv,hx⟩⟩
 ·injection hv with _ h2;omega
 injection hv with h1 h2;injection h1 with h1;injection h1 with h1 h3;subst h1;subst h3;obtain ⟨x,hx0⟩:∃x,getElem? (coll:=List (Ins (IL k))) l 0=some x:=⟨_,aY (by omega)⟩
 have:=hx 0 x hx0
 rw [Nat.zero_mul] at this;exact ⟨x,this,hB.2 x (dK hx0)⟩
def El {α:Type} (c:Nat) (f:Nat->Nat->α->Prop) (v:Value) (t:Nat):Prop:=∃b off n cap z,v=.slice (some ⟨b,off,none⟩) n cap/\f b (off+t*c) z
theorem El.imp {α:Type} {c:Nat} {f g:Nat->Nat->α->Prop} {v:Value} {t:Nat} (h:El c f v t) (hfg:∀b o z,f b o z->g b o z):El c g v t:=let ⟨b,off,n,cap,z,hv,hz⟩:=h;⟨b,off,n,cap,z,hv,hfg _ _ _ hz⟩
theorem Ev {α:Type} {c:Nat} {f:Nat->Nat->α->Prop} {o:Option Addr} {n cap:Nat} (hn:n<=9223372036854775807) (h:∀t,t<n->El c f (.slice o n cap) t):∃l:List α,l.length=n/\Row c f (.slice o n cap) l:=by
 by_cases h0:n=0
 ·subst h0;exact ⟨[],rfl,by simp,.inl ⟨rfl,o,cap,rfl⟩⟩
 obtain ⟨b,off,n',cap',z,hv,_⟩:=h 0 (by omega);injection hv with h1 h2 h3;subst h1
 obtain ⟨l,hl,hf⟩:=Fg n (λt z=>f b (off+t*c) z) λt ht=>by
  obtain ⟨b2,dZ,n2,cap2,z2,hv2,hz2⟩:=h t ht;injection hv2 with h1 _ _;injection h1 with h1;injection h1 with h1 h3;subst h1;subst h3;exact ⟨z2,hz2⟩
 exact ⟨l,hl,by omega,.inr ⟨b,off,cap,by rw [hl],hf⟩⟩
def GJ (x:FT):Prop:=x.params.length<=30010/\x.results.length<=30010
def zO {d:Nat} (x:Ins (IL d)):Prop:=x.labels.length<=15010/\Lb d x.body/\Lb d x.els
def Le {d:Nat} (x:gy d):Prop:=(x.locals.length<=150200/\wt d x.body<=1500)/\Lb d x.body
def Lf {d:Nat} (x:qq d):Prop:=zO x.offset/\x.funcs.length<=30010
def Lg {d:Nat} (x:Dat d):Prop:=zO x.offset/\x.bytes.size<=300000
structure Small {d:Nat} (m:Mod d):Prop where
 OO:m.types.length<=5000
 OP:m.imports.length<=5000
 OQ:m.funcs.length<=5000
 OT:m.tables.length<=5000
 OU:m.aD.length<=5000
 OV:m.globals.length<=5000
 OW:m.exports.length<=5000
 OY:m.elems.length<=5000
 OZ:m.ax.length<=5000
 OX:m.start.length<=5000
 types:∀x ∈ m.types,GJ x
 funcs:∀x ∈ m.funcs,Le x
 globals:∀x ∈ m.globals,zO x.init
 elems:∀x ∈ m.elems,Lf x
 ax:∀x ∈ m.ax,Lg x
def yG (w:World) (b o:Nat) (z:gy 81):Prop:=jW w 81 b o z/\Le z
def AZ (w:World) (b o:Nat) (z:qp 81):Prop:=mN w 81 b o z/\zO z.init
def zP (w:World) (b o:Nat) (z:qq 81):Prop:=mO w 81 b o z/\Lf z
def zQ (w:World) (b o:Nat) (z:Dat 81):Prop:=nR w 81 b o z/\Lg z
section On
variable {w w':World} (hb:Below w.heap.size w w')
include hb
theorem yG.on {b o:Nat} {z:gy 81} (h:yG w b o z):yG w' b o z:=⟨h.1.on hb,h.2⟩
theorem AZ.on {b o:Nat} {z:qp 81} (h:AZ w b o z):AZ w' b o z:=⟨h.1.on hb,h.2⟩
theorem zP.on {b o:Nat} {z:qq 81} (h:zP w b o z):zP w' b o z:=⟨h.1.on hb,h.2⟩
theorem zQ.on {b o:Nat} {z:Dat 81} (h:zQ w b o z):zQ w' b o z:=⟨h.1.on hb,h.2⟩
end On
theorem D6 {α:Type} (w:World) (f:Value->α->Prop) (t:TypeId) (b:Nat) (x:Ins α) (v4 v5 v6:Value) (hb:b=w.heap.size)
  (h4:Ints (w.alloc (.cells #[.int .i64 x.op,.int .i64 x.a,.int .i64 x.b,.int .i64 x.n,v4,v5,v6] t)) v4 x.labels) (h5:f v5 x.body) (h6:f v6 x.els) :
  fA (w.alloc (.cells #[.int .i64 x.op,.int .i64 x.a,.int .i64 x.b,.int .i64 x.n,v4,v5,v6] t)) f b 0 x:=by
 have hc:∀(i:Nat) (v:Value),#[Value.int .i64 x.op,.int .i64 x.a,.int .i64 x.b,.int .i64 x.n,v4,v5,v6][i]?=some v->(w.alloc (.cells #[.int .i64 x.op,.int .i64 x.a,.int .i64 x.b,.int .i64 x.n,v4,v5,v6] t)).cell? ⟨b,i,none⟩=some v:=λi v h=>by
  rw [World.cell?_alloc_at _ t _ _ hb];exact h
 exact ⟨hc _ _ rfl,hc _ _ rfl,hc _ _ rfl,hc _ _ rfl,⟨_,hc _ _ rfl,h4⟩,⟨_,hc _ _ rfl,h5⟩,⟨_,hc _ _ rfl,h6⟩⟩
theorem D5 {α:Type} (k:Nat) (f:Nat->Nat->α->Prop) (b cap:Nat) (x:α) (h:f b 0 x):Row k f (.slice (some ⟨b,0,none⟩) 1 cap) [x] :=
 ⟨by simp,.inr ⟨b,0,cap,rfl,λi y hi=>by
  match i,hi with
  | 0,hi=>simp at hi;subst hi;simpa using h
  | i+1,hi=>simp at hi⟩⟩
theorem mem_row {α:Type} {c:Nat} {f:Nat->Nat->α->Prop} {g:α->Prop} {v:Value} {l:List α} (h:Row c (λb o x=>f b o x/\g x) v l):∀x ∈ l,g x:=wQ h
theorem Ew {p:Nat->Prop} {j:Nat} (h:∀t,t<j->p t) (hj:p j):∀t,t<j+1->p t:=λt ht=>by
 by_cases h2:t<j
 ·exact h t h2
 obtain rfl:t=j:=by omega
 exact hj
end aA
def U4 {d:Nat} (v0 v1 v2 v3 v4 v5 v6 v7 v8 v9:Value) (m:Mod d) (w:World) (e:Ending) (w':World):Prop :=
 Below w.heap.size w w'/\(e=.returned (.bool true)\/(e=.returned (.bool false)/\∃m':Mod 81,da w' 81 v0 v1 v2 v3 v4 v5 v6 v7 v8 v9 m'/\Small m'/\m'.imports=m.imports/\m'.exports=m.exports))
theorem U5 (d:Nat) (v0 v1 v2 v3 v4 v5 v6 v7 v8 v9:Value) (m:Mod d) (w:World) (hM:da w d v0 v1 v2 v3 v4 v5 v6 v7 v8 v9 m) (hsz:∀x ∈ m.ax,x.bytes.size<=9223372036854775807) :
  Calls prog 4 #[.agg #[v0,v1,v2,v3,v4,v5,v6,v7,v8,v9]] w (U4 v0 v1 v2 v3 v4 v5 v6 v7 v8 v9 m w):=by
 have l0:=hM.types.1;have l1:=hM.imports.1;have l2:=hM.funcs.1;have l3:=hM.tables.1;have l4:=hM.aD.1;have l5:=hM.globals.1;have l6:=hM.exports.1;have l7:=hM.start.1;have l8:=hM.elems.1;have l9:=hM.ax.1;have HM:=cE hM;have HZ:=cE hsz;obtain ⟨o0,c0,rfl⟩:=Row.len hM.types;obtain ⟨o1,c1,rfl⟩:=Row.len hM.imports;obtain ⟨o2,c2,rfl⟩:=Row.len hM.funcs;obtain ⟨o3,c3,rfl⟩:=Row.len hM.tables;obtain ⟨o4,c4,rfl⟩:=Row.len hM.aD;obtain ⟨o5,c5,rfl⟩:=Row.len hM.globals;obtain ⟨o6,c6,rfl⟩:=Row.len hM.exports;obtain ⟨o7,c7,rfl⟩:=Row.len hM.start;obtain ⟨o8,c8,rfl⟩:=Row.len hM.elems;obtain ⟨o9,c9,rfl⟩:=Row.len hM.ax;have aT:=cE (dN.start w 32 (.slice o0 m.types.length c0) (.slice o1 m.imports.length c1) (.slice o2 m.funcs.length c2) (.slice o3 m.tables.length c3) (.slice o4 m.aD.length c4) (.slice o5 m.globals.length c5) (.slice o6 m.exports.length c6) (.slice o7 m.start.length c7) (.slice o8 m.elems.length c8) (.slice o9 m.ax.length c9));clear hM hsz;generalize hn0:m.types.length=n0 at *;generalize iK:m.imports.length=n1 at *;generalize gW:m.funcs.length=n2 at *;generalize ja:m.tables.length=n3 at *;generalize iG:m.aD.length=n4 at *;generalize iS:m.globals.length=n5 at *;generalize jD:m.exports.length=n6 at *;generalize iE:m.start.length=n7 at *;generalize iO:m.elems.length=n8 at *;generalize jb:m.ax.length=n9 at *;go_enter func4,ntmps4;go_upto_region 1 with fail;obtain ⟨wb,hwb⟩:∃wb,wb=w.alloc (.cells #[.slice o0 n0 c0,.slice o1 n1 c1,.slice o2 n2 c2,.slice o3 n3 c3,.slice o4 n4 c4,.slice o5 n5 c5,.slice o6 n6 c6,.slice o7 n7 c7,.slice o8 n8 c8,.slice o9 n9 c9] 32):=⟨_,rfl⟩;rw [<- hwb] at aT ⊢;clear hwb;obtain ⟨q0,q1,q2,q3,q4,q5,q6,q7,q8,q9,qb⟩:=aT.out;have QB:=cE qb;clear qb;obtain ⟨B,hB⟩:∃B:Bool,B=decide (5000<n0\/5000<n1\/5000<n2\/5000<n3\/5000<n4\/5000<n5\/5000<n6\/5000<n8\/5000<n9\/5000<n7):=⟨_,rfl⟩;have cZ:=cE hB;clear hB;go_cut [66] from 9 to 66 (λc wx=>c=.bool B/\wx=wb)
 case first =>
  by_cases g0:5000<n0
  ·obtain rfl:B=true:=cZ.out.trans (aC (by omega));have t0:decide ((5000:Int)<(n0:Int))=true:=aC (by omega);go_wp2_with fail
   go_meet
   exact ⟨rfl,rfl⟩
  have t0:decide ((5000:Int)<(n0:Int))=false:=au (by omega);by_cases g1:5000<n1
  ·obtain rfl:B=true:=cZ.out.trans (aC (by omega));have t1:decide ((5000:Int)<(n1:Int))=true:=aC (by omega);go_wp2_with fail
   go_meet
   exact ⟨rfl,rfl⟩
  have t1:decide ((5000:Int)<(n1:Int))=false:=au (by omega);by_cases g2:5000<n2
  ·obtain rfl:B=true:=cZ.out.trans (aC (by omega));have t2:decide ((5000:Int)<(n2:Int))=true:=aC (by omega);go_wp2_with fail
   go_meet
   exact ⟨rfl,rfl⟩
  have t2:decide ((5000:Int)<(n2:Int))=false:=au (by omega);by_cases g3:5000<n3
  ·obtain rfl:B=true:=cZ.out.trans (aC (by omega));have t3:decide ((5000:Int)<(n3:Int))=true:=aC (by omega);go_wp2_with fail
   go_meet
   exact ⟨rfl,rfl⟩
  have t3:decide ((5000:Int)<(n3:Int))=false:=au (by omega);by_cases g4:5000<n4
  ·obtain rfl:B=true:=cZ.out.trans (aC (by omega));have t4:decide ((5000:Int)<(n4:Int))=true:=aC (by omega);go_wp2_with fail
   go_meet
   exact ⟨rfl,rfl⟩
  have t4:decide ((5000:Int)<(n4:Int))=false:=au (by omega);by_cases g5:5000<n5
  ·obtain rfl:B=true:=cZ.out.trans (aC (by omega));have t5:decide ((5000:Int)<(n5:Int))=true:=aC (by omega);go_wp2_with fail
   go_meet
   exact ⟨rfl,rfl⟩
  have t5:decide ((5000:Int)<(n5:Int))=false:=au (by omega);by_cases g6:5000<n6
  ·obtain rfl:B=true:=cZ.out.trans (aC (by omega));have t6:decide ((5000:Int)<(n6:Int))=true:=aC (by omega);go_wp2_with fail
   go_meet
   exact ⟨rfl,rfl⟩
  have t6:decide ((5000:Int)<(n6:Int))=false:=au (by omega);by_cases g8:5000<n8
  ·obtain rfl:B=true:=cZ.out.trans (aC (by omega));have t8:decide ((5000:Int)<(n8:Int))=true:=aC (by omega);go_wp2_with fail
   go_meet
   exact ⟨rfl,rfl⟩
  have t8:decide ((5000:Int)<(n8:Int))=false:=au (by omega);by_cases g9:5000<n9
  ·obtain rfl:B=true:=cZ.out.trans (aC (by omega));have t9:decide ((5000:Int)<(n9:Int))=true:=aC (by omega);go_wp2_with fail
   go_meet
   exact ⟨rfl,rfl⟩
  have t9:decide ((5000:Int)<(n9:Int))=false:=au (by omega);by_cases g7:5000<n7
  ·obtain rfl:B=true:=cZ.out.trans (aC (by omega));have t7:decide ((5000:Int)<(n7:Int))=true:=aC (by omega);go_wp2_with fail
   go_meet
   exact ⟨rfl,rfl⟩
  have t7:decide ((5000:Int)<(n7:Int))=false:=au (by omega);obtain rfl:B=false:=cZ.out.trans (au (by omega));go_wp2_with fail
  go_meet
  exact ⟨rfl,rfl⟩
 obtain ⟨rfl,rfl⟩:=hcut;clear q0 q1 q2 q3 q4 q5 q6 q7 q8 q9;cases B with
 | true =>
  go_wp2;go_ret;exact ⟨QB.out,.inl rfl⟩
 | false =>
 have hB:¬ (5000<n0\/5000<n1\/5000<n2\/5000<n3\/5000<n4\/5000<n5\/5000<n6\/5000<n8\/5000<n9\/5000<n7):=of_decide_eq_false cZ.out.symm;have yE:Hid (n0<=5000/\n1<=5000/\n2<=5000/\n3<=5000/\n4<=5000/\n5<=5000/\n6<=5000/\n7<=5000/\n8<=5000/\n9<=5000):=cE (by omega);have g0:n0<=5000:=by omega
 have g2:n2<=5000:=by omega
 have g5:n5<=5000:=by omega
 have g8:n8<=5000:=by omega
 have g9:n9<=5000:=by omega
 clear hB cZ QB;go_wp2_with fail;go_loopw [3,4] (λc i wr=>∃(j:Nat) (n:Int),j<=n2/\i=.int .i64 j/\c=.int .i64 n/\0<=n/\n<=1500/\Hid (∀t,t<j->El 3 (yG wr) (.slice o2 n2 c2) t)/\Hid (dN w (.slice o0 n0 c0) (.slice o1 n1 c1) (.slice o2 n2 c2) (.slice o3 n3 c3) (.slice o4 n4 c4) (.slice o5 n5 c5) (.slice o6 n6 c6) (.slice o7 n7 c7) (.slice o8 n8 c8) (.slice o9 n9 c9) wr)) (λ_ i _=>n2-(intOf i).toNat)
 case atStart=>exact ⟨0,0,by omega,rfl,rfl,by omega,by omega,cE (λt ht=>by omega),aT⟩
 case round =>
  obtain ⟨j,n,hj,rfl,rfl,hn0,iK,HF,HS⟩:=hrel;by_cases hgo:j<n2
  ·obtain ⟨q0,q1,q2,q3,q4,q5,q6,q7,q8,q9,qb⟩:=HS.out;have QB:=cE qb;clear qb q0 q1 q3 q4 q5 q6 q7 q8 q9;obtain ⟨b,off,cap2,hv2,hx⟩:=Row.some ((HM.out.on QB.out).funcs) (by omega);injection hv2 with ho h2 h3;subst ho;obtain ⟨x,hxk⟩:∃x,m.funcs[j]?=some x:=⟨_,aY (by omega)⟩;have hI:=hx j x hxk;obtain ⟨vl,ql,il⟩:=hI.locals;obtain ⟨vb,Lh,ab⟩:=hI.body;have qt:=hI.type
   obtain ⟨ol,nl,cl,rfl,hnl⟩:∃ol nl cl,vl=.slice ol nl cl/\nl=x.locals.length:=by
    obtain ⟨ol,cl,h⟩:=Row.len il;exact ⟨ol,_,cl,h,rfl⟩
   have hlb:=il.1;rw [<- hnl] at hlb;obtain ⟨ob,nb,cb,rfl,hnb⟩:=At.wh _ _ _ ab;have hgood:-1<=gB d x.body 0 (n+(nl:Int) / 100)/\(gB d x.body 0 (n+(nl:Int) / 100)<=n+(nl:Int) / 100\/gB d x.body 0 (n+(nl:Int) / 100)<=1500)/\(0<=gB d x.body 0 (n+(nl:Int) / 100)->n+(nl:Int) / 100<=gB d x.body 0 (n+(nl:Int) / 100)):=zh d 0 x.body (n+(nl:Int) / 100) (by omega);have tP:=cE (Bz d _ x.body 0 (n+(nl:Int) / 100) ab (by omega));obtain ⟨r,hr⟩:∃r,r=gB d x.body 0 (n+(nl:Int) / 100):=⟨_,rfl⟩;rw [<- hr] at hgood tP
   have i1:∀k,Hid (Calls prog 10 #[.slice ob nb cb,.int .i64 0,.int .i64 (n+(nl:Int) / 100)] (wr.drewN k) λe w''=>e=.returned (.int .i64 r)/\∃n',w''=wr.drewN n'):=λk =>
    cE ((BA d _ x.body 0 (n+(nl:Int) / 100) (wr.drewN k) (At.on (yd wr k) _ _ _ ab) (by omega) (by omega) (by omega)).mono λe w' ⟨h1,h2⟩=>⟨by rw [h1,hr],k,h2⟩)
   have tQ:Hid (0<=r->r<=1500->El 3 (yG wr) (.slice (some ⟨b,off,none⟩) n2 c2) j):=cE (λh0 h1=>by
    obtain ⟨l',al,bl⟩:=tP.out h0;exact ⟨b,off,n2,c2,⟨x.type,x.locals,l'⟩,rfl,⟨hI.type,⟨_,ql,il⟩,⟨_,Lh,al⟩⟩,⟨by show x.locals.length<=150200;omega,by show wt 81 l'<=1500;have e1:=GK d 81 _ x.body l' ab al;have e2:=Li d x.body 0 (n+(nl:Int) / 100) (by omega) (by rw [<- hr];exact h0);rw [<- hr] at e2;omega⟩,bl⟩)
   clear hx hxk hI h2 h3 hnl hnb hr tP ab il;go_upto_region 7 with fail;go_quiet (first|(go_at_call 10;exact (i1 _).out))
   have pK:=cE (yd wr nq);generalize wr.drewN nq=wq at *;by_cases hr0:r<0
   ·go_wp2;go_ret;exact ⟨db QB.out pK.out,.inl rfl⟩
   by_cases hr1:1500<r
   ·go_wp2;go_ret;exact ⟨db QB.out pK.out,.inl rfl⟩
   have pJ:=cE (Ew (λt ht=>(HF.out t ht).imp λ_ _ _=>yG.on pK.out) ((tQ.out (by omega) (by omega)).imp λ_ _ _=>yG.on pK.out));have aX:=cE (HS.out.on pK.out);clear i1 tQ HF HS q2 ql Lh qt hgood;go_wp2;go_roundw
   case rel=>exact ⟨j+1,r,by omega,by go_num,rfl,by omega,by omega,pJ,aX⟩
   case measure=>simp [intOf];omega
  obtain rfl:n2=j:=by omega
  obtain ⟨w1,rfl⟩:∃w1,w1=wr:=⟨_,rfl⟩;have F1:=HF;have B1:=cE HS.out.aL;obtain ⟨q0,q1,q2,q3,q4,q5,q6,q7,q8,q9,qb⟩:=HS.out;clear qb q0 q1 q3 q4 q5 q6 q7 q8 q9;clear HF;go_wp2_with fail;clear q2;obtain ⟨nA,rfl⟩:∃nA,nA=n:=⟨_,rfl⟩;go_loopw [3,5] (λc i wr=>∃(j:Nat) (n:Int),j<=n0/\i=.int .i64 j/\c=.int .i64 n/\0<=n/\n<=3000/\Hid (∀t x,t<j->m.types[t]?=some x->GJ x)/\Hid (dN w (.slice o0 n0 c0) (.slice o1 n1 c1) (.slice o2 n2 c2) (.slice o3 n3 c3) (.slice o4 n4 c4) (.slice o5 n5 c5) (.slice o6 n6 c6) (.slice o7 n7 c7) (.slice o8 n8 c8) (.slice o9 n9 c9) wr)/\Hid (Below w1.heap.size w1 wr)) (λ_ i _=>n0-(intOf i).toNat)
  case atStart=>exact ⟨0,nA,by omega,rfl,rfl,by omega,by omega,cE (λt x ht=>by omega),HS,cE (Below.refl _ _)⟩
  case round =>
   obtain ⟨j2,n,hj2,rfl,rfl,hm0,hm1,HF,uM,HP⟩:=hrel;by_cases hgo:j2<n0
   ·obtain ⟨q0,q1,q2,q3,q4,q5,q6,q7,q8,q9,qb⟩:=uM.out;have QB:=cE qb;clear qb q1 q2 q3 q4 q5 q6 q7 q8 q9;obtain ⟨b,off,cap2,hv2,hx⟩:=Row.some ((HM.out.on QB.out).types) (by omega);injection hv2 with ho h2 h3;subst ho;obtain ⟨x,hxk⟩:∃x,m.types[j2]?=some x:=⟨_,aY (by omega)⟩;have hI:=hx j2 x hxk;obtain ⟨vl,ql,il⟩:=hI.params;obtain ⟨vr,qr,ir⟩:=hI.results
    obtain ⟨ol,nl,cl,rfl,hnl⟩:∃ol nl cl,vl=.slice ol nl cl/\nl=x.params.length:=by
     obtain ⟨ol,cl,h⟩:=Row.len il;exact ⟨ol,_,cl,h,rfl⟩
    obtain ⟨or,nr,cr,rfl,hnr⟩:∃ol nl cl,vr=.slice ol nl cl/\nl=x.results.length:=by
     obtain ⟨ol,cl,h⟩:=Row.len ir;exact ⟨ol,_,cl,h,rfl⟩
    have hlb:=il.1;have hrb:=ir.1;rw [<- hnl] at hlb;rw [<- hnr] at hrb
    have GL:Hid (n+((nl:Int) / 10+(nr:Int) / 10)<=3000->∀t y,t<j2+1->m.types[t]?=some y->GJ y):=cE (λh t y ht hy=>by
     by_cases h2:t<j2
     ·exact HF.out t y h2 hy
     obtain rfl:t=j2:=by omega
     obtain rfl:x=y:=Option.some.inj (hxk.symm.trans hy);exact ⟨by omega,by omega⟩)
    clear hx hxk hI h2 h3 hnl hnr il ir HF;go_upto_region 13 with fail;go_quiet (fail);have pK:=cE (yd wr nq);generalize wr.drewN nq=wq at *;obtain ⟨r,hr⟩:∃r,r=n+((nl:Int) / 10+(nr:Int) / 10):=⟨_,rfl⟩;rw [<- hr] at GL ⊢;have hr0:0<=r:=by omega
    have U6:r<=4611686018427387904:=by omega
    clear hr;by_cases hr1:3000<r
    ·go_wp2;go_ret;exact ⟨db QB.out pK.out,.inl rfl⟩
    have pJ:=cE (GL.out (by omega));have aX:=cE (uM.out.on pK.out);have fq:=cE (db HP.out pK.out);clear GL uM q0 ql qr HP;go_wp2;go_roundw
    case rel=>exact ⟨j2+1,r,by omega,by go_num,rfl,by omega,by omega,pJ,aX,fq⟩
    case measure=>simp [intOf];omega
   obtain rfl:n0=j2:=by omega
   obtain ⟨w2,rfl⟩:∃w2,w2=wr:=⟨_,rfl⟩;have F2:=HF;have B2:=HP;obtain ⟨q0,q1,q2,q3,q4,q5,q6,q7,q8,q9,qb⟩:=uM.out;clear qb q1 q2 q3 q4 q5 q6 q7 q8 q9;clear HF HP HS;go_wp2_with fail;clear q0;obtain ⟨nA,rfl⟩:∃nA,nA=n:=⟨_,rfl⟩;go_loopw [3,6] (λc i wr=>∃(j:Nat) (n:Int),j<=n8/\i=.int .i64 j/\c=.int .i64 n/\0<=n/\n<=3000/\Hid (∀t,t<j->El 8 (zP wr) (.slice o8 n8 c8) t)/\Hid (dN w (.slice o0 n0 c0) (.slice o1 n1 c1) (.slice o2 n2 c2) (.slice o3 n3 c3) (.slice o4 n4 c4) (.slice o5 n5 c5) (.slice o6 n6 c6) (.slice o7 n7 c7) (.slice o8 n8 c8) (.slice o9 n9 c9) wr)/\Hid (Below w2.heap.size w2 wr)) (λ_ i _=>n8-(intOf i).toNat)
   case atStart=>exact ⟨0,nA,by omega,rfl,rfl,by omega,by omega,cE (λt ht=>by omega),uM,cE (Below.refl _ _)⟩
   case round =>
    obtain ⟨j3,n,hj,rfl,rfl,hm0,hm1,HF,HS,HP⟩:=hrel;by_cases hgo:j3<n8
    ·obtain ⟨q0,q1,q2,q3,q4,q5,q6,q7,q8,q9,qb⟩:=HS.out;have QB:=cE qb;clear qb q0 q1 q2 q3 q4 q5 q6 q7 q9;obtain ⟨b,off,cap2,hv2,hx⟩:=Row.some ((HM.out.on QB.out).elems) (by omega);injection hv2 with ho h2 h3;subst ho;obtain ⟨x,hxk⟩:∃x,m.elems[j3]?=some x:=⟨_,aY (by omega)⟩;have hI:=hx j3 x hxk;obtain ⟨vf,k7,jf⟩:=hI.funcs
     obtain ⟨fo,fn,fc,rfl,hfn⟩:∃ol nl cl,vf=.slice ol nl cl/\nl=x.funcs.length:=by
      obtain ⟨ol,cl,h⟩:=Row.len jf;exact ⟨ol,_,cl,h,rfl⟩
     have zi:=jf.1;rw [<- hfn] at zi;obtain ⟨g0,g1,g2,g3,⟨lv,g4,a4⟩,⟨bv,g5,a5⟩,⟨ev,g6,a6⟩⟩:=hI.offset;have k0:wr.cell? ⟨b,off+j3*8,none⟩=_:=g0;have k1:wr.cell? ⟨b,off+j3*8+1,none⟩=_:=g1;have k2:wr.cell? ⟨b,off+j3*8+2,none⟩=_:=g2;have k3:wr.cell? ⟨b,off+j3*8+3,none⟩=_:=g3;have k4:wr.cell? ⟨b,off+j3*8+4,none⟩=_:=g4;have k5:wr.cell? ⟨b,off+j3*8+5,none⟩=_:=g5;have k6:wr.cell? ⟨b,off+j3*8+6,none⟩=_:=g6
     obtain ⟨lo,ln,lc,rfl,tZ⟩:∃ol nl cl,lv=.slice ol nl cl/\nl=x.offset.labels.length:=by
      obtain ⟨ol,cl,h⟩:=Row.len a4;exact ⟨ol,_,cl,h,rfl⟩
     obtain ⟨bo,bn,bc,rfl,hbn⟩:=At.wh _ _ _ a5;obtain ⟨eo,en,ec,rfl,hen⟩:=At.wh _ _ _ a6;obtain ⟨u,hu⟩:∃u,u=wr.alloc (.cells #[.int .i64 x.offset.op,.int .i64 x.offset.a,.int .i64 x.offset.b,.int .i64 x.offset.n,.slice lo ln lc,.slice bo bn bc,.slice eo en ec] 49):=⟨_,rfl⟩;have gp:Below wr.heap.size wr u:=by rw [hu];exact (Below.refl _ wr).alloc (aI _) _
     have hIn:fA u (At u d) wr.heap.size 0 x.offset:=by
      rw [hu];rw [hu] at gp;exact D6 wr _ 49 _ x.offset _ _ _ rfl (a4.on gp) (At.on gp _ _ _ a5) (At.on gp _ _ _ a6)
     have hAt:At u (d+1) (.slice (some ⟨wr.heap.size,0,none⟩) 1 1) ([x.offset]:List (Ins (IL d))):=D5 _ _ _ _ _ hIn;have hgood:-1<=gB (d+1) ([x.offset]:List (Ins (IL d))) 0 0:=(zh (d+1) 0 ([x.offset]:List (Ins (IL d))) 0 (by omega)).1;have tP:=Bz (d+1) _ ([x.offset]:List (Ins (IL d))) 0 0 hAt (by omega);have HC:=cE (BA (d+1) _ ([x.offset]:List (Ins (IL d))) 0 0 u hAt (by omega) (by omega) (by omega));generalize gB (d+1) ([x.offset]:List (Ins (IL d))) 0 0=r at *
     have yH:Hid (0<=r->∃z:Ins (IL 81),fA u (At u 81) b (off+j3*8) z/\zO z):=cE (λh0=>by
      have hf:=GH (b:=b) (o:=off+j3*8) (GI (tP h0)) λi hi=>by
       match i,hi with
       | 0,_=>exact hIn.op.trans (aj gp g0).symm
       | 1,_=>exact hIn.a.trans (aj gp g1).symm
       | 2,_=>exact hIn.b.trans (aj gp g2).symm
       | 3,_=>exact hIn.n.trans (aj gp g3).symm
       | 4,_=>rw [hu];exact (World.cell?_alloc_at _ _ _ _ rfl).trans (by rw [<- hu];exact (aj gp g4).symm)
       | 5,_=>rw [hu];exact (World.cell?_alloc_at _ _ _ _ rfl).trans (by rw [<- hu];exact (aj gp g5).symm)
       | 6,_=>rw [hu];exact (World.cell?_alloc_at _ _ _ _ rfl).trans (by rw [<- hu];exact (aj gp g6).symm)
      obtain ⟨z,z1,z2⟩:=GG hf;exact ⟨z,z1,z2⟩)
     have tQ:Hid (0<=r->n+(fn:Int) / 10<=3000->El 8 (zP u) (.slice (some ⟨b,off,none⟩) n8 c8) j3):=cE (λh0 h1=>by
      obtain ⟨z,z1,z2⟩:=yH.out h0;exact ⟨b,off,n8,c8,⟨z,x.funcs⟩,rfl,⟨z1,⟨_,aj gp k7,jf.on gp⟩⟩,z2,by show x.funcs.length<=30010;omega⟩)
     have rQ:=cE gp;have HU:=cE hu;clear hx hxk hI h2 h3 a4 a5 a6 g0 g1 g2 g3 g4 g5 g6 tP yH hAt hIn gp hu tZ hbn hen hfn jf;go_upto_region 20 with fail;obtain ⟨A7,Lj⟩:∃A7,A7=n+(fn:Int) / 10:=⟨_,rfl⟩;rw [<- Lj] at tQ ⊢;have hr3:0<=A7:=by omega
     have U6:A7<=4611686018427387904:=by omega
     clear Lj;by_cases hr1:3000<A7
     ·go_wp2;go_ret;exact ⟨QB.out,.inl rfl⟩
     go_wp2_with fail;rw [<- HU.out];refine HC.out.mono ?_;rintro e w'' ⟨rfl,hw''⟩;obtain rfl:u=w'':=hw''.symm;by_cases hr0:r<0
     ·go_wp2;go_ret;exact ⟨db QB.out rQ.out,.inl rfl⟩
     have pJ:=cE (Ew (λt ht=>(HF.out t ht).imp λ_ _ _=>zP.on rQ.out) (tQ.out (by omega) (by omega)));have aX:=cE (HS.out.on rQ.out);have fq:=cE (db HP.out rQ.out);clear tQ HF HS HP HC HU q8 k0 k1 k2 k3 k4 k5 k6 k7;go_wp2;go_roundw
     case rel=>exact ⟨j3+1,A7,by omega,by go_num,rfl,by omega,by omega,pJ,aX,fq⟩
     case measure=>simp [intOf];omega
    obtain rfl:n8=j3:=by omega
    obtain ⟨w3,rfl⟩:∃w3,w3=wr:=⟨_,rfl⟩;have F3:=HF;have B3:=HP;have uM:=HS;obtain ⟨q0,q1,q2,q3,q4,q5,q6,q7,q8,q9,qb⟩:=HS.out;clear qb q0 q1 q2 q3 q4 q5 q6 q7 q9;clear HF HP HS;go_wp2_with fail;clear q8;go_loopw [7] (λi wr=>∃j:Nat,j<=n9/\i=.int .i64 j/\Hid (∀t,t<j->El 8 (zQ wr) (.slice o9 n9 c9) t)/\Hid (dN w (.slice o0 n0 c0) (.slice o1 n1 c1) (.slice o2 n2 c2) (.slice o3 n3 c3) (.slice o4 n4 c4) (.slice o5 n5 c5) (.slice o6 n6 c6) (.slice o7 n7 c7) (.slice o8 n8 c8) (.slice o9 n9 c9) wr)/\Hid (Below w3.heap.size w3 wr)) (λi _=>n9-(intOf i).toNat)
    case atStart=>exact ⟨0,by omega,rfl,cE (λt ht=>by omega),uM,cE (Below.refl _ _)⟩
    case round =>
     obtain ⟨j4,hj,rfl,HF,HS,HP⟩:=hrel;by_cases hgo:j4<n9
     ·obtain ⟨q0,q1,q2,q3,q4,q5,q6,q7,q8,q9,qb⟩:=HS.out;have QB:=cE qb;clear qb q0 q1 q2 q3 q4 q5 q6 q7 q8;obtain ⟨b,off,cap2,hv2,hx⟩:=Row.some ((HM.out.on QB.out).ax) (by omega);injection hv2 with ho h2 h3;subst ho;obtain ⟨x,hxk⟩:∃x,m.ax[j4]?=some x:=⟨_,aY (by omega)⟩;have hI:=hx j4 x hxk;have k7:=hI.bytes;have hzb:=HZ.out x (dK hxk);obtain ⟨g0,g1,g2,g3,⟨lv,g4,a4⟩,⟨bv,g5,a5⟩,⟨ev,g6,a6⟩⟩:=hI.offset;have k0:wr.cell? ⟨b,off+j4*8,none⟩=_:=g0;have k1:wr.cell? ⟨b,off+j4*8+1,none⟩=_:=g1;have k2:wr.cell? ⟨b,off+j4*8+2,none⟩=_:=g2;have k3:wr.cell? ⟨b,off+j4*8+3,none⟩=_:=g3;have k4:wr.cell? ⟨b,off+j4*8+4,none⟩=_:=g4;have k5:wr.cell? ⟨b,off+j4*8+5,none⟩=_:=g5;have k6:wr.cell? ⟨b,off+j4*8+6,none⟩=_:=g6
      obtain ⟨lo,ln,lc,rfl,tZ⟩:∃ol nl cl,lv=.slice ol nl cl/\nl=x.offset.labels.length:=by
       obtain ⟨ol,cl,h⟩:=Row.len a4;exact ⟨ol,_,cl,h,rfl⟩
      obtain ⟨bo,bn,bc,rfl,hbn⟩:=At.wh _ _ _ a5;obtain ⟨eo,en,ec,rfl,hen⟩:=At.wh _ _ _ a6;obtain ⟨u,hu⟩:∃u,u=wr.alloc (.cells #[.int .i64 x.offset.op,.int .i64 x.offset.a,.int .i64 x.offset.b,.int .i64 x.offset.n,.slice lo ln lc,.slice bo bn bc,.slice eo en ec] 49):=⟨_,rfl⟩;have gp:Below wr.heap.size wr u:=by rw [hu];exact (Below.refl _ wr).alloc (aI _) _
      have hIn:fA u (At u d) wr.heap.size 0 x.offset:=by
       rw [hu];rw [hu] at gp;exact D6 wr _ 49 _ x.offset _ _ _ rfl (a4.on gp) (At.on gp _ _ _ a5) (At.on gp _ _ _ a6)
      have hAt:At u (d+1) (.slice (some ⟨wr.heap.size,0,none⟩) 1 1) ([x.offset]:List (Ins (IL d))):=D5 _ _ _ _ _ hIn;have hgood:-1<=gB (d+1) ([x.offset]:List (Ins (IL d))) 0 0:=(zh (d+1) 0 ([x.offset]:List (Ins (IL d))) 0 (by omega)).1;have tP:=Bz (d+1) _ ([x.offset]:List (Ins (IL d))) 0 0 hAt (by omega);have HC:=cE (BA (d+1) _ ([x.offset]:List (Ins (IL d))) 0 0 u hAt (by omega) (by omega) (by omega));generalize gB (d+1) ([x.offset]:List (Ins (IL d))) 0 0=r at *
      have yH:Hid (0<=r->∃z:Ins (IL 81),fA u (At u 81) b (off+j4*8) z/\zO z):=cE (λh0=>by
       have hf:=GH (b:=b) (o:=off+j4*8) (GI (tP h0)) λi hi=>by
        match i,hi with
        | 0,_=>exact hIn.op.trans (aj gp g0).symm
        | 1,_=>exact hIn.a.trans (aj gp g1).symm
        | 2,_=>exact hIn.b.trans (aj gp g2).symm
        | 3,_=>exact hIn.n.trans (aj gp g3).symm
        | 4,_=>rw [hu];exact (World.cell?_alloc_at _ _ _ _ rfl).trans (by rw [<- hu];exact (aj gp g4).symm)
        | 5,_=>rw [hu];exact (World.cell?_alloc_at _ _ _ _ rfl).trans (by rw [<- hu];exact (aj gp g5).symm)
        | 6,_=>rw [hu];exact (World.cell?_alloc_at _ _ _ _ rfl).trans (by rw [<- hu];exact (aj gp g6).symm)
       obtain ⟨z,z1,z2⟩:=GG hf;exact ⟨z,z1,z2⟩)
      have tQ:Hid (0<=r->x.bytes.size<=300000->El 8 (zQ u) (.slice (some ⟨b,off,none⟩) n9 c9) j4):=cE (λh0 h1=>by
       obtain ⟨z,z1,z2⟩:=yH.out h0;exact ⟨b,off,n9,c9,⟨z,x.bytes⟩,rfl,⟨z1,aj gp k7⟩,z2,h1⟩)
      have rQ:=cE gp;have HU:=cE hu;clear hx hxk hI h2 h3 a4 a5 a6 g0 g1 g2 g3 g4 g5 g6 tP yH hAt hIn gp hu tZ hbn hen;by_cases hr1:300000<x.bytes.size
      ·go_wp2;go_ret;exact ⟨QB.out,.inl rfl⟩
      go_wp2_with fail;rw [<- HU.out];refine HC.out.mono ?_;rintro e w'' ⟨rfl,hw''⟩;obtain rfl:u=w'':=hw''.symm;by_cases hr0:r<0
      ·go_wp2;go_ret;exact ⟨db QB.out rQ.out,.inl rfl⟩
      have pJ:=cE (Ew (λt ht=>(HF.out t ht).imp λ_ _ _=>zQ.on rQ.out) (tQ.out (by omega) (by omega)));have aX:=cE (HS.out.on rQ.out);have fq:=cE (db HP.out rQ.out);clear tQ HF HS HP HC HU q9 k0 k1 k2 k3 k4 k5 k6 k7;go_wp2;go_roundw
      case rel=>exact ⟨j4+1,by omega,by go_num,pJ,aX,fq⟩
      case measure=>simp [intOf];omega
     obtain rfl:n9=j4:=by omega
     obtain ⟨w4,rfl⟩:∃w4,w4=wr:=⟨_,rfl⟩;have F4:=HF;have B4:=HP;have uM:=HS;obtain ⟨q0,q1,q2,q3,q4,q5,q6,q7,q8,q9,qb⟩:=HS.out;clear qb q0 q1 q2 q3 q4 q5 q6 q7 q8;clear HF HP HS;go_wp2_with fail;clear q9;go_loopw [8] (λi wr=>∃j:Nat,j<=n5/\i=.int .i64 j/\Hid (∀t,t<j->El 9 (AZ wr) (.slice o5 n5 c5) t)/\Hid (dN w (.slice o0 n0 c0) (.slice o1 n1 c1) (.slice o2 n2 c2) (.slice o3 n3 c3) (.slice o4 n4 c4) (.slice o5 n5 c5) (.slice o6 n6 c6) (.slice o7 n7 c7) (.slice o8 n8 c8) (.slice o9 n9 c9) wr)/\Hid (Below w4.heap.size w4 wr)) (λi _=>n5-(intOf i).toNat)
     case atStart=>exact ⟨0,by omega,rfl,cE (λt ht=>by omega),uM,cE (Below.refl _ _)⟩
     case round =>
      obtain ⟨j5,hj,rfl,HF,HS,HP⟩:=hrel;by_cases hgo:j5<n5
      ·obtain ⟨q0,q1,q2,q3,q4,q5,q6,q7,q8,q9,qb⟩:=HS.out;have QB:=cE qb;clear qb q0 q1 q2 q3 q4 q6 q7 q8 q9;obtain ⟨b,off,cap2,hv2,hx⟩:=Row.some ((HM.out.on QB.out).globals) (by omega);injection hv2 with ho h2 h3;subst ho;obtain ⟨x,hxk⟩:∃x,m.globals[j5]?=some x:=⟨_,aY (by omega)⟩;have hI:=hx j5 x hxk;have k0:=hI.type;have k1:=hI.jL;obtain ⟨g0,g1,g2,g3,⟨lv,g4,a4⟩,⟨bv,g5,a5⟩,⟨ev,g6,a6⟩⟩:=hI.init;have k2:wr.cell? ⟨b,off+j5*9+2,none⟩=_:=g0;have k3:wr.cell? ⟨b,off+j5*9+3,none⟩=_:=g1;have k4:wr.cell? ⟨b,off+j5*9+4,none⟩=_:=g2;have k5:wr.cell? ⟨b,off+j5*9+5,none⟩=_:=g3;have k6:wr.cell? ⟨b,off+j5*9+6,none⟩=_:=g4;have k7:wr.cell? ⟨b,off+j5*9+7,none⟩=_:=g5;have k8:wr.cell? ⟨b,off+j5*9+8,none⟩=_:=g6
       obtain ⟨lo,ln,lc,rfl,tZ⟩:∃ol nl cl,lv=.slice ol nl cl/\nl=x.init.labels.length:=by
        obtain ⟨ol,cl,h⟩:=Row.len a4;exact ⟨ol,_,cl,h,rfl⟩
       obtain ⟨bo,bn,bc,rfl,hbn⟩:=At.wh _ _ _ a5;obtain ⟨eo,en,ec,rfl,hen⟩:=At.wh _ _ _ a6;obtain ⟨u,hu⟩:∃u,u=wr.alloc (.cells #[.int .i64 x.init.op,.int .i64 x.init.a,.int .i64 x.init.b,.int .i64 x.init.n,.slice lo ln lc,.slice bo bn bc,.slice eo en ec] 49):=⟨_,rfl⟩;have gp:Below wr.heap.size wr u:=by rw [hu];exact (Below.refl _ wr).alloc (aI _) _
       have hIn:fA u (At u d) wr.heap.size 0 x.init:=by
        rw [hu];rw [hu] at gp;exact D6 wr _ 49 _ x.init _ _ _ rfl (a4.on gp) (At.on gp _ _ _ a5) (At.on gp _ _ _ a6)
       have hAt:At u (d+1) (.slice (some ⟨wr.heap.size,0,none⟩) 1 1) ([x.init]:List (Ins (IL d))):=D5 _ _ _ _ _ hIn;have hgood:-1<=gB (d+1) ([x.init]:List (Ins (IL d))) 0 0:=(zh (d+1) 0 ([x.init]:List (Ins (IL d))) 0 (by omega)).1;have tP:=Bz (d+1) _ ([x.init]:List (Ins (IL d))) 0 0 hAt (by omega);have HC:=cE (BA (d+1) _ ([x.init]:List (Ins (IL d))) 0 0 u hAt (by omega) (by omega) (by omega));generalize gB (d+1) ([x.init]:List (Ins (IL d))) 0 0=r at *
       have yH:Hid (0<=r->∃z:Ins (IL 81),fA u (At u 81) b (off+j5*9+2) z/\zO z):=cE (λh0=>by
        have hf:=GH (b:=b) (o:=off+j5*9+2) (GI (tP h0)) λi hi=>by
         match i,hi with
         | 0,_=>exact hIn.op.trans (aj gp g0).symm
         | 1,_=>exact hIn.a.trans (aj gp g1).symm
         | 2,_=>exact hIn.b.trans (aj gp g2).symm
         | 3,_=>exact hIn.n.trans (aj gp g3).symm
         | 4,_=>rw [hu];exact (World.cell?_alloc_at _ _ _ _ rfl).trans (by rw [<- hu];exact (aj gp g4).symm)
         | 5,_=>rw [hu];exact (World.cell?_alloc_at _ _ _ _ rfl).trans (by rw [<- hu];exact (aj gp g5).symm)
         | 6,_=>rw [hu];exact (World.cell?_alloc_at _ _ _ _ rfl).trans (by rw [<- hu];exact (aj gp g6).symm)
        obtain ⟨z,z1,z2⟩:=GG hf;exact ⟨z,z1,z2⟩)
       have tQ:Hid (0<=r->El 9 (AZ u) (.slice (some ⟨b,off,none⟩) n5 c5) j5):=cE (λh0=>by
        obtain ⟨z,z1,z2⟩:=yH.out h0;exact ⟨b,off,n5,c5,⟨x.type,x.jL,z⟩,rfl,⟨aj gp k0,aj gp k1,z1⟩,z2⟩)
       have rQ:=cE gp;have HU:=cE hu;clear hx hxk hI h2 h3 a4 a5 a6 g0 g1 g2 g3 g4 g5 g6 tP yH hAt hIn gp hu tZ hbn hen;go_wp2_with fail;rw [<- HU.out];refine HC.out.mono ?_;rintro e w'' ⟨rfl,hw''⟩;obtain rfl:u=w'':=hw''.symm;by_cases hr0:r<0
       ·go_wp2;go_ret;exact ⟨db QB.out rQ.out,.inl rfl⟩
       have pJ:=cE (Ew (λt ht=>(HF.out t ht).imp λ_ _ _=>AZ.on rQ.out) (tQ.out (by omega)));have aX:=cE (HS.out.on rQ.out);have fq:=cE (db HP.out rQ.out);clear tQ HF HS HP HC HU q5 k2 k3 k4 k5 k6 k7 k8 k0 k1;go_wp2;go_roundw
       case rel=>exact ⟨j5+1,by omega,by go_num,pJ,aX,fq⟩
       case measure=>simp [intOf];omega
      obtain rfl:n5=j5:=by omega
      obtain ⟨w5,rfl⟩:∃w5,w5=wr:=⟨_,rfl⟩;have F5:=HF;have B5:=HP;have uM:=HS;obtain ⟨q0,q1,q2,q3,q4,q5,q6,q7,q8,q9,qb⟩:=HS.out;clear qb q0 q1 q2 q3 q4 q6 q7 q8 q9;clear HF HP HS;have BE:=cE uM.out.aL;have E12:=cE B2.out;go_wp2;go_ret;refine ⟨BE.out,.inr ⟨rfl,?_⟩⟩;have Ll:=B5.out;have Lm:=db B4.out Ll;have U7:=db B3.out Lm;have b15:=db B2.out U7;obtain ⟨lf,hlf,rf⟩:=Ev (by omega) λt ht=>(F1.out t ht).imp λ_ _ _=>yG.on b15;obtain ⟨le,hle,re⟩:=Ev (by omega) λt ht=>(F3.out t ht).imp λ_ _ _=>zP.on Lm;obtain ⟨ld,hld,rd⟩:=Ev (by omega) λt ht=>(F4.out t ht).imp λ_ _ _=>zQ.on Ll;obtain ⟨lg,hlg,rg⟩:=Ev (by omega) F5.out;have hA:=HM.out.on BE.out;have hLN:=yE.out;refine ⟨⟨m.types,m.imports,lf,m.tables,m.aD,lg,m.exports,m.start,le,ld⟩,⟨hA.types,hA.imports,rf.imp λ_ _ _ _ h=>h.1,hA.tables,hA.aD,rg.imp λ_ _ _ _ h=>h.1,hA.exports,hA.start,re.imp λ_ _ _ _ h=>h.1,rd.imp λ_ _ _ _ h=>h.1⟩,?_,rfl,rfl⟩;refine ⟨by show m.types.length<=_;omega,by show m.imports.length<=_;omega,by show lf.length<=_;omega,by show m.tables.length<=_;omega,by show m.aD.length<=_;omega,by show lg.length<=_;omega,by show m.exports.length<=_;omega,by show le.length<=_;omega,by show ld.length<=_;omega,by show m.start.length<=_;omega,λx hx=>?_,mem_row rf,mem_row rg,mem_row re,mem_row rd⟩;obtain ⟨t,ht,rfl⟩:=List.getElem_of_mem hx;exact F2.out t _ (by have h3:t<m.types.length:=ht;omega) (aY ht)
end Go.Proofs.YtmfcojpjpgldhaaGreatDoor
