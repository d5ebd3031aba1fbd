/- Texts that the claim needs. -/
import Derived.Test.YtcfifbgemfladaaGreatDoorQDPa4
import Derived.Test.YtcfifbgemfladaaGreatDoorQDPa2
import Derived.Deep.CutRange
namespace Go.Proofs.YtcfifbgemfladaaGreatDoor
open Go.RowKit au Go.Proofs.Tryz
set_option linter.unusedVariables false
set_option maxRecDepth 100000
set_option maxHeartbeats 8000000
namespace au
theorem GJ {w:AG}:∀(k:Nat) (v:Value),uh w k v->uh w (k+1) v
 | 0,v,⟨l,⟨o,cap,hv⟩,_⟩=>by subst hv;exact CK w _ o cap
 | k+1,v,⟨l,hA,hL⟩=>by
  have hR:Row 7 (fM w (At w k)) v l:=hA;have hB:Fz (Lb k) l:=hL;rcases hR with ⟨hl,⟨hnil,o,cap,rfl⟩|⟨b,off,cap,rfl,hx⟩⟩
  ·exact CK w _ o cap
  refine LZ w (k+1) b off _ cap hB.1 λt ht=>?_;obtain ⟨x,hxt⟩:∃x,getElem? (coll:=List (Ins (IL k))) l t=some x:=⟨_,bG ht⟩;have hI:=hx t x hxt;obtain ⟨g1,g2,g3⟩:=hB.2 x (iF hxt);obtain ⟨v4,q4,i4⟩:=hI.labels;obtain ⟨v5,q5,a5⟩:=hI.body;obtain ⟨v6,q6,a6⟩:=hI.els;exact Hz hI.op hI.a hI.b hI.n q4 i4 g1 q5 q6 (GJ k v5 ⟨_,a5,g2⟩) (GJ k v6 ⟨_,a6,g3⟩)
theorem JX {w:AG} {k b o:Nat} (h:Fit w k b o):Fit w (k+1) b o:=by
 obtain ⟨x,hI,g1,g2,g3⟩:=h;obtain ⟨v4,q4,i4⟩:=hI.labels;obtain ⟨v5,q5,a5⟩:=hI.body;obtain ⟨v6,q6,a6⟩:=hI.els;exact Hz hI.op hI.a hI.b hI.n q4 i4 g1 q5 q6 (GJ k v5 ⟨_,a5,g2⟩) (GJ k v6 ⟨_,a6,g3⟩)
theorem uh.on {w w':AG} (hb:AS w w') {k:Nat} {v:Value} (h:uh w k v):uh w' k v:=let ⟨l,a,b⟩:=h;⟨l,At.on hb k v l a,b⟩
theorem Fit.on {w w':AG} (hb:AS w w') {k b o:Nat} (h:Fit w k b o):Fit w' k b o:=let ⟨z,a,b⟩:=h;⟨z,a.on hb (At.on hb k),b⟩
theorem JY {w:AG} {k b o b' o':Nat} (h:Fit w k b' o') (hc:∀j,j<7->w.cell? ⟨b',o'+j,none⟩=w.cell? ⟨b,o+j,none⟩):Fit w k b o:=by
 obtain ⟨x,hI,g⟩:=h;obtain ⟨v4,q4,i4⟩:=hI.labels;obtain ⟨v5,q5,a5⟩:=hI.body;obtain ⟨v6,q6,a6⟩:=hI.els;exact ⟨x,⟨(hc 0 (by omega)).symm.trans hI.op,(hc 1 (by omega)).symm.trans hI.a,(hc 2 (by omega)).symm.trans hI.b,(hc 3 (by omega)).symm.trans hI.n,⟨v4,(hc 4 (by omega)).symm.trans q4,i4⟩,⟨v5,(hc 5 (by omega)).symm.trans q5,a5⟩,⟨v6,(hc 6 (by omega)).symm.trans q6,a6⟩⟩,g⟩
theorem JZ {w:AG} {k b off cap:Nat} (h:uh w (k+1) (.slice (some ⟨b,off,none⟩) 1 cap)):Fit w k b off:=by
 obtain ⟨l,hA,hL⟩:=h;have hR:Row 7 (fM w (At w k)) (.slice (some ⟨b,off,none⟩) 1 cap) l:=hA;have hB:Fz (Lb k) l:=hL;rcases hR with ⟨hl,⟨hnil,o,cap',hv⟩|⟨b',off',cap',hv,hx⟩⟩
 ·injection hv with _ h2;omega
 injection hv with h1 h2;injection h1 with h1;injection h1 with h1 h3;subst h1;subst h3;obtain ⟨x,hx0⟩:∃x,getElem? (coll:=List (Ins (IL k))) l 0=some x:=⟨_,bG (by omega)⟩
 have:=hx 0 x hx0
 rw [Nat.zero_mul] at this;exact ⟨x,this,hB.2 x (iF hx0)⟩
def El {α:Type} (c:Nat) (f:Nat->Nat->α->Prop) (v:Value) (t:Nat):Prop:=∃b off n cap z,v=.slice (some ⟨b,off,none⟩) n cap/\f b (off+t*c) z
theorem El.imp {α:Type} {c:Nat} {f g:Nat->Nat->α->Prop} {v:Value} {t:Nat} (h:El c f v t) (hfg:∀b o z,f b o z->g b o z):El c g v t:=let ⟨b,off,n,cap,z,hv,hz⟩:=h;⟨b,off,n,cap,z,hv,hfg _ _ _ hz⟩
theorem GK {α:Type} {c:Nat} {f:Nat->Nat->α->Prop} {o:Option Addr} {n cap:Nat} (hn:n<=9223372036854775807) (h:∀t,t<n->El c f (.slice o n cap) t):∃l:List α,l.length=n/\Row c f (.slice o n cap) l:=by
 by_cases h0:n=0
 ·subst h0;exact ⟨[],rfl,by simp,.inl ⟨rfl,o,cap,rfl⟩⟩
 obtain ⟨b,off,n',cap',z,hv,_⟩:=h 0 (by omega);injection hv with h1 h2 h3;subst h1
 obtain ⟨l,hl,hf⟩:=Hy n (λt z=>f b (off+t*c) z) λt ht=>by
  obtain ⟨b2,dn,n2,cap2,z2,hv2,hz2⟩:=h t ht;injection hv2 with h1 _ _;injection h1 with h1;injection h1 with h1 h3;subst h1;subst h3;exact ⟨z2,hz2⟩
 exact ⟨l,hl,by omega,.inr ⟨b,off,cap,by rw [hl],hf⟩⟩
def J0 (x:FT):Prop:=x.params.length<=30010/\x.results.length<=30010
def Bg {d:Nat} (x:Ins (IL d)):Prop:=x.labels.length<=15010/\Lb d x.body/\Lb d x.els
def O9 {d:Nat} (x:fF d):Prop:=(x.locals.length<=150200/\wt d x.body<=1500)/\Lb d x.body
def Pb {d:Nat} (x:lX d):Prop:=Bg x.offset/\x.funcs.length<=30010
def Pd {d:Nat} (x:Dat d):Prop:=Bg x.offset/\x.bytes.size<=300000
structure Small {d:Nat} (m:Mod d):Prop where
 afq:m.types.length<=5000
 afr:m.imports.length<=5000
 afs:m.funcs.length<=5000
 aft:m.tables.length<=5000
 afu:m.aF.length<=5000
 afv:m.globals.length<=5000
 afw:m.exports.length<=5000
 afx:m.elems.length<=5000
 afy:m.aA.length<=5000
 afz:m.start.length<=5000
 types:∀x ∈ m.types,J0 x
 funcs:∀x ∈ m.funcs,O9 x
 globals:∀x ∈ m.globals,Bg x.init
 elems:∀x ∈ m.elems,Pb x
 aA:∀x ∈ m.aA,Pd x
def zt (w:AG) (b o:Nat) (z:fF 81):Prop:=rL w 81 b o z/\O9 z
def Cg (w:AG) (b o:Nat) (z:mZ 81):Prop:=uw w 81 b o z/\Bg z.init
def Bh (w:AG) (b o:Nat) (z:lX 81):Prop:=uC w 81 b o z/\Pb z
def Bi (w:AG) (b o:Nat) (z:Dat 81):Prop:=wK w 81 b o z/\Pd z
section On
variable {w w':AG} (hb:AS w w')
include hb
theorem zt.on {b o:Nat} {z:fF 81} (h:zt w b o z):zt w' b o z:=⟨h.1.on hb,h.2⟩
theorem Cg.on {b o:Nat} {z:mZ 81} (h:Cg w b o z):Cg w' b o z:=⟨h.1.on hb,h.2⟩
theorem Bh.on {b o:Nat} {z:lX 81} (h:Bh w b o z):Bh w' b o z:=⟨h.1.on hb,h.2⟩
theorem Bi.on {b o:Nat} {z:Dat 81} (h:Bi w b o z):Bi w' b o z:=⟨h.1.on hb,h.2⟩
end On
theorem J1 {α:Type} (w:AG) (f:Value->α->Prop) (t:TypeId) (b:Nat) (x:Ins α) (v4 v5 v6:Value) (hb:b=w.heap.size)
  (h4:Ints (w.alloc (.cells #[.int .i64 x.op,.int .i64 x.a,.int .i64 x.b,.int .i64 x.n,v4,v5,v6] t)) v4 x.labels) (h5:f v5 x.body) (h6:f v6 x.els) :
  fM (w.alloc (.cells #[.int .i64 x.op,.int .i64 x.a,.int .i64 x.b,.int .i64 x.n,v4,v5,v6] t)) f b 0 x:=by
 have hc:∀(i:Nat) (v:Value),#[Value.int .i64 x.op,.int .i64 x.a,.int .i64 x.b,.int .i64 x.n,v4,v5,v6][i]?=some v->(w.alloc (.cells #[.int .i64 x.op,.int .i64 x.a,.int .i64 x.b,.int .i64 x.n,v4,v5,v6] t)).cell? ⟨b,i,none⟩=some v:=λi v h=>by
  rw [World.cell?_alloc_at _ t _ _ hb];exact h
 exact ⟨hc _ _ rfl,hc _ _ rfl,hc _ _ rfl,hc _ _ rfl,⟨_,hc _ _ rfl,h4⟩,⟨_,hc _ _ rfl,h5⟩,⟨_,hc _ _ rfl,h6⟩⟩
theorem J2 {α:Type} (k:Nat) (f:Nat->Nat->α->Prop) (b cap:Nat) (x:α) (h:f b 0 x):Row k f (.slice (some ⟨b,0,none⟩) 1 cap) [x] :=
 ⟨by simp,.inr ⟨b,0,cap,rfl,λi y hi=>by
  match i,hi with
  | 0,hi=>simp at hi;subst hi;simpa using h
  | i+1,hi=>simp at hi⟩⟩
theorem mem_row {α:Type} {c:Nat} {f:Nat->Nat->α->Prop} {g:α->Prop} {v:Value} {l:List α} (h:Row c (λb o x=>f b o x/\g x) v l):∀x ∈ l,g x:=xM h
theorem GL {p:Nat->Prop} {j:Nat} (h:∀t,t<j->p t) (hj:p j):∀t,t<j+1->p t:=λt ht=>by
 by_cases h2:t<j
 ·exact h t h2
 obtain rfl:t=j:=by omega
 exact hj
end au
def ZM {d:Nat} (v0 v1 v2 v3 v4 v5 v6 v7 v8 v9:Value) (m:Mod d) (w:AG) (e:Ending) (w':AG):Prop :=
 AS w w'/\(e=.returned (.bool true)\/(e=.returned (.bool false)/\∃m':Mod 81,iG w' 81 v0 v1 v2 v3 v4 v5 v6 v7 v8 v9 m'/\Small m'/\m'.imports=m.imports/\m'.exports=m.exports))
theorem XR (d:Nat) (v0 v1 v2 v3 v4 v5 v6 v7 v8 v9:Value) (m:Mod d) (w:AG) (hM:iG w d v0 v1 v2 v3 v4 v5 v6 v7 v8 v9 m) (hsz:∀x ∈ m.aA,x.bytes.size<=9223372036854775807) :
  Calls prog 5 #[.agg #[v0,v1,v2,v3,v4,v5,v6,v7,v8,v9]] w (ZM v0 v1 v2 v3 v4 v5 v6 v7 v8 v9 m w):=by
 have l0:=hM.types.1;have l1:=hM.imports.1;have l2:=hM.funcs.1;have l3:=hM.tables.1;have l4:=hM.aF.1;have l5:=hM.globals.1;have l6:=hM.exports.1;have l7:=hM.start.1;have l8:=hM.elems.1;have l9:=hM.aA.1;have HM:=bU hM;have HZ:=bU hsz;obtain ⟨o0,c0,rfl⟩:=Row.len hM.types;obtain ⟨o1,c1,rfl⟩:=Row.len hM.imports;obtain ⟨o2,c2,rfl⟩:=Row.len hM.funcs;obtain ⟨o3,c3,rfl⟩:=Row.len hM.tables;obtain ⟨o4,c4,rfl⟩:=Row.len hM.aF;obtain ⟨o5,c5,rfl⟩:=Row.len hM.globals;obtain ⟨o6,c6,rfl⟩:=Row.len hM.exports;obtain ⟨o7,c7,rfl⟩:=Row.len hM.start;obtain ⟨o8,c8,rfl⟩:=Row.len hM.elems;obtain ⟨o9,c9,rfl⟩:=Row.len hM.aA;have aL:=bU (jC.start w 32 (.slice o0 m.types.length c0) (.slice o1 m.imports.length c1) (.slice o2 m.funcs.length c2) (.slice o3 m.tables.length c3) (.slice o4 m.aF.length c4) (.slice o5 m.globals.length c5) (.slice o6 m.exports.length c6) (.slice o7 m.start.length c7) (.slice o8 m.elems.length c8) (.slice o9 m.aA.length c9));clear hM hsz;generalize hn0:m.types.length=n0 at *;generalize ju:m.imports.length=n1 at *;generalize fV:m.funcs.length=n2 at *;generalize lW:m.tables.length=n3 at *;generalize jQ:m.aF.length=n4 at *;generalize lK:m.globals.length=n5 at *;generalize lL:m.exports.length=n6 at *;generalize jd:m.start.length=n7 at *;generalize lh:m.elems.length=n8 at *;generalize lM:m.aA.length=n9 at *;go_enter func5,ntmps5;go_upto_region 1 with fail;obtain ⟨wb,hwb⟩:∃wb,wb=w.alloc (.cells #[.slice o0 n0 c0,.slice o1 n1 c1,.slice o2 n2 c2,.slice o3 n3 c3,.slice o4 n4 c4,.slice o5 n5 c5,.slice o6 n6 c6,.slice o7 n7 c7,.slice o8 n8 c8,.slice o9 n9 c9] 32):=⟨_,rfl⟩;rw [<- hwb] at aL ⊢;clear hwb;obtain ⟨q0,q1,q2,q3,q4,q5,q6,q7,q8,q9,qb⟩:=aL.out;have QB:=bU qb;clear qb;obtain ⟨B,hB⟩:∃B:Bool,B=decide (5000<n0\/5000<n1\/5000<n2\/5000<n3\/5000<n4\/5000<n5\/5000<n6\/5000<n8\/5000<n9\/5000<n7):=⟨_,rfl⟩;have cn:=bU hB;clear hB;go_cut [66] from 9 to 66 (λc wx=>c=.bool B/\wx=wb)
 case first =>
  by_cases g0:5000<n0
  ·obtain rfl:B=true:=cn.out.trans (ay (by omega));have t0:decide ((5000:Int)<(n0:Int))=true:=ay;go_wp2_with fail
   go_meet
   exact ⟨rfl,rfl⟩
  have t0:decide ((5000:Int)<(n0:Int))=false:=aj;by_cases g1:5000<n1
  ·obtain rfl:B=true:=cn.out.trans (ay (by omega));have t1:decide ((5000:Int)<(n1:Int))=true:=ay;go_wp2_with fail
   go_meet
   exact ⟨rfl,rfl⟩
  have t1:decide ((5000:Int)<(n1:Int))=false:=aj;by_cases g2:5000<n2
  ·obtain rfl:B=true:=cn.out.trans (ay (by omega));have t2:decide ((5000:Int)<(n2:Int))=true:=ay;go_wp2_with fail
   go_meet
   exact ⟨rfl,rfl⟩
  have t2:decide ((5000:Int)<(n2:Int))=false:=aj;by_cases g3:5000<n3
  ·obtain rfl:B=true:=cn.out.trans (ay (by omega));have t3:decide ((5000:Int)<(n3:Int))=true:=ay;go_wp2_with fail
   go_meet
   exact ⟨rfl,rfl⟩
  have t3:decide ((5000:Int)<(n3:Int))=false:=aj;by_cases g4:5000<n4
  ·obtain rfl:B=true:=cn.out.trans (ay (by omega));have t4:decide ((5000:Int)<(n4:Int))=true:=ay;go_wp2_with fail
   go_meet
   exact ⟨rfl,rfl⟩
  have t4:decide ((5000:Int)<(n4:Int))=false:=aj;by_cases g5:5000<n5
  ·obtain rfl:B=true:=cn.out.trans (ay (by omega));have t5:decide ((5000:Int)<(n5:Int))=true:=ay;go_wp2_with fail
   go_meet
   exact ⟨rfl,rfl⟩
  have t5:decide ((5000:Int)<(n5:Int))=false:=aj;by_cases g6:5000<n6
  ·obtain rfl:B=true:=cn.out.trans (ay (by omega));have t6:decide ((5000:Int)<(n6:Int))=true:=ay;go_wp2_with fail
   go_meet
   exact ⟨rfl,rfl⟩
  have t6:decide ((5000:Int)<(n6:Int))=false:=aj;by_cases g8:5000<n8
  ·obtain rfl:B=true:=cn.out.trans (ay (by omega));have t8:decide ((5000:Int)<(n8:Int))=true:=ay;go_wp2_with fail
   go_meet
   exact ⟨rfl,rfl⟩
  have t8:decide ((5000:Int)<(n8:Int))=false:=aj;by_cases g9:5000<n9
  ·obtain rfl:B=true:=cn.out.trans (ay (by omega));have t9:decide ((5000:Int)<(n9:Int))=true:=ay;go_wp2_with fail
   go_meet
   exact ⟨rfl,rfl⟩
  have t9:decide ((5000:Int)<(n9:Int))=false:=aj;by_cases g7:5000<n7
  ·obtain rfl:B=true:=cn.out.trans (ay (by omega));have t7:decide ((5000:Int)<(n7:Int))=true:=ay;go_wp2_with fail
   go_meet
   exact ⟨rfl,rfl⟩
  have t7:decide ((5000:Int)<(n7:Int))=false:=aj;obtain rfl:B=false:=cn.out.trans (aj (by omega));go_wp2_with fail
  go_meet
  exact ⟨rfl,rfl⟩
 obtain ⟨rfl,rfl⟩:=hcut;clear q0 q1 q2 q3 q4 q5 q6 q7 q8 q9;cases B with
 | true =>
  go_wp2;go_ret;exact ⟨QB.out,.inl rfl⟩
 | false =>
 have hB:¬ (5000<n0\/5000<n1\/5000<n2\/5000<n3\/5000<n4\/5000<n5\/5000<n6\/5000<n8\/5000<n9\/5000<n7):=of_decide_eq_false cn.out.symm;have Be:Hid (n0<=5000/\n1<=5000/\n2<=5000/\n3<=5000/\n4<=5000/\n5<=5000/\n6<=5000/\n7<=5000/\n8<=5000/\n9<=5000):=bU (by omega);have g0:n0<=5000:=by omega
 have g2:n2<=5000:=by omega
 have g5:n5<=5000:=by omega
 have g8:n8<=5000:=by omega
 have g9:n9<=5000:=by omega
 clear hB cn QB;go_wp2_with fail;go_loopw [3,4] (λc i wr=>∃(j:Nat) (n:Int),j<=n2/\i=.int .i64 j/\c=.int .i64 n/\0<=n/\n<=1500/\Hid (∀t,t<j->El 3 (zt wr) (.slice o2 n2 c2) t)/\Hid (jC w (.slice o0 n0 c0) (.slice o1 n1 c1) (.slice o2 n2 c2) (.slice o3 n3 c3) (.slice o4 n4 c4) (.slice o5 n5 c5) (.slice o6 n6 c6) (.slice o7 n7 c7) (.slice o8 n8 c8) (.slice o9 n9 c9) wr)) (λ_ i _=>n2-(intOf i).toNat)
 case atStart=>exact ⟨0,0,by omega,rfl,rfl,by omega,by omega,bU (λt ht=>by omega),aL⟩
 case round =>
  obtain ⟨j,n,hj,rfl,rfl,hn0,ju,HF,HS⟩:=hrel;by_cases hgo:j<n2
  ·obtain ⟨q0,q1,q2,q3,q4,q5,q6,q7,q8,q9,qb⟩:=HS.out;have QB:=bU qb;clear qb q0 q1 q3 q4 q5 q6 q7 q8 q9;obtain ⟨b,off,cap2,hv2,hx⟩:=Row.some ((HM.out.on QB.out).funcs) (by omega);injection hv2 with ho h2 h3;subst ho;obtain ⟨x,hxk⟩:∃x,m.funcs[j]?=some x:=⟨_,bG (by omega)⟩;have hI:=hx j x hxk;obtain ⟨vl,ql,il⟩:=hI.locals;obtain ⟨vb,Pf,ab⟩:=hI.body;have qt:=hI.type
   obtain ⟨ol,nl,cl,rfl,hnl⟩:∃ol nl cl,vl=.slice ol nl cl/\nl=x.locals.length:=by
    obtain ⟨ol,cl,h⟩:=Row.len il;exact ⟨ol,_,cl,h,rfl⟩
   have hlb:=il.1;rw [<- hnl] at hlb;obtain ⟨ob,nb,cb,rfl,hnb⟩:=At.xD _ _ _ ab;have hgood:-1<=fH d x.body 0 (n+(nl:Int) / 100)/\(fH d x.body 0 (n+(nl:Int) / 100)<=n+(nl:Int) / 100\/fH d x.body 0 (n+(nl:Int) / 100)<=1500)/\(0<=fH d x.body 0 (n+(nl:Int) / 100)->n+(nl:Int) / 100<=fH d x.body 0 (n+(nl:Int) / 100)):=zV d 0 x.body (n+(nl:Int) / 100) (by omega);have uK:=bU (CL d _ x.body 0 (n+(nl:Int) / 100) ab (by omega));obtain ⟨r,hr⟩:∃r,r=fH d x.body 0 (n+(nl:Int) / 100):=⟨_,rfl⟩;rw [<- hr] at hgood uK
   have i1:∀k,Hid (Calls prog 16 #[.slice ob nb cb,.int .i64 0,.int .i64 (n+(nl:Int) / 100)] (wr.drewN k) λe w''=>e=.returned (.int .i64 r)/\∃n',w''=wr.drewN n'):=λk =>
    bU ((CM d _ x.body 0 (n+(nl:Int) / 100) (wr.drewN k) (At.on (mE wr k) _ _ _ ab) (by omega) (by omega) (by omega)).mono λe w' ⟨h1,h2⟩=>⟨by rw [h1,hr],k,h2⟩)
   have uL:Hid (0<=r->r<=1500->El 3 (zt wr) (.slice (some ⟨b,off,none⟩) n2 c2) j):=bU (λh0 h1=>by
    obtain ⟨l',al,bl⟩:=uK.out h0;exact ⟨b,off,n2,c2,⟨x.type,x.locals,l'⟩,rfl,⟨hI.type,⟨_,ql,il⟩,⟨_,Pf,al⟩⟩,⟨by show x.locals.length<=150200;omega,by show wt 81 l'<=1500;have e1:=J3 d 81 _ x.body l' ab al;have e2:=Pg d x.body 0 (n+(nl:Int) / 100) (by omega) (by rw [<- hr];exact h0);rw [<- hr] at e2;omega⟩,bl⟩)
   clear hx hxk hI h2 h3 hnl hnb hr uK ab il;go_upto_region 7 with fail;go_quiet (first|(go_at_call 16;exact (i1 _).out))
   have tP:=bU (mE wr nq);generalize wr.drewN nq=wq at *;by_cases hr0:r<0
   ·go_wp2;go_ret;exact ⟨mJ QB.out tP.out,.inl rfl⟩
   by_cases hr1:1500<r
   ·go_wp2;go_ret;exact ⟨mJ QB.out tP.out,.inl rfl⟩
   have pX:=bU (GL (λt ht=>(HF.out t ht).imp λ_ _ _=>zt.on tP.out) ((uL.out (by omega) (by omega)).imp λ_ _ _=>zt.on tP.out));have aM:=bU (HS.out.on tP.out);clear i1 uL HF HS q2 ql Pf qt hgood;go_wp2;go_roundw
   case rel=>exact ⟨j+1,r,by omega,by go_num,rfl,by omega,by omega,pX,aM⟩
   case measure=>simp [intOf];omega
  obtain rfl:n2=j:=by omega
  obtain ⟨w1,rfl⟩:∃w1,w1=wr:=⟨_,rfl⟩;have F1:=HF;have B1:=bU HS.out.bQ;obtain ⟨q0,q1,q2,q3,q4,q5,q6,q7,q8,q9,qb⟩:=HS.out;clear qb q0 q1 q3 q4 q5 q6 q7 q8 q9;clear HF;go_wp2_with fail;clear q2;obtain ⟨nA,rfl⟩:∃nA,nA=n:=⟨_,rfl⟩;go_loopw [3,5] (λc i wr=>∃(j:Nat) (n:Int),j<=n0/\i=.int .i64 j/\c=.int .i64 n/\0<=n/\n<=3000/\Hid (∀t x,t<j->m.types[t]?=some x->J0 x)/\Hid (jC w (.slice o0 n0 c0) (.slice o1 n1 c1) (.slice o2 n2 c2) (.slice o3 n3 c3) (.slice o4 n4 c4) (.slice o5 n5 c5) (.slice o6 n6 c6) (.slice o7 n7 c7) (.slice o8 n8 c8) (.slice o9 n9 c9) wr)/\Hid (AS w1 wr)) (λ_ i _=>n0-(intOf i).toNat)
  case atStart=>exact ⟨0,nA,by omega,rfl,rfl,by omega,by omega,bU (λt x ht=>by omega),HS,bU (AC _ _)⟩
  case round =>
   obtain ⟨j2,n,hj2,rfl,rfl,hm0,hm1,HF,vR,HP⟩:=hrel;by_cases hgo:j2<n0
   ·obtain ⟨q0,q1,q2,q3,q4,q5,q6,q7,q8,q9,qb⟩:=vR.out;have QB:=bU qb;clear qb q1 q2 q3 q4 q5 q6 q7 q8 q9;obtain ⟨b,off,cap2,hv2,hx⟩:=Row.some ((HM.out.on QB.out).types) (by omega);injection hv2 with ho h2 h3;subst ho;obtain ⟨x,hxk⟩:∃x,m.types[j2]?=some x:=⟨_,bG (by omega)⟩;have hI:=hx j2 x hxk;obtain ⟨vl,ql,il⟩:=hI.params;obtain ⟨vr,qr,ir⟩:=hI.results
    obtain ⟨ol,nl,cl,rfl,hnl⟩:∃ol nl cl,vl=.slice ol nl cl/\nl=x.params.length:=by
     obtain ⟨ol,cl,h⟩:=Row.len il;exact ⟨ol,_,cl,h,rfl⟩
    obtain ⟨or,nr,cr,rfl,hnr⟩:∃ol nl cl,vr=.slice ol nl cl/\nl=x.results.length:=by
     obtain ⟨ol,cl,h⟩:=Row.len ir;exact ⟨ol,_,cl,h,rfl⟩
    have hlb:=il.1;have hrb:=ir.1;rw [<- hnl] at hlb;rw [<- hnr] at hrb
    have J4:Hid (n+((nl:Int) / 10+(nr:Int) / 10)<=3000->∀t y,t<j2+1->m.types[t]?=some y->J0 y):=bU (λh t y ht hy=>by
     by_cases h2:t<j2
     ·exact HF.out t y h2 hy
     obtain rfl:t=j2:=by omega
     obtain rfl:x=y:=Option.some.inj (hxk.symm.trans hy);exact ⟨by omega,by omega⟩)
    clear hx hxk hI h2 h3 hnl hnr il ir HF;go_upto_region 13 with fail;go_quiet (fail);have tP:=bU (mE wr nq);generalize wr.drewN nq=wq at *;obtain ⟨r,hr⟩:∃r,r=n+((nl:Int) / 10+(nr:Int) / 10):=⟨_,rfl⟩;rw [<- hr] at J4 ⊢;have hr0:0<=r:=by omega
    have ZN:r<=4611686018427387904:=by omega
    clear hr;by_cases hr1:3000<r
    ·go_wp2;go_ret;exact ⟨mJ QB.out tP.out,.inl rfl⟩
    have pX:=bU (J4.out (by omega));have aM:=bU (vR.out.on tP.out);have dQ:=bU (mJ HP.out tP.out);clear J4 vR q0 ql qr HP;go_wp2;go_roundw
    case rel=>exact ⟨j2+1,r,by omega,by go_num,rfl,by omega,by omega,pX,aM,dQ⟩
    case measure=>simp [intOf];omega
   obtain rfl:n0=j2:=by omega
   obtain ⟨w2,rfl⟩:∃w2,w2=wr:=⟨_,rfl⟩;have F2:=HF;have B2:=HP;obtain ⟨q0,q1,q2,q3,q4,q5,q6,q7,q8,q9,qb⟩:=vR.out;clear qb q1 q2 q3 q4 q5 q6 q7 q8 q9;clear HF HP HS;go_wp2_with fail;clear q0;obtain ⟨nA,rfl⟩:∃nA,nA=n:=⟨_,rfl⟩;go_loopw [3,6] (λc i wr=>∃(j:Nat) (n:Int),j<=n8/\i=.int .i64 j/\c=.int .i64 n/\0<=n/\n<=3000/\Hid (∀t,t<j->El 8 (Bh wr) (.slice o8 n8 c8) t)/\Hid (jC w (.slice o0 n0 c0) (.slice o1 n1 c1) (.slice o2 n2 c2) (.slice o3 n3 c3) (.slice o4 n4 c4) (.slice o5 n5 c5) (.slice o6 n6 c6) (.slice o7 n7 c7) (.slice o8 n8 c8) (.slice o9 n9 c9) wr)/\Hid (AS w2 wr)) (λ_ i _=>n8-(intOf i).toNat)
   case atStart=>exact ⟨0,nA,by omega,rfl,rfl,by omega,by omega,bU (λt ht=>by omega),vR,bU (AC _ _)⟩
   case round =>
    obtain ⟨j3,n,hj,rfl,rfl,hm0,hm1,HF,HS,HP⟩:=hrel;by_cases hgo:j3<n8
    ·obtain ⟨q0,q1,q2,q3,q4,q5,q6,q7,q8,q9,qb⟩:=HS.out;have QB:=bU qb;clear qb q0 q1 q2 q3 q4 q5 q6 q7 q9;obtain ⟨b,off,cap2,hv2,hx⟩:=Row.some ((HM.out.on QB.out).elems) (by omega);injection hv2 with ho h2 h3;subst ho;obtain ⟨x,hxk⟩:∃x,m.elems[j3]?=some x:=⟨_,bG (by omega)⟩;have hI:=hx j3 x hxk;obtain ⟨vf,k7,jf⟩:=hI.funcs
     obtain ⟨fo,fn,fc,rfl,hfn⟩:∃ol nl cl,vf=.slice ol nl cl/\nl=x.funcs.length:=by
      obtain ⟨ol,cl,h⟩:=Row.len jf;exact ⟨ol,_,cl,h,rfl⟩
     have zW:=jf.1;rw [<- hfn] at zW;obtain ⟨g0,g1,g2,g3,⟨lv,g4,a4⟩,⟨bv,g5,a5⟩,⟨ev,g6,a6⟩⟩:=hI.offset;have k0:wr.cell? ⟨b,off+j3*8,none⟩=_:=g0;have k1:wr.cell? ⟨b,off+j3*8+1,none⟩=_:=g1;have k2:wr.cell? ⟨b,off+j3*8+2,none⟩=_:=g2;have k3:wr.cell? ⟨b,off+j3*8+3,none⟩=_:=g3;have k4:wr.cell? ⟨b,off+j3*8+4,none⟩=_:=g4;have k5:wr.cell? ⟨b,off+j3*8+5,none⟩=_:=g5;have k6:wr.cell? ⟨b,off+j3*8+6,none⟩=_:=g6
     obtain ⟨lo,ln,lc,rfl,xE⟩:∃ol nl cl,lv=.slice ol nl cl/\nl=x.offset.labels.length:=by
      obtain ⟨ol,cl,h⟩:=Row.len a4;exact ⟨ol,_,cl,h,rfl⟩
     obtain ⟨bo,bn,bc,rfl,hbn⟩:=At.xD _ _ _ a5;obtain ⟨eo,en,ec,rfl,hen⟩:=At.xD _ _ _ a6;obtain ⟨u,hu⟩:∃u,u=wr.alloc (.cells #[.int .i64 x.offset.op,.int .i64 x.offset.a,.int .i64 x.offset.b,.int .i64 x.offset.n,.slice lo ln lc,.slice bo bn bc,.slice eo en ec] 59):=⟨_,rfl⟩;have dH:AS wr u:=by rw [hu];exact (AC _ wr).alloc (aC _) _
     have hIn:fM u (At u d) wr.heap.size 0 x.offset:=by
      rw [hu];rw [hu] at dH;exact J1 wr _ 59 _ x.offset _ _ _ rfl (a4.on dH) (At.on dH _ _ _ a5) (At.on dH _ _ _ a6)
     have hAt:At u (d+1) (.slice (some ⟨wr.heap.size,0,none⟩) 1 1) ([x.offset]:List (Ins (IL d))):=J2 _ _ _ _ _ hIn;have hgood:-1<=fH (d+1) ([x.offset]:List (Ins (IL d))) 0 0:=(zV (d+1) 0 ([x.offset]:List (Ins (IL d))) 0 (by omega)).1;have uK:=CL (d+1) _ ([x.offset]:List (Ins (IL d))) 0 0 hAt (by omega);have HC:=bU (CM (d+1) _ ([x.offset]:List (Ins (IL d))) 0 0 u hAt (by omega) (by omega) (by omega));generalize fH (d+1) ([x.offset]:List (Ins (IL d))) 0 0=r at *
     have zu:Hid (0<=r->∃z:Ins (IL 81),fM u (At u 81) b (off+j3*8) z/\Bg z):=bU (λh0=>by
      have hf:=JY (b:=b) (o:=off+j3*8) (JZ (uK h0)) λi hi=>by
       match i,hi with
       | 0,_=>exact hIn.op.trans (ak dH g0).symm
       | 1,_=>exact hIn.a.trans (ak dH g1).symm
       | 2,_=>exact hIn.b.trans (ak dH g2).symm
       | 3,_=>exact hIn.n.trans (ak dH g3).symm
       | 4,_=>rw [hu];exact (World.cell?_alloc_at _ _ _ _ rfl).trans (by rw [<- hu];exact (ak dH g4).symm)
       | 5,_=>rw [hu];exact (World.cell?_alloc_at _ _ _ _ rfl).trans (by rw [<- hu];exact (ak dH g5).symm)
       | 6,_=>rw [hu];exact (World.cell?_alloc_at _ _ _ _ rfl).trans (by rw [<- hu];exact (ak dH g6).symm)
      obtain ⟨z,z1,z2⟩:=JX hf;exact ⟨z,z1,z2⟩)
     have uL:Hid (0<=r->n+(fn:Int) / 10<=3000->El 8 (Bh u) (.slice (some ⟨b,off,none⟩) n8 c8) j3):=bU (λh0 h1=>by
      obtain ⟨z,z1,z2⟩:=zu.out h0;exact ⟨b,off,n8,c8,⟨z,x.funcs⟩,rfl,⟨z1,⟨_,ak dH k7,jf.on dH⟩⟩,z2,by show x.funcs.length<=30010;omega⟩)
     have rZ:=bU dH;have HU:=bU hu;clear hx hxk hI h2 h3 a4 a5 a6 g0 g1 g2 g3 g4 g5 g6 uK zu hAt hIn dH hu xE hbn hen hfn jf;go_upto_region 20 with fail;obtain ⟨Ch,Ph⟩:∃Ch,Ch=n+(fn:Int) / 10:=⟨_,rfl⟩;rw [<- Ph] at uL ⊢;have hr3:0<=Ch:=by omega
     have ZN:Ch<=4611686018427387904:=by omega
     clear Ph;by_cases hr1:3000<Ch
     ·go_wp2;go_ret;exact ⟨QB.out,.inl rfl⟩
     go_wp2_with fail;rw [<- HU.out];refine HC.out.mono ?_;rintro e w'' ⟨rfl,hw''⟩;obtain rfl:u=w'':=hw''.symm;by_cases hr0:r<0
     ·go_wp2;go_ret;exact ⟨mJ QB.out rZ.out,.inl rfl⟩
     have pX:=bU (GL (λt ht=>(HF.out t ht).imp λ_ _ _=>Bh.on rZ.out) (uL.out (by omega) (by omega)));have aM:=bU (HS.out.on rZ.out);have dQ:=bU (mJ HP.out rZ.out);clear uL HF HS HP HC HU q8 k0 k1 k2 k3 k4 k5 k6 k7;go_wp2;go_roundw
     case rel=>exact ⟨j3+1,Ch,by omega,by go_num,rfl,by omega,by omega,pX,aM,dQ⟩
     case measure=>simp [intOf];omega
    obtain rfl:n8=j3:=by omega
    obtain ⟨w3,rfl⟩:∃w3,w3=wr:=⟨_,rfl⟩;have F3:=HF;have B3:=HP;have vR:=HS;obtain ⟨q0,q1,q2,q3,q4,q5,q6,q7,q8,q9,qb⟩:=HS.out;clear qb q0 q1 q2 q3 q4 q5 q6 q7 q9;clear HF HP HS;go_wp2_with fail;clear q8;go_loopw [7] (λi wr=>∃j:Nat,j<=n9/\i=.int .i64 j/\Hid (∀t,t<j->El 8 (Bi wr) (.slice o9 n9 c9) t)/\Hid (jC w (.slice o0 n0 c0) (.slice o1 n1 c1) (.slice o2 n2 c2) (.slice o3 n3 c3) (.slice o4 n4 c4) (.slice o5 n5 c5) (.slice o6 n6 c6) (.slice o7 n7 c7) (.slice o8 n8 c8) (.slice o9 n9 c9) wr)/\Hid (AS w3 wr)) (λi _=>n9-(intOf i).toNat)
    case atStart=>exact ⟨0,by omega,rfl,bU (λt ht=>by omega),vR,bU (AC _ _)⟩
    case round =>
     obtain ⟨j4,hj,rfl,HF,HS,HP⟩:=hrel;by_cases hgo:j4<n9
     ·obtain ⟨q0,q1,q2,q3,q4,q5,q6,q7,q8,q9,qb⟩:=HS.out;have QB:=bU qb;clear qb q0 q1 q2 q3 q4 q5 q6 q7 q8;obtain ⟨b,off,cap2,hv2,hx⟩:=Row.some ((HM.out.on QB.out).aA) (by omega);injection hv2 with ho h2 h3;subst ho;obtain ⟨x,hxk⟩:∃x,m.aA[j4]?=some x:=⟨_,bG (by omega)⟩;have hI:=hx j4 x hxk;have k7:=hI.bytes;have hzb:=HZ.out x (iF hxk);obtain ⟨g0,g1,g2,g3,⟨lv,g4,a4⟩,⟨bv,g5,a5⟩,⟨ev,g6,a6⟩⟩:=hI.offset;have k0:wr.cell? ⟨b,off+j4*8,none⟩=_:=g0;have k1:wr.cell? ⟨b,off+j4*8+1,none⟩=_:=g1;have k2:wr.cell? ⟨b,off+j4*8+2,none⟩=_:=g2;have k3:wr.cell? ⟨b,off+j4*8+3,none⟩=_:=g3;have k4:wr.cell? ⟨b,off+j4*8+4,none⟩=_:=g4;have k5:wr.cell? ⟨b,off+j4*8+5,none⟩=_:=g5;have k6:wr.cell? ⟨b,off+j4*8+6,none⟩=_:=g6
      obtain ⟨lo,ln,lc,rfl,xE⟩:∃ol nl cl,lv=.slice ol nl cl/\nl=x.offset.labels.length:=by
       obtain ⟨ol,cl,h⟩:=Row.len a4;exact ⟨ol,_,cl,h,rfl⟩
      obtain ⟨bo,bn,bc,rfl,hbn⟩:=At.xD _ _ _ a5;obtain ⟨eo,en,ec,rfl,hen⟩:=At.xD _ _ _ a6;obtain ⟨u,hu⟩:∃u,u=wr.alloc (.cells #[.int .i64 x.offset.op,.int .i64 x.offset.a,.int .i64 x.offset.b,.int .i64 x.offset.n,.slice lo ln lc,.slice bo bn bc,.slice eo en ec] 59):=⟨_,rfl⟩;have dH:AS wr u:=by rw [hu];exact (AC _ wr).alloc (aC _) _
      have hIn:fM u (At u d) wr.heap.size 0 x.offset:=by
       rw [hu];rw [hu] at dH;exact J1 wr _ 59 _ x.offset _ _ _ rfl (a4.on dH) (At.on dH _ _ _ a5) (At.on dH _ _ _ a6)
      have hAt:At u (d+1) (.slice (some ⟨wr.heap.size,0,none⟩) 1 1) ([x.offset]:List (Ins (IL d))):=J2 _ _ _ _ _ hIn;have hgood:-1<=fH (d+1) ([x.offset]:List (Ins (IL d))) 0 0:=(zV (d+1) 0 ([x.offset]:List (Ins (IL d))) 0 (by omega)).1;have uK:=CL (d+1) _ ([x.offset]:List (Ins (IL d))) 0 0 hAt (by omega);have HC:=bU (CM (d+1) _ ([x.offset]:List (Ins (IL d))) 0 0 u hAt (by omega) (by omega) (by omega));generalize fH (d+1) ([x.offset]:List (Ins (IL d))) 0 0=r at *
      have zu:Hid (0<=r->∃z:Ins (IL 81),fM u (At u 81) b (off+j4*8) z/\Bg z):=bU (λh0=>by
       have hf:=JY (b:=b) (o:=off+j4*8) (JZ (uK h0)) λi hi=>by
        match i,hi with
        | 0,_=>exact hIn.op.trans (ak dH g0).symm
        | 1,_=>exact hIn.a.trans (ak dH g1).symm
        | 2,_=>exact hIn.b.trans (ak dH g2).symm
        | 3,_=>exact hIn.n.trans (ak dH g3).symm
        | 4,_=>rw [hu];exact (World.cell?_alloc_at _ _ _ _ rfl).trans (by rw [<- hu];exact (ak dH g4).symm)
        | 5,_=>rw [hu];exact (World.cell?_alloc_at _ _ _ _ rfl).trans (by rw [<- hu];exact (ak dH g5).symm)
        | 6,_=>rw [hu];exact (World.cell?_alloc_at _ _ _ _ rfl).trans (by rw [<- hu];exact (ak dH g6).symm)
       obtain ⟨z,z1,z2⟩:=JX hf;exact ⟨z,z1,z2⟩)
      have uL:Hid (0<=r->x.bytes.size<=300000->El 8 (Bi u) (.slice (some ⟨b,off,none⟩) n9 c9) j4):=bU (λh0 h1=>by
       obtain ⟨z,z1,z2⟩:=zu.out h0;exact ⟨b,off,n9,c9,⟨z,x.bytes⟩,rfl,⟨z1,ak dH k7⟩,z2,h1⟩)
      have rZ:=bU dH;have HU:=bU hu;clear hx hxk hI h2 h3 a4 a5 a6 g0 g1 g2 g3 g4 g5 g6 uK zu hAt hIn dH hu xE hbn hen;by_cases hr1:300000<x.bytes.size
      ·go_wp2;go_ret;exact ⟨QB.out,.inl rfl⟩
      go_wp2_with fail;rw [<- HU.out];refine HC.out.mono ?_;rintro e w'' ⟨rfl,hw''⟩;obtain rfl:u=w'':=hw''.symm;by_cases hr0:r<0
      ·go_wp2;go_ret;exact ⟨mJ QB.out rZ.out,.inl rfl⟩
      have pX:=bU (GL (λt ht=>(HF.out t ht).imp λ_ _ _=>Bi.on rZ.out) (uL.out (by omega) (by omega)));have aM:=bU (HS.out.on rZ.out);have dQ:=bU (mJ HP.out rZ.out);clear uL HF HS HP HC HU q9 k0 k1 k2 k3 k4 k5 k6 k7;go_wp2;go_roundw
      case rel=>exact ⟨j4+1,by omega,by go_num,pX,aM,dQ⟩
      case measure=>simp [intOf];omega
     obtain rfl:n9=j4:=by omega
     obtain ⟨w4,rfl⟩:∃w4,w4=wr:=⟨_,rfl⟩;have F4:=HF;have B4:=HP;have vR:=HS;obtain ⟨q0,q1,q2,q3,q4,q5,q6,q7,q8,q9,qb⟩:=HS.out;clear qb q0 q1 q2 q3 q4 q5 q6 q7 q8;clear HF HP HS;go_wp2_with fail;clear q9;go_loopw [8] (λi wr=>∃j:Nat,j<=n5/\i=.int .i64 j/\Hid (∀t,t<j->El 9 (Cg wr) (.slice o5 n5 c5) t)/\Hid (jC w (.slice o0 n0 c0) (.slice o1 n1 c1) (.slice o2 n2 c2) (.slice o3 n3 c3) (.slice o4 n4 c4) (.slice o5 n5 c5) (.slice o6 n6 c6) (.slice o7 n7 c7) (.slice o8 n8 c8) (.slice o9 n9 c9) wr)/\Hid (AS w4 wr)) (λi _=>n5-(intOf i).toNat)
     case atStart=>exact ⟨0,by omega,rfl,bU (λt ht=>by omega),vR,bU (AC _ _)⟩
     case round =>
      obtain ⟨j5,hj,rfl,HF,HS,HP⟩:=hrel;by_cases hgo:j5<n5
      ·obtain ⟨q0,q1,q2,q3,q4,q5,q6,q7,q8,q9,qb⟩:=HS.out;have QB:=bU qb;clear qb q0 q1 q2 q3 q4 q6 q7 q8 q9;obtain ⟨b,off,cap2,hv2,hx⟩:=Row.some ((HM.out.on QB.out).globals) (by omega);injection hv2 with ho h2 h3;subst ho;obtain ⟨x,hxk⟩:∃x,m.globals[j5]?=some x:=⟨_,bG (by omega)⟩;have hI:=hx j5 x hxk;have k0:=hI.type;have k1:=hI.je;obtain ⟨g0,g1,g2,g3,⟨lv,g4,a4⟩,⟨bv,g5,a5⟩,⟨ev,g6,a6⟩⟩:=hI.init;have k2:wr.cell? ⟨b,off+j5*9+2,none⟩=_:=g0;have k3:wr.cell? ⟨b,off+j5*9+3,none⟩=_:=g1;have k4:wr.cell? ⟨b,off+j5*9+4,none⟩=_:=g2;have k5:wr.cell? ⟨b,off+j5*9+5,none⟩=_:=g3;have k6:wr.cell? ⟨b,off+j5*9+6,none⟩=_:=g4;have k7:wr.cell? ⟨b,off+j5*9+7,none⟩=_:=g5;have k8:wr.cell? ⟨b,off+j5*9+8,none⟩=_:=g6
       obtain ⟨lo,ln,lc,rfl,xE⟩:∃ol nl cl,lv=.slice ol nl cl/\nl=x.init.labels.length:=by
        obtain ⟨ol,cl,h⟩:=Row.len a4;exact ⟨ol,_,cl,h,rfl⟩
       obtain ⟨bo,bn,bc,rfl,hbn⟩:=At.xD _ _ _ a5;obtain ⟨eo,en,ec,rfl,hen⟩:=At.xD _ _ _ a6;obtain ⟨u,hu⟩:∃u,u=wr.alloc (.cells #[.int .i64 x.init.op,.int .i64 x.init.a,.int .i64 x.init.b,.int .i64 x.init.n,.slice lo ln lc,.slice bo bn bc,.slice eo en ec] 59):=⟨_,rfl⟩;have dH:AS wr u:=by rw [hu];exact (AC _ wr).alloc (aC _) _
       have hIn:fM u (At u d) wr.heap.size 0 x.init:=by
        rw [hu];rw [hu] at dH;exact J1 wr _ 59 _ x.init _ _ _ rfl (a4.on dH) (At.on dH _ _ _ a5) (At.on dH _ _ _ a6)
       have hAt:At u (d+1) (.slice (some ⟨wr.heap.size,0,none⟩) 1 1) ([x.init]:List (Ins (IL d))):=J2 _ _ _ _ _ hIn;have hgood:-1<=fH (d+1) ([x.init]:List (Ins (IL d))) 0 0:=(zV (d+1) 0 ([x.init]:List (Ins (IL d))) 0 (by omega)).1;have uK:=CL (d+1) _ ([x.init]:List (Ins (IL d))) 0 0 hAt (by omega);have HC:=bU (CM (d+1) _ ([x.init]:List (Ins (IL d))) 0 0 u hAt (by omega) (by omega) (by omega));generalize fH (d+1) ([x.init]:List (Ins (IL d))) 0 0=r at *
       have zu:Hid (0<=r->∃z:Ins (IL 81),fM u (At u 81) b (off+j5*9+2) z/\Bg z):=bU (λh0=>by
        have hf:=JY (b:=b) (o:=off+j5*9+2) (JZ (uK h0)) λi hi=>by
         match i,hi with
         | 0,_=>exact hIn.op.trans (ak dH g0).symm
         | 1,_=>exact hIn.a.trans (ak dH g1).symm
         | 2,_=>exact hIn.b.trans (ak dH g2).symm
         | 3,_=>exact hIn.n.trans (ak dH g3).symm
         | 4,_=>rw [hu];exact (World.cell?_alloc_at _ _ _ _ rfl).trans (by rw [<- hu];exact (ak dH g4).symm)
         | 5,_=>rw [hu];exact (World.cell?_alloc_at _ _ _ _ rfl).trans (by rw [<- hu];exact (ak dH g5).symm)
         | 6,_=>rw [hu];exact (World.cell?_alloc_at _ _ _ _ rfl).trans (by rw [<- hu];exact (ak dH g6).symm)
        obtain ⟨z,z1,z2⟩:=JX hf;exact ⟨z,z1,z2⟩)
       have uL:Hid (0<=r->El 9 (Cg u) (.slice (some ⟨b,off,none⟩) n5 c5) j5):=bU (λh0=>by
        obtain ⟨z,z1,z2⟩:=zu.out h0;exact ⟨b,off,n5,c5,⟨x.type,x.je,z⟩,rfl,⟨ak dH k0,ak dH k1,z1⟩,z2⟩)
       have rZ:=bU dH;have HU:=bU hu;clear hx hxk hI h2 h3 a4 a5 a6 g0 g1 g2 g3 g4 g5 g6 uK zu hAt hIn dH hu xE hbn hen;go_wp2_with fail;rw [<- HU.out];refine HC.out.mono ?_;rintro e w'' ⟨rfl,hw''⟩;obtain rfl:u=w'':=hw''.symm;by_cases hr0:r<0
       ·go_wp2;go_ret;exact ⟨mJ QB.out rZ.out,.inl rfl⟩
       have pX:=bU (GL (λt ht=>(HF.out t ht).imp λ_ _ _=>Cg.on rZ.out) (uL.out (by omega)));have aM:=bU (HS.out.on rZ.out);have dQ:=bU (mJ HP.out rZ.out);clear uL HF HS HP HC HU q5 k2 k3 k4 k5 k6 k7 k8 k0 k1;go_wp2;go_roundw
       case rel=>exact ⟨j5+1,by omega,by go_num,pX,aM,dQ⟩
       case measure=>simp [intOf];omega
      obtain rfl:n5=j5:=by omega
      obtain ⟨w5,rfl⟩:∃w5,w5=wr:=⟨_,rfl⟩;have F5:=HF;have B5:=HP;have vR:=HS;obtain ⟨q0,q1,q2,q3,q4,q5,q6,q7,q8,q9,qb⟩:=HS.out;clear qb q0 q1 q2 q3 q4 q6 q7 q8 q9;clear HF HP HS;have BE:=bU vR.out.bQ;have E12:=bU B2.out;go_wp2;go_ret;refine ⟨BE.out,.inr ⟨rfl,?_⟩⟩;have Pj:=B5.out;have Pk:=mJ B4.out Pj;have ZO:=mJ B3.out Pk;have b15:=mJ B2.out ZO;obtain ⟨lf,hlf,rf⟩:=GK (by omega) λt ht=>(F1.out t ht).imp λ_ _ _=>zt.on b15;obtain ⟨le,hle,re⟩:=GK (by omega) λt ht=>(F3.out t ht).imp λ_ _ _=>Bh.on Pk;obtain ⟨ld,hld,rd⟩:=GK (by omega) λt ht=>(F4.out t ht).imp λ_ _ _=>Bi.on Pj;obtain ⟨lg,hlg,rg⟩:=GK (by omega) F5.out;have hA:=HM.out.on BE.out;have hLN:=Be.out;refine ⟨⟨m.types,m.imports,lf,m.tables,m.aF,lg,m.exports,m.start,le,ld⟩,⟨hA.types,hA.imports,rf.imp λ_ _ _ _ h=>h.1,hA.tables,hA.aF,rg.imp λ_ _ _ _ h=>h.1,hA.exports,hA.start,re.imp λ_ _ _ _ h=>h.1,rd.imp λ_ _ _ _ h=>h.1⟩,?_,rfl,rfl⟩;refine ⟨by show m.types.length<=_;omega,by show m.imports.length<=_;omega,by show lf.length<=_;omega,by show m.tables.length<=_;omega,by show m.aF.length<=_;omega,by show lg.length<=_;omega,by show m.exports.length<=_;omega,by show le.length<=_;omega,by show ld.length<=_;omega,by show m.start.length<=_;omega,λx hx=>?_,mem_row rf,mem_row rg,mem_row re,mem_row rd⟩;obtain ⟨t,ht,rfl⟩:=List.getElem_of_mem hx;exact F2.out t _ (by have h3:t<m.types.length:=ht;omega) (bG ht)
end Go.Proofs.YtcfifbgemfladaaGreatDoor
