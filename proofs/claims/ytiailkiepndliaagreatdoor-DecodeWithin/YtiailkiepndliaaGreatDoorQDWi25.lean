/- Texts that the claim needs. -/
import Derived.Test.YtiailkiepndliaaGreatDoorQDWi21
import Derived.Test.YtiailkiepndliaaGreatDoorQDWi1
import Derived.Test.YtiailkiepndliaaGreatDoorQDWi24
import Derived.Deep.CutRange
namespace Go.Proofs.YtiailkiepndliaaGreatDoor
open Go.RowKit Rep
set_option linter.unusedVariables false
namespace Rep
theorem fitL_up {w:World}:∀(k:Nat) (v:Value),FitL w k v->FitL w (k+1) v
 | 0,v,⟨l,⟨o,cap,hv⟩,_⟩=>by subst hv;exact fitL_no w _ o cap
 | k+1,v,⟨l,hA,hL⟩=>by
  have hR:Row 7 (InsAt w (At w k)) v l:=hA
  have hB:LbL (Lb k) l:=hL
  rcases hR with ⟨hl,⟨hnil,o,cap,rfl⟩|⟨b,off,cap,rfl,hx⟩⟩
  ·exact fitL_no w _ o cap
  ·refine fitL_of w (k+1) b off _ cap hB.1 fun t ht=>?_
   obtain ⟨x,hxt⟩:∃x,getElem? (coll:=List (Ins (IL k))) l t=some x:=⟨_,List.getElem?_eq_getElem ht⟩
   have hI:=hx t x hxt
   obtain ⟨g1,g2,g3⟩:=hB.2 x (List.mem_of_getElem? hxt)
   obtain ⟨v4,q4,i4⟩:=hI.labels
   obtain ⟨v5,q5,a5⟩:=hI.body
   obtain ⟨v6,q6,a6⟩:=hI.els
   exact fit_mk hI.op hI.a hI.b hI.n q4 i4 g1 q5 q6 (fitL_up k v5 ⟨_,a5,g2⟩) (fitL_up k v6 ⟨_,a6,g3⟩)
theorem fit_up {w:World} {k b o:Nat} (h:Fit w k b o):Fit w (k+1) b o:=by
 obtain ⟨x,hI,g1,g2,g3⟩:=h
 obtain ⟨v4,q4,i4⟩:=hI.labels
 obtain ⟨v5,q5,a5⟩:=hI.body
 obtain ⟨v6,q6,a6⟩:=hI.els
 exact fit_mk hI.op hI.a hI.b hI.n q4 i4 g1 q5 q6 (fitL_up k v5 ⟨_,a5,g2⟩) (fitL_up k v6 ⟨_,a6,g3⟩)
theorem FitL.on {w w':World} (hb:Below w.heap.size w w') {k:Nat} {v:Value} (h:FitL w k v):FitL w' k v:=let ⟨l,a,b⟩:=h;⟨l,At.on hb k v l a,b⟩
theorem Fit.on {w w':World} (hb:Below w.heap.size w w') {k b o:Nat} (h:Fit w k b o):Fit w' k b o:=let ⟨z,a,b⟩:=h;⟨z,a.on hb (At.on hb k),b⟩
theorem fit_back {w:World} {k b o b' o':Nat} (h:Fit w k b' o') (hc:∀j,j<7->w.cell? ⟨b',o'+j,none⟩=w.cell? ⟨b,o+j,none⟩):Fit w k b o:=by
 obtain ⟨x,hI,g⟩:=h
 obtain ⟨v4,q4,i4⟩:=hI.labels
 obtain ⟨v5,q5,a5⟩:=hI.body
 obtain ⟨v6,q6,a6⟩:=hI.els
 exact ⟨x,⟨(hc 0 (by omega)).symm.trans hI.op,(hc 1 (by omega)).symm.trans hI.a,(hc 2 (by omega)).symm.trans hI.b,(hc 3 (by omega)).symm.trans hI.n,⟨v4,(hc 4 (by omega)).symm.trans q4,i4⟩,⟨v5,(hc 5 (by omega)).symm.trans q5,a5⟩,⟨v6,(hc 6 (by omega)).symm.trans q6,a6⟩⟩,g⟩
theorem fitL_one {w:World} {k b off cap:Nat} (h:FitL w (k+1) (.slice (some ⟨b,off,none⟩) 1 cap)):Fit w k b off:=by
 obtain ⟨l,hA,hL⟩:=h
 have hR:Row 7 (InsAt w (At w k)) (.slice (some ⟨b,off,none⟩) 1 cap) l:=hA
 have hB:LbL (Lb k) l:=hL
 rcases hR with ⟨hl,⟨hnil,o,cap',hv⟩|⟨b',off',cap',hv,hx⟩⟩
 ·injection hv with _ h2;omega
 ·injection hv with h1 h2
  injection h1 with h1
  injection h1 with h1 h3
  subst h1
  subst h3
  obtain ⟨x,hx0⟩:∃x,getElem? (coll:=List (Ins (IL k))) l 0=some x:=⟨_,List.getElem?_eq_getElem (by omega)⟩
  have:=hx 0 x hx0
  rw [Nat.zero_mul] at this
  exact ⟨x,this,hB.2 x (List.mem_of_getElem? hx0)⟩
def El {α:Type} (c:Nat) (f:Nat->Nat->α->Prop) (v:Value) (t:Nat):Prop:=∃b off n cap z,v=.slice (some ⟨b,off,none⟩) n cap/\f b (off+t*c) z
theorem El.imp {α:Type} {c:Nat} {f g:Nat->Nat->α->Prop} {v:Value} {t:Nat} (h:El c f v t) (hfg:∀b o z,f b o z->g b o z):El c g v t:=let ⟨b,off,n,cap,z,hv,hz⟩:=h;⟨b,off,n,cap,z,hv,hfg _ _ _ hz⟩
theorem row_el {α:Type} {c:Nat} {f:Nat->Nat->α->Prop} {o:Option Addr} {n cap:Nat} (hn:n<=9223372036854775807) (h:∀t,t<n->El c f (.slice o n cap) t):∃l:List α,l.length=n/\Row c f (.slice o n cap) l:=by
 by_cases h0:n=0
 ·subst h0;exact ⟨[],rfl,by simp,.inl ⟨rfl,o,cap,rfl⟩⟩
 ·obtain ⟨b,off,n',cap',z,hv,_⟩:=h 0 (by omega)
  injection hv with h1 h2 h3
  subst h1
  obtain ⟨l,hl,hf⟩:=choose_list n (fun t z=>f b (off+t*c) z) fun t ht=>by
   obtain ⟨b2,off2,n2,cap2,z2,hv2,hz2⟩:=h t ht
   injection hv2 with h1 _ _
   injection h1 with h1
   injection h1 with h1 h3
   subst h1
   subst h3
   exact ⟨z2,hz2⟩
  exact ⟨l,hl,by omega,.inr ⟨b,off,cap,by rw [hl],hf⟩⟩
def SmT (x:FT):Prop:=x.params.length<=30010/\x.results.length<=30010
def SmI {d:Nat} (x:Ins (IL d)):Prop:=x.labels.length<=15010/\Lb d x.body/\Lb d x.els
def SmF {d:Nat} (x:Fun d):Prop:=(x.locals.length<=150200/\wt d x.body<=1500)/\Lb d x.body
def SmE {d:Nat} (x:Elm d):Prop:=SmI x.offset/\x.funcs.length<=30010
def SmD {d:Nat} (x:Dat d):Prop:=SmI x.offset/\x.bytes.size<=300000
structure Small {d:Nat} (m:Mod d):Prop where
 ltypes:m.types.length<=5000
 limports:m.imports.length<=5000
 lfuncs:m.funcs.length<=5000
 ltables:m.tables.length<=5000
 lmems:m.mems.length<=5000
 lglobals:m.globals.length<=5000
 lexports:m.exports.length<=5000
 lelems:m.elems.length<=5000
 ldatas:m.datas.length<=5000
 lstart:m.start.length<=5000
 types:∀x ∈ m.types,SmT x
 funcs:∀x ∈ m.funcs,SmF x
 globals:∀x ∈ m.globals,SmI x.init
 elems:∀x ∈ m.elems,SmE x
 datas:∀x ∈ m.datas,SmD x
def FnOk (w:World) (b o:Nat) (z:Fun 81):Prop:=FunAt w 81 b o z/\SmF z
def GlOk (w:World) (b o:Nat) (z:Glo 81):Prop:=GloAt w 81 b o z/\SmI z.init
def ElOk (w:World) (b o:Nat) (z:Elm 81):Prop:=ElmAt w 81 b o z/\SmE z
def DaOk (w:World) (b o:Nat) (z:Dat 81):Prop:=DatAt w 81 b o z/\SmD z
section On
variable {w w':World} (hb:Below w.heap.size w w')
include hb
theorem FnOk.on {b o:Nat} {z:Fun 81} (h:FnOk w b o z):FnOk w' b o z:=⟨h.1.on hb,h.2⟩
theorem GlOk.on {b o:Nat} {z:Glo 81} (h:GlOk w b o z):GlOk w' b o z:=⟨h.1.on hb,h.2⟩
theorem ElOk.on {b o:Nat} {z:Elm 81} (h:ElOk w b o z):ElOk w' b o z:=⟨h.1.on hb,h.2⟩
theorem DaOk.on {b o:Nat} {z:Dat 81} (h:DaOk w b o z):DaOk w' b o z:=⟨h.1.on hb,h.2⟩
end On
theorem insAt_lay {α:Type} (w:World) (f:Value->α->Prop) (t:TypeId) (b:Nat) (x:Ins α) (v4 v5 v6:Value) (hb:b=w.heap.size)
  (h4:Ints (w.alloc (.cells #[.int .i64 x.op,.int .i64 x.a,.int .i64 x.b,.int .i64 x.n,v4,v5,v6] t)) v4 x.labels) (h5:f v5 x.body) (h6:f v6 x.els) :
  InsAt (w.alloc (.cells #[.int .i64 x.op,.int .i64 x.a,.int .i64 x.b,.int .i64 x.n,v4,v5,v6] t)) f b 0 x:=by
 have hc:∀(i:Nat) (v:Value),#[Value.int .i64 x.op,.int .i64 x.a,.int .i64 x.b,.int .i64 x.n,v4,v5,v6][i]?=some v->(w.alloc (.cells #[.int .i64 x.op,.int .i64 x.a,.int .i64 x.b,.int .i64 x.n,v4,v5,v6] t)).cell? ⟨b,i,none⟩=some v:=fun i v h=>by
  rw [World.cell?_alloc_at _ t _ _ hb];exact h
 exact ⟨hc _ _ rfl,hc _ _ rfl,hc _ _ rfl,hc _ _ rfl,⟨_,hc _ _ rfl,h4⟩,⟨_,hc _ _ rfl,h5⟩,⟨_,hc _ _ rfl,h6⟩⟩
theorem row_sing {α:Type} (k:Nat) (f:Nat->Nat->α->Prop) (b cap:Nat) (x:α) (h:f b 0 x):Row k f (.slice (some ⟨b,0,none⟩) 1 cap) [x] :=
 ⟨by simp,.inr ⟨b,0,cap,rfl,fun i y hi=>by
  match i,hi with
  | 0,hi=>simp at hi;subst hi;simpa using h
  | i+1,hi=>simp at hi⟩⟩
theorem mem_row {α:Type} {c:Nat} {f:Nat->Nat->α->Prop} {g:α->Prop} {v:Value} {l:List α} (h:Row c (fun b o x=>f b o x/\g x) v l):∀x ∈ l,g x:=row_mem h
theorem el_on {p:Nat->Prop} {j:Nat} (h:∀t,t<j->p t) (hj:p j):∀t,t<j+1->p t:=fun t ht=>by
 by_cases h2:t<j
 ·exact h t h2
 ·obtain rfl:t=j:=by omega
  exact hj
end Rep
def LargeSays {d:Nat} (v0 v1 v2 v3 v4 v5 v6 v7 v8 v9:Value) (m:Mod d) (w:World) (e:Ending) (w':World):Prop :=
 Below w.heap.size w w'/\(e=.returned (.bool true)\/(e=.returned (.bool false)/\∃m':Mod 81,ModAt w' 81 v0 v1 v2 v3 v4 v5 v6 v7 v8 v9 m'/\Small m'/\m'.imports=m.imports/\m'.exports=m.exports))
set_option maxRecDepth 100000 in
set_option maxHeartbeats 8000000 in
theorem pLarge (d:Nat) (v0 v1 v2 v3 v4 v5 v6 v7 v8 v9:Value) (m:Mod d) (w:World) (hM:ModAt w d v0 v1 v2 v3 v4 v5 v6 v7 v8 v9 m) (hsz:∀x ∈ m.datas,x.bytes.size<=9223372036854775807) :
  Calls Tryz.prog 4 #[.agg #[v0,v1,v2,v3,v4,v5,v6,v7,v8,v9]] w (LargeSays v0 v1 v2 v3 v4 v5 v6 v7 v8 v9 m w):=by
 have l0:=hM.types.1
 have l1:=hM.imports.1
 have l2:=hM.funcs.1
 have l3:=hM.tables.1
 have l4:=hM.mems.1
 have l5:=hM.globals.1
 have l6:=hM.exports.1
 have l7:=hM.start.1
 have l8:=hM.elems.1
 have l9:=hM.datas.1
 have HM:=hideK hM
 have HZ:=hideK hsz
 obtain ⟨o0,c0,rfl⟩:=Row.len hM.types
 obtain ⟨o1,c1,rfl⟩:=Row.len hM.imports
 obtain ⟨o2,c2,rfl⟩:=Row.len hM.funcs
 obtain ⟨o3,c3,rfl⟩:=Row.len hM.tables
 obtain ⟨o4,c4,rfl⟩:=Row.len hM.mems
 obtain ⟨o5,c5,rfl⟩:=Row.len hM.globals
 obtain ⟨o6,c6,rfl⟩:=Row.len hM.exports
 obtain ⟨o7,c7,rfl⟩:=Row.len hM.start
 obtain ⟨o8,c8,rfl⟩:=Row.len hM.elems
 obtain ⟨o9,c9,rfl⟩:=Row.len hM.datas
 have HS0:=hideK (Box.start w 36 (.slice o0 m.types.length c0) (.slice o1 m.imports.length c1) (.slice o2 m.funcs.length c2) (.slice o3 m.tables.length c3) (.slice o4 m.mems.length c4) (.slice o5 m.globals.length c5) (.slice o6 m.exports.length c6) (.slice o7 m.start.length c7) (.slice o8 m.elems.length c8) (.slice o9 m.datas.length c9))
 clear hM hsz
 generalize hn0:m.types.length=n0 at *
 generalize hn1:m.imports.length=n1 at *
 generalize hn2:m.funcs.length=n2 at *
 generalize hn3:m.tables.length=n3 at *
 generalize hn4:m.mems.length=n4 at *
 generalize hn5:m.globals.length=n5 at *
 generalize hn6:m.exports.length=n6 at *
 generalize hn7:m.start.length=n7 at *
 generalize hn8:m.elems.length=n8 at *
 generalize hn9:m.datas.length=n9 at *
 go_enter Tryz.func4,Tryz.ntmps4
 go_upto_region 1 with fail
 obtain ⟨wb,hwb⟩:∃wb,wb=w.alloc (.cells #[.slice o0 n0 c0,.slice o1 n1 c1,.slice o2 n2 c2,.slice o3 n3 c3,.slice o4 n4 c4,.slice o5 n5 c5,.slice o6 n6 c6,.slice o7 n7 c7,.slice o8 n8 c8,.slice o9 n9 c9] 36):=⟨_,rfl⟩
 rw [<- hwb] at HS0 ⊢
 clear hwb
 obtain ⟨q0,q1,q2,q3,q4,q5,q6,q7,q8,q9,qb⟩:=HS0.out
 have QB:=hideK qb
 clear qb
 obtain ⟨B,hB⟩:∃B:Bool,B=decide (5000<n0\/5000<n1\/5000<n2\/5000<n3\/5000<n4\/5000<n5\/5000<n6\/5000<n8\/5000<n9\/5000<n7):=⟨_,rfl⟩
 have HBB:=hideK hB
 clear hB
 go_cut [66] from 9 to 66 (fun c wx=>c=.bool B/\wx=wb)
 case first =>
  by_cases g0:5000<n0
  ·obtain rfl:B=true:=HBB.out.trans (decide_eq_true (by omega))
   have t0:decide ((5000:Int)<(n0:Int))=true:=decide_eq_true (by omega)
   go_wp2_with fail
   go_meet
   exact ⟨rfl,rfl⟩
  have t0:decide ((5000:Int)<(n0:Int))=false:=decide_eq_false (by omega)
  by_cases g1:5000<n1
  ·obtain rfl:B=true:=HBB.out.trans (decide_eq_true (by omega))
   have t1:decide ((5000:Int)<(n1:Int))=true:=decide_eq_true (by omega)
   go_wp2_with fail
   go_meet
   exact ⟨rfl,rfl⟩
  have t1:decide ((5000:Int)<(n1:Int))=false:=decide_eq_false (by omega)
  by_cases g2:5000<n2
  ·obtain rfl:B=true:=HBB.out.trans (decide_eq_true (by omega))
   have t2:decide ((5000:Int)<(n2:Int))=true:=decide_eq_true (by omega)
   go_wp2_with fail
   go_meet
   exact ⟨rfl,rfl⟩
  have t2:decide ((5000:Int)<(n2:Int))=false:=decide_eq_false (by omega)
  by_cases g3:5000<n3
  ·obtain rfl:B=true:=HBB.out.trans (decide_eq_true (by omega))
   have t3:decide ((5000:Int)<(n3:Int))=true:=decide_eq_true (by omega)
   go_wp2_with fail
   go_meet
   exact ⟨rfl,rfl⟩
  have t3:decide ((5000:Int)<(n3:Int))=false:=decide_eq_false (by omega)
  by_cases g4:5000<n4
  ·obtain rfl:B=true:=HBB.out.trans (decide_eq_true (by omega))
   have t4:decide ((5000:Int)<(n4:Int))=true:=decide_eq_true (by omega)
   go_wp2_with fail
   go_meet
   exact ⟨rfl,rfl⟩
  have t4:decide ((5000:Int)<(n4:Int))=false:=decide_eq_false (by omega)
  by_cases g5:5000<n5
  ·obtain rfl:B=true:=HBB.out.trans (decide_eq_true (by omega))
   have t5:decide ((5000:Int)<(n5:Int))=true:=decide_eq_true (by omega)
   go_wp2_with fail
   go_meet
   exact ⟨rfl,rfl⟩
  have t5:decide ((5000:Int)<(n5:Int))=false:=decide_eq_false (by omega)
  by_cases g6:5000<n6
  ·obtain rfl:B=true:=HBB.out.trans (decide_eq_true (by omega))
   have t6:decide ((5000:Int)<(n6:Int))=true:=decide_eq_true (by omega)
   go_wp2_with fail
   go_meet
   exact ⟨rfl,rfl⟩
  have t6:decide ((5000:Int)<(n6:Int))=false:=decide_eq_false (by omega)
  by_cases g8:5000<n8
  ·obtain rfl:B=true:=HBB.out.trans (decide_eq_true (by omega))
   have t8:decide ((5000:Int)<(n8:Int))=true:=decide_eq_true (by omega)
   go_wp2_with fail
   go_meet
   exact ⟨rfl,rfl⟩
  have t8:decide ((5000:Int)<(n8:Int))=false:=decide_eq_false (by omega)
  by_cases g9:5000<n9
  ·obtain rfl:B=true:=HBB.out.trans (decide_eq_true (by omega))
   have t9:decide ((5000:Int)<(n9:Int))=true:=decide_eq_true (by omega)
   go_wp2_with fail
   go_meet
   exact ⟨rfl,rfl⟩
  have t9:decide ((5000:Int)<(n9:Int))=false:=decide_eq_false (by omega)
  by_cases g7:5000<n7
  ·obtain rfl:B=true:=HBB.out.trans (decide_eq_true (by omega))
   have t7:decide ((5000:Int)<(n7:Int))=true:=decide_eq_true (by omega)
   go_wp2_with fail
   go_meet
   exact ⟨rfl,rfl⟩
  have t7:decide ((5000:Int)<(n7:Int))=false:=decide_eq_false (by omega)
  obtain rfl:B=false:=HBB.out.trans (decide_eq_false (by omega))
  go_wp2_with fail
  go_meet
  exact ⟨rfl,rfl⟩
 obtain ⟨rfl,rfl⟩:=hcut
 clear q0 q1 q2 q3 q4 q5 q6 q7 q8 q9
 cases B with
 | true =>
  go_wp2
  go_ret
  exact ⟨QB.out,.inl rfl⟩
 | false =>
 have hB:¬ (5000<n0\/5000<n1\/5000<n2\/5000<n3\/5000<n4\/5000<n5\/5000<n6\/5000<n8\/5000<n9\/5000<n7):=of_decide_eq_false HBB.out.symm
 have HLN:Hid (n0<=5000/\n1<=5000/\n2<=5000/\n3<=5000/\n4<=5000/\n5<=5000/\n6<=5000/\n7<=5000/\n8<=5000/\n9<=5000):=hideK (by omega)
 have g0:n0<=5000:=by omega
 have g2:n2<=5000:=by omega
 have g5:n5<=5000:=by omega
 have g8:n8<=5000:=by omega
 have g9:n9<=5000:=by omega
 clear hB HBB QB
 go_wp2_with fail
 go_loopw [3,4] (fun c i wr=>∃(j:Nat) (n:Int),j<=n2/\i=.int .i64 j/\c=.int .i64 n/\0<=n/\n<=1500/\Hid (∀t,t<j->El 3 (FnOk wr) (.slice o2 n2 c2) t)/\Hid (Box w (.slice o0 n0 c0) (.slice o1 n1 c1) (.slice o2 n2 c2) (.slice o3 n3 c3) (.slice o4 n4 c4) (.slice o5 n5 c5) (.slice o6 n6 c6) (.slice o7 n7 c7) (.slice o8 n8 c8) (.slice o9 n9 c9) wr)) (fun _ i _=>n2-(intOf i).toNat)
 case atStart=>exact ⟨0,0,by omega,rfl,rfl,by omega,by omega,hideK (fun t ht=>by omega),HS0⟩
 case round =>
  obtain ⟨j,n,hj,rfl,rfl,hn0,hn1,HF,HS⟩:=hrel
  by_cases hgo:j<n2
  ·obtain ⟨q0,q1,q2,q3,q4,q5,q6,q7,q8,q9,qb⟩:=HS.out
   have QB:=hideK qb
   clear qb q0 q1 q3 q4 q5 q6 q7 q8 q9
   obtain ⟨b,off,cap2,hv2,hx⟩:=Row.some ((HM.out.on QB.out).funcs) (by omega)
   injection hv2 with ho h2 h3
   subst ho
   obtain ⟨x,hxk⟩:∃x,m.funcs[j]?=some x:=⟨_,List.getElem?_eq_getElem (by omega)⟩
   have hI:=hx j x hxk
   obtain ⟨vl,ql,il⟩:=hI.locals
   obtain ⟨vb,qbd,ab⟩:=hI.body
   have qt:=hI.type
   obtain ⟨ol,nl,cl,rfl,hnl⟩:∃ol nl cl,vl=.slice ol nl cl/\nl=x.locals.length:=by
    obtain ⟨ol,cl,h⟩:=Row.len il
    exact ⟨ol,_,cl,h,rfl⟩
   have hlb:=il.1
   rw [<- hnl] at hlb
   obtain ⟨ob,nb,cb,rfl,hnb⟩:=At.size_none _ _ _ ab
   have hgood:-1<=wgh d x.body 0 (n+(nl:Int) / 100)/\(wgh d x.body 0 (n+(nl:Int) / 100)<=n+(nl:Int) / 100\/wgh d x.body 0 (n+(nl:Int) / 100)<=1500)/\(0<=wgh d x.body 0 (n+(nl:Int) / 100)->n+(nl:Int) / 100<=wgh d x.body 0 (n+(nl:Int) / 100)):=wgh_good d 0 x.body (n+(nl:Int) / 100) (by omega)
   have HFit:=hideK (wgh_fit d _ x.body 0 (n+(nl:Int) / 100) ab (by omega))
   obtain ⟨r,hr⟩:∃r,r=wgh d x.body 0 (n+(nl:Int) / 100):=⟨_,rfl⟩
   rw [<- hr] at hgood HFit
   have i1:∀k,Hid (Calls Tryz.prog 10 #[.slice ob nb cb,.int .i64 0,.int .i64 (n+(nl:Int) / 100)] (wr.drewN k) fun e w''=>e=.returned (.int .i64 r)/\∃n',w''=wr.drewN n'):=fun k =>
    hideK ((weigh d _ x.body 0 (n+(nl:Int) / 100) (wr.drewN k) (At.on (below_drewN' wr k) _ _ _ ab) (by omega) (by omega) (by omega)).mono fun e w' ⟨h1,h2⟩=>⟨by rw [h1,hr],k,h2⟩)
   have HEl:Hid (0<=r->r<=1500->El 3 (FnOk wr) (.slice (some ⟨b,off,none⟩) n2 c2) j):=hideK (fun h0 h1=>by
    obtain ⟨l',al,bl⟩:=HFit.out h0
    exact ⟨b,off,n2,c2,⟨x.type,x.locals,l'⟩,rfl,⟨hI.type,⟨_,ql,il⟩,⟨_,qbd,al⟩⟩,⟨by show x.locals.length<=150200;omega,by show wt 81 l'<=1500;have e1:=wt_on d 81 _ x.body l' ab al;have e2:=wgh_wt d x.body 0 (n+(nl:Int) / 100) (by omega) (by rw [<- hr];exact h0);rw [<- hr] at e2;omega⟩,bl⟩)
   clear hx hxk hI h2 h3 hnl hnb hr HFit ab il
   go_upto_region 7 with fail
   go_quiet (first|(go_at_call 10;exact (i1 _).out))
   have HB':=hideK (below_drewN' wr nq)
   generalize wr.drewN nq=wq at *
   by_cases hr0:r<0
   ·go_wp2
    go_ret
    exact ⟨below_go QB.out HB'.out,.inl rfl⟩
   by_cases hr1:1500<r
   ·go_wp2
    go_ret
    exact ⟨below_go QB.out HB'.out,.inl rfl⟩
   have HF2:=hideK (el_on (fun t ht=>(HF.out t ht).imp fun _ _ _=>FnOk.on HB'.out) ((HEl.out (by omega) (by omega)).imp fun _ _ _=>FnOk.on HB'.out))
   have HS2:=hideK (HS.out.on HB'.out)
   clear i1 HEl HF HS q2 ql qbd qt hgood
   go_wp2
   go_roundw
   case rel=>exact ⟨j+1,r,by omega,by go_num,rfl,by omega,by omega,HF2,HS2⟩
   case measure=>simp [intOf];omega
  obtain rfl:n2=j:=by omega
  obtain ⟨w1,rfl⟩:∃w1,w1=wr:=⟨_,rfl⟩
  have F1:=HF
  have B1:=hideK HS.out.bel
  obtain ⟨q0,q1,q2,q3,q4,q5,q6,q7,q8,q9,qb⟩:=HS.out
  clear qb q0 q1 q3 q4 q5 q6 q7 q8 q9
  clear HF
  go_wp2_with fail
  clear q2
  obtain ⟨nA,rfl⟩:∃nA,nA=n:=⟨_,rfl⟩
  go_loopw [3,5] (fun c i wr=>∃(j:Nat) (n:Int),j<=n0/\i=.int .i64 j/\c=.int .i64 n/\0<=n/\n<=3000/\Hid (∀t x,t<j->m.types[t]?=some x->SmT x)/\Hid (Box w (.slice o0 n0 c0) (.slice o1 n1 c1) (.slice o2 n2 c2) (.slice o3 n3 c3) (.slice o4 n4 c4) (.slice o5 n5 c5) (.slice o6 n6 c6) (.slice o7 n7 c7) (.slice o8 n8 c8) (.slice o9 n9 c9) wr)/\Hid (Below w1.heap.size w1 wr)) (fun _ i _=>n0-(intOf i).toNat)
  case atStart=>exact ⟨0,nA,by omega,rfl,rfl,by omega,by omega,hideK (fun t x ht=>by omega),HS,hideK (Below.refl _ _)⟩
  case round =>
   obtain ⟨j2,n,hj2,rfl,rfl,hm0,hm1,HF,HS',HP⟩:=hrel
   by_cases hgo:j2<n0
   ·obtain ⟨q0,q1,q2,q3,q4,q5,q6,q7,q8,q9,qb⟩:=HS'.out
    have QB:=hideK qb
    clear qb q1 q2 q3 q4 q5 q6 q7 q8 q9
    obtain ⟨b,off,cap2,hv2,hx⟩:=Row.some ((HM.out.on QB.out).types) (by omega)
    injection hv2 with ho h2 h3
    subst ho
    obtain ⟨x,hxk⟩:∃x,m.types[j2]?=some x:=⟨_,List.getElem?_eq_getElem (by omega)⟩
    have hI:=hx j2 x hxk
    obtain ⟨vl,ql,il⟩:=hI.params
    obtain ⟨vr,qr,ir⟩:=hI.results
    obtain ⟨ol,nl,cl,rfl,hnl⟩:∃ol nl cl,vl=.slice ol nl cl/\nl=x.params.length:=by
     obtain ⟨ol,cl,h⟩:=Row.len il
     exact ⟨ol,_,cl,h,rfl⟩
    obtain ⟨or,nr,cr,rfl,hnr⟩:∃ol nl cl,vr=.slice ol nl cl/\nl=x.results.length:=by
     obtain ⟨ol,cl,h⟩:=Row.len ir
     exact ⟨ol,_,cl,h,rfl⟩
    have hlb:=il.1
    have hrb:=ir.1
    rw [<- hnl] at hlb
    rw [<- hnr] at hrb
    have HSm:Hid (n+((nl:Int) / 10+(nr:Int) / 10)<=3000->∀t y,t<j2+1->m.types[t]?=some y->SmT y):=hideK (fun h t y ht hy=>by
     by_cases h2:t<j2
     ·exact HF.out t y h2 hy
     ·obtain rfl:t=j2:=by omega
      obtain rfl:x=y:=Option.some.inj (hxk.symm.trans hy)
      exact ⟨by omega,by omega⟩)
    clear hx hxk hI h2 h3 hnl hnr il ir HF
    go_upto_region 13 with fail
    go_quiet (fail)
    have HB':=hideK (below_drewN' wr nq)
    generalize wr.drewN nq=wq at *
    obtain ⟨r,hr⟩:∃r,r=n+((nl:Int) / 10+(nr:Int) / 10):=⟨_,rfl⟩
    rw [<- hr] at HSm ⊢
    have hr0:0<=r:=by omega
    have hr9:r<=4611686018427387904:=by omega
    clear hr
    by_cases hr1:3000<r
    ·go_wp2
     go_ret
     exact ⟨below_go QB.out HB'.out,.inl rfl⟩
    have HF2:=hideK (HSm.out (by omega))
    have HS2:=hideK (HS'.out.on HB'.out)
    have HP2:=hideK (below_go HP.out HB'.out)
    clear HSm HS' q0 ql qr HP
    go_wp2
    go_roundw
    case rel=>exact ⟨j2+1,r,by omega,by go_num,rfl,by omega,by omega,HF2,HS2,HP2⟩
    case measure=>simp [intOf];omega
   obtain rfl:n0=j2:=by omega
   obtain ⟨w2,rfl⟩:∃w2,w2=wr:=⟨_,rfl⟩
   have F2:=HF
   have B2:=HP
   obtain ⟨q0,q1,q2,q3,q4,q5,q6,q7,q8,q9,qb⟩:=HS'.out
   clear qb q1 q2 q3 q4 q5 q6 q7 q8 q9
   clear HF HP HS
   go_wp2_with fail
   clear q0
   obtain ⟨nA,rfl⟩:∃nA,nA=n:=⟨_,rfl⟩
   go_loopw [3,6] (fun c i wr=>∃(j:Nat) (n:Int),j<=n8/\i=.int .i64 j/\c=.int .i64 n/\0<=n/\n<=3000/\Hid (∀t,t<j->El 8 (ElOk wr) (.slice o8 n8 c8) t)/\Hid (Box w (.slice o0 n0 c0) (.slice o1 n1 c1) (.slice o2 n2 c2) (.slice o3 n3 c3) (.slice o4 n4 c4) (.slice o5 n5 c5) (.slice o6 n6 c6) (.slice o7 n7 c7) (.slice o8 n8 c8) (.slice o9 n9 c9) wr)/\Hid (Below w2.heap.size w2 wr)) (fun _ i _=>n8-(intOf i).toNat)
   case atStart=>exact ⟨0,nA,by omega,rfl,rfl,by omega,by omega,hideK (fun t ht=>by omega),HS',hideK (Below.refl _ _)⟩
   case round =>
    obtain ⟨j3,n,hj,rfl,rfl,hm0,hm1,HF,HS,HP⟩:=hrel
    by_cases hgo:j3<n8
    ·obtain ⟨q0,q1,q2,q3,q4,q5,q6,q7,q8,q9,qb⟩:=HS.out
     have QB:=hideK qb
     clear qb q0 q1 q2 q3 q4 q5 q6 q7 q9
     obtain ⟨b,off,cap2,hv2,hx⟩:=Row.some ((HM.out.on QB.out).elems) (by omega)
     injection hv2 with ho h2 h3
     subst ho
     obtain ⟨x,hxk⟩:∃x,m.elems[j3]?=some x:=⟨_,List.getElem?_eq_getElem (by omega)⟩
     have hI:=hx j3 x hxk
     obtain ⟨vf,k7,jf⟩:=hI.funcs
     obtain ⟨fo,fn,fc,rfl,hfn⟩:∃ol nl cl,vf=.slice ol nl cl/\nl=x.funcs.length:=by
      obtain ⟨ol,cl,h⟩:=Row.len jf
      exact ⟨ol,_,cl,h,rfl⟩
     have hfb:=jf.1
     rw [<- hfn] at hfb
     obtain ⟨g0,g1,g2,g3,⟨lv,g4,a4⟩,⟨bv,g5,a5⟩,⟨ev,g6,a6⟩⟩:=hI.offset
     have k0:wr.cell? ⟨b,off+j3*8,none⟩=_:=g0
     have k1:wr.cell? ⟨b,off+j3*8+1,none⟩=_:=g1
     have k2:wr.cell? ⟨b,off+j3*8+2,none⟩=_:=g2
     have k3:wr.cell? ⟨b,off+j3*8+3,none⟩=_:=g3
     have k4:wr.cell? ⟨b,off+j3*8+4,none⟩=_:=g4
     have k5:wr.cell? ⟨b,off+j3*8+5,none⟩=_:=g5
     have k6:wr.cell? ⟨b,off+j3*8+6,none⟩=_:=g6
     obtain ⟨lo,ln,lc,rfl,hln⟩:∃ol nl cl,lv=.slice ol nl cl/\nl=x.offset.labels.length:=by
      obtain ⟨ol,cl,h⟩:=Row.len a4
      exact ⟨ol,_,cl,h,rfl⟩
     obtain ⟨bo,bn,bc,rfl,hbn⟩:=At.size_none _ _ _ a5
     obtain ⟨eo,en,ec,rfl,hen⟩:=At.size_none _ _ _ a6
     obtain ⟨u,hu⟩:∃u,u=wr.alloc (.cells #[.int .i64 x.offset.op,.int .i64 x.offset.a,.int .i64 x.offset.b,.int .i64 x.offset.n,.slice lo ln lc,.slice bo bn bc,.slice eo en ec] 50):=⟨_,rfl⟩
     have hBu:Below wr.heap.size wr u:=by rw [hu];exact (Below.refl _ wr).alloc (Nat.le_refl _) _
     have hIn:InsAt u (At u d) wr.heap.size 0 x.offset:=by
      rw [hu]
      rw [hu] at hBu
      exact insAt_lay wr _ 50 _ x.offset _ _ _ rfl (a4.on hBu) (At.on hBu _ _ _ a5) (At.on hBu _ _ _ a6)
     have hAt:At u (d+1) (.slice (some ⟨wr.heap.size,0,none⟩) 1 1) ([x.offset]:List (Ins (IL d))):=row_sing _ _ _ _ _ hIn
     have hgood:-1<=wgh (d+1) ([x.offset]:List (Ins (IL d))) 0 0:=(wgh_good (d+1) 0 ([x.offset]:List (Ins (IL d))) 0 (by omega)).1
     have HFit:=wgh_fit (d+1) _ ([x.offset]:List (Ins (IL d))) 0 0 hAt (by omega)
     have HC:=hideK (weigh (d+1) _ ([x.offset]:List (Ins (IL d))) 0 0 u hAt (by omega) (by omega) (by omega))
     generalize wgh (d+1) ([x.offset]:List (Ins (IL d))) 0 0=r at *
     have HZt:Hid (0<=r->∃z:Ins (IL 81),InsAt u (At u 81) b (off+j3*8) z/\SmI z):=hideK (fun h0=>by
      have hf:=fit_back (b:=b) (o:=off+j3*8) (fitL_one (HFit h0)) fun i hi=>by
       match i,hi with
       | 0,_=>exact hIn.op.trans (cell_on hBu g0).symm
       | 1,_=>exact hIn.a.trans (cell_on hBu g1).symm
       | 2,_=>exact hIn.b.trans (cell_on hBu g2).symm
       | 3,_=>exact hIn.n.trans (cell_on hBu g3).symm
       | 4,_=>rw [hu];exact (World.cell?_alloc_at _ _ _ _ rfl).trans (by rw [<- hu];exact (cell_on hBu g4).symm)
       | 5,_=>rw [hu];exact (World.cell?_alloc_at _ _ _ _ rfl).trans (by rw [<- hu];exact (cell_on hBu g5).symm)
       | 6,_=>rw [hu];exact (World.cell?_alloc_at _ _ _ _ rfl).trans (by rw [<- hu];exact (cell_on hBu g6).symm)
      obtain ⟨z,z1,z2⟩:=fit_up hf
      exact ⟨z,z1,z2⟩)
     have HEl:Hid (0<=r->n+(fn:Int) / 10<=3000->El 8 (ElOk u) (.slice (some ⟨b,off,none⟩) n8 c8) j3):=hideK (fun h0 h1=>by
      obtain ⟨z,z1,z2⟩:=HZt.out h0
      exact ⟨b,off,n8,c8,⟨z,x.funcs⟩,rfl,⟨z1,⟨_,cell_on hBu k7,jf.on hBu⟩⟩,z2,by show x.funcs.length<=30010;omega⟩)
     have HBu:=hideK hBu
     have HU:=hideK hu
     clear hx hxk hI h2 h3 a4 a5 a6 g0 g1 g2 g3 g4 g5 g6 HFit HZt hAt hIn hBu hu hln hbn hen hfn jf
     go_upto_region 20 with fail
     obtain ⟨n3',hn3'⟩:∃n3',n3'=n+(fn:Int) / 10:=⟨_,rfl⟩
     rw [<- hn3'] at HEl ⊢
     have hr3:0<=n3':=by omega
     have hr9:n3'<=4611686018427387904:=by omega
     clear hn3'
     by_cases hr1:3000<n3'
     ·go_wp2
      go_ret
      exact ⟨QB.out,.inl rfl⟩
     go_wp2_with fail
     rw [<- HU.out]
     refine HC.out.mono ?_
     rintro e w'' ⟨rfl,hw''⟩
     obtain rfl:u=w'':=hw''.symm
     by_cases hr0:r<0
     ·go_wp2
      go_ret
      exact ⟨below_go QB.out HBu.out,.inl rfl⟩
     have HF2:=hideK (el_on (fun t ht=>(HF.out t ht).imp fun _ _ _=>ElOk.on HBu.out) (HEl.out (by omega) (by omega)))
     have HS2:=hideK (HS.out.on HBu.out)
     have HP2:=hideK (below_go HP.out HBu.out)
     clear HEl HF HS HP HC HU q8 k0 k1 k2 k3 k4 k5 k6 k7
     go_wp2
     go_roundw
     case rel=>exact ⟨j3+1,n3',by omega,by go_num,rfl,by omega,by omega,HF2,HS2,HP2⟩
     case measure=>simp [intOf];omega
    obtain rfl:n8=j3:=by omega
    obtain ⟨w3,rfl⟩:∃w3,w3=wr:=⟨_,rfl⟩
    have F3:=HF
    have B3:=HP
    have HS':=HS
    obtain ⟨q0,q1,q2,q3,q4,q5,q6,q7,q8,q9,qb⟩:=HS.out
    clear qb q0 q1 q2 q3 q4 q5 q6 q7 q9
    clear HF HP HS
    go_wp2_with fail
    clear q8
    go_loopw [7] (fun i wr=>∃j:Nat,j<=n9/\i=.int .i64 j/\Hid (∀t,t<j->El 8 (DaOk wr) (.slice o9 n9 c9) t)/\Hid (Box w (.slice o0 n0 c0) (.slice o1 n1 c1) (.slice o2 n2 c2) (.slice o3 n3 c3) (.slice o4 n4 c4) (.slice o5 n5 c5) (.slice o6 n6 c6) (.slice o7 n7 c7) (.slice o8 n8 c8) (.slice o9 n9 c9) wr)/\Hid (Below w3.heap.size w3 wr)) (fun i _=>n9-(intOf i).toNat)
    case atStart=>exact ⟨0,by omega,rfl,hideK (fun t ht=>by omega),HS',hideK (Below.refl _ _)⟩
    case round =>
     obtain ⟨j4,hj,rfl,HF,HS,HP⟩:=hrel
     by_cases hgo:j4<n9
     ·obtain ⟨q0,q1,q2,q3,q4,q5,q6,q7,q8,q9,qb⟩:=HS.out
      have QB:=hideK qb
      clear qb q0 q1 q2 q3 q4 q5 q6 q7 q8
      obtain ⟨b,off,cap2,hv2,hx⟩:=Row.some ((HM.out.on QB.out).datas) (by omega)
      injection hv2 with ho h2 h3
      subst ho
      obtain ⟨x,hxk⟩:∃x,m.datas[j4]?=some x:=⟨_,List.getElem?_eq_getElem (by omega)⟩
      have hI:=hx j4 x hxk
      have k7:=hI.bytes
      have hzb:=HZ.out x (List.mem_of_getElem? hxk)
      obtain ⟨g0,g1,g2,g3,⟨lv,g4,a4⟩,⟨bv,g5,a5⟩,⟨ev,g6,a6⟩⟩:=hI.offset
      have k0:wr.cell? ⟨b,off+j4*8,none⟩=_:=g0
      have k1:wr.cell? ⟨b,off+j4*8+1,none⟩=_:=g1
      have k2:wr.cell? ⟨b,off+j4*8+2,none⟩=_:=g2
      have k3:wr.cell? ⟨b,off+j4*8+3,none⟩=_:=g3
      have k4:wr.cell? ⟨b,off+j4*8+4,none⟩=_:=g4
      have k5:wr.cell? ⟨b,off+j4*8+5,none⟩=_:=g5
      have k6:wr.cell? ⟨b,off+j4*8+6,none⟩=_:=g6
      obtain ⟨lo,ln,lc,rfl,hln⟩:∃ol nl cl,lv=.slice ol nl cl/\nl=x.offset.labels.length:=by
       obtain ⟨ol,cl,h⟩:=Row.len a4
       exact ⟨ol,_,cl,h,rfl⟩
      obtain ⟨bo,bn,bc,rfl,hbn⟩:=At.size_none _ _ _ a5
      obtain ⟨eo,en,ec,rfl,hen⟩:=At.size_none _ _ _ a6
      obtain ⟨u,hu⟩:∃u,u=wr.alloc (.cells #[.int .i64 x.offset.op,.int .i64 x.offset.a,.int .i64 x.offset.b,.int .i64 x.offset.n,.slice lo ln lc,.slice bo bn bc,.slice eo en ec] 50):=⟨_,rfl⟩
      have hBu:Below wr.heap.size wr u:=by rw [hu];exact (Below.refl _ wr).alloc (Nat.le_refl _) _
      have hIn:InsAt u (At u d) wr.heap.size 0 x.offset:=by
       rw [hu]
       rw [hu] at hBu
       exact insAt_lay wr _ 50 _ x.offset _ _ _ rfl (a4.on hBu) (At.on hBu _ _ _ a5) (At.on hBu _ _ _ a6)
      have hAt:At u (d+1) (.slice (some ⟨wr.heap.size,0,none⟩) 1 1) ([x.offset]:List (Ins (IL d))):=row_sing _ _ _ _ _ hIn
      have hgood:-1<=wgh (d+1) ([x.offset]:List (Ins (IL d))) 0 0:=(wgh_good (d+1) 0 ([x.offset]:List (Ins (IL d))) 0 (by omega)).1
      have HFit:=wgh_fit (d+1) _ ([x.offset]:List (Ins (IL d))) 0 0 hAt (by omega)
      have HC:=hideK (weigh (d+1) _ ([x.offset]:List (Ins (IL d))) 0 0 u hAt (by omega) (by omega) (by omega))
      generalize wgh (d+1) ([x.offset]:List (Ins (IL d))) 0 0=r at *
      have HZt:Hid (0<=r->∃z:Ins (IL 81),InsAt u (At u 81) b (off+j4*8) z/\SmI z):=hideK (fun h0=>by
       have hf:=fit_back (b:=b) (o:=off+j4*8) (fitL_one (HFit h0)) fun i hi=>by
        match i,hi with
        | 0,_=>exact hIn.op.trans (cell_on hBu g0).symm
        | 1,_=>exact hIn.a.trans (cell_on hBu g1).symm
        | 2,_=>exact hIn.b.trans (cell_on hBu g2).symm
        | 3,_=>exact hIn.n.trans (cell_on hBu g3).symm
        | 4,_=>rw [hu];exact (World.cell?_alloc_at _ _ _ _ rfl).trans (by rw [<- hu];exact (cell_on hBu g4).symm)
        | 5,_=>rw [hu];exact (World.cell?_alloc_at _ _ _ _ rfl).trans (by rw [<- hu];exact (cell_on hBu g5).symm)
        | 6,_=>rw [hu];exact (World.cell?_alloc_at _ _ _ _ rfl).trans (by rw [<- hu];exact (cell_on hBu g6).symm)
       obtain ⟨z,z1,z2⟩:=fit_up hf
       exact ⟨z,z1,z2⟩)
      have HEl:Hid (0<=r->x.bytes.size<=300000->El 8 (DaOk u) (.slice (some ⟨b,off,none⟩) n9 c9) j4):=hideK (fun h0 h1=>by
       obtain ⟨z,z1,z2⟩:=HZt.out h0
       exact ⟨b,off,n9,c9,⟨z,x.bytes⟩,rfl,⟨z1,cell_on hBu k7⟩,z2,h1⟩)
      have HBu:=hideK hBu
      have HU:=hideK hu
      clear hx hxk hI h2 h3 a4 a5 a6 g0 g1 g2 g3 g4 g5 g6 HFit HZt hAt hIn hBu hu hln hbn hen
      by_cases hr1:300000<x.bytes.size
      ·go_wp2
       go_ret
       exact ⟨QB.out,.inl rfl⟩
      go_wp2_with fail
      rw [<- HU.out]
      refine HC.out.mono ?_
      rintro e w'' ⟨rfl,hw''⟩
      obtain rfl:u=w'':=hw''.symm
      by_cases hr0:r<0
      ·go_wp2
       go_ret
       exact ⟨below_go QB.out HBu.out,.inl rfl⟩
      have HF2:=hideK (el_on (fun t ht=>(HF.out t ht).imp fun _ _ _=>DaOk.on HBu.out) (HEl.out (by omega) (by omega)))
      have HS2:=hideK (HS.out.on HBu.out)
      have HP2:=hideK (below_go HP.out HBu.out)
      clear HEl HF HS HP HC HU q9 k0 k1 k2 k3 k4 k5 k6 k7
      go_wp2
      go_roundw
      case rel=>exact ⟨j4+1,by omega,by go_num,HF2,HS2,HP2⟩
      case measure=>simp [intOf];omega
     obtain rfl:n9=j4:=by omega
     obtain ⟨w4,rfl⟩:∃w4,w4=wr:=⟨_,rfl⟩
     have F4:=HF
     have B4:=HP
     have HS':=HS
     obtain ⟨q0,q1,q2,q3,q4,q5,q6,q7,q8,q9,qb⟩:=HS.out
     clear qb q0 q1 q2 q3 q4 q5 q6 q7 q8
     clear HF HP HS
     go_wp2_with fail
     clear q9
     go_loopw [8] (fun i wr=>∃j:Nat,j<=n5/\i=.int .i64 j/\Hid (∀t,t<j->El 9 (GlOk wr) (.slice o5 n5 c5) t)/\Hid (Box w (.slice o0 n0 c0) (.slice o1 n1 c1) (.slice o2 n2 c2) (.slice o3 n3 c3) (.slice o4 n4 c4) (.slice o5 n5 c5) (.slice o6 n6 c6) (.slice o7 n7 c7) (.slice o8 n8 c8) (.slice o9 n9 c9) wr)/\Hid (Below w4.heap.size w4 wr)) (fun i _=>n5-(intOf i).toNat)
     case atStart=>exact ⟨0,by omega,rfl,hideK (fun t ht=>by omega),HS',hideK (Below.refl _ _)⟩
     case round =>
      obtain ⟨j5,hj,rfl,HF,HS,HP⟩:=hrel
      by_cases hgo:j5<n5
      ·obtain ⟨q0,q1,q2,q3,q4,q5,q6,q7,q8,q9,qb⟩:=HS.out
       have QB:=hideK qb
       clear qb q0 q1 q2 q3 q4 q6 q7 q8 q9
       obtain ⟨b,off,cap2,hv2,hx⟩:=Row.some ((HM.out.on QB.out).globals) (by omega)
       injection hv2 with ho h2 h3
       subst ho
       obtain ⟨x,hxk⟩:∃x,m.globals[j5]?=some x:=⟨_,List.getElem?_eq_getElem (by omega)⟩
       have hI:=hx j5 x hxk
       have k0:=hI.type
       have k1:=hI.mtb
       obtain ⟨g0,g1,g2,g3,⟨lv,g4,a4⟩,⟨bv,g5,a5⟩,⟨ev,g6,a6⟩⟩:=hI.init
       have k2:wr.cell? ⟨b,off+j5*9+2,none⟩=_:=g0
       have k3:wr.cell? ⟨b,off+j5*9+3,none⟩=_:=g1
       have k4:wr.cell? ⟨b,off+j5*9+4,none⟩=_:=g2
       have k5:wr.cell? ⟨b,off+j5*9+5,none⟩=_:=g3
       have k6:wr.cell? ⟨b,off+j5*9+6,none⟩=_:=g4
       have k7:wr.cell? ⟨b,off+j5*9+7,none⟩=_:=g5
       have k8:wr.cell? ⟨b,off+j5*9+8,none⟩=_:=g6
       obtain ⟨lo,ln,lc,rfl,hln⟩:∃ol nl cl,lv=.slice ol nl cl/\nl=x.init.labels.length:=by
        obtain ⟨ol,cl,h⟩:=Row.len a4
        exact ⟨ol,_,cl,h,rfl⟩
       obtain ⟨bo,bn,bc,rfl,hbn⟩:=At.size_none _ _ _ a5
       obtain ⟨eo,en,ec,rfl,hen⟩:=At.size_none _ _ _ a6
       obtain ⟨u,hu⟩:∃u,u=wr.alloc (.cells #[.int .i64 x.init.op,.int .i64 x.init.a,.int .i64 x.init.b,.int .i64 x.init.n,.slice lo ln lc,.slice bo bn bc,.slice eo en ec] 50):=⟨_,rfl⟩
       have hBu:Below wr.heap.size wr u:=by rw [hu];exact (Below.refl _ wr).alloc (Nat.le_refl _) _
       have hIn:InsAt u (At u d) wr.heap.size 0 x.init:=by
        rw [hu]
        rw [hu] at hBu
        exact insAt_lay wr _ 50 _ x.init _ _ _ rfl (a4.on hBu) (At.on hBu _ _ _ a5) (At.on hBu _ _ _ a6)
       have hAt:At u (d+1) (.slice (some ⟨wr.heap.size,0,none⟩) 1 1) ([x.init]:List (Ins (IL d))):=row_sing _ _ _ _ _ hIn
       have hgood:-1<=wgh (d+1) ([x.init]:List (Ins (IL d))) 0 0:=(wgh_good (d+1) 0 ([x.init]:List (Ins (IL d))) 0 (by omega)).1
       have HFit:=wgh_fit (d+1) _ ([x.init]:List (Ins (IL d))) 0 0 hAt (by omega)
       have HC:=hideK (weigh (d+1) _ ([x.init]:List (Ins (IL d))) 0 0 u hAt (by omega) (by omega) (by omega))
       generalize wgh (d+1) ([x.init]:List (Ins (IL d))) 0 0=r at *
       have HZt:Hid (0<=r->∃z:Ins (IL 81),InsAt u (At u 81) b (off+j5*9+2) z/\SmI z):=hideK (fun h0=>by
        have hf:=fit_back (b:=b) (o:=off+j5*9+2) (fitL_one (HFit h0)) fun i hi=>by
         match i,hi with
         | 0,_=>exact hIn.op.trans (cell_on hBu g0).symm
         | 1,_=>exact hIn.a.trans (cell_on hBu g1).symm
         | 2,_=>exact hIn.b.trans (cell_on hBu g2).symm
         | 3,_=>exact hIn.n.trans (cell_on hBu g3).symm
         | 4,_=>rw [hu];exact (World.cell?_alloc_at _ _ _ _ rfl).trans (by rw [<- hu];exact (cell_on hBu g4).symm)
         | 5,_=>rw [hu];exact (World.cell?_alloc_at _ _ _ _ rfl).trans (by rw [<- hu];exact (cell_on hBu g5).symm)
         | 6,_=>rw [hu];exact (World.cell?_alloc_at _ _ _ _ rfl).trans (by rw [<- hu];exact (cell_on hBu g6).symm)
        obtain ⟨z,z1,z2⟩:=fit_up hf
        exact ⟨z,z1,z2⟩)
       have HEl:Hid (0<=r->El 9 (GlOk u) (.slice (some ⟨b,off,none⟩) n5 c5) j5):=hideK (fun h0=>by
        obtain ⟨z,z1,z2⟩:=HZt.out h0
        exact ⟨b,off,n5,c5,⟨x.type,x.mtb,z⟩,rfl,⟨cell_on hBu k0,cell_on hBu k1,z1⟩,z2⟩)
       have HBu:=hideK hBu
       have HU:=hideK hu
       clear hx hxk hI h2 h3 a4 a5 a6 g0 g1 g2 g3 g4 g5 g6 HFit HZt hAt hIn hBu hu hln hbn hen
       go_wp2_with fail
       rw [<- HU.out]
       refine HC.out.mono ?_
       rintro e w'' ⟨rfl,hw''⟩
       obtain rfl:u=w'':=hw''.symm
       by_cases hr0:r<0
       ·go_wp2
        go_ret
        exact ⟨below_go QB.out HBu.out,.inl rfl⟩
       have HF2:=hideK (el_on (fun t ht=>(HF.out t ht).imp fun _ _ _=>GlOk.on HBu.out) (HEl.out (by omega)))
       have HS2:=hideK (HS.out.on HBu.out)
       have HP2:=hideK (below_go HP.out HBu.out)
       clear HEl HF HS HP HC HU q5 k2 k3 k4 k5 k6 k7 k8 k0 k1
       go_wp2
       go_roundw
       case rel=>exact ⟨j5+1,by omega,by go_num,HF2,HS2,HP2⟩
       case measure=>simp [intOf];omega
      obtain rfl:n5=j5:=by omega
      obtain ⟨w5,rfl⟩:∃w5,w5=wr:=⟨_,rfl⟩
      have F5:=HF
      have B5:=HP
      have HS':=HS
      obtain ⟨q0,q1,q2,q3,q4,q5,q6,q7,q8,q9,qb⟩:=HS.out
      clear qb q0 q1 q2 q3 q4 q6 q7 q8 q9
      clear HF HP HS
      have BE:=hideK HS'.out.bel
      have E12:=hideK B2.out
      go_wp2
      go_ret
      refine ⟨BE.out,.inr ⟨rfl,?_⟩⟩
      have b45:=B5.out
      have b35:=below_go B4.out b45
      have b25:=below_go B3.out b35
      have b15:=below_go B2.out b25
      obtain ⟨lf,hlf,rf⟩:=row_el (by omega) fun t ht=>(F1.out t ht).imp fun _ _ _=>FnOk.on b15
      obtain ⟨le,hle,re⟩:=row_el (by omega) fun t ht=>(F3.out t ht).imp fun _ _ _=>ElOk.on b35
      obtain ⟨ld,hld,rd⟩:=row_el (by omega) fun t ht=>(F4.out t ht).imp fun _ _ _=>DaOk.on b45
      obtain ⟨lg,hlg,rg⟩:=row_el (by omega) F5.out
      have hA:=HM.out.on BE.out
      have hLN:=HLN.out
      refine ⟨⟨m.types,m.imports,lf,m.tables,m.mems,lg,m.exports,m.start,le,ld⟩,⟨hA.types,hA.imports,rf.imp fun _ _ _ _ h=>h.1,hA.tables,hA.mems,rg.imp fun _ _ _ _ h=>h.1,hA.exports,hA.start,re.imp fun _ _ _ _ h=>h.1,rd.imp fun _ _ _ _ h=>h.1⟩,?_,rfl,rfl⟩
      refine ⟨by show m.types.length<=_;omega,by show m.imports.length<=_;omega,by show lf.length<=_;omega,by show m.tables.length<=_;omega,by show m.mems.length<=_;omega,by show lg.length<=_;omega,by show m.exports.length<=_;omega,by show le.length<=_;omega,by show ld.length<=_;omega,by show m.start.length<=_;omega,fun x hx=>?_,mem_row rf,mem_row rg,mem_row re,mem_row rd⟩
      obtain ⟨t,ht,rfl⟩:=List.getElem_of_mem hx
      exact F2.out t _ (by have h3:t<m.types.length:=ht;omega) (List.getElem?_eq_getElem ht)
end Go.Proofs.YtiailkiepndliaaGreatDoor

