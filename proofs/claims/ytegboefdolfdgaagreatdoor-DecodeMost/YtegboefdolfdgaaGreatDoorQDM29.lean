/- Texts that the claim needs. -/
import Derived.Test.YtegboefdolfdgaaGreatDoorQDM21
namespace Go.Proofs.YtegboefdolfdgaaGreatDoor
open Go.RowKit aA ai
set_option linter.unusedVariables false
set_option maxRecDepth 100000
set_option maxHeartbeats 4000000
namespace ai
def pfx (s:ByteArray):Bool:=decide (8<=s.size) && ((s.extract 0 8).toList == [0,97,115,109,1,0,0,0])
def yI {σ:Type} (p:Nat) (M:σ->(Nat->Value)->Nat->Nat->World->Prop):Prop:=∀st c k n w w',M st c k n w->(∀b,p<b->b<w.heap.size->w'.heap[b]?=w.heap[b]?)->w.heap.size<=w'.heap.size->M st c k n w'
theorem yI.five {σ:Type} {p:Nat} {M:σ->(Nat->Value)->Nat->Nat->World->Prop} (h:yI p M):Ba p M:=fun st c k n w w' hM hb=>h st c k n w w' hM (fun b h1 h2=>hb.block b h2 (by intro e;have:=Option.some.inj e;omega)) hb.size
def qj {σ:Type} (M:Nat->σ->(Nat->Value)->Nat->Nat->World->Prop) (w:World) (X:R σ) (e:Ending) (w':World):Prop:=Below w.heap.size w w' /\
 match X with
 | .error z=>e=.returned (.tuple #[.agg #[.slice none 0 0,.slice none 0 0,.slice none 0 0,.slice none 0 0,.slice none 0 0,.slice none 0 0,.slice none 0 0,.slice none 0 0,.slice none 0 0,.slice none 0 0],.int .i64 z])
 | .ok (st,_)=>∃p c k n,M p st c k n w'/\e=.returned (.tuple #[.agg #[c 0,c 1,c 2,c 3,c 4,c 5,c 6,c 7,c 8,c 9],.int .i64 0])
theorem pO {w:World} {b:Nat} {t:TypeId} {v0 v1 v2 v3 v4 v5 v6 v7 v8 v9:Value} (h:w.heap[b]?=some (.cells #[v0,v1,v2,v3,v4,v5,v6,v7,v8,v9] t (0,0))) :
  w.cell? ⟨b,0,none⟩=some v0/\w.cell? ⟨b,1,none⟩=some v1/\w.cell? ⟨b,2,none⟩=some v2/\w.cell? ⟨b,3,none⟩=some v3/\w.cell? ⟨b,4,none⟩=some v4/\w.cell? ⟨b,5,none⟩=some v5/\w.cell? ⟨b,6,none⟩=some v6/\w.cell? ⟨b,7,none⟩=some v7/\w.cell? ⟨b,8,none⟩=some v8/\w.cell? ⟨b,9,none⟩=some v9:=by
 refine ⟨?_,?_,?_,?_,?_,?_,?_,?_,?_,?_⟩<;>(unfold World.cell?;rw [h];rfl)
theorem DL {c:Nat->Value} (h:∀j,j<10->∃o n k,c j=.slice o n k):(#[c 0,c 1,c 2,c 3,c 4,c 5,c 6,c 7,c 8,c 9]:Array Value).all (·.oneCell')=true:=by
 have h1:∀j,j<10->(c j).oneCell'=true:=fun j hj=>by obtain ⟨o,n,k,e⟩:=h j hj;rw [e];rfl
 simp [h1]
theorem Q4 {w0 w:World} {p:Nat} {s:ByteArray} {c:Nat->Value} {en k i n:Nat} (h:RS w0 p s c en k i n w):w.rangeAt p 3 [c 0,c 1,c 2,c 3,c 4,c 5,c 6,c 7,c 8,c 9]:=fun j v hv=>by
 have hj:j<10:=by simpa using (List.getElem?_eq_some_iff.1 hv).1
 have hc:j=0\/j=1\/j=2\/j=3\/j=4\/j=5\/j=6\/j=7\/j=8\/j=9:=by omega
 rcases hc with rfl|rfl|rfl|rfl|rfl|rfl|rfl|rfl|rfl|rfl
 all_goals (obtain rfl:=Option.some.inj hv;exact h.cell _ _ rfl)
theorem DI.catch {w u : World} (h : DI w u) (k : Int) : ∃ W3 : World, (CallsD Tryz.prog 10 #[.pointer (some ⟨w.heap.size, 0, none⟩), .pointer (some ⟨w.heap.size + 1, 0, none⟩)] (.panicking (gave k)) u fun e u' w' =>
      e = .returned (.tuple #[]) ∧ u' = .panicking ({ v := .iface 34 (.int .i64 k), recovered := true } :: []) ∧ w' = W3) ∧
      W3.heap[w.heap.size]? = some (.cells #[.slice none 0 0, .slice none 0 0, .slice none 0 0, .slice none 0 0, .slice none 0 0, .slice none 0 0, .slice none 0 0, .slice none 0 0, .slice none 0 0, .slice none 0 0] 33 (0, 0)) ∧ W3.cell? ⟨w.heap.size + 1, 0, none⟩ = some (.int .i64 k) ∧ Below w.heap.size w W3 := by
  have h5 : u.cell? ⟨w.heap.size + 1, 0, none⟩ = some (.int .i64 0) := cell_of (j := 0) h.b5;have hW := qw w.heap.size (#[.slice none 0 0, .slice none 0 0, .slice none 0 0, .slice none 0 0, .slice none 0 0, .slice none 0 0, .slice none 0 0, .slice none 0 0, .slice none 0 0, .slice none 0 0] : Array Value).toList 0 u;have hb5 : (u.setCells w.heap.size 0 (#[.slice none 0 0, .slice none 0 0, .slice none 0 0, .slice none 0 0, .slice none 0 0, .slice none 0 0, .slice none 0 0, .slice none 0 0, .slice none 0 0, .slice none 0 0] : Array Value).toList).heap[w.heap.size + 1]? = some (.cells #[.int .i64 0] 34 (0, 0)) := by rw [jA _ _ (by omega)]; exact h.b5
  have hb4 := wu (vs := #[.slice none 0 0, .slice none 0 0, .slice none 0 0, .slice none 0 0, .slice none 0 0, .slice none 0 0, .slice none 0 0, .slice none 0 0, .slice none 0 0, .slice none 0 0]) h.b4 rfl rfl;refine ⟨_, NU w.heap.size (w.heap.size + 1) _ k [] u _ h.b4 rfl h5 (nH h.b5) (by omega) _ rfl, ?_, ?_, ?_⟩
  · rw [Below.heap_setCell _ _ _ _ (by show w.heap.size ≠ w.heap.size + 1; omega)]; exact hb4
  · have := heap_setCell_same _ (w.heap.size + 1) 0 _ _ (.int .i64 k) hb5
    unfold World.cell?; rw [this]; rfl
  · have h1 : Below w.heap.size w (u.setCells w.heap.size 0 (#[.slice none 0 0, .slice none 0 0, .slice none 0 0, .slice none 0 0, .slice none 0 0, .slice none 0 0, .slice none 0 0, .slice none 0 0, .slice none 0 0, .slice none 0 0] : Array Value).toList) := h.iy.trans ⟨hW.os, hW.tape, hW.output, hW.size, fun j hj => jA _ _ (by omega) _ _ _⟩
    exact h1.setCell (by show w.heap.size ≤ w.heap.size + 1; omega) _
theorem Q5 {w3:World} {s:ByteArray} (ha:8<=s.size) (hs:s.size<=262144):RS w3 w3.heap.size s (fun _=>.slice none 0 0) s.size 0 8 0 (w3.alloc (.cells #[.string s,.int .i64 8,.int .i64 s.size,.slice none 0 0,.slice none 0 0,.slice none 0 0,.slice none 0 0,.slice none 0 0,.slice none 0 0,.slice none 0 0,.slice none 0 0,.slice none 0 0,.slice none 0 0,.int .i64 0,.int .i64 0] 50)) :=
 ⟨aD _ _,Nat.le_refl _,fB _ _ rfl,ha,Nat.le_refl _,hs⟩
end ai
theorem Q6 (s:ByteArray) (w:World) (hs:s.size<=4611686018427387904):Calls Tryz.prog 12 #[.string s,.string { data:=#[0,97,115,109,1,0,0,0] }] w fun e w'=>e=.returned (.bool (pfx s))/\w'=w:=by
 by_cases h8:8<=s.size
 ·have d8:decide ((s.size:Int)>=8)=true:=decide_eq_true (by omega);have e:pfx s=((s.extract 0 8).toList == [0,97,115,109,1,0,0,0]):=by unfold pfx;rw [decide_eq_true h8,Bool.true_and]
  rw [e];go_enter Tryz.func12,Tryz.ntmps12;go_wp2;go_ret;exact ⟨rfl,rfl⟩
 ·have d8:decide ((s.size:Int)>=8)=false:=decide_eq_false (by omega);have e:pfx s=false:=by unfold pfx;rw [decide_eq_false h8,Bool.false_and]
  rw [e];go_enter Tryz.func12,Tryz.ntmps12;go_wp2;go_ret;exact ⟨rfl,rfl⟩
theorem Hj {σ:Type} {M:Nat->σ->(Nat->Value)->Nat->Nat->World->Prop} {sec:Int->mV σ} {ok:Int->Bool} {cd fl:σ->Nat} {st0:σ} (s:ByteArray) (w:World) (hs:s.size<=4611686018427387904) (hK:∀p,yI p (M p))
  (hS:∀w0 p id,Below w.heap.size w w0->ok id=true->kr w0 p s (M p) (sec id) id)
  (hF:∀p st c k n w,M p st c k n w->(k=cd st/\∃o cap,c 2=.slice o (fl st) cap)/\∀j,j<10->∃o n k,c j=.slice o n k) (h0:∀p w,M p st0 (fun _=>.slice none 0 0) 0 0 w)
  (f:Nat) (X:R σ) (hX:(if 262144<s.size then some (.error 2) else if pfx s=false then some (.error 50) else lg sec ok cd fl s s.size f 0 st0 8)=some X) :
  Calls Tryz.prog 6 #[.string s] w (qj M w X):=by
 have H0:=aa (DI.start w);have VN:∀(fn:Fn) (first cap:Array Value) (w:World),(Instr.makeFunc fn first cap).run Tryz.prog w=.ok (.func fn first cap) w:=fun _ _ _ _=>rfl;have yJ:=fun u=>aa (Q6 s u hs);by_cases h1:262144<s.size
 ·rw [if_pos h1] at hX;obtain rfl:=Option.some.inj hX;have hd:decide ((s.size:Int)<=262144)=false:=decide_eq_false (by omega);clear h1 hX
  go_enter_defers Tryz.func6,Tryz.ntmps6
  go_upto_region 2 with fail;obtain ⟨wb,hwb⟩:∃wb,wb=dw w:=⟨_,rfl⟩;rw [<- hwb] at H0;have iF:=hwb;unfold dw at iF;rw [<- iF];clear hwb iF;go_wp2_with fail;refine (eZ _ _).mono ?_;rintro e u ⟨rfl,rfl⟩;obtain ⟨W3,hct,k4,k5,kb⟩:=H0.out.catch 2;obtain ⟨z0,z1,z2,z3,z4,z5,z6,z7,z8,z9⟩:=pO k4;have yK:=aa hct;clear hct k4;go_wp2_with fail;refine leaves_cons (f:=10) (args:=#[.pointer (some ⟨w.heap.size,0,none⟩),.pointer (some ⟨w.heap.size+1,0,none⟩)]) (by simp) (by simp [go_sem]) ?_;refine yK.out.mono ?_;rintro e u' w'' ⟨rfl,rfl,rfl⟩;simp [Leaves,settle,results,Tryz.results6,go_sem,z0,z1,z2,z3,z4,z5,z6,z7,z8,z9,k5];exact ⟨kb,rfl⟩
 have hd:decide ((s.size:Int)<=262144)=true:=decide_eq_true (by omega);rw [if_neg h1] at hX;by_cases h2:pfx s=false
 ·rw [if_pos h2] at hX;obtain rfl:=Option.some.inj hX;rw [h2] at yJ;clear h1 hX h2
  go_enter_defers Tryz.func6,Tryz.ntmps6
  go_upto_region 2 with fail;obtain ⟨wb,hwb⟩:∃wb,wb=dw w:=⟨_,rfl⟩;rw [<- hwb] at H0;have iF:=hwb;unfold dw at iF;rw [<- iF];clear hwb iF;go_wp2_with fail;refine (bH _ _).mono ?_;rintro e wb ⟨rfl,rfl⟩;go_wp2_with fail;refine (yJ _).out.mono ?_;rintro e wb ⟨rfl,rfl⟩;go_wp2_with fail;refine (eZ _ _).mono ?_;rintro e wb ⟨rfl,rfl⟩;obtain ⟨W3,hct,k4,k5,kb⟩:=H0.out.catch 50;obtain ⟨z0,z1,z2,z3,z4,z5,z6,z7,z8,z9⟩:=pO k4;have yK:=aa hct;clear hct k4;go_wp2_with fail;refine leaves_cons (f:=10) (args:=#[.pointer (some ⟨w.heap.size,0,none⟩),.pointer (some ⟨w.heap.size+1,0,none⟩)]) (by simp) (by simp [go_sem]) ?_;refine yK.out.mono ?_;rintro e u' w'' ⟨rfl,rfl,rfl⟩;simp [Leaves,settle,results,Tryz.results6,go_sem,z0,z1,z2,z3,z4,z5,z6,z7,z8,z9,k5];exact ⟨kb,rfl⟩
 rw [if_neg h2] at hX;have h2':pfx s=true:=by simpa using h2
 have h8:8<=s.size:=by unfold pfx at h2';rw [Bool.and_eq_true] at h2';exact of_decide_eq_true h2'.1
 rw [h2'] at yJ;have DN:=fun (w3:World)=>aa (Q5 (w3:=w3) (s:=s) h8 (by omega));have HX:=fun (w3:World) (hb:Below w.heap.size w w3)=>aa (Q7 (hK w3.heap.size).five (fun id hid=>hS w3 w3.heap.size id hb hid) (fun st c k n w hM=>(hF _ st c k n w hM).1) st0 _ s.size 0 8 0 f _ (DN w3).out (h0 _ _) X hX);clear h1 h2 h2' hX;cases X with
 | error z =>
  go_enter_defers Tryz.func6,Tryz.ntmps6
  go_upto_region 2 with fail;obtain ⟨wb,hwb⟩:∃wb,wb=dw w:=⟨_,rfl⟩;rw [<- hwb] at H0;have iF:=hwb;unfold dw at iF;rw [<- iF];clear hwb iF;go_wp2_with fail;refine (bH _ _).mono ?_;rintro e wb ⟨rfl,rfl⟩;go_wp2_with fail;refine (yJ _).out.mono ?_;rintro e wb ⟨rfl,rfl⟩;go_wp2_with fail;refine (bH _ _).mono ?_;rintro e wb ⟨rfl,rfl⟩;have HC:=HX wb H0.out.iy;clear HX DN;go_wp2_with fail;refine HC.out.mono ?_;rintro e u ⟨rfl,hb⟩;have H1:=aa (H0.out.on hb);clear hb HC;obtain ⟨W3,hct,k4,k5,kb⟩:=H1.out.catch z;obtain ⟨z0,z1,z2,z3,z4,z5,z6,z7,z8,z9⟩:=pO k4;have yK:=aa hct;clear hct k4;go_wp2_with fail;refine leaves_cons (f:=10) (args:=#[.pointer (some ⟨w.heap.size,0,none⟩),.pointer (some ⟨w.heap.size+1,0,none⟩)]) (by simp) (by simp [go_sem]) ?_;refine yK.out.mono ?_;rintro e u' w'' ⟨rfl,rfl,rfl⟩;simp [Leaves,settle,results,Tryz.results6,go_sem,z0,z1,z2,z3,z4,z5,z6,z7,z8,z9,k5];exact ⟨kb,rfl⟩
 | ok v =>
  obtain ⟨st,j⟩:=v
  go_enter_defers Tryz.func6,Tryz.ntmps6
  go_upto_region 2 with fail;obtain ⟨wb,hwb⟩:∃wb,wb=dw w:=⟨_,rfl⟩;rw [<- hwb] at H0;have iF:=hwb;unfold dw at iF;rw [<- iF];clear hwb iF;go_wp2_with fail;refine (bH _ _).mono ?_;rintro e wb ⟨rfl,rfl⟩;go_wp2_with fail;refine (yJ _).out.mono ?_;rintro e wb ⟨rfl,rfl⟩;go_wp2_with fail;refine (bH _ _).mono ?_;rintro e wb ⟨rfl,rfl⟩;have HC:=HX wb H0.out.iy;clear HX DN;go_wp2_with fail;refine HC.out.mono ?_;rintro e u ⟨rfl,⟨c,k,n,hr,hM⟩,yL⟩;have H1:=aa (H0.out.on hr.below);have hsl:=(hF _ _ _ _ _ _ hM).2;have hall:(#[c 0,c 1,c 2,c 3,c 4,c 5,c 6,c 7,c 8,c 9]:Array Value).all (·.oneCell')=true:=DL hsl;have hrange:u.rangeAt wb.heap.size 3 [c 0,c 1,c 2,c 3,c 4,c 5,c 6,c 7,c 8,c 9]:=Q4 hr;have hlt:w.heap.size+1<wb.heap.size:=(Array.getElem?_eq_some_iff.1 H0.out.b5).1;have hth:u.there w.heap.size 0 10:=vh H1.out.b4 rfl;obtain ⟨W2,aX⟩:∃W2,u.setCells w.heap.size 0 (#[c 0,c 1,c 2,c 3,c 4,c 5,c 6,c 7,c 8,c 9]:Array Value).toList=W2:=⟨_,rfl⟩;have g4:W2.heap[w.heap.size]?=some (.cells #[c 0,c 1,c 2,c 3,c 4,c 5,c 6,c 7,c 8,c 9] 33 (0,0)):=by rw [<- aX];exact wu H1.out.b4 rfl rfl
  have g5:W2.heap[w.heap.size+1]?=some (.cells #[.int .i64 0] 34 (0,0)):=by rw [<- aX,jA _ _ (by omega)];exact H1.out.b5
  have gB:Below w.heap.size w W2:=by
   have hW:=qw w.heap.size (#[c 0,c 1,c 2,c 3,c 4,c 5,c 6,c 7,c 8,c 9]:Array Value).toList 0 u;rw [<- aX];exact H1.out.iy.trans ⟨hW.os,hW.tape,hW.output,hW.size,fun j hj=>jA _ _ (by omega) _ _ _⟩
  have gM:M wb.heap.size st c k n (W2.setCell ⟨w.heap.size+1,0,none⟩ (.int .i64 0)):=hK _ _ _ _ _ _ _ hM (fun b h1 h2=>by rw [Below.heap_setCell _ _ _ _ (by show b≠w.heap.size+1;omega),<- aX,jA _ _ (by omega)]) (by rw [<- aX];simp [wo]);have VO:W2.cell? ⟨w.heap.size+1,0,none⟩=some (.int .i64 0):=cell_of (j:=0) g5;have VP:W2.frozen? ⟨w.heap.size+1,0,none⟩=false:=nH (j:=0) g5;have k4:(W2.setCell ⟨w.heap.size+1,0,none⟩ (.int .i64 0)).heap[w.heap.size]?=some (.cells #[c 0,c 1,c 2,c 3,c 4,c 5,c 6,c 7,c 8,c 9] 33 (0,0)):=by rw [Below.heap_setCell _ _ _ _ (by show w.heap.size≠w.heap.size+1;omega)];exact g4
  have k5:(W2.setCell ⟨w.heap.size+1,0,none⟩ (.int .i64 0)).cell? ⟨w.heap.size+1,0,none⟩=some (.int .i64 0):=by
   have:=heap_setCell_same W2 (w.heap.size+1) 0 _ _ (.int .i64 0) g5
   unfold World.cell?;rw [this];rfl
  obtain ⟨z0,z1,z2,z3,z4,z5,z6,z7,z8,z9⟩:=pO k4;have Hk:=aa (And.intro gM (gB.setCell (p:=⟨w.heap.size+1,0,none⟩) (by show w.heap.size<=w.heap.size+1;omega) (.int .i64 0)));have HW2:=aa aX;have gX:=aa hth;have vI:=aa hrange;have gY:=aa hall;clear aX g4 g5 gB gM k4 hth hrange hall hsl hr hM yL HC;go_wp2_with (first|(refine wpList_load_mid rfl 33 (.tmp 22) rfl wb.heap.size 3 rfl [c 0,c 1,c 2,c 3,c 4,c 5,c 6,c 7,c 8,c 9] _ vI.out Tryz.underlying33 rfl nI ?_)|(refine wpList_store_mid rfl 33 (.tmp 2) (.tmp 23) rfl w.heap.size 0 #[c 0,c 1,c 2,c 3,c 4,c 5,c 6,c 7,c 8,c 9] rfl rfl gX.out nI gY.out ?_;rw [HW2.out]))
  refine leaves_cons (f:=10) (args:=#[.pointer (some ⟨w.heap.size,0,none⟩),.pointer (some ⟨w.heap.size+1,0,none⟩)]) (by simp) (by simp [go_sem]) ?_;refine (NV w.heap.size (w.heap.size+1) _).mono ?_;rintro e u' w'' ⟨rfl,rfl,rfl⟩;simp [Leaves,settle,results,Tryz.results6,go_sem,z0,z1,z2,z3,z4,z5,z6,z7,z8,z9,k5];exact ⟨Hk.out.2,_,c,k,n,Hk.out.1,rfl⟩
namespace ai
def MW (p:Nat) (st:Nat × Nat) (c:Nat->Value) (k n:Nat) (w:World):Prop:=(∃o cap,c 0=.slice o st.1 cap)/\(k=0/\∃o cap,c 2=.slice o st.2 cap)/\∀j,j<10->∃o n k,c j=.slice o n k
def xj (s:ByteArray) (id:Int):mV (Nat × Nat):=fun st en i=>if id=0 then bd (nu s en i) fun _ j=>.ok (st,j) else bd (aV (ku s en) s en i) fun l j=>.ok ((l.length,st.2),j)
def okW (id:Int):Bool:=id == 0 || id == 1
theorem TS (p:Nat):yI p (MW p):=fun st c k n w w' h _ _=>h
def s1:ByteArray:={ data:=#[0,97,115,109,1,0,0,0,0,2,1,120,1,4,1,96,0,0] }
def s2:ByteArray:={ data:=#[0,97,115,109,1,0,0,0,1,5,1,96,0,0,0] }
theorem TT:(if 262144<s1.size then some (.error 2) else if pfx s1=false then some (.error 50) else lg (xj s1) okW (fun _=>0) (fun st=>st.2) s1 s1.size 3 0 (0,0) 8)=some (.ok ((1,0),18)):=by
 kernel_rfl
theorem TU:(if 262144<s2.size then some (.error 2) else if pfx s2=false then some (.error 50) else lg (xj s2) okW (fun _=>0) (fun st=>st.2) s2 s2.size 3 0 (0,0) 8)=some (.error 50):=by
 kernel_rfl
end ai
theorem BM {w w':World} (h:iW w) (hb:Below w.heap.size w w'):iW w' :=
 ⟨fun c hc=>aF hb (h.1 c hc),fun i hi=>⟨aF hb (h.2 i hi).1,aF hb (h.2 i hi).2⟩⟩
theorem TV {w0:World} {p:Nat} {s:ByteArray} (hU:∀u,Below w0.heap.size w0 u->iW u) {id:Int} (h:okW id=true):kr w0 p s (MW p) (xj s id) id:=by
 intro st c en k i n w hr hM;have hid:id=0\/id=1:=by unfold okW at h;simpa using h
 rcases hid with rfl|rfl
 ·have h0:=Jw w0 p s c en k i n w hr hU;unfold xj;rw [if_pos rfl];refine h0.mono ?_;intro e w' hx;cases hR:nu s en i with
  | error z=>rw [hR] at hx;exact hx
  | ok v =>
   obtain ⟨u,j⟩:=v;rw [hR] at hx;obtain ⟨⟨v,rfl,hv⟩,h1,h2⟩:=hx;have hv:v=.tuple #[]:=hv;subst hv;exact ⟨rfl,⟨c,k,n,h1,hM⟩,But.t h2⟩
 ·have h1:=FK w0 p s c en k i n w hr;unfold xj;rw [if_neg (by decide)];refine h1.mono ?_;intro e w' hx;cases hR:aV (ku s en) s en i with
  | error z=>rw [hR] at hx;exact hx
  | ok v =>
   obtain ⟨l,j⟩:=v;rw [hR] at hx;obtain ⟨rfl,⟨v,hv,h2⟩,h3⟩:=hx
   obtain ⟨o,cap,rfl⟩:∃o cap,v=.slice o l.length cap:=by
    rcases hv.2 with ⟨rfl,o,cap,rfl⟩|⟨b,off,cap,rfl,_⟩
    ·exact ⟨o,cap,rfl⟩
    ·exact ⟨_,cap,rfl⟩
   refine ⟨rfl,⟨_,k,n,h2,⟨o,cap,rfl⟩,⟨hM.2.1.1,?_⟩,?_⟩,But.t h3⟩
   ·obtain ⟨o2,c2,e2⟩:=hM.2.1.2;exact ⟨o2,c2,by unfold upd;rw [if_neg (by decide)];exact e2⟩
   ·intro j hj;unfold upd;by_cases hj0:j=0
    ·exact ⟨o,l.length,cap,by rw [if_pos hj0]⟩
    ·obtain ⟨a,b,d,e⟩:=hM.2.2 j hj;exact ⟨a,b,d,by rw [if_neg hj0];exact e⟩
theorem Ab (w:World) (hU:iW w):Calls Tryz.prog 5 #[] w fun e w'=>e=.returned (.bool true)/\Below w.heap.size w w':=by
 have HD:=fun (u:World) (hb:Below w.heap.size w u) (s:ByteArray) (hs:s.size<=4611686018427387904) (X:R (Nat × Nat)) (hX:_=some X)=>aa (Hj (M:=MW) (sec:=xj s) (ok:=okW) (cd:=fun _=>0) (fl:=fun st=>st.2) (st0:=(0,0)) s u hs TS
  (fun w0 p id hb0 hid=>TV (fun u2 hb2=>BM hU (cu hb (cu hb0 hb2))) hid) (fun p st c k n w hM=>hM.2) (fun p w=>⟨⟨_,_,rfl⟩,⟨rfl,_,_,rfl⟩,fun j _=>⟨_,_,_,rfl⟩⟩) 3 X hX)
 have H1:=HD w (Below.refl _ _) s1 (by decide) _ TT;have H2:=fun u hb=>HD u hb s2 (by decide) _ TU;clear HD;go_enter Tryz.func5,Tryz.ntmps5;go_wp2_with fail;refine H1.out.mono ?_;rintro e u ⟨hb,p,c,k,n,hM,rfl⟩;have hc0:=hM.1;have hsl:=hM.2.2;have hall:(#[c 0,c 1,c 2,c 3,c 4,c 5,c 6,c 7,c 8,c 9]:Array Value).all (·.oneCell')=true:=DL hsl;have yH:Below u.heap.size u (u.alloc (.cells #[.slice none 0 0,.slice none 0 0,.slice none 0 0,.slice none 0 0,.slice none 0 0,.slice none 0 0,.slice none 0 0,.slice none 0 0,.slice none 0 0,.slice none 0 0] 33)):=(Below.refl _ _).alloc (Nat.le_refl _) _;have hbk:(u.alloc (.cells #[.slice none 0 0,.slice none 0 0,.slice none 0 0,.slice none 0 0,.slice none 0 0,.slice none 0 0,.slice none 0 0,.slice none 0 0,.slice none 0 0,.slice none 0 0] 33)).heap[u.heap.size]?=some (.cells #[.slice none 0 0,.slice none 0 0,.slice none 0 0,.slice none 0 0,.slice none 0 0,.slice none 0 0,.slice none 0 0,.slice none 0 0,.slice none 0 0,.slice none 0 0] 33 (0,0)):=fB _ _ rfl;have hth:=vh hbk rfl;obtain ⟨W2,aX⟩:∃W2,(u.alloc (.cells #[.slice none 0 0,.slice none 0 0,.slice none 0 0,.slice none 0 0,.slice none 0 0,.slice none 0 0,.slice none 0 0,.slice none 0 0,.slice none 0 0,.slice none 0 0] 33)).setCells u.heap.size 0 (#[c 0,c 1,c 2,c 3,c 4,c 5,c 6,c 7,c 8,c 9]:Array Value).toList=W2:=⟨_,rfl⟩;have g4:W2.heap[u.heap.size]?=some (.cells #[c 0,c 1,c 2,c 3,c 4,c 5,c 6,c 7,c 8,c 9] 33 (0,0)):=by rw [<- aX];exact wu hbk rfl rfl
 have gB:Below u.heap.size u W2:=by
  have hW:=qw u.heap.size (#[c 0,c 1,c 2,c 3,c 4,c 5,c 6,c 7,c 8,c 9]:Array Value).toList 0 (u.alloc (.cells #[.slice none 0 0,.slice none 0 0,.slice none 0 0,.slice none 0 0,.slice none 0 0,.slice none 0 0,.slice none 0 0,.slice none 0 0,.slice none 0 0,.slice none 0 0] 33));rw [<- aX];exact yH.trans ⟨hW.os,hW.tape,hW.output,hW.size,fun j hj=>jA _ _ (by omega) _ _ _⟩
 have HG:=aa (And.intro g4 gB);have gX:=aa hth;have gY:=aa hall;have HW2:=aa aX;have HB:=aa hb;have aJ:=aa hc0;clear H1 hb hM hc0 hsl hall yH hbk hth aX g4 gB;go_wp2_with (refine wpList_store_mid rfl 33 (.tmp 1) (.tmp 7) rfl u.heap.size 0 #[c 0,c 1,c 2,c 3,c 4,c 5,c 6,c 7,c 8,c 9] rfl rfl gX.out nI gY.out ?_;rw [HW2.out]);have Kv:=H2 W2 (cu HB.out HG.out.2);refine Kv.out.mono ?_;rintro e u3 ⟨hb3,he⟩;have he:e=.returned (.tuple #[.agg #[.slice none 0 0,.slice none 0 0,.slice none 0 0,.slice none 0 0,.slice none 0 0,.slice none 0 0,.slice none 0 0,.slice none 0 0,.slice none 0 0,.slice none 0 0],.int .i64 50]):=he;subst he;have hB4:Below u3.heap.size u3 (u3.alloc (.cells #[.slice none 0 0,.slice none 0 0,.slice none 0 0,.slice none 0 0,.slice none 0 0,.slice none 0 0,.slice none 0 0,.slice none 0 0,.slice none 0 0,.slice none 0 0] 33)):=(Below.refl _ _).alloc (Nat.le_refl _) _;have hbk:(u3.alloc (.cells #[.slice none 0 0,.slice none 0 0,.slice none 0 0,.slice none 0 0,.slice none 0 0,.slice none 0 0,.slice none 0 0,.slice none 0 0,.slice none 0 0,.slice none 0 0] 33)).heap[u3.heap.size]?=some (.cells #[.slice none 0 0,.slice none 0 0,.slice none 0 0,.slice none 0 0,.slice none 0 0,.slice none 0 0,.slice none 0 0,.slice none 0 0,.slice none 0 0,.slice none 0 0] 33 (0,0)):=fB _ _ rfl;have hth:=vh hbk rfl;have hall:(#[.slice none 0 0,.slice none 0 0,.slice none 0 0,.slice none 0 0,.slice none 0 0,.slice none 0 0,.slice none 0 0,.slice none 0 0,.slice none 0 0,.slice none 0 0]:Array Value).all (·.oneCell')=true:=by simp [Value.oneCell']
 obtain ⟨W4,EJ⟩:∃W4,(u3.alloc (.cells #[.slice none 0 0,.slice none 0 0,.slice none 0 0,.slice none 0 0,.slice none 0 0,.slice none 0 0,.slice none 0 0,.slice none 0 0,.slice none 0 0,.slice none 0 0] 33)).setCells u3.heap.size 0 (#[.slice none 0 0,.slice none 0 0,.slice none 0 0,.slice none 0 0,.slice none 0 0,.slice none 0 0,.slice none 0 0,.slice none 0 0,.slice none 0 0,.slice none 0 0]:Array Value).toList=W4:=⟨_,rfl⟩
 have gB:Below u3.heap.size u3 W4:=by
  have hW:=qw u3.heap.size (#[.slice none 0 0,.slice none 0 0,.slice none 0 0,.slice none 0 0,.slice none 0 0,.slice none 0 0,.slice none 0 0,.slice none 0 0,.slice none 0 0,.slice none 0 0]:Array Value).toList 0 (u3.alloc (.cells #[.slice none 0 0,.slice none 0 0,.slice none 0 0,.slice none 0 0,.slice none 0 0,.slice none 0 0,.slice none 0 0,.slice none 0 0,.slice none 0 0,.slice none 0 0] 33));rw [<- EJ];exact hB4.trans ⟨hW.os,hW.tape,hW.output,hW.size,fun j hj=>jA _ _ (by omega) _ _ _⟩
 obtain ⟨o,cap,hc⟩:=aJ.out
 have c0:W4.cell? ⟨u.heap.size,0,none⟩=some (.slice o 1 cap):=by
  have h1:W2.cell? ⟨u.heap.size,0,none⟩=some (c 0):=cell_of (j:=0) HG.out.1;rw [hc] at h1;exact aF gB (aF hb3 h1)
 have TW:=aa hth;have TY:=aa hall;have Bn:=aa EJ;have HF:=aa (cu (cu (cu HB.out HG.out.2) hb3) gB);clear H2 Kv hb3 hB4 hbk hth hall EJ gB hc gX gY HW2 HG HB aJ;go_wp2_with (refine wpList_store_mid rfl 33 (.tmp 3) (.tmp 11) rfl u3.heap.size 0 #[.slice none 0 0,.slice none 0 0,.slice none 0 0,.slice none 0 0,.slice none 0 0,.slice none 0 0,.slice none 0 0,.slice none 0 0,.slice none 0 0,.slice none 0 0] rfl rfl TW.out nI TY.out ?_;rw [Bn.out]);go_ret;exact ⟨rfl,HF.out⟩
end Go.Proofs.YtegboefdolfdgaaGreatDoor
