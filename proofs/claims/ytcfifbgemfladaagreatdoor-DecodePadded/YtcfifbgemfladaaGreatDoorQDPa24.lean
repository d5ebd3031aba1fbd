/- Texts that the claim needs. -/
import Derived.Test.YtcfifbgemfladaaGreatDoorQDPa23
namespace Go.Proofs.YtcfifbgemfladaaGreatDoor
open Go.RowKit au aI Go.Proofs.Tryz
set_option linter.unusedVariables false
set_option maxRecDepth 100000
set_option maxHeartbeats 4000000
namespace aI
def pfx (s:AH):Bool:=decide (8<=s.size)&&((s.extract 0 8).toList==[0,97,115,109,1,0,0,0])
def DY {σ:Type} (p:Nat) (M:σ->(Nat->Value)->Nat->Nat->AG->Prop):Prop:=∀st c k n w w',M st c k n w->(∀b,p<b->b<w.heap.size->w'.heap[b]?=w.heap[b]?)->w.heap.size<=w'.heap.size->M st c k n w'
theorem DY.five {σ:Type} {p:Nat} {M:σ->(Nat->Value)->Nat->Nat->AG->Prop} (h:DY p M):FX p M:=λst c k n w w' hM hb=>h st c k n w w' hM (λb h1 h2=>hb.block b h2 (by intro e;have:=Option.some.inj e;omega)) hb.size
def PZ {σ:Type} (M:Nat->σ->(Nat->Value)->Nat->Nat->AG->Prop) (w:AG) (X:R σ) (e:Ending) (w':AG):Prop:=AS w w' /\
 match X with
 | .error z=>e=.returned (.tuple #[.agg #[.slice none 0 0,.slice none 0 0,.slice none 0 0,.slice none 0 0,.slice none 0 0,.slice none 0 0,.slice none 0 0,.slice none 0 0,.slice none 0 0,.slice none 0 0],.int .i64 z])
 | .ok (st,_)=>∃p c k n,M p st c k n w'/\e=.returned (.tuple #[.agg #[c 0,c 1,c 2,c 3,c 4,c 5,c 6,c 7,c 8,c 9],.int .i64 0])
theorem Dy {w:AG} {b:Nat} {t:TypeId} {v0 v1 v2 v3 v4 v5 v6 v7 v8 v9:Value} (h:w.heap[b]?=some (.cells #[v0,v1,v2,v3,v4,v5,v6,v7,v8,v9] t (0,0))) :
  w.cell? ⟨b,0,none⟩=some v0/\w.cell? ⟨b,1,none⟩=some v1/\w.cell? ⟨b,2,none⟩=some v2/\w.cell? ⟨b,3,none⟩=some v3/\w.cell? ⟨b,4,none⟩=some v4/\w.cell? ⟨b,5,none⟩=some v5/\w.cell? ⟨b,6,none⟩=some v6/\w.cell? ⟨b,7,none⟩=some v7/\w.cell? ⟨b,8,none⟩=some v8/\w.cell? ⟨b,9,none⟩=some v9:=by
 refine ⟨?_,?_,?_,?_,?_,?_,?_,?_,?_,?_⟩<;>(unfold World.cell?;rw [h];rfl)
theorem P5 {c:Nat->Value} (h:∀j,j<10->∃o n k,c j=.slice o n k):(#[c 0,c 1,c 2,c 3,c 4,c 5,c 6,c 7,c 8,c 9]:Array Value).all (·.oneCell')=true:=by
 have h1:∀j,j<10->(c j).oneCell'=true:=λj hj=>by obtain ⟨o,n,k,e⟩:=h j hj;rw [e];rfl
 simp [h1]
theorem abh {w0 w:AG} {p:Nat} {s:AH} {c:Nat->Value} {en k i n:Nat} (h:RS w0 p s c en k i n w):w.rangeAt p 3 [c 0,c 1,c 2,c 3,c 4,c 5,c 6,c 7,c 8,c 9]:=λj v hv=>by
 have hj:j<10:=by simpa using (gq.1 hv).1
 have hc:j=0\/j=1\/j=2\/j=3\/j=4\/j=5\/j=6\/j=7\/j=8\/j=9:=by omega
 rcases hc with rfl|rfl|rfl|rfl|rfl|rfl|rfl|rfl|rfl|rfl
 all_goals (obtain rfl:=Option.some.inj hv;exact h.cell _ _ rfl)
theorem DI.catch {w u : AG} (h : DI w u) (k : Int) : ∃ W3 : AG, (CallsD prog 20 #[.pointer (some ⟨w.heap.size, 0, none⟩), .pointer (some ⟨w.heap.size + 1, 0, none⟩)] (.panicking (gave k)) u λe u' w' =>
      e = .returned (.tuple #[]) ∧ u' = .panicking ({ v := .iface 43 (.int .i64 k), recovered := true } :: []) ∧ w' = W3) ∧
      W3.heap[w.heap.size]? = some (.cells #[.slice none 0 0, .slice none 0 0, .slice none 0 0, .slice none 0 0, .slice none 0 0, .slice none 0 0, .slice none 0 0, .slice none 0 0, .slice none 0 0, .slice none 0 0] 32 (0, 0)) ∧ W3.cell? ⟨w.heap.size + 1, 0, none⟩ = some (.int .i64 k) ∧ AS w W3 := by
  have h5 : u.cell? ⟨w.heap.size + 1, 0, none⟩ = some (.int .i64 0) := cell_of (j := 0) h.b5;have hW := Dk w.heap.size (#[.slice none 0 0, .slice none 0 0, .slice none 0 0, .slice none 0 0, .slice none 0 0, .slice none 0 0, .slice none 0 0, .slice none 0 0, .slice none 0 0, .slice none 0 0] : Array Value).toList 0 u;have hb5 : (u.setCells w.heap.size 0 (#[.slice none 0 0, .slice none 0 0, .slice none 0 0, .slice none 0 0, .slice none 0 0, .slice none 0 0, .slice none 0 0, .slice none 0 0, .slice none 0 0, .slice none 0 0] : Array Value).toList).heap[w.heap.size + 1]? = some (.cells #[.int .i64 0] 43 (0, 0)) := by rw [wR _ _ (by omega)]; exact h.b5
  have hb4 := I7 (vs := #[.slice none 0 0, .slice none 0 0, .slice none 0 0, .slice none 0 0, .slice none 0 0, .slice none 0 0, .slice none 0 0, .slice none 0 0, .slice none 0 0, .slice none 0 0]) h.b4 rfl rfl;refine ⟨_, Wt w.heap.size (w.heap.size + 1) _ k [] u _ h.b4 rfl h5 (tj h.b5) (by omega) _ rfl, ?_, ?_, ?_⟩
  · rw [Below.heap_setCell _ _ _ _ (by show w.heap.size ≠ w.heap.size + 1; omega)]; exact hb4
  · have := heap_setCell_same _ (w.heap.size + 1) 0 _ _ (.int .i64 k) hb5
    unfold World.cell?; rw [this]; rfl
  have h1 : AS w (u.setCells w.heap.size 0 (#[.slice none 0 0, .slice none 0 0, .slice none 0 0, .slice none 0 0, .slice none 0 0, .slice none 0 0, .slice none 0 0, .slice none 0 0, .slice none 0 0, .slice none 0 0] : Array Value).toList) := h.bQ.trans ⟨hW.os, hW.tape, hW.output, hW.size, λj hj => wR _ _ (by omega) _ _ _⟩;exact h1.setCell (by show w.heap.size ≤ w.heap.size + 1; omega) _
theorem abj {w3:AG} {s:AH} (ha:8<=s.size) (hs:s.size<=262144):RS w3 w3.heap.size s (λ_=>.slice none 0 0) s.size 0 8 0 (w3.alloc (.cells #[.string s,.int .i64 8,.int .i64 s.size,.slice none 0 0,.slice none 0 0,.slice none 0 0,.slice none 0 0,.slice none 0 0,.slice none 0 0,.slice none 0 0,.slice none 0 0,.slice none 0 0,.slice none 0 0,.int .i64 0,.int .i64 0] 79)) :=
 ⟨aQ _ _,aC _,mV _ _ rfl,ha,aC _,hs⟩
end aI
theorem abk (s:AH) (w:AG) (hs:s.size<=4611686018427387904):Calls prog 22 #[.string s,.string { data:=#[0,97,115,109,1,0,0,0] }] w λe w'=>e=.returned (.bool (pfx s))/\w'=w:=by
 by_cases h8:8<=s.size
 ·have d8:decide ((s.size:Int)>=8)=true:=ay;have e:pfx s=((s.extract 0 8).toList==[0,97,115,109,1,0,0,0]):=by unfold pfx;rw [ay h8,jk]
  rw [e];go_enter func22,ntmps22;go_wp2;go_ret;exact ⟨rfl,rfl⟩
 have d8:decide ((s.size:Int)>=8)=false:=aj;have e:pfx s=false:=by unfold pfx;rw [aj h8,Bool.false_and]
 rw [e];go_enter func22,ntmps22;go_wp2;go_ret;exact ⟨rfl,rfl⟩
theorem P6 {σ:Type} {M:Nat->σ->(Nat->Value)->Nat->Nat->AG->Prop} {sec:Int->rO σ} {ok:Int->Bool} {cd fl:σ->Nat} {st0:σ} (s:AH) (w:AG) (hs:s.size<=4611686018427387904) (hK:∀p,DY p (M p))
  (hS:∀w0 p id,AS w w0->ok id=true->oJ w0 p s (M p) (sec id) id)
  (hF:∀p st c k n w,M p st c k n w->(k=cd st/\∃o cap,c 2=.slice o (fl st) cap)/\∀j,j<10->∃o n k,c j=.slice o n k) (h0:∀p w,M p st0 (λ_=>.slice none 0 0) 0 0 w)
  (f:Nat) (X:R σ) (hX:(if 262144<s.size then some (.error 2) else if pfx s=false then some (.error 50) else qZ sec ok cd fl s s.size f 0 st0 8)=some X) :
  Calls prog 11 #[.string s] w (PZ M w X):=by
 have H0:=aa (DI.start w);have P7:∀(fn:Fn) (first cap:Array Value) (w:AG),(Instr.makeFunc fn first cap).run prog w=.ok (.func fn first cap) w:=λ_ _ _ _=>rfl;have DZ:=λu=>aa (abk s u hs);by_cases h1:262144<s.size
 ·rw [AE h1] at hX;obtain rfl:=Option.some.inj hX;have hd:decide ((s.size:Int)<=262144)=false:=aj;clear h1 hX
  go_enter_defers func11,ntmps11
  go_upto_region 2 with fail;obtain ⟨wb,hwb⟩:∃wb,wb=dw w:=⟨_,rfl⟩;rw [<- hwb] at H0;have ry:=hwb;unfold dw at ry;rw [<- ry];clear hwb ry;go_wp2_with fail;refine (iX _ _).mono ?_;rintro e u ⟨rfl,rfl⟩;obtain ⟨W3,hct,k4,k5,kb⟩:=H0.out.catch 2;obtain ⟨z0,z1,z2,z3,z4,z5,z6,z7,z8,z9⟩:=Dy k4;have D5:=aa hct;clear hct k4;go_wp2_with fail;refine leaves_cons (f:=20) (args:=#[.pointer (some ⟨w.heap.size,0,none⟩),.pointer (some ⟨w.heap.size+1,0,none⟩)]) (by simp) (by simp [go_sem]) ?_;refine D5.out.mono ?_;rintro e u' w'' ⟨rfl,rfl,rfl⟩;simp [Leaves,settle,results,results11,go_sem,z0,z1,z2,z3,z4,z5,z6,z7,z8,z9,k5];exact ⟨kb,rfl⟩
 have hd:decide ((s.size:Int)<=262144)=true:=ay;rw [AD h1] at hX;by_cases h2:pfx s=false
 ·rw [AE h2] at hX;obtain rfl:=Option.some.inj hX;rw [h2] at DZ;clear h1 hX h2
  go_enter_defers func11,ntmps11
  go_upto_region 2 with fail;obtain ⟨wb,hwb⟩:∃wb,wb=dw w:=⟨_,rfl⟩;rw [<- hwb] at H0;have ry:=hwb;unfold dw at ry;rw [<- ry];clear hwb ry;go_wp2_with fail;refine (dA _ _).mono ?_;rintro e wb ⟨rfl,rfl⟩;go_wp2_with fail;refine (DZ _).out.mono ?_;rintro e wb ⟨rfl,rfl⟩;go_wp2_with fail;refine (iX _ _).mono ?_;rintro e wb ⟨rfl,rfl⟩;obtain ⟨W3,hct,k4,k5,kb⟩:=H0.out.catch 50;obtain ⟨z0,z1,z2,z3,z4,z5,z6,z7,z8,z9⟩:=Dy k4;have D5:=aa hct;clear hct k4;go_wp2_with fail;refine leaves_cons (f:=20) (args:=#[.pointer (some ⟨w.heap.size,0,none⟩),.pointer (some ⟨w.heap.size+1,0,none⟩)]) (by simp) (by simp [go_sem]) ?_;refine D5.out.mono ?_;rintro e u' w'' ⟨rfl,rfl,rfl⟩;simp [Leaves,settle,results,results11,go_sem,z0,z1,z2,z3,z4,z5,z6,z7,z8,z9,k5];exact ⟨kb,rfl⟩
 rw [AD h2] at hX;have h2':pfx s=true:=by simpa using h2
 have h8:8<=s.size:=by unfold pfx at h2';rw [bH] at h2';exact of_decide_eq_true h2'.1
 rw [h2'] at DZ;have Kz:=λ(w3:AG)=>aa (abj (w3:=w3) (s:=s) h8 (by omega));have HX:=λ(w3:AG) (hb:AS w w3)=>aa (abl (hK w3.heap.size).five (λid hid=>hS w3 w3.heap.size id hb hid) (λst c k n w hM=>(hF _ st c k n w hM).1) st0 _ s.size 0 8 0 f _ (Kz w3).out (h0 _ _) X hX);clear h1 h2 h2' hX;cases X with
 | error z =>
  go_enter_defers func11,ntmps11
  go_upto_region 2 with fail;obtain ⟨wb,hwb⟩:∃wb,wb=dw w:=⟨_,rfl⟩;rw [<- hwb] at H0;have ry:=hwb;unfold dw at ry;rw [<- ry];clear hwb ry;go_wp2_with fail;refine (dA _ _).mono ?_;rintro e wb ⟨rfl,rfl⟩;go_wp2_with fail;refine (DZ _).out.mono ?_;rintro e wb ⟨rfl,rfl⟩;go_wp2_with fail;refine (dA _ _).mono ?_;rintro e wb ⟨rfl,rfl⟩;have HC:=HX wb H0.out.bQ;clear HX Kz;go_wp2_with fail;refine HC.out.mono ?_;rintro e u ⟨rfl,hb⟩;have H1:=aa (H0.out.on hb);clear hb HC;obtain ⟨W3,hct,k4,k5,kb⟩:=H1.out.catch z;obtain ⟨z0,z1,z2,z3,z4,z5,z6,z7,z8,z9⟩:=Dy k4;have D5:=aa hct;clear hct k4;go_wp2_with fail;refine leaves_cons (f:=20) (args:=#[.pointer (some ⟨w.heap.size,0,none⟩),.pointer (some ⟨w.heap.size+1,0,none⟩)]) (by simp) (by simp [go_sem]) ?_;refine D5.out.mono ?_;rintro e u' w'' ⟨rfl,rfl,rfl⟩;simp [Leaves,settle,results,results11,go_sem,z0,z1,z2,z3,z4,z5,z6,z7,z8,z9,k5];exact ⟨kb,rfl⟩
 | ok v =>
  obtain ⟨st,j⟩:=v
  go_enter_defers func11,ntmps11
  go_upto_region 2 with fail;obtain ⟨wb,hwb⟩:∃wb,wb=dw w:=⟨_,rfl⟩;rw [<- hwb] at H0;have ry:=hwb;unfold dw at ry;rw [<- ry];clear hwb ry;go_wp2_with fail;refine (dA _ _).mono ?_;rintro e wb ⟨rfl,rfl⟩;go_wp2_with fail;refine (DZ _).out.mono ?_;rintro e wb ⟨rfl,rfl⟩;go_wp2_with fail;refine (dA _ _).mono ?_;rintro e wb ⟨rfl,rfl⟩;have HC:=HX wb H0.out.bQ;clear HX Kz;go_wp2_with fail;refine HC.out.mono ?_;rintro e u ⟨rfl,⟨c,k,n,hr,hM⟩,D6⟩;have H1:=aa (H0.out.on hr.below);have hsl:=(hF _ _ _ _ _ _ hM).2;have hall:(#[c 0,c 1,c 2,c 3,c 4,c 5,c 6,c 7,c 8,c 9]:Array Value).all (·.oneCell')=true:=P5 hsl;have hrange:u.rangeAt wb.heap.size 3 [c 0,c 1,c 2,c 3,c 4,c 5,c 6,c 7,c 8,c 9]:=abh hr;have hlt:w.heap.size+1<wb.heap.size:=(gX.1 H0.out.b5).1;have hth:u.there w.heap.size 0 10:=F7 H1.out.b4 rfl;obtain ⟨W2,gY⟩:∃W2,u.setCells w.heap.size 0 (#[c 0,c 1,c 2,c 3,c 4,c 5,c 6,c 7,c 8,c 9]:Array Value).toList=W2:=⟨_,rfl⟩;have g4:W2.heap[w.heap.size]?=some (.cells #[c 0,c 1,c 2,c 3,c 4,c 5,c 6,c 7,c 8,c 9] 32 (0,0)):=by rw [<- gY];exact I7 H1.out.b4 rfl rfl
  have g5:W2.heap[w.heap.size+1]?=some (.cells #[.int .i64 0] 43 (0,0)):=by rw [<- gY,wR _ _ (by omega)];exact H1.out.b5
  have gB:AS w W2:=by
   have hW:=Dk w.heap.size (#[c 0,c 1,c 2,c 3,c 4,c 5,c 6,c 7,c 8,c 9]:Array Value).toList 0 u;rw [<- gY];exact H1.out.bQ.trans ⟨hW.os,hW.tape,hW.output,hW.size,λj hj=>wR _ _ (by omega) _ _ _⟩
  have gM:M wb.heap.size st c k n (W2.setCell ⟨w.heap.size+1,0,none⟩ (.int .i64 0)):=hK _ _ _ _ _ _ _ hM (λb h1 h2=>by rw [Below.heap_setCell _ _ _ _ (by show b≠w.heap.size+1;omega),<- gY,wR _ _ (by omega)]) (by rw [<- gY];simp [Ng]);have gc5:W2.cell? ⟨w.heap.size+1,0,none⟩=some (.int .i64 0):=cell_of (j:=0) g5;have gf5:W2.frozen? ⟨w.heap.size+1,0,none⟩=false:=tj (j:=0) g5;have k4:(W2.setCell ⟨w.heap.size+1,0,none⟩ (.int .i64 0)).heap[w.heap.size]?=some (.cells #[c 0,c 1,c 2,c 3,c 4,c 5,c 6,c 7,c 8,c 9] 32 (0,0)):=by rw [Below.heap_setCell _ _ _ _ (by show w.heap.size≠w.heap.size+1;omega)];exact g4
  have k5:(W2.setCell ⟨w.heap.size+1,0,none⟩ (.int .i64 0)).cell? ⟨w.heap.size+1,0,none⟩=some (.int .i64 0):=by
   have:=heap_setCell_same W2 (w.heap.size+1) 0 _ _ (.int .i64 0) g5
   unfold World.cell?;rw [this];rfl
  obtain ⟨z0,z1,z2,z3,z4,z5,z6,z7,z8,z9⟩:=Dy k4;have P8:=aa (And.intro gM (gB.setCell (p:=⟨w.heap.size+1,0,none⟩) (by show w.heap.size<=w.heap.size+1;omega) (.int .i64 0)));have HW2:=aa gY;have G5:=aa hth;have HRA:=aa hrange;have G6:=aa hall;clear gY g4 g5 gB gM k4 hth hrange hall hsl hr hM D6 HC;go_wp2_with (first|(refine wpList_load_mid rfl 32 (.tmp 22) rfl wb.heap.size 3 rfl [c 0,c 1,c 2,c 3,c 4,c 5,c 6,c 7,c 8,c 9] _ HRA.out underlying32 rfl Dl ?_)|(refine wpList_store_mid rfl 32 (.tmp 2) (.tmp 23) rfl w.heap.size 0 #[c 0,c 1,c 2,c 3,c 4,c 5,c 6,c 7,c 8,c 9] rfl rfl G5.out Dl G6.out ?_;rw [HW2.out]))
  refine leaves_cons (f:=20) (args:=#[.pointer (some ⟨w.heap.size,0,none⟩),.pointer (some ⟨w.heap.size+1,0,none⟩)]) (by simp) (by simp [go_sem]) ?_;refine (Wu w.heap.size (w.heap.size+1) _).mono ?_;rintro e u' w'' ⟨rfl,rfl,rfl⟩;simp [Leaves,settle,results,results11,go_sem,z0,z1,z2,z3,z4,z5,z6,z7,z8,z9,k5];exact ⟨P8.out.2,_,c,k,n,P8.out.1,rfl⟩
namespace aI
def MW (p:Nat) (st:Nat × Nat) (c:Nat->Value) (k n:Nat) (w:AG):Prop:=(∃o cap,c 0=.slice o st.1 cap)/\(k=0/\∃o cap,c 2=.slice o st.2 cap)/\∀j,j<10->∃o n k,c j=.slice o n k
def CH (s:AH) (id:Int):rO (Nat × Nat):=λst en i=>if id=0 then bd (yj s en i) λ_ j=>.ok (st,j) else bd (bB (ni s en) s en i) λl j=>.ok ((l.length,st.2),j)
def okW (id:Int):Bool:=id==0 || id==1
theorem adA (p:Nat):DY p (MW p):=λst c k n w w' h _ _=>h
def s1:AH:={ data:=#[0,97,115,109,1,0,0,0,0,2,1,120,1,4,1,96,0,0] }
def s2:AH:={ data:=#[0,97,115,109,1,0,0,0,1,5,1,96,0,0,0] }
theorem adB:(if 262144<s1.size then some (.error 2) else if pfx s1=false then some (.error 50) else qZ (CH s1) okW (λ_=>0) (λst=>st.2) s1 s1.size 3 0 (0,0) 8)=some (.ok ((1,0),18)):=by
 kernel_rfl
theorem adC:(if 262144<s2.size then some (.error 2) else if pfx s2=false then some (.error 50) else qZ (CH s2) okW (λ_=>0) (λst=>st.2) s2 s2.size 3 0 (0,0) 8)=some (.error 50):=by
 kernel_rfl
end aI
theorem zn {w w':AG} (h:mI w) (hb:AS w w'):mI w' :=
 ⟨λc hc=>ak hb (h.1 c hc),λi hi=>⟨ak hb (h.2 i hi).1,ak hb (h.2 i hi).2⟩⟩
theorem adD {w0:AG} {p:Nat} {s:AH} (hU:∀u,AS w0 u->mI u) {id:Int} (h:okW id=true):oJ w0 p s (MW p) (CH s id) id:=by
 intro st c en k i n w hr hM;have hid:id=0\/id=1:=by unfold okW at h;simpa using h
 rcases hid with rfl|rfl
 ·have h0:=Rx w0 p s c en k i n w hr hU;unfold CH;rw [AE rfl];refine h0.mono ?_;intro e w' hx;cases hR:yj s en i with
  | error z=>rw [hR] at hx;exact hx
  | ok v =>
   obtain ⟨u,j⟩:=v;rw [hR] at hx;obtain ⟨⟨v,rfl,hv⟩,h1,h2⟩:=hx;have hv:v=.tuple #[]:=hv;subst hv;exact ⟨rfl,⟨c,k,n,h1,hM⟩,But.t h2⟩
 have h1:=Na w0 p s c en k i n w hr;unfold CH;rw [AD (by decide)];refine h1.mono ?_;intro e w' hx;cases hR:bB (ni s en) s en i with
 | error z=>rw [hR] at hx;exact hx
 | ok v =>
  obtain ⟨l,j⟩:=v;rw [hR] at hx;obtain ⟨rfl,⟨v,hv,h2⟩,h3⟩:=hx
  obtain ⟨o,cap,rfl⟩:∃o cap,v=.slice o l.length cap:=by
   rcases hv.2 with ⟨rfl,o,cap,rfl⟩|⟨b,off,cap,rfl,_⟩
   ·exact ⟨o,cap,rfl⟩
   exact ⟨_,cap,rfl⟩
  refine ⟨rfl,⟨_,k,n,h2,⟨o,cap,rfl⟩,⟨hM.2.1.1,?_⟩,?_⟩,But.t h3⟩
  ·obtain ⟨o2,c2,e2⟩:=hM.2.1.2;exact ⟨o2,c2,by unfold upd;rw [AD (by decide)];exact e2⟩
  intro j hj;unfold upd;by_cases hj0:j=0
  ·exact ⟨o,l.length,cap,by rw [AE hj0]⟩
  obtain ⟨a,b,d,e⟩:=hM.2.2 j hj;exact ⟨a,b,d,by rw [AD hj0];exact e⟩
theorem Gl (w:AG) (hU:mI w):Calls prog 6 #[] w λe w'=>e=.returned (.bool true)/\AS w w':=by
 have HD:=λ(u:AG) (hb:AS w u) (s:AH) (hs:s.size<=4611686018427387904) (X:R (Nat × Nat)) (hX:_=some X)=>aa (P6 (M:=MW) (sec:=CH s) (ok:=okW) (cd:=λ_=>0) (fl:=λst=>st.2) (st0:=(0,0)) s u hs adA
  (λw0 p id hb0 hid=>adD (λu2 hb2=>zn hU (dM hb (dM hb0 hb2))) hid) (λp st c k n w hM=>hM.2) (λp w=>⟨⟨_,_,rfl⟩,⟨rfl,_,_,rfl⟩,λj _=>⟨_,_,_,rfl⟩⟩) 3 X hX)
 have H1:=HD w (AC _ _) s1 (by decide) _ adB;have H2:=λu hb=>HD u hb s2 (by decide) _ adC;clear HD;go_enter func6,ntmps6;go_wp2_with fail;refine H1.out.mono ?_;rintro e u ⟨hb,p,c,k,n,hM,rfl⟩;have hc0:=hM.1;have hsl:=hM.2.2;have hall:(#[c 0,c 1,c 2,c 3,c 4,c 5,c 6,c 7,c 8,c 9]:Array Value).all (·.oneCell')=true:=P5 hsl;have DX:AS u (u.alloc (.cells #[.slice none 0 0,.slice none 0 0,.slice none 0 0,.slice none 0 0,.slice none 0 0,.slice none 0 0,.slice none 0 0,.slice none 0 0,.slice none 0 0,.slice none 0 0] 32)):=(AC _ _).alloc (aC _) _;have hbk:(u.alloc (.cells #[.slice none 0 0,.slice none 0 0,.slice none 0 0,.slice none 0 0,.slice none 0 0,.slice none 0 0,.slice none 0 0,.slice none 0 0,.slice none 0 0,.slice none 0 0] 32)).heap[u.heap.size]?=some (.cells #[.slice none 0 0,.slice none 0 0,.slice none 0 0,.slice none 0 0,.slice none 0 0,.slice none 0 0,.slice none 0 0,.slice none 0 0,.slice none 0 0,.slice none 0 0] 32 (0,0)):=mV _ _ rfl;have hth:=F7 hbk rfl;obtain ⟨W2,gY⟩:∃W2,(u.alloc (.cells #[.slice none 0 0,.slice none 0 0,.slice none 0 0,.slice none 0 0,.slice none 0 0,.slice none 0 0,.slice none 0 0,.slice none 0 0,.slice none 0 0,.slice none 0 0] 32)).setCells u.heap.size 0 (#[c 0,c 1,c 2,c 3,c 4,c 5,c 6,c 7,c 8,c 9]:Array Value).toList=W2:=⟨_,rfl⟩;have g4:W2.heap[u.heap.size]?=some (.cells #[c 0,c 1,c 2,c 3,c 4,c 5,c 6,c 7,c 8,c 9] 32 (0,0)):=by rw [<- gY];exact I7 hbk rfl rfl
 have gB:AS u W2:=by
  have hW:=Dk u.heap.size (#[c 0,c 1,c 2,c 3,c 4,c 5,c 6,c 7,c 8,c 9]:Array Value).toList 0 (u.alloc (.cells #[.slice none 0 0,.slice none 0 0,.slice none 0 0,.slice none 0 0,.slice none 0 0,.slice none 0 0,.slice none 0 0,.slice none 0 0,.slice none 0 0,.slice none 0 0] 32));rw [<- gY];exact DX.trans ⟨hW.os,hW.tape,hW.output,hW.size,λj hj=>wR _ _ (by omega) _ _ _⟩
 have HG:=aa (And.intro g4 gB);have G5:=aa hth;have G6:=aa hall;have HW2:=aa gY;have HB:=aa hb;have aN:=aa hc0;clear H1 hb hM hc0 hsl hall DX hbk hth gY g4 gB;go_wp2_with (refine wpList_store_mid rfl 32 (.tmp 1) (.tmp 7) rfl u.heap.size 0 #[c 0,c 1,c 2,c 3,c 4,c 5,c 6,c 7,c 8,c 9] rfl rfl G5.out Dl G6.out ?_;rw [HW2.out]);have SC:=H2 W2 (dM HB.out HG.out.2);refine SC.out.mono ?_;rintro e u3 ⟨hb3,he⟩;have he:e=.returned (.tuple #[.agg #[.slice none 0 0,.slice none 0 0,.slice none 0 0,.slice none 0 0,.slice none 0 0,.slice none 0 0,.slice none 0 0,.slice none 0 0,.slice none 0 0,.slice none 0 0],.int .i64 50]):=he;subst he;have hB4:AS u3 (u3.alloc (.cells #[.slice none 0 0,.slice none 0 0,.slice none 0 0,.slice none 0 0,.slice none 0 0,.slice none 0 0,.slice none 0 0,.slice none 0 0,.slice none 0 0,.slice none 0 0] 32)):=(AC _ _).alloc (aC _) _;have hbk:(u3.alloc (.cells #[.slice none 0 0,.slice none 0 0,.slice none 0 0,.slice none 0 0,.slice none 0 0,.slice none 0 0,.slice none 0 0,.slice none 0 0,.slice none 0 0,.slice none 0 0] 32)).heap[u3.heap.size]?=some (.cells #[.slice none 0 0,.slice none 0 0,.slice none 0 0,.slice none 0 0,.slice none 0 0,.slice none 0 0,.slice none 0 0,.slice none 0 0,.slice none 0 0,.slice none 0 0] 32 (0,0)):=mV _ _ rfl;have hth:=F7 hbk rfl;have hall:(#[.slice none 0 0,.slice none 0 0,.slice none 0 0,.slice none 0 0,.slice none 0 0,.slice none 0 0,.slice none 0 0,.slice none 0 0,.slice none 0 0,.slice none 0 0]:Array Value).all (·.oneCell')=true:=by simp [Value.oneCell']
 obtain ⟨W4,LA⟩:∃W4,(u3.alloc (.cells #[.slice none 0 0,.slice none 0 0,.slice none 0 0,.slice none 0 0,.slice none 0 0,.slice none 0 0,.slice none 0 0,.slice none 0 0,.slice none 0 0,.slice none 0 0] 32)).setCells u3.heap.size 0 (#[.slice none 0 0,.slice none 0 0,.slice none 0 0,.slice none 0 0,.slice none 0 0,.slice none 0 0,.slice none 0 0,.slice none 0 0,.slice none 0 0,.slice none 0 0]:Array Value).toList=W4:=⟨_,rfl⟩
 have gB:AS u3 W4:=by
  have hW:=Dk u3.heap.size (#[.slice none 0 0,.slice none 0 0,.slice none 0 0,.slice none 0 0,.slice none 0 0,.slice none 0 0,.slice none 0 0,.slice none 0 0,.slice none 0 0,.slice none 0 0]:Array Value).toList 0 (u3.alloc (.cells #[.slice none 0 0,.slice none 0 0,.slice none 0 0,.slice none 0 0,.slice none 0 0,.slice none 0 0,.slice none 0 0,.slice none 0 0,.slice none 0 0,.slice none 0 0] 32));rw [<- LA];exact hB4.trans ⟨hW.os,hW.tape,hW.output,hW.size,λj hj=>wR _ _ (by omega) _ _ _⟩
 obtain ⟨o,cap,hc⟩:=aN.out
 have c0:W4.cell? ⟨u.heap.size,0,none⟩=some (.slice o 1 cap):=by
  have h1:W2.cell? ⟨u.heap.size,0,none⟩=some (c 0):=cell_of (j:=0) HG.out.1;rw [hc] at h1;exact ak gB (ak hb3 h1)
 have adE:=aa hth;have adF:=aa hall;have HW4:=aa LA;have HF:=aa (dM (dM (dM HB.out HG.out.2) hb3) gB);clear H2 SC hb3 hB4 hbk hth hall LA gB hc G5 G6 HW2 HG HB aN;go_wp2_with (refine wpList_store_mid rfl 32 (.tmp 3) (.tmp 11) rfl u3.heap.size 0 #[.slice none 0 0,.slice none 0 0,.slice none 0 0,.slice none 0 0,.slice none 0 0,.slice none 0 0,.slice none 0 0,.slice none 0 0,.slice none 0 0,.slice none 0 0] rfl rfl adE.out Dl adF.out ?_;rw [HW4.out]);go_ret;exact ⟨rfl,HF.out⟩
end Go.Proofs.YtcfifbgemfladaaGreatDoor
