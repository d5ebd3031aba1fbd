/- Texts that the claim needs. -/
import Derived.Test.YtpaefhceiliaiaaGreatDoorQPAk36
import Derived.Test.YtpaefhceiliaiaaGreatDoorQPAk29
namespace Go.Proofs.YtpaefhceiliaiaaGreatDoor
open Go.RowKit Lx Pz bB
set_option linter.unusedVariables false
set_option maxRecDepth 100000
set_option maxHeartbeats 8000000
namespace ah
section
variable {P:Program} {ops:Array Oper} {Q:Exit->Act->World->Prop} {id:Nat} {a0:Act} {w0:World}
theorem yZ (n lo z size:Nat) (L:List Value) (hm:P.follows .mixedOrders=true) (hT:sI ops n=true) (hd:EF ops n (fun i=>if i<n-1 then lo+i else z) size=true) (hs:a0.tmps.size=size) (hz:z<lo/\0<n)
  (hstep:∀i o a w,i<n->ops[i]?=some o->Fr a0 (fun i=>if i<n-1 then lo+i else z) n a->Below w0.heap.size w0 w->(∀j ∈ deps o,a.tmps[j+lo]?.getD undef=L.getD j undef)->Does P ops Q (Bw L i) o a w)
  (hend:∀a w,Fr a0 (fun i=>if i<n-1 then lo+i else z) n a->Below w0.heap.size w0 w->a.eval (.tmp z)=L.getD (n-1) undef->Q .normal a w) :
  (Code.region id ops true).wp P Q a0 w0 :=
 Pm n (fun i=>if i<n-1 then lo+i else z) (Bw L) hm hT (fun i j h1 h2 h=>by have h':(if i<n-1 then lo+i else z)=(if j<n-1 then lo+j else z):=h;split at h'<;>split at h'<;>omega) (fun i hi=>by rw [hs];exact Pn hd i hi) (fun _ _ _ _ _ h _=>h)
  (fun i o a w hi ho hF hB hG=>hstep i o a w hi ho hF hB fun j hj=>by
   have hlow:j<i:=by
    unfold sI at hT;rw [Bool.and_eq_true,decide_eq_true_eq,List.all_eq_true] at hT;have h1:=hT.2 i (List.mem_range.2 (by omega));rw [pY ho] at h1;exact of_decide_eq_true (List.all_eq_true.1 h1 j hj)
   have h:=hG j hj;have e:(if j<n-1 then lo+j else z)=lo+j:=if_pos (by omega);rw [e] at h;exact Po h)
  (fun a w hF hB hG=>hend a w hF hB (by
   have h:=hG (n-1) (by omega);have e:(if n-1<n-1 then lo+(n-1) else z)=z:=if_neg (by omega);rw [e] at h;exact h))
theorem y8 {p:Value->World->Prop} {o oj:Oper} {a:Act} {w:World} {j lo:Nat} {b:Bool} {L:List Value} (hg:o.guard=some (j,b)) (hj:ops[j]?=some oj) (hk:oj.dst=some (j+lo)) (hb:L.getD j undef=.bool (!b)) (hd:a.tmps[j+lo]?.getD undef=L.getD j undef) (h:p undef w):Does P ops Q p o a w :=
 Does.skip hg hj hk (by show a.tmps.getD (j+lo) undef=_;rw [Array.getD_eq_getD_getElem?,hd,hb]) h
end
end ah
namespace Pz
def xh:Nat->Value->Prop
 | 0,_=>True
 | d+1,t=>(sJ t).size<=140737488355328/\True/\(-9223372036854775808<=qU t/\qU t<=9223372036854775807)/\(∀x ∈ dc t,xh d x)/\True
def AY:Nat->Value->Prop
 | 0,_=>True
 | d+1,t=>(sJ t).size<=140737488355328/\(AV t).size<=140737488355328/\(-9223372036854775808<=qU t/\qU t<=9223372036854775807)/\(∀x ∈ dc t,AY d x)/\(∀x ∈ gm t,xh d x)
def Hu (m:Nat) (c:Value):Prop:=(uP c).size<=140737488355328/\∀t ∈ wU c,xh m t
def DN (m:Nat) (d:Value):Prop:=(uP d).size<=140737488355328/\(∀p ∈ Ao d,(sH p).size<=140737488355328)/\∀c ∈ sw d,Hu m c
theorem k14 {k:Int} (h1:¬ k<1) (h5:¬ k>=5):k=1\/k=2\/k=3\/k=4:=by omega
theorem Yp {k:Int} (h1:¬ k<1) (h5:¬ k>=11):k=1\/k=2\/k=3\/k=4\/k=5\/k=6\/k=7\/k=8\/k=9\/k=10:=by omega
theorem Yq {w:World} (h:GW w) {k:Int} (hk:k=1\/k=2\/k=3\/k=4):w.cell? ⟨5,k.toNat*4,none⟩=some (.int .i64 (Bx k))/\w.cell? ⟨5,k.toNat*4+1,none⟩=some (.int .i64 0)/\w.cell? ⟨5,k.toNat*4+2,none⟩=some (.bool false)/\w.cell? ⟨5,k.toNat*4+3,none⟩=some (.int .i64 (Bz k)):=by
 rcases hk with rfl|rfl|rfl|rfl<;>exact ⟨h.ty _ _ rfl,h.ty _ _ rfl,h.ty _ _ rfl,h.ty _ _ rfl⟩
theorem Yr {w:World} (h:GW w) {k:Int} (hk:k=1\/k=2\/k=3\/k=4):w.cell? ⟨3,k.toNat*4,none⟩=some (.int .i64 (BA k))/\w.cell? ⟨3,k.toNat*4+1,none⟩=some (.int .i64 0)/\w.cell? ⟨3,k.toNat*4+2,none⟩=some (.bool (k == 3))/\w.cell? ⟨3,k.toNat*4+3,none⟩=some (.int .i64 (BB k)):=by
 rcases hk with rfl|rfl|rfl|rfl<;>exact ⟨h.pa _ _ rfl,h.pa _ _ rfl,h.pa _ _ rfl,h.pa _ _ rfl⟩
theorem Yt {w:World} (h:GW w) {k:Int} (hk:k=1\/k=2\/k=3\/k=4\/k=5\/k=6\/k=7\/k=8\/k=9\/k=10):w.cell? ⟨0,k.toNat*4,none⟩=some (.int .i64 (za k))/\w.cell? ⟨0,k.toNat*4+1,none⟩=some (.int .i64 (vG k))/\w.cell? ⟨0,k.toNat*4+2,none⟩=some (.bool (k == 2))/\w.cell? ⟨0,k.toNat*4+3,none⟩=some (.int .i64 (zb k)):=by
 rcases hk with rfl|rfl|rfl|rfl|rfl|rfl|rfl|rfl|rfl|rfl<;>exact ⟨h.ex _ _ rfl,h.ex _ _ rfl,h.ex _ _ rfl,h.ex _ _ rfl⟩
end Pz
theorem Pp : ∀ (m : Nat) (t v : Value) (w : World), GW w → dX 0 t v w → jd m t = false → xh m t → Calls Tryz.prog 143 #[v] w fun e w' => e = .returned (.bool (lQ m t)) ∧ Below w.heap.size w w'
  | 0, t, v, w, hG, h, hd, hs => by cases hd
  | m + 1, t, v, w, hG, h, hdp, hs => by
    have ih := Pp m;obtain ⟨d, k, x, n, es, u, rfl, rfl, hrow⟩ := h;obtain ⟨oR, cR, rfl, hel⟩ := bP hrow;have tH : ∀ y ∈ es, jd m y = false := fun y hy => mI (f := jd m) hdp hy;obtain ⟨hx, _, hn, hsa, _⟩ := hs;rw [I1] at hx;rw [I2] at hn;rw [uq] at hsa;have hb := bO w (.cells #[.int .i64 k, .string x, .int .i64 n, .slice oR es.length cR] 79);have HB := ae hb;have HX := ae (heap_alloc_new w (.cells #[.int .i64 k, .string x, .int .i64 n, .slice oR es.length cR] 79));obtain ⟨R, hR⟩ : ∃ R, R = lQ (m + 1) (nd k x e0 n es [] 0) := ⟨_, rfl⟩;rw [← hR];have hR' : R = ((decide (1 ≤ k ∧ k < 5) && (!(k == 4 && decide (x = om)) && kH (Bx k) false (Bz k) x n es.length)) && es.all (lQ m)) := hR;clear hR;by_cases h1 : k < 1
    · have q1 : decide (k < 1) = true := decide_eq_true h1
      have HS : Hid (false = R) := ae (by rw [hR', decide_eq_false (by omega)]; rfl);clear hR' hrow hel tH hsa hG ih;go_enter Tryz.func143, Tryz.ntmps143;go_wp2;go_ret;exact ⟨aC HS.out, HB.out⟩
    · have q1 : decide (k < 1) = false := decide_eq_false h1
      by_cases h5 : k ≥ 5
      · have q2 : decide (k ≥ 5) = true := decide_eq_true h5
        have HS : Hid (false = R) := ae (by rw [hR', decide_eq_false (by omega)]; rfl);clear hR' hrow hel tH hsa hG ih;go_enter Tryz.func143, Tryz.ntmps143;go_wp2;go_ret;exact ⟨aC HS.out, HB.out⟩
      · have q2 : decide (k ≥ 5) = false := decide_eq_false h5
        rw [decide_eq_true (show 1 ≤ k ∧ k < 5 by omega), Bool.true_and] at hR';have hk4 := k14 h1 h5;have vH := ae (fun (u : World) (hu : Below (w.alloc (.cells #[.int .i64 k, .string x, .int .i64 n, .slice oR es.length cR] 79)).heap.size (w.alloc (.cells #[.int .i64 k, .string x, .int .i64 n, .slice oR es.length cR] 79)) u) => Yq ((hG.on hb).on hu) hk4);have lq := ae (fun (u : World) (hu : Below (w.alloc (.cells #[.int .i64 k, .string x, .int .i64 n, .slice oR es.length cR] 79)).heap.size (w.alloc (.cells #[.int .i64 k, .string x, .int .i64 n, .slice oR es.length cR] 79)) u) => G8 (Bx k) 0 (false) (Bz k) x n es.length u ((hG.on hb).on hu) hx hn);have qb := ae (fun (u : World) (hu : Below (w.alloc (.cells #[.int .i64 k, .string x, .int .i64 n, .slice oR es.length cR] 79)).heap.size (w.alloc (.cells #[.int .i64 k, .string x, .int .i64 n, .slice oR es.length cR] 79)) u) => Pq (lQ m) es (.slice oR es.length cR) u d (hrow.imp (fun b o t _ ht => dN.but (fun kk _ hl => (au hb hu).block kk hl) _ b o t ht)) (fun t v w' hm ho hw' => ih t v w' (((hG.on hb).on hu).on hw') ho (tH t hm) (hsa t hm)));have hkn : 0 ≤ k ∧ k < 5 := by omega
        generalize es.all (lQ m) = G at *;generalize hnk : Bx k = nk at *;generalize har : Bz k = ar at *
        skip
        generalize kH nk false ar x n es.length = Fb at *;clear hnk har hrow hel tH hsa hG ih hb hx hn hk4;cases q4 : (k == 4) with
        | true =>
          rw [q4, Bool.true_and] at hR';by_cases hxi : x = om
          · have q5 : (x.toList == [105, 110, 116]) = true := by rw [hxi, ByteArray.toList_eq]; rfl
            have HS : Hid (false = R) := ae (by rw [hR', decide_eq_true hxi]; rfl);clear hR' vH lq qb hxi;go_enter Tryz.func143, Tryz.ntmps143;go_wp2;go_ret;exact ⟨aC HS.out, HB.out⟩
          · have q5 : (x.toList == [105, 110, 116]) = false := by
              rw [beq_eq_false_iff_ne];intro e;rw [ByteArray.toList_eq] at e;exact hxi (ByteArray.ext (Array.toList_inj.1 e))
            rw [decide_eq_false hxi, Bool.not_false, Bool.true_and] at hR';cases Fb with
            | true =>
              have HS : Hid (G = R) := ae (by rw [hR', Bool.true_and]);clear hR';go_enter Tryz.func143, Tryz.ntmps143;go_wp2_with fail;refine ah.yZ 18 19 2 36 [.pointer (some ⟨w.heap.size, 0, none⟩), .int .i64 k, .pointer (some ⟨5, k.toNat * 4, none⟩), .agg #[.int .i64 nk, .int .i64 0, .bool false, .int .i64 ar], .pointer (some ⟨w.heap.size, 1, none⟩), .string x, .pointer (some ⟨w.heap.size, 2, none⟩), .int .i64 n, .pointer (some ⟨w.heap.size, 3, none⟩), .slice oR es.length cR, .int .i64 (es.length : Int), .bool true, .bool true, .pointer (some ⟨w.heap.size, 3, none⟩), .slice oR es.length cR, .bool G, .bool G, .bool G] (by kernel_rfl) (by kernel_rfl) (by kernel_rfl) rfl (by decide) ?BC ?BD
              case BC =>
                intro i o a u hi ho hF hB hd;have f1 : a.tmps[1]?.getD undef = .pointer (some ⟨w.heap.size, 0, none⟩) := ah.az (hF.eval 1 (fun i hi => by show (if i < 17 then 19 + i else 2) ≠ 1; split <;> omega))
                have c0 := af ((hB.block _ (Array.getElem?_eq_some_iff.1 HX.out).1).trans HX.out) 0 _ rfl;have c1 := af ((hB.block _ (Array.getElem?_eq_some_iff.1 HX.out).1).trans HX.out) 1 _ rfl;have c2 := af ((hB.block _ (Array.getElem?_eq_some_iff.1 HX.out).1).trans HX.out) 2 _ rfl;have c3 := af ((hB.block _ (Array.getElem?_eq_some_iff.1 HX.out).1).trans HX.out) 3 _ rfl;obtain ⟨d0, d1, d2, d3⟩ := vH.out u hB;have qc := ae (lq.out u hB);have ig := ae (qb.out u hB)
                iterate 18 (rcases Nat.lt_succ_iff_lt_or_eq.1 hi with hi | rfl)
                exact absurd hi (Nat.not_lt_zero _)
                all_goals (
                  simp only [List.getElem?_toArray, List.getElem?_cons_succ, List.getElem?_cons_zero, Option.some.injEq] at ho;subst ho
                  first
                  | exact ah.y8 rfl rfl rfl rfl (hd _ (by decide)) rfl
                  | (first
                    | refine ah.Does.go rfl (ah.bI fun K hK => ?_)
                    | refine ah.ze rfl rfl rfl rfl (hd _ (by decide)) (ah.bI fun K hK => ?_)
                     simp [ah.deps, Region.binds] at hd;go_simp
                     first
                     | exact hK _ _ ⟨_, rfl, Below.refl _ _, rfl⟩
                     | (refine Calls.mono (show Calls _ _ _ _ _ from qc.out) ?_; rintro e w' ⟨rfl, hw⟩; exact hK _ _ ⟨_, rfl, hw, rfl⟩)
                     | (refine Calls.mono (show Calls _ _ _ _ _ from ig.out) ?_; rintro e w' ⟨rfl, hw⟩; exact hK _ _ ⟨_, rfl, hw, rfl⟩)))
              case BD =>
                intro a u hF hB hG;have HW := ae (au HB.out hB);go_wp2_with fail;refine bodyPost_ret (v := .bool G) ((results_tmp rfl _ _ _).trans (congrArg (fun v => Result.ok v u) hG)) hF.defers ⟨aC HS.out, HW.out⟩
            | false =>
              have HS : Hid (false = R) := ae (by rw [hR', Bool.false_and]);clear hR';go_enter Tryz.func143, Tryz.ntmps143;go_wp2_with fail;refine ah.yZ 18 19 2 36 [.pointer (some ⟨w.heap.size, 0, none⟩), .int .i64 k, .pointer (some ⟨5, k.toNat * 4, none⟩), .agg #[.int .i64 nk, .int .i64 0, .bool false, .int .i64 ar], .pointer (some ⟨w.heap.size, 1, none⟩), .string x, .pointer (some ⟨w.heap.size, 2, none⟩), .int .i64 n, .pointer (some ⟨w.heap.size, 3, none⟩), .slice oR es.length cR, .int .i64 (es.length : Int), .bool false, .bool false, undef, undef, undef, .bool false, .bool false] (by kernel_rfl) (by kernel_rfl) (by kernel_rfl) rfl (by decide) ?BF ?BG
              case BF =>
                intro i o a u hi ho hF hB hd;have f1 : a.tmps[1]?.getD undef = .pointer (some ⟨w.heap.size, 0, none⟩) := ah.az (hF.eval 1 (fun i hi => by show (if i < 17 then 19 + i else 2) ≠ 1; split <;> omega))
                have c0 := af ((hB.block _ (Array.getElem?_eq_some_iff.1 HX.out).1).trans HX.out) 0 _ rfl;have c1 := af ((hB.block _ (Array.getElem?_eq_some_iff.1 HX.out).1).trans HX.out) 1 _ rfl;have c2 := af ((hB.block _ (Array.getElem?_eq_some_iff.1 HX.out).1).trans HX.out) 2 _ rfl;have c3 := af ((hB.block _ (Array.getElem?_eq_some_iff.1 HX.out).1).trans HX.out) 3 _ rfl;obtain ⟨d0, d1, d2, d3⟩ := vH.out u hB;have qc := ae (lq.out u hB);have ig := ae (qb.out u hB)
                iterate 18 (rcases Nat.lt_succ_iff_lt_or_eq.1 hi with hi | rfl)
                exact absurd hi (Nat.not_lt_zero _)
                all_goals (
                  simp only [List.getElem?_toArray, List.getElem?_cons_succ, List.getElem?_cons_zero, Option.some.injEq] at ho;subst ho
                  first
                  | exact ah.y8 rfl rfl rfl rfl (hd _ (by decide)) rfl
                  | (first
                    | refine ah.Does.go rfl (ah.bI fun K hK => ?_)
                    | refine ah.ze rfl rfl rfl rfl (hd _ (by decide)) (ah.bI fun K hK => ?_)
                     simp [ah.deps, Region.binds] at hd;go_simp
                     first
                     | exact hK _ _ ⟨_, rfl, Below.refl _ _, rfl⟩
                     | (refine Calls.mono (show Calls _ _ _ _ _ from qc.out) ?_; rintro e w' ⟨rfl, hw⟩; exact hK _ _ ⟨_, rfl, hw, rfl⟩)
                     | (refine Calls.mono (show Calls _ _ _ _ _ from ig.out) ?_; rintro e w' ⟨rfl, hw⟩; exact hK _ _ ⟨_, rfl, hw, rfl⟩)))
              case BG =>
                intro a u hF hB hG;have HW := ae (au HB.out hB);go_wp2_with fail;refine bodyPost_ret (v := .bool false) ((results_tmp rfl _ _ _).trans (congrArg (fun v => Result.ok v u) hG)) hF.defers ⟨aC HS.out, HW.out⟩
        | false =>
          rw [q4, Bool.false_and, Bool.not_false, Bool.true_and] at hR';cases Fb with
          | true =>
            have HS : Hid (G = R) := ae (by rw [hR', Bool.true_and]);clear hR';go_enter Tryz.func143, Tryz.ntmps143;go_wp2_with fail;refine ah.yZ 18 19 2 36 [.pointer (some ⟨w.heap.size, 0, none⟩), .int .i64 k, .pointer (some ⟨5, k.toNat * 4, none⟩), .agg #[.int .i64 nk, .int .i64 0, .bool false, .int .i64 ar], .pointer (some ⟨w.heap.size, 1, none⟩), .string x, .pointer (some ⟨w.heap.size, 2, none⟩), .int .i64 n, .pointer (some ⟨w.heap.size, 3, none⟩), .slice oR es.length cR, .int .i64 (es.length : Int), .bool true, .bool true, .pointer (some ⟨w.heap.size, 3, none⟩), .slice oR es.length cR, .bool G, .bool G, .bool G] (by kernel_rfl) (by kernel_rfl) (by kernel_rfl) rfl (by decide) ?BC ?BD
            case BC =>
              intro i o a u hi ho hF hB hd;have f1 : a.tmps[1]?.getD undef = .pointer (some ⟨w.heap.size, 0, none⟩) := ah.az (hF.eval 1 (fun i hi => by show (if i < 17 then 19 + i else 2) ≠ 1; split <;> omega))
              have c0 := af ((hB.block _ (Array.getElem?_eq_some_iff.1 HX.out).1).trans HX.out) 0 _ rfl;have c1 := af ((hB.block _ (Array.getElem?_eq_some_iff.1 HX.out).1).trans HX.out) 1 _ rfl;have c2 := af ((hB.block _ (Array.getElem?_eq_some_iff.1 HX.out).1).trans HX.out) 2 _ rfl;have c3 := af ((hB.block _ (Array.getElem?_eq_some_iff.1 HX.out).1).trans HX.out) 3 _ rfl;obtain ⟨d0, d1, d2, d3⟩ := vH.out u hB;have qc := ae (lq.out u hB);have ig := ae (qb.out u hB)
              iterate 18 (rcases Nat.lt_succ_iff_lt_or_eq.1 hi with hi | rfl)
              exact absurd hi (Nat.not_lt_zero _)
              all_goals (
                simp only [List.getElem?_toArray, List.getElem?_cons_succ, List.getElem?_cons_zero, Option.some.injEq] at ho;subst ho
                first
                | exact ah.y8 rfl rfl rfl rfl (hd _ (by decide)) rfl
                | (first
                  | refine ah.Does.go rfl (ah.bI fun K hK => ?_)
                  | refine ah.ze rfl rfl rfl rfl (hd _ (by decide)) (ah.bI fun K hK => ?_)
                   simp [ah.deps, Region.binds] at hd;go_simp
                   first
                   | exact hK _ _ ⟨_, rfl, Below.refl _ _, rfl⟩
                   | (refine Calls.mono (show Calls _ _ _ _ _ from qc.out) ?_; rintro e w' ⟨rfl, hw⟩; exact hK _ _ ⟨_, rfl, hw, rfl⟩)
                   | (refine Calls.mono (show Calls _ _ _ _ _ from ig.out) ?_; rintro e w' ⟨rfl, hw⟩; exact hK _ _ ⟨_, rfl, hw, rfl⟩)))
            case BD =>
              intro a u hF hB hG;have HW := ae (au HB.out hB);go_wp2_with fail;refine bodyPost_ret (v := .bool G) ((results_tmp rfl _ _ _).trans (congrArg (fun v => Result.ok v u) hG)) hF.defers ⟨aC HS.out, HW.out⟩
          | false =>
            have HS : Hid (false = R) := ae (by rw [hR', Bool.false_and]);clear hR';go_enter Tryz.func143, Tryz.ntmps143;go_wp2_with fail;refine ah.yZ 18 19 2 36 [.pointer (some ⟨w.heap.size, 0, none⟩), .int .i64 k, .pointer (some ⟨5, k.toNat * 4, none⟩), .agg #[.int .i64 nk, .int .i64 0, .bool false, .int .i64 ar], .pointer (some ⟨w.heap.size, 1, none⟩), .string x, .pointer (some ⟨w.heap.size, 2, none⟩), .int .i64 n, .pointer (some ⟨w.heap.size, 3, none⟩), .slice oR es.length cR, .int .i64 (es.length : Int), .bool false, .bool false, undef, undef, undef, .bool false, .bool false] (by kernel_rfl) (by kernel_rfl) (by kernel_rfl) rfl (by decide) ?BF ?BG
            case BF =>
              intro i o a u hi ho hF hB hd;have f1 : a.tmps[1]?.getD undef = .pointer (some ⟨w.heap.size, 0, none⟩) := ah.az (hF.eval 1 (fun i hi => by show (if i < 17 then 19 + i else 2) ≠ 1; split <;> omega))
              have c0 := af ((hB.block _ (Array.getElem?_eq_some_iff.1 HX.out).1).trans HX.out) 0 _ rfl;have c1 := af ((hB.block _ (Array.getElem?_eq_some_iff.1 HX.out).1).trans HX.out) 1 _ rfl;have c2 := af ((hB.block _ (Array.getElem?_eq_some_iff.1 HX.out).1).trans HX.out) 2 _ rfl;have c3 := af ((hB.block _ (Array.getElem?_eq_some_iff.1 HX.out).1).trans HX.out) 3 _ rfl;obtain ⟨d0, d1, d2, d3⟩ := vH.out u hB;have qc := ae (lq.out u hB);have ig := ae (qb.out u hB)
              iterate 18 (rcases Nat.lt_succ_iff_lt_or_eq.1 hi with hi | rfl)
              exact absurd hi (Nat.not_lt_zero _)
              all_goals (
                simp only [List.getElem?_toArray, List.getElem?_cons_succ, List.getElem?_cons_zero, Option.some.injEq] at ho;subst ho
                first
                | exact ah.y8 rfl rfl rfl rfl (hd _ (by decide)) rfl
                | (first
                  | refine ah.Does.go rfl (ah.bI fun K hK => ?_)
                  | refine ah.ze rfl rfl rfl rfl (hd _ (by decide)) (ah.bI fun K hK => ?_)
                   simp [ah.deps, Region.binds] at hd;go_simp
                   first
                   | exact hK _ _ ⟨_, rfl, Below.refl _ _, rfl⟩
                   | (refine Calls.mono (show Calls _ _ _ _ _ from qc.out) ?_; rintro e w' ⟨rfl, hw⟩; exact hK _ _ ⟨_, rfl, hw, rfl⟩)
                   | (refine Calls.mono (show Calls _ _ _ _ _ from ig.out) ?_; rintro e w' ⟨rfl, hw⟩; exact hK _ _ ⟨_, rfl, hw, rfl⟩)))
            case BG =>
              intro a u hF hB hG;have HW := ae (au HB.out hB);go_wp2_with fail;refine bodyPost_ret (v := .bool false) ((results_tmp rfl _ _ _).trans (congrArg (fun v => Result.ok v u) hG)) hF.defers ⟨aC HS.out, HW.out⟩
theorem Ps : ∀ (m : Nat) (t v : Value) (w : World), GW w → bU 0 t v w → gM m [t] = false → xh m t → Calls Tryz.prog 91 #[v] w fun e w' => e = .returned (.bool (lS m t)) ∧ Below w.heap.size w w'
  | 0, t, v, w, hG, h, hd, hs => by cases hd
  | m + 1, t, v, w, hG, h, hdp, hs => by
    have ih := Ps m;obtain ⟨d, k, x, n, es, a, u, rfl, rfl, hrow⟩ := h;obtain ⟨oR, cR, rfl, hel⟩ := bP hrow;have tH : ∀ y ∈ es, gM m [y] = false := fun y hy => EG (mI (f := fun t => gM m (dc t)) (l := [nd k x e0 n es [] a]) hdp (List.Mem.head _)) hy;obtain ⟨hx, _, hn, hsa, _⟩ := hs;rw [I1] at hx;rw [I2] at hn;rw [uq] at hsa;have hb := bO w (.cells #[.int .i64 k, .string x, .int .i64 n, .slice oR es.length cR, .int .i64 a] 101);have HB := ae hb;have HX := ae (heap_alloc_new w (.cells #[.int .i64 k, .string x, .int .i64 n, .slice oR es.length cR, .int .i64 a] 101));obtain ⟨R, hR⟩ : ∃ R, R = lS (m + 1) (nd k x e0 n es [] a) := ⟨_, rfl⟩;rw [← hR];have hR' : R = ((decide (1 ≤ k ∧ k < 5) && kH (BA k) (k == 3) (BB k) x n es.length) && es.all (lS m)) := hR;clear hR;by_cases h1 : k < 1
    · have q1 : decide (k < 1) = true := decide_eq_true h1
      have HS : Hid (false = R) := ae (by rw [hR', decide_eq_false (by omega)]; rfl);clear hR' hrow hel tH hsa hG ih;go_enter Tryz.func91, Tryz.ntmps91;go_wp2;go_ret;exact ⟨aC HS.out, HB.out⟩
    · have q1 : decide (k < 1) = false := decide_eq_false h1
      by_cases h5 : k ≥ 5
      · have q2 : decide (k ≥ 5) = true := decide_eq_true h5
        have HS : Hid (false = R) := ae (by rw [hR', decide_eq_false (by omega)]; rfl);clear hR' hrow hel tH hsa hG ih;go_enter Tryz.func91, Tryz.ntmps91;go_wp2;go_ret;exact ⟨aC HS.out, HB.out⟩
      · have q2 : decide (k ≥ 5) = false := decide_eq_false h5
        rw [decide_eq_true (show 1 ≤ k ∧ k < 5 by omega), Bool.true_and] at hR';have hk4 := k14 h1 h5;have vH := ae (fun (u : World) (hu : Below (w.alloc (.cells #[.int .i64 k, .string x, .int .i64 n, .slice oR es.length cR, .int .i64 a] 101)).heap.size (w.alloc (.cells #[.int .i64 k, .string x, .int .i64 n, .slice oR es.length cR, .int .i64 a] 101)) u) => Yr ((hG.on hb).on hu) hk4);have lq := ae (fun (u : World) (hu : Below (w.alloc (.cells #[.int .i64 k, .string x, .int .i64 n, .slice oR es.length cR, .int .i64 a] 101)).heap.size (w.alloc (.cells #[.int .i64 k, .string x, .int .i64 n, .slice oR es.length cR, .int .i64 a] 101)) u) => G8 (BA k) 0 (k == 3) (BB k) x n es.length u ((hG.on hb).on hu) hx hn);have qb := ae (fun (u : World) (hu : Below (w.alloc (.cells #[.int .i64 k, .string x, .int .i64 n, .slice oR es.length cR, .int .i64 a] 101)).heap.size (w.alloc (.cells #[.int .i64 k, .string x, .int .i64 n, .slice oR es.length cR, .int .i64 a] 101)) u) => Pt (lS m) es (.slice oR es.length cR) u d (hrow.imp (fun b o t _ ht => cf.but (fun kk _ hl => (au hb hu).block kk hl) _ b o t ht)) (fun t v w' hm ho hw' => ih t v w' (((hG.on hb).on hu).on hw') ho (tH t hm) (hsa t hm)));have hkn : 0 ≤ k ∧ k < 5 := by omega
        generalize es.all (lS m) = G at *;generalize hnk : BA k = nk at *;generalize har : BB k = ar at *;generalize hnm : (k == 3) = nm at *;generalize kH nk nm ar x n es.length = Fb at *;clear hnk har hrow hel tH hsa hG ih hb hx hn hk4;clear hnm;cases Fb with
        | true =>
          have HS : Hid (G = R) := ae (by rw [hR', Bool.true_and]);clear hR';go_enter Tryz.func91, Tryz.ntmps91;go_wp2_with fail;refine ah.yZ 18 11 2 28 [.pointer (some ⟨w.heap.size, 0, none⟩), .int .i64 k, .pointer (some ⟨3, k.toNat * 4, none⟩), .agg #[.int .i64 nk, .int .i64 0, .bool nm, .int .i64 ar], .pointer (some ⟨w.heap.size, 1, none⟩), .string x, .pointer (some ⟨w.heap.size, 2, none⟩), .int .i64 n, .pointer (some ⟨w.heap.size, 3, none⟩), .slice oR es.length cR, .int .i64 (es.length : Int), .bool true, .bool true, .pointer (some ⟨w.heap.size, 3, none⟩), .slice oR es.length cR, .bool G, .bool G, .bool G] (by kernel_rfl) (by kernel_rfl) (by kernel_rfl) rfl (by decide) ?BC ?BD
          case BC =>
            intro i o a u hi ho hF hB hd;have f1 : a.tmps[1]?.getD undef = .pointer (some ⟨w.heap.size, 0, none⟩) := ah.az (hF.eval 1 (fun i hi => by show (if i < 17 then 11 + i else 2) ≠ 1; split <;> omega))
            have c0 := af ((hB.block _ (Array.getElem?_eq_some_iff.1 HX.out).1).trans HX.out) 0 _ rfl;have c1 := af ((hB.block _ (Array.getElem?_eq_some_iff.1 HX.out).1).trans HX.out) 1 _ rfl;have c2 := af ((hB.block _ (Array.getElem?_eq_some_iff.1 HX.out).1).trans HX.out) 2 _ rfl;have c3 := af ((hB.block _ (Array.getElem?_eq_some_iff.1 HX.out).1).trans HX.out) 3 _ rfl;obtain ⟨d0, d1, d2, d3⟩ := vH.out u hB;have qc := ae (lq.out u hB);have ig := ae (qb.out u hB)
            iterate 18 (rcases Nat.lt_succ_iff_lt_or_eq.1 hi with hi | rfl)
            exact absurd hi (Nat.not_lt_zero _)
            all_goals (
              simp only [List.getElem?_toArray, List.getElem?_cons_succ, List.getElem?_cons_zero, Option.some.injEq] at ho;subst ho
              first
              | exact ah.y8 rfl rfl rfl rfl (hd _ (by decide)) rfl
              | (first
                | refine ah.Does.go rfl (ah.bI fun K hK => ?_)
                | refine ah.ze rfl rfl rfl rfl (hd _ (by decide)) (ah.bI fun K hK => ?_)
                 simp [ah.deps, Region.binds] at hd;go_simp
                 first
                 | exact hK _ _ ⟨_, rfl, Below.refl _ _, rfl⟩
                 | (refine Calls.mono (show Calls _ _ _ _ _ from qc.out) ?_; rintro e w' ⟨rfl, hw⟩; exact hK _ _ ⟨_, rfl, hw, rfl⟩)
                 | (refine Calls.mono (show Calls _ _ _ _ _ from ig.out) ?_; rintro e w' ⟨rfl, hw⟩; exact hK _ _ ⟨_, rfl, hw, rfl⟩)))
          case BD =>
            intro a u hF hB hG;have HW := ae (au HB.out hB);go_wp2_with fail;refine bodyPost_ret (v := .bool G) ((results_tmp rfl _ _ _).trans (congrArg (fun v => Result.ok v u) hG)) hF.defers ⟨aC HS.out, HW.out⟩
        | false =>
          have HS : Hid (false = R) := ae (by rw [hR', Bool.false_and]);clear hR';go_enter Tryz.func91, Tryz.ntmps91;go_wp2_with fail;refine ah.yZ 18 11 2 28 [.pointer (some ⟨w.heap.size, 0, none⟩), .int .i64 k, .pointer (some ⟨3, k.toNat * 4, none⟩), .agg #[.int .i64 nk, .int .i64 0, .bool nm, .int .i64 ar], .pointer (some ⟨w.heap.size, 1, none⟩), .string x, .pointer (some ⟨w.heap.size, 2, none⟩), .int .i64 n, .pointer (some ⟨w.heap.size, 3, none⟩), .slice oR es.length cR, .int .i64 (es.length : Int), .bool false, .bool false, undef, undef, undef, .bool false, .bool false] (by kernel_rfl) (by kernel_rfl) (by kernel_rfl) rfl (by decide) ?BF ?BG
          case BF =>
            intro i o a u hi ho hF hB hd;have f1 : a.tmps[1]?.getD undef = .pointer (some ⟨w.heap.size, 0, none⟩) := ah.az (hF.eval 1 (fun i hi => by show (if i < 17 then 11 + i else 2) ≠ 1; split <;> omega))
            have c0 := af ((hB.block _ (Array.getElem?_eq_some_iff.1 HX.out).1).trans HX.out) 0 _ rfl;have c1 := af ((hB.block _ (Array.getElem?_eq_some_iff.1 HX.out).1).trans HX.out) 1 _ rfl;have c2 := af ((hB.block _ (Array.getElem?_eq_some_iff.1 HX.out).1).trans HX.out) 2 _ rfl;have c3 := af ((hB.block _ (Array.getElem?_eq_some_iff.1 HX.out).1).trans HX.out) 3 _ rfl;obtain ⟨d0, d1, d2, d3⟩ := vH.out u hB;have qc := ae (lq.out u hB);have ig := ae (qb.out u hB)
            iterate 18 (rcases Nat.lt_succ_iff_lt_or_eq.1 hi with hi | rfl)
            exact absurd hi (Nat.not_lt_zero _)
            all_goals (
              simp only [List.getElem?_toArray, List.getElem?_cons_succ, List.getElem?_cons_zero, Option.some.injEq] at ho;subst ho
              first
              | exact ah.y8 rfl rfl rfl rfl (hd _ (by decide)) rfl
              | (first
                | refine ah.Does.go rfl (ah.bI fun K hK => ?_)
                | refine ah.ze rfl rfl rfl rfl (hd _ (by decide)) (ah.bI fun K hK => ?_)
                 simp [ah.deps, Region.binds] at hd;go_simp
                 first
                 | exact hK _ _ ⟨_, rfl, Below.refl _ _, rfl⟩
                 | (refine Calls.mono (show Calls _ _ _ _ _ from qc.out) ?_; rintro e w' ⟨rfl, hw⟩; exact hK _ _ ⟨_, rfl, hw, rfl⟩)
                 | (refine Calls.mono (show Calls _ _ _ _ _ from ig.out) ?_; rintro e w' ⟨rfl, hw⟩; exact hK _ _ ⟨_, rfl, hw, rfl⟩)))
          case BG =>
            intro a u hF hB hG;have HW := ae (au HB.out hB);go_wp2_with fail;refine bodyPost_ret (v := .bool false) ((results_tmp rfl _ _ _).trans (congrArg (fun v => Result.ok v u) hG)) hF.defers ⟨aC HS.out, HW.out⟩
namespace Pz
theorem Va {s:ByteArray} {i:Nat} {k:Int} {x:ByteArray} {n:Int} {e:Nat} (h:one s i=.ok (k,x,n,e)) (a:Int):yC ⟨k,x,n,a⟩:=by
 unfold one at h;split at h
 ·split at h
  ·cases h
  ·injection h with h;injection h with hk h;injection h with hx h;subst hx;refine ⟨fun h5=>?_,fun h6=>?_⟩
   ·change k=5 at h5
    rw [h5] at hk;split at hk
    ·cases hk
    ·split at hk
     ·assumption
     ·cases hk
   ·change k=6 at h6
    rw [h6] at hk;split at hk
    ·cases hk
    ·split at hk<;>cases hk
 ·split at h
  ·split at h
   ·cases h
   ·split at h
    ·cases h
    ·injection h with h;injection h with hk h;subst hk;exact ⟨fun h=>absurd h (by simp),fun h=>absurd h (by simp)⟩
  ·split at h
   ·split at h
    ·injection h with h;injection h with hk h;subst hk;exact ⟨fun h=>absurd h (by simp),fun h=>absurd h (by simp)⟩
    ·cases h
   ·split at h
    ·rename_i hc;injection h with h;injection h with hk h;injection h with hx h;subst hk hx;exact ⟨fun h=>absurd h (by simp),fun _=>hc.2⟩
    ·split at h
     ·rename_i hc;injection h with h;injection h with hk h;injection h with hx h;subst hk hx;exact ⟨fun h=>absurd h (by simp),fun _=>hc.2⟩
     ·cases h
theorem ML (s:ByteArray):∀(f i:Nat) (acc:List Tk),Gd acc->Gd (iL s f i acc).1
 | 0,i,acc,h=>h
 | f+1,i,acc,h=>by
  unfold iL;split
  ·split
   ·exact fun t ht=>by cases ht
   ·rename_i k x n e ho;split
    ·exact fun t ht=>by cases ht
    ·refine ML s f _ _ (fun t ht=>?_);rcases List.mem_append.1 ht with ht|ht
     ·exact h t ht
     ·rw [List.mem_singleton.1 ht];exact Va ho _
  ·exact h
theorem MM (s:ByteArray):Gd (lx s).1:=by
 unfold lx;split
 ·exact fun t ht=>by cases ht
 ·exact ML s _ _ _ (fun t ht=>by cases ht)
theorem G1 (w:World) {p:Nat} (T:TypeId) (z vs:Array Value) (hz:w.heap[p]?=some (.cells z T (0,0))) (hs:z.size=vs.size) :
  ∃W,w.setCells p 0 vs.toList=W/\w.there p 0 vs.size/\W.heap[p]?=some (.cells vs T (0,0))/\∀m,m≠p->W.heap[m]?=w.heap[m]? :=
 ⟨_,rfl,by have:=Au hz;rw [hs] at this;exact this,Av hz hs,fun m hm=>uI p m hm vs.toList 0 w⟩
theorem Vb {w:World} {a:Addr} {b j:Nat} {v:Value} (h:a.block≠b):(w.setCell ⟨b,j,none⟩ v).cell? a=w.cell? a:=World.cell?_of_block (Below.heap_setCell _ _ _ _ h)
theorem Vd (k:Int) (w:World):(Instr.typeAssert (.iface 48 (.int .i64 k)) 20 48 true).run Tryz.prog w=.ok (.tuple #[.int .i64 k,.bool true]) w:=by
 kernel_rfl
theorem Ve (w:World):(Instr.typeAssert .nilIface 20 48 true).run Tryz.prog w=.ok (.tuple #[.int .i64 0,.bool false]) w:=by
 kernel_rfl
end Pz
theorem Dr (p q r:Nat) (w:World) :
  CallsD Tryz.prog 22 #[.pointer (some ⟨p,0,none⟩),.pointer (some ⟨q,0,none⟩),.pointer (some ⟨r,0,none⟩)] .returning w fun e u' w'=>e=.returned (.tuple #[])/\u'=.returning/\w'=w:=by
 refine callsD_of_wpS Tryz.func22 rfl fun c₀ cs hu=>?_;apply wpS_seq;apply wpS_region;simp [wpOpsS,go_sem,recoverD,hu,Tryz.ntmps22,Exit.thenS,Ve];apply wpS_seq;apply wpS_region;simp [wpOpsS,go_sem,Exit.thenS];refine wpS_cond (t:=false) (by simp [Act.eval,Array.replicate]) ?_;simp only [Bool.false_eq_true,if_false];refine wpS_of_wp (wp_skip ?_);cases c₀;simp_all [bodyPostS,results,Tryz.results22]
theorem Yu (P Q R I Tp K T:Value):#[P,Q,R]++((((((((Array.replicate 10 undef).setIfInBounds 3 I).setIfInBounds 4 Tp).setIfInBounds 2 Tp).setIfInBounds 5 K).setIfInBounds 6 T).setIfInBounds 0 K).setIfInBounds 1 T).setIfInBounds 7 T=#[P,Q,R,K,T,Tp,I,Tp,K,T,T,undef,undef]:=by first|kernel_rfl|(apply Array.toList_inj.1;simp [List.replicate,List.set])
theorem XD (p q r:Nat) (EH:Array Value) (y x:Value) (k:Int) (older:List PanicEntry) (w:World) (hp:w.heap[p]?=some (.cells EH 29 (0,0))) (h8:EH.size=8) (hq:w.heap[q]?=some (.cells #[y] 3 (0,0))) (hr:w.heap[r]?=some (.cells #[x] 30 (0,0))) (hpq:q≠p) (hpr:r≠p) (Yv:r≠q) :
  CallsD Tryz.prog 22 #[.pointer (some ⟨p,0,none⟩),.pointer (some ⟨q,0,none⟩),.pointer (some ⟨r,0,none⟩)] (.panicking ({ v:=.iface 48 (.int .i64 k),recovered:=false } :: older)) w fun e u' w' =>
   e=.returned (.tuple #[])/\u'=.panicking ({ v:=.iface 48 (.int .i64 k),recovered:=true } :: older)/\w'=((w.setCells p 0 dw.toList).setCell ⟨q,0,none⟩ (.int .i64 k)).setCell ⟨r,0,none⟩ (.int .i64 120):=by
 refine callsD_of_wpS Tryz.func22 rfl fun c₀ cs hu=>?_;apply wpS_seq;apply wpS_region;simp [wpOpsS,go_sem,recoverD,hu,Tryz.ntmps22,Exit.thenS,Vd];apply wpS_seq;apply wpS_region;simp [wpOpsS,go_sem,Exit.thenS];refine wpS_cond (t:=true) (by simp [Act.eval,Array.replicate]) ?_;simp only [if_true];refine wpS_of_wp ?_;obtain ⟨W,hW,hth,hbk,hoth⟩:=G1 w 29 EH dw hp h8;have I3:W.heap[q]?=some (.cells #[y] 3 (0,0)):=(hoth q hpq).trans hq;have I4:W.heap[r]?=some (.cells #[x] 30 (0,0)):=(hoth r hpr).trans hr;have d1:=af I3 0 _ rfl;have d2:=af I4 0 _ rfl;have f1:W.frozen? ⟨q,0,none⟩=false:=by unfold World.frozen?;rw [I3];simp
 have f2:W.frozen? ⟨r,0,none⟩=false:=by unfold World.frozen?;rw [I4];simp
 have d3:(W.setCell ⟨q,0,none⟩ (.int .i64 k)).cell? ⟨r,0,none⟩=some x:=by rw [Vb Yv];exact d2
 have HQ:=ae hu;rw [show w.setCells p 0 dw.toList=W from hW];clear hp hq hr hbk hoth I3 I4 hu;rw [Yu];go_wp2_with (refine wpList_store_mid rfl 29 (.tmp 0) (.tmp 11) rfl p 0 dw rfl rfl hth pW (by simp [Value.oneCell']) ?_;rw [hW]);simp [bodyPostS,results,Tryz.results22]
end Go.Proofs.YtpaefhceiliaiaaGreatDoor
