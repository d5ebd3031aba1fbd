/- One call of both, as the law makes it. -/
import Derived.Test.YtagcdnkgochpnaaQ8
namespace Go.Proofs.Ytagcdnkgochpnaa
open Go.RowKit Mm
set_option linter.unusedVariables false
namespace Mm
def pG0 (mv qv : Value) (B at_ : Nat) (n v z : Int) (t : ByteArray) : Nat → Value → Prop
  | 0 => fun x => x = mv
  | 1 => fun x => x = .pointer (some ⟨B, 1, none⟩)
  | 2 => fun x => x = .int .u64 at_
  | 4 => fun x => x = qv
  | 5 => fun x => x = .pointer (some ⟨B, 1, none⟩)
  | 6 => fun x => x = .int .u64 at_
  | _ => fun _ => True
def pG2 (mv qv : Value) (B at_ : Nat) (n v z : Int) (t : ByteArray) : Nat → Value → Prop
  | 0 => fun x => x = mv
  | 1 => fun x => x = .pointer (some ⟨B, 1, none⟩)
  | 2 => fun x => x = .int .u64 at_
  | 3 => fun x => x = .pointer (some ⟨B, 2, none⟩)
  | 4 => fun x => x = .int .i64 n
  | 5 => fun x => x = .pointer (some ⟨B, 3, none⟩)
  | 6 => fun x => x = .int .u64 v
  | 8 => fun x => x = qv
  | 9 => fun x => x = .pointer (some ⟨B, 1, none⟩)
  | 10 => fun x => x = .int .u64 at_
  | 11 => fun x => x = .pointer (some ⟨B, 2, none⟩)
  | 12 => fun x => x = .int .i64 n
  | 13 => fun x => x = .pointer (some ⟨B, 3, none⟩)
  | 14 => fun x => x = .int .u64 v
  | _ => fun _ => True
def pG4 (mv qv : Value) (B at_ : Nat) (n v z : Int) (t : ByteArray) : Nat → Value → Prop
  | 0 => fun x => x = .pointer (some ⟨B, 4, none⟩)
  | 1 => fun x => x = .string t
  | 2 => fun x => x = .int .i64 (t.size : Int)
  | 3 => fun x => x = .bool false
  | 4 => fun x => x = .bool false
  | 5 => fun x => x = mv
  | 6 => fun x => x = .pointer (some ⟨B, 1, none⟩)
  | 7 => fun x => x = .int .u64 at_
  | 8 => fun x => x = .int .i64 z
  | 9 => fun x => x = .pointer (some ⟨B, 4, none⟩)
  | 10 => fun x => x = .string t
  | 12 => fun x => x = qv
  | 13 => fun x => x = .pointer (some ⟨B, 1, none⟩)
  | 14 => fun x => x = .int .u64 at_
  | 15 => fun x => x = .int .i64 z
  | 16 => fun x => x = .pointer (some ⟨B, 4, none⟩)
  | 17 => fun x => x = .string t
  | _ => fun _ => True
end Mm
set_option maxRecDepth 100000 in
set_option maxHeartbeats 4000000 in
theorem plays0 {w0 w : World} {k : Nat} {mv qv : Value} (h : Pair w0 k mv qv w) (at_ : Nat) (n v : Int) (t : ByteArray) (ha : at_ ≤ 18446744073709551615) (hn : n ≤ 9223372036854775807) (hv : 0 ≤ v ∧ v ≤ 18446744073709551615) (ht : t.size ≤ 9223372036854775807) :
    Calls Try.prog 18 #[mv, qv, .agg #[.int .i64 0, .int .u64 at_, .int .i64 n, .int .u64 v, .string t]] w fun e w' => e = .returned (.bool true) ∧ ∃ k', Pair w0 k' mv qv w' := by
  have hB : Below w.heap.size w (w.alloc (.cells #[.int .i64 0, .int .u64 at_, .int .i64 n, .int .u64 v, .string t] 34)) := (Below.refl _ _).alloc (Nat.le_refl _) _
  have hP := (h.at_).on0 hB
  have hblk : (w.alloc (.cells #[.int .i64 0, .int .u64 at_, .int .i64 n, .int .u64 v, .string t] 34)).heap[w.heap.size]? = some (.cells #[.int .i64 0, .int .u64 at_, .int .i64 n, .int .u64 v, .string t] 34) := Go.Deep.blk_alloc_new _ _
  have hkW : w.heap.size < (w.alloc (.cells #[.int .i64 0, .int .u64 at_, .int .i64 n, .int .u64 v, .string t] 34)).heap.size := (Array.getElem?_eq_some_iff.1 hblk).1
  obtain ⟨z, hzz⟩ : ∃ z, z = IntKind.i64.wrap at_ := ⟨_, rfl⟩
  have hz : z ≤ 9223372036854775807 := by rw [hzz, IntKind.wrap_i64]; omega
  have HZ := hideR hzz
  clear hzz
  obtain ⟨x, R, hR, hC⟩ := half_grow hP hkW at_
  have HR := hideR hR
  have HC := hideR hC
  have HBLK := hideR hblk
  clear hR hC hP hB hkW h hblk
  go_enter Try.func18, Try.ntmps18
  go_wp2_with fail
  refine wp_half HC.out 7 19 3 (pG0 mv qv w.heap.size at_ n v z t) _ HBLK.out HR.out (by kernel_rfl) (by kernel_rfl) (show Reg.dstOkG _ 7 _ 128 = true by kernel_rfl) ?hstep ?hcall ?htail (by decide)
  case hstep =>
    intro j o a u hj hne ho hF hK hd
    have f0 : a.tmps[0]?.getD undef = mv := Reg.ev_get (hF.eval 0 (fun i hi => by show 19 + i ≠ 0; omega))
    have f1 : a.tmps[1]?.getD undef = qv := Reg.ev_get (hF.eval 1 (fun i hi => by show 19 + i ≠ 1; omega))
    have f5 : a.tmps[5]?.getD undef = .pointer (some ⟨w.heap.size, 0, none⟩) := Reg.ev_get (hF.eval 5 (fun i hi => by show 19 + i ≠ 5; omega))
    have c1 : u.cell? ⟨w.heap.size, 1, none⟩ = some (.int .u64 at_) := by unfold World.cell?; rw [hK]; rfl
    have c2 : u.cell? ⟨w.heap.size, 2, none⟩ = some (.int .i64 n) := by unfold World.cell?; rw [hK]; rfl
    have c3 : u.cell? ⟨w.heap.size, 3, none⟩ = some (.int .u64 v) := by unfold World.cell?; rw [hK]; rfl
    have c4 : u.cell? ⟨w.heap.size, 4, none⟩ = some (.string t) := by unfold World.cell?; rw [hK]; rfl
    have hcase : j = 0 ∨ j = 1 ∨ j = 2 ∨ j = 4 ∨ j = 5 ∨ j = 6 := by omega
    clear hj hne hK HBLK
    rcases hcase with rfl | rfl | rfl | rfl | rfl | rfl
    all_goals (simp only [List.getElem?_toArray, List.getElem?_cons_succ, List.getElem?_cons_zero, Option.some.injEq] at ho; subst ho)
    · refine ⟨by simp [Region.wanted], Reg.step_k fun K hK => ?_⟩
      go_simp
      exact hK _ _ ⟨_, rfl, Below.refl _ _, rfl⟩
    · refine ⟨by simp [Region.wanted], Reg.step_k fun K hK => ?_⟩
      go_simp
      exact hK _ _ ⟨_, rfl, Below.refl _ _, rfl⟩
    · refine ⟨by simp [Region.wanted], Reg.step_k fun K hK => ?_⟩
      have q : a.tmps[20]?.getD undef = .pointer (some ⟨w.heap.size, 1, none⟩) := Reg.ev_get (hd 1 (by decide) (by decide))
      go_simp
      exact hK _ _ ⟨_, rfl, Below.refl _ _, rfl⟩
    · refine ⟨by simp [Region.wanted], Reg.step_k fun K hK => ?_⟩
      go_simp
      exact hK _ _ ⟨_, rfl, Below.refl _ _, rfl⟩
    · refine ⟨by simp [Region.wanted], Reg.step_k fun K hK => ?_⟩
      go_simp
      exact hK _ _ ⟨_, rfl, Below.refl _ _, rfl⟩
    · refine ⟨by simp [Region.wanted], Reg.step_k fun K hK => ?_⟩
      have q : a.tmps[24]?.getD undef = .pointer (some ⟨w.heap.size, 1, none⟩) := Reg.ev_get (hd 5 (by decide) (by decide))
      go_simp
      exact hK _ _ ⟨_, rfl, Below.refl _ _, rfl⟩
  case hcall =>
    intro o a u ho hF hd hRu
    simp only [List.getElem?_toArray, List.getElem?_cons_succ, List.getElem?_cons_zero, Option.some.injEq] at ho
    subst ho
    refine ⟨by simp [Region.wanted], Reg.step_k fun K hK => ?_⟩
    have q0 : a.tmps[19]?.getD undef = mv := Reg.ev_get (hd 0 (by decide) (by decide))
    have q2 : a.tmps[21]?.getD undef = .int .u64 at_ := Reg.ev_get (hd 2 (by decide) (by decide))
    go_simp
    refine (HC.out.2.2 u hRu).mono ?_
    rintro e w1 ⟨g, rfl, hg, hh⟩
    exact hK _ _ ⟨g, rfl, hg, hh⟩
  case htail =>
    intro a u g hF he hh hFs
    obtain ⟨xs, hxl, rfl, hev⟩ := Reg.Fr.lit (l := [mv, qv, .agg #[.int .i64 0, .int .u64 at_, .int .i64 n, .int .u64 v, .string t], undef, undef, .pointer (some ⟨w.heap.size, 0, none⟩), .bool false, undef, undef, undef, undef, undef, undef, undef, undef, .pointer (some ⟨w.heap.size, 0, none⟩), .int .i64 0, .bool true, .bool true, undef, undef, undef, undef, undef, undef, undef, undef, undef, undef, undef, undef, undef, undef, undef, undef, undef, undef, undef, undef, undef, undef, undef, undef, undef, undef, undef, undef, undef, undef, undef, undef, undef, undef, undef, undef, undef, undef, undef, undef, undef, undef, undef, undef, undef, undef, undef, undef, undef, undef, undef, undef, undef, undef, undef, undef, undef, undef, undef, undef, undef, undef, undef, undef, undef, undef, undef, undef, undef, undef, undef, undef, undef, undef, undef, undef, undef, undef, undef, undef, undef, undef, undef, undef, undef, undef, undef, undef, undef, undef, undef, undef, undef, undef, undef, undef, undef, undef, undef, undef, undef, undef, undef, undef, undef, undef, undef, undef, undef]) hF (by simp)
    match xs, hxl with
    | [x0, x1, x2, x3, x4, x5, x6], _ =>
      obtain rfl : x3 = _ := (hev 3 (by decide)).symm.trans (he (by decide))
      obtain rfl : x0 = mv := (hev 0 (by decide)).symm.trans (hFs 0 (by decide) (by decide))
      obtain rfl : x1 = .pointer (some ⟨w.heap.size, 1, none⟩) := (hev 1 (by decide)).symm.trans (hFs 1 (by decide) (by decide))
      obtain rfl : x2 = .int .u64 at_ := (hev 2 (by decide)).symm.trans (hFs 2 (by decide) (by decide))
      obtain rfl : x4 = qv := (hev 4 (by decide)).symm.trans (hFs 4 (by decide) (by decide))
      obtain rfl : x5 = .pointer (some ⟨w.heap.size, 1, none⟩) := (hev 5 (by decide)).symm.trans (hFs 5 (by decide) (by decide))
      obtain rfl : x6 = .int .u64 at_ := (hev 6 (by decide)).symm.trans (hFs 6 (by decide) (by decide))
      clear hev he hFs hF HC HR HBLK
      have HH := hideR hh
      clear hh
      simp only [List.drop_succ_cons, List.drop_zero, List.take_succ_cons, List.take_zero, List.cons_append, List.nil_append]
      go_wp2_with (go_at_call 29; refine (HH.out _ (Below.refl _ _)).mono ?_; rintro e w2 ⟨rfl, hp⟩; have HP := hideR hp; clear hp)
      go_ret
      exact ⟨rfl, _, HP.out⟩
set_option maxRecDepth 100000 in
set_option maxHeartbeats 4000000 in
theorem plays2 {w0 w : World} {k : Nat} {mv qv : Value} (h : Pair w0 k mv qv w) (at_ : Nat) (n v : Int) (t : ByteArray) (ha : at_ ≤ 18446744073709551615) (hn : n ≤ 9223372036854775807) (hv : 0 ≤ v ∧ v ≤ 18446744073709551615) (ht : t.size ≤ 9223372036854775807) :
    Calls Try.prog 18 #[mv, qv, .agg #[.int .i64 2, .int .u64 at_, .int .i64 n, .int .u64 v, .string t]] w fun e w' => e = .returned (.bool true) ∧ ∃ k', Pair w0 k' mv qv w' := by
  have hB : Below w.heap.size w (w.alloc (.cells #[.int .i64 2, .int .u64 at_, .int .i64 n, .int .u64 v, .string t] 34)) := (Below.refl _ _).alloc (Nat.le_refl _) _
  have hP := (h.at_).on0 hB
  have hblk : (w.alloc (.cells #[.int .i64 2, .int .u64 at_, .int .i64 n, .int .u64 v, .string t] 34)).heap[w.heap.size]? = some (.cells #[.int .i64 2, .int .u64 at_, .int .i64 n, .int .u64 v, .string t] 34) := Go.Deep.blk_alloc_new _ _
  have hkW : w.heap.size < (w.alloc (.cells #[.int .i64 2, .int .u64 at_, .int .i64 n, .int .u64 v, .string t] 34)).heap.size := (Array.getElem?_eq_some_iff.1 hblk).1
  obtain ⟨z, hzz⟩ : ∃ z, z = IntKind.i64.wrap at_ := ⟨_, rfl⟩
  have hz : z ≤ 9223372036854775807 := by rw [hzz, IntKind.wrap_i64]; omega
  have HZ := hideR hzz
  clear hzz
  obtain ⟨x, R, hR, hC⟩ := half_store hP hkW at_ n v ha hn hv
  have HR := hideR hR
  have HC := hideR hC
  have HBLK := hideR hblk
  clear hR hC hP hB hkW h hblk
  go_enter Try.func18, Try.ntmps18
  go_wp2_with fail
  refine wp_half HC.out 15 58 7 (pG2 mv qv w.heap.size at_ n v z t) _ HBLK.out HR.out (by kernel_rfl) (by kernel_rfl) (show Reg.dstOkG _ 15 _ 128 = true by kernel_rfl) ?hstep ?hcall ?htail (by decide)
  case hstep =>
    intro j o a u hj hne ho hF hK hd
    have f0 : a.tmps[0]?.getD undef = mv := Reg.ev_get (hF.eval 0 (fun i hi => by show 58 + i ≠ 0; omega))
    have f1 : a.tmps[1]?.getD undef = qv := Reg.ev_get (hF.eval 1 (fun i hi => by show 58 + i ≠ 1; omega))
    have f5 : a.tmps[5]?.getD undef = .pointer (some ⟨w.heap.size, 0, none⟩) := Reg.ev_get (hF.eval 5 (fun i hi => by show 58 + i ≠ 5; omega))
    have c1 : u.cell? ⟨w.heap.size, 1, none⟩ = some (.int .u64 at_) := by unfold World.cell?; rw [hK]; rfl
    have c2 : u.cell? ⟨w.heap.size, 2, none⟩ = some (.int .i64 n) := by unfold World.cell?; rw [hK]; rfl
    have c3 : u.cell? ⟨w.heap.size, 3, none⟩ = some (.int .u64 v) := by unfold World.cell?; rw [hK]; rfl
    have c4 : u.cell? ⟨w.heap.size, 4, none⟩ = some (.string t) := by unfold World.cell?; rw [hK]; rfl
    have hcase : j = 0 ∨ j = 1 ∨ j = 2 ∨ j = 3 ∨ j = 4 ∨ j = 5 ∨ j = 6 ∨ j = 8 ∨ j = 9 ∨ j = 10 ∨ j = 11 ∨ j = 12 ∨ j = 13 ∨ j = 14 := by omega
    clear hj hne hK HBLK
    rcases hcase with rfl | rfl | rfl | rfl | rfl | rfl | rfl | rfl | rfl | rfl | rfl | rfl | rfl | rfl
    all_goals (simp only [List.getElem?_toArray, List.getElem?_cons_succ, List.getElem?_cons_zero, Option.some.injEq] at ho; subst ho)
    · refine ⟨by simp [Region.wanted], Reg.step_k fun K hK => ?_⟩
      go_simp
      exact hK _ _ ⟨_, rfl, Below.refl _ _, rfl⟩
    · refine ⟨by simp [Region.wanted], Reg.step_k fun K hK => ?_⟩
      go_simp
      exact hK _ _ ⟨_, rfl, Below.refl _ _, rfl⟩
    · refine ⟨by simp [Region.wanted], Reg.step_k fun K hK => ?_⟩
      have q : a.tmps[59]?.getD undef = .pointer (some ⟨w.heap.size, 1, none⟩) := Reg.ev_get (hd 1 (by decide) (by decide))
      go_simp
      exact hK _ _ ⟨_, rfl, Below.refl _ _, rfl⟩
    · refine ⟨by simp [Region.wanted], Reg.step_k fun K hK => ?_⟩
      go_simp
      exact hK _ _ ⟨_, rfl, Below.refl _ _, rfl⟩
    · refine ⟨by simp [Region.wanted], Reg.step_k fun K hK => ?_⟩
      have q : a.tmps[61]?.getD undef = .pointer (some ⟨w.heap.size, 2, none⟩) := Reg.ev_get (hd 3 (by decide) (by decide))
      go_simp
      exact hK _ _ ⟨_, rfl, Below.refl _ _, rfl⟩
    · refine ⟨by simp [Region.wanted], Reg.step_k fun K hK => ?_⟩
      go_simp
      exact hK _ _ ⟨_, rfl, Below.refl _ _, rfl⟩
    · refine ⟨by simp [Region.wanted], Reg.step_k fun K hK => ?_⟩
      have q : a.tmps[63]?.getD undef = .pointer (some ⟨w.heap.size, 3, none⟩) := Reg.ev_get (hd 5 (by decide) (by decide))
      go_simp
      exact hK _ _ ⟨_, rfl, Below.refl _ _, rfl⟩
    · refine ⟨by simp [Region.wanted], Reg.step_k fun K hK => ?_⟩
      go_simp
      exact hK _ _ ⟨_, rfl, Below.refl _ _, rfl⟩
    · refine ⟨by simp [Region.wanted], Reg.step_k fun K hK => ?_⟩
      go_simp
      exact hK _ _ ⟨_, rfl, Below.refl _ _, rfl⟩
    · refine ⟨by simp [Region.wanted], Reg.step_k fun K hK => ?_⟩
      have q : a.tmps[67]?.getD undef = .pointer (some ⟨w.heap.size, 1, none⟩) := Reg.ev_get (hd 9 (by decide) (by decide))
      go_simp
      exact hK _ _ ⟨_, rfl, Below.refl _ _, rfl⟩
    · refine ⟨by simp [Region.wanted], Reg.step_k fun K hK => ?_⟩
      go_simp
      exact hK _ _ ⟨_, rfl, Below.refl _ _, rfl⟩
    · refine ⟨by simp [Region.wanted], Reg.step_k fun K hK => ?_⟩
      have q : a.tmps[69]?.getD undef = .pointer (some ⟨w.heap.size, 2, none⟩) := Reg.ev_get (hd 11 (by decide) (by decide))
      go_simp
      exact hK _ _ ⟨_, rfl, Below.refl _ _, rfl⟩
    · refine ⟨by simp [Region.wanted], Reg.step_k fun K hK => ?_⟩
      go_simp
      exact hK _ _ ⟨_, rfl, Below.refl _ _, rfl⟩
    · refine ⟨by simp [Region.wanted], Reg.step_k fun K hK => ?_⟩
      have q : a.tmps[71]?.getD undef = .pointer (some ⟨w.heap.size, 3, none⟩) := Reg.ev_get (hd 13 (by decide) (by decide))
      go_simp
      exact hK _ _ ⟨_, rfl, Below.refl _ _, rfl⟩
  case hcall =>
    intro o a u ho hF hd hRu
    simp only [List.getElem?_toArray, List.getElem?_cons_succ, List.getElem?_cons_zero, Option.some.injEq] at ho
    subst ho
    refine ⟨by simp [Region.wanted], Reg.step_k fun K hK => ?_⟩
    have q0 : a.tmps[58]?.getD undef = mv := Reg.ev_get (hd 0 (by decide) (by decide))
    have q2 : a.tmps[60]?.getD undef = .int .u64 at_ := Reg.ev_get (hd 2 (by decide) (by decide))
    have q4 : a.tmps[62]?.getD undef = .int .i64 n := Reg.ev_get (hd 4 (by decide) (by decide))
    have q6 : a.tmps[64]?.getD undef = .int .u64 v := Reg.ev_get (hd 6 (by decide) (by decide))
    go_simp
    refine (HC.out.2.2 u hRu).mono ?_
    rintro e w1 ⟨g, rfl, hg, hh⟩
    exact hK _ _ ⟨g, rfl, hg, hh⟩
  case htail =>
    intro a u g hF he hh hFs
    obtain ⟨xs, hxl, rfl, hev⟩ := Reg.Fr.lit (l := [mv, qv, .agg #[.int .i64 2, .int .u64 at_, .int .i64 n, .int .u64 v, .string t], undef, undef, .pointer (some ⟨w.heap.size, 0, none⟩), .bool false, undef, undef, undef, undef, undef, undef, undef, undef, .pointer (some ⟨w.heap.size, 0, none⟩), .int .i64 2, .bool false, .bool false, undef, undef, undef, undef, undef, undef, undef, undef, undef, .bool false, .bool false, undef, undef, undef, undef, undef, undef, undef, undef, undef, undef, undef, undef, undef, undef, undef, undef, undef, undef, undef, undef, undef, undef, undef, undef, undef, undef, .bool true, .bool true, undef, undef, undef, undef, undef, undef, undef, undef, undef, undef, undef, undef, undef, undef, undef, undef, undef, undef, undef, undef, undef, undef, undef, undef, undef, undef, undef, undef, undef, undef, undef, undef, undef, undef, undef, undef, undef, undef, undef, undef, undef, undef, undef, undef, undef, undef, undef, undef, undef, undef, undef, undef, undef, undef, undef, undef, undef, undef, undef, undef, undef, undef, undef, undef, undef, undef, undef, undef, undef, undef]) hF (by simp)
    match xs, hxl with
    | [x0, x1, x2, x3, x4, x5, x6, x7, x8, x9, x10, x11, x12, x13, x14], _ =>
      obtain rfl : x7 = _ := (hev 7 (by decide)).symm.trans (he (by decide))
      obtain rfl : x0 = mv := (hev 0 (by decide)).symm.trans (hFs 0 (by decide) (by decide))
      obtain rfl : x1 = .pointer (some ⟨w.heap.size, 1, none⟩) := (hev 1 (by decide)).symm.trans (hFs 1 (by decide) (by decide))
      obtain rfl : x2 = .int .u64 at_ := (hev 2 (by decide)).symm.trans (hFs 2 (by decide) (by decide))
      obtain rfl : x3 = .pointer (some ⟨w.heap.size, 2, none⟩) := (hev 3 (by decide)).symm.trans (hFs 3 (by decide) (by decide))
      obtain rfl : x4 = .int .i64 n := (hev 4 (by decide)).symm.trans (hFs 4 (by decide) (by decide))
      obtain rfl : x5 = .pointer (some ⟨w.heap.size, 3, none⟩) := (hev 5 (by decide)).symm.trans (hFs 5 (by decide) (by decide))
      obtain rfl : x6 = .int .u64 v := (hev 6 (by decide)).symm.trans (hFs 6 (by decide) (by decide))
      obtain rfl : x8 = qv := (hev 8 (by decide)).symm.trans (hFs 8 (by decide) (by decide))
      obtain rfl : x9 = .pointer (some ⟨w.heap.size, 1, none⟩) := (hev 9 (by decide)).symm.trans (hFs 9 (by decide) (by decide))
      obtain rfl : x10 = .int .u64 at_ := (hev 10 (by decide)).symm.trans (hFs 10 (by decide) (by decide))
      obtain rfl : x11 = .pointer (some ⟨w.heap.size, 2, none⟩) := (hev 11 (by decide)).symm.trans (hFs 11 (by decide) (by decide))
      obtain rfl : x12 = .int .i64 n := (hev 12 (by decide)).symm.trans (hFs 12 (by decide) (by decide))
      obtain rfl : x13 = .pointer (some ⟨w.heap.size, 3, none⟩) := (hev 13 (by decide)).symm.trans (hFs 13 (by decide) (by decide))
      obtain rfl : x14 = .int .u64 v := (hev 14 (by decide)).symm.trans (hFs 14 (by decide) (by decide))
      clear hev he hFs hF HC HR HBLK
      have HH := hideR hh
      clear hh
      simp only [List.drop_succ_cons, List.drop_zero, List.take_succ_cons, List.take_zero, List.cons_append, List.nil_append]
      go_wp2_with (go_at_call 15; refine (HH.out _ (Below.refl _ _)).mono ?_; rintro e w2 ⟨rfl, hp⟩; have HP := hideR hp; clear hp)
      go_ret
      exact ⟨rfl, _, HP.out⟩
set_option maxRecDepth 100000 in
set_option maxHeartbeats 4000000 in
theorem plays4 {w0 w : World} {k : Nat} {mv qv : Value} (h : Pair w0 k mv qv w) (at_ : Nat) (n v : Int) (t : ByteArray) (ha : at_ ≤ 18446744073709551615) (hn : n ≤ 9223372036854775807) (hv : 0 ≤ v ∧ v ≤ 18446744073709551615) (ht : t.size ≤ 9223372036854775807) (h21 : ¬ (t.size : Int) > 2097152) :
    Calls Try.prog 18 #[mv, qv, .agg #[.int .i64 4, .int .u64 at_, .int .i64 n, .int .u64 v, .string t]] w fun e w' => e = .returned (.bool true) ∧ ∃ k', Pair w0 k' mv qv w' := by
  have hB : Below w.heap.size w (w.alloc (.cells #[.int .i64 4, .int .u64 at_, .int .i64 n, .int .u64 v, .string t] 34)) := (Below.refl _ _).alloc (Nat.le_refl _) _
  have hP := (h.at_).on0 hB
  have hblk : (w.alloc (.cells #[.int .i64 4, .int .u64 at_, .int .i64 n, .int .u64 v, .string t] 34)).heap[w.heap.size]? = some (.cells #[.int .i64 4, .int .u64 at_, .int .i64 n, .int .u64 v, .string t] 34) := Go.Deep.blk_alloc_new _ _
  have hkW : w.heap.size < (w.alloc (.cells #[.int .i64 4, .int .u64 at_, .int .i64 n, .int .u64 v, .string t] 34)).heap.size := (Array.getElem?_eq_some_iff.1 hblk).1
  obtain ⟨z, hzz⟩ : ∃ z, z = IntKind.i64.wrap at_ := ⟨_, rfl⟩
  have hz : z ≤ 9223372036854775807 := by rw [hzz, IntKind.wrap_i64]; omega
  have HZ := hideR hzz
  clear hzz
  obtain ⟨x, R, hR, hC⟩ := half_fill hP hkW z t hz ht
  have HR := hideR hR
  have HC := hideR hC
  have HBLK := hideR hblk
  clear hR hC hP hB hkW h hblk
  go_enter Try.func18, Try.ntmps18
  go_wp2_with fail
  refine wp_half HC.out 18 107 11 (pG4 mv qv w.heap.size at_ n v z t) _ HBLK.out HR.out (by kernel_rfl) (by kernel_rfl) (show Reg.dstOkG _ 18 _ 128 = true by kernel_rfl) ?hstep ?hcall ?htail (by decide)
  case hstep =>
    intro j o a u hj hne ho hF hK hd
    have f0 : a.tmps[0]?.getD undef = mv := Reg.ev_get (hF.eval 0 (fun i hi => by show 107 + i ≠ 0; omega))
    have f1 : a.tmps[1]?.getD undef = qv := Reg.ev_get (hF.eval 1 (fun i hi => by show 107 + i ≠ 1; omega))
    have f5 : a.tmps[5]?.getD undef = .pointer (some ⟨w.heap.size, 0, none⟩) := Reg.ev_get (hF.eval 5 (fun i hi => by show 107 + i ≠ 5; omega))
    have c1 : u.cell? ⟨w.heap.size, 1, none⟩ = some (.int .u64 at_) := by unfold World.cell?; rw [hK]; rfl
    have c2 : u.cell? ⟨w.heap.size, 2, none⟩ = some (.int .i64 n) := by unfold World.cell?; rw [hK]; rfl
    have c3 : u.cell? ⟨w.heap.size, 3, none⟩ = some (.int .u64 v) := by unfold World.cell?; rw [hK]; rfl
    have c4 : u.cell? ⟨w.heap.size, 4, none⟩ = some (.string t) := by unfold World.cell?; rw [hK]; rfl
    have hcase : j = 0 ∨ j = 1 ∨ j = 2 ∨ j = 3 ∨ j = 4 ∨ j = 5 ∨ j = 6 ∨ j = 7 ∨ j = 8 ∨ j = 9 ∨ j = 10 ∨ j = 12 ∨ j = 13 ∨ j = 14 ∨ j = 15 ∨ j = 16 ∨ j = 17 := by omega
    clear hj hne hK HBLK
    rcases hcase with rfl | rfl | rfl | rfl | rfl | rfl | rfl | rfl | rfl | rfl | rfl | rfl | rfl | rfl | rfl | rfl | rfl
    all_goals (simp only [List.getElem?_toArray, List.getElem?_cons_succ, List.getElem?_cons_zero, Option.some.injEq] at ho; subst ho)
    · refine ⟨by simp [Region.wanted], Reg.step_k fun K hK => ?_⟩
      go_simp
      exact hK _ _ ⟨_, rfl, Below.refl _ _, rfl⟩
    · refine ⟨by simp [Region.wanted], Reg.step_k fun K hK => ?_⟩
      have q : a.tmps[107]?.getD undef = .pointer (some ⟨w.heap.size, 4, none⟩) := Reg.ev_get (hd 0 (by decide) (by decide))
      go_simp
      exact hK _ _ ⟨_, rfl, Below.refl _ _, rfl⟩
    · refine ⟨by simp [Region.wanted], Reg.step_k fun K hK => ?_⟩
      have q : a.tmps[108]?.getD undef = .string t := Reg.ev_get (hd 1 (by decide) (by decide))
      go_simp
      exact hK _ _ ⟨_, rfl, Below.refl _ _, rfl⟩
    · refine ⟨by simp [Region.wanted], Reg.step_k fun K hK => ?_⟩
      have q : a.tmps[109]?.getD undef = .int .i64 (t.size : Int) := Reg.ev_get (hd 2 (by decide) (by decide))
      have d21 : decide ((t.size : Int) > 2097152) = false := decide_eq_false (by omega)
      go_simp
      exact hK _ _ ⟨_, rfl, Below.refl _ _, rfl⟩
    · refine ⟨by simp [Region.wanted], Reg.step_k fun K hK => ?_⟩
      have q : a.tmps[110]?.getD undef = .bool false := Reg.ev_get (hd 3 (by decide) (by decide))
      go_simp
      exact hK _ _ ⟨_, rfl, Below.refl _ _, rfl⟩
    · refine ⟨by rw [Reg.wants (b := false) rfl rfl rfl (hd 4 (by decide) (by decide))]; rfl, Reg.step_k fun K hK => ?_⟩
      go_simp
      exact hK _ _ ⟨_, rfl, Below.refl _ _, rfl⟩
    · refine ⟨by rw [Reg.wants (b := false) rfl rfl rfl (hd 4 (by decide) (by decide))]; rfl, Reg.step_k fun K hK => ?_⟩
      go_simp
      exact hK _ _ ⟨_, rfl, Below.refl _ _, rfl⟩
    · refine ⟨by rw [Reg.wants (b := false) rfl rfl rfl (hd 4 (by decide) (by decide))]; rfl, Reg.step_k fun K hK => ?_⟩
      have q : a.tmps[113]?.getD undef = .pointer (some ⟨w.heap.size, 1, none⟩) := Reg.ev_get (hd 6 (by decide) (by decide))
      go_simp
      exact hK _ _ ⟨_, rfl, Below.refl _ _, rfl⟩
    · refine ⟨by rw [Reg.wants (b := false) rfl rfl rfl (hd 4 (by decide) (by decide))]; rfl, Reg.step_k fun K hK => ?_⟩
      have q : a.tmps[114]?.getD undef = .int .u64 at_ := Reg.ev_get (hd 7 (by decide) (by decide))
      go_simp
      exact hK _ _ ⟨_, rfl, Below.refl _ _, by show Value.int _ _ = Value.int _ _; rw [HZ.out]⟩
    · refine ⟨by rw [Reg.wants (b := false) rfl rfl rfl (hd 4 (by decide) (by decide))]; rfl, Reg.step_k fun K hK => ?_⟩
      go_simp
      exact hK _ _ ⟨_, rfl, Below.refl _ _, rfl⟩
    · refine ⟨by rw [Reg.wants (b := false) rfl rfl rfl (hd 4 (by decide) (by decide))]; rfl, Reg.step_k fun K hK => ?_⟩
      have q : a.tmps[116]?.getD undef = .pointer (some ⟨w.heap.size, 4, none⟩) := Reg.ev_get (hd 9 (by decide) (by decide))
      go_simp
      exact hK _ _ ⟨_, rfl, Below.refl _ _, rfl⟩
    · refine ⟨by rw [Reg.wants (b := false) rfl rfl rfl (hd 4 (by decide) (by decide))]; rfl, Reg.step_k fun K hK => ?_⟩
      go_simp
      exact hK _ _ ⟨_, rfl, Below.refl _ _, rfl⟩
    · refine ⟨by rw [Reg.wants (b := false) rfl rfl rfl (hd 4 (by decide) (by decide))]; rfl, Reg.step_k fun K hK => ?_⟩
      go_simp
      exact hK _ _ ⟨_, rfl, Below.refl _ _, rfl⟩
    · refine ⟨by rw [Reg.wants (b := false) rfl rfl rfl (hd 4 (by decide) (by decide))]; rfl, Reg.step_k fun K hK => ?_⟩
      have q : a.tmps[120]?.getD undef = .pointer (some ⟨w.heap.size, 1, none⟩) := Reg.ev_get (hd 13 (by decide) (by decide))
      go_simp
      exact hK _ _ ⟨_, rfl, Below.refl _ _, rfl⟩
    · refine ⟨by rw [Reg.wants (b := false) rfl rfl rfl (hd 4 (by decide) (by decide))]; rfl, Reg.step_k fun K hK => ?_⟩
      have q : a.tmps[121]?.getD undef = .int .u64 at_ := Reg.ev_get (hd 14 (by decide) (by decide))
      go_simp
      exact hK _ _ ⟨_, rfl, Below.refl _ _, by show Value.int _ _ = Value.int _ _; rw [HZ.out]⟩
    · refine ⟨by rw [Reg.wants (b := false) rfl rfl rfl (hd 4 (by decide) (by decide))]; rfl, Reg.step_k fun K hK => ?_⟩
      go_simp
      exact hK _ _ ⟨_, rfl, Below.refl _ _, rfl⟩
    · refine ⟨by rw [Reg.wants (b := false) rfl rfl rfl (hd 4 (by decide) (by decide))]; rfl, Reg.step_k fun K hK => ?_⟩
      have q : a.tmps[123]?.getD undef = .pointer (some ⟨w.heap.size, 4, none⟩) := Reg.ev_get (hd 16 (by decide) (by decide))
      go_simp
      exact hK _ _ ⟨_, rfl, Below.refl _ _, rfl⟩
  case hcall =>
    intro o a u ho hF hd hRu
    simp only [List.getElem?_toArray, List.getElem?_cons_succ, List.getElem?_cons_zero, Option.some.injEq] at ho
    subst ho
    refine ⟨by rw [Reg.wants (b := false) rfl rfl rfl (hd 4 (by decide) (by decide))]; rfl, Reg.step_k fun K hK => ?_⟩
    have q5 : a.tmps[112]?.getD undef = mv := Reg.ev_get (hd 5 (by decide) (by decide))
    have q8 : a.tmps[115]?.getD undef = .int .i64 z := Reg.ev_get (hd 8 (by decide) (by decide))
    have q10 : a.tmps[117]?.getD undef = .string t := Reg.ev_get (hd 10 (by decide) (by decide))
    go_simp
    refine (HC.out.2.2 u hRu).mono ?_
    rintro e w1 ⟨g, rfl, hg, hh⟩
    exact hK _ _ ⟨g, rfl, hg, hh⟩
  case htail =>
    intro a u g hF he hh hFs
    obtain ⟨xs, hxl, rfl, hev⟩ := Reg.Fr.lit (l := [mv, qv, .agg #[.int .i64 4, .int .u64 at_, .int .i64 n, .int .u64 v, .string t], undef, undef, .pointer (some ⟨w.heap.size, 0, none⟩), .bool false, undef, undef, undef, undef, undef, undef, undef, undef, .pointer (some ⟨w.heap.size, 0, none⟩), .int .i64 4, .bool false, .bool false, undef, undef, undef, undef, undef, undef, undef, undef, undef, .bool false, .bool false, undef, undef, undef, undef, undef, undef, undef, undef, undef, undef, undef, undef, undef, undef, undef, undef, undef, undef, undef, undef, undef, undef, undef, undef, undef, undef, .bool false, .bool false, undef, undef, undef, undef, undef, undef, undef, undef, undef, undef, undef, undef, undef, undef, undef, undef, undef, .bool false, .bool false, undef, undef, undef, undef, undef, undef, undef, undef, undef, undef, undef, undef, undef, undef, undef, undef, undef, undef, undef, undef, undef, undef, undef, undef, undef, undef, undef, undef, .bool true, .bool true, undef, undef, undef, undef, undef, undef, undef, undef, undef, undef, undef, undef, undef, undef, undef, undef, undef, undef, undef, undef, undef]) hF (by simp)
    match xs, hxl with
    | [x0, x1, x2, x3, x4, x5, x6, x7, x8, x9, x10, x11, x12, x13, x14, x15, x16, x17], _ =>
      obtain rfl : x11 = _ := (hev 11 (by decide)).symm.trans (he (by decide))
      obtain rfl : x0 = .pointer (some ⟨w.heap.size, 4, none⟩) := (hev 0 (by decide)).symm.trans (hFs 0 (by decide) (by decide))
      obtain rfl : x1 = .string t := (hev 1 (by decide)).symm.trans (hFs 1 (by decide) (by decide))
      obtain rfl : x2 = .int .i64 (t.size : Int) := (hev 2 (by decide)).symm.trans (hFs 2 (by decide) (by decide))
      obtain rfl : x3 = .bool false := (hev 3 (by decide)).symm.trans (hFs 3 (by decide) (by decide))
      obtain rfl : x4 = .bool false := (hev 4 (by decide)).symm.trans (hFs 4 (by decide) (by decide))
      obtain rfl : x5 = mv := (hev 5 (by decide)).symm.trans (hFs 5 (by decide) (by decide))
      obtain rfl : x6 = .pointer (some ⟨w.heap.size, 1, none⟩) := (hev 6 (by decide)).symm.trans (hFs 6 (by decide) (by decide))
      obtain rfl : x7 = .int .u64 at_ := (hev 7 (by decide)).symm.trans (hFs 7 (by decide) (by decide))
      obtain rfl : x8 = .int .i64 z := (hev 8 (by decide)).symm.trans (hFs 8 (by decide) (by decide))
      obtain rfl : x9 = .pointer (some ⟨w.heap.size, 4, none⟩) := (hev 9 (by decide)).symm.trans (hFs 9 (by decide) (by decide))
      obtain rfl : x10 = .string t := (hev 10 (by decide)).symm.trans (hFs 10 (by decide) (by decide))
      obtain rfl : x12 = qv := (hev 12 (by decide)).symm.trans (hFs 12 (by decide) (by decide))
      obtain rfl : x13 = .pointer (some ⟨w.heap.size, 1, none⟩) := (hev 13 (by decide)).symm.trans (hFs 13 (by decide) (by decide))
      obtain rfl : x14 = .int .u64 at_ := (hev 14 (by decide)).symm.trans (hFs 14 (by decide) (by decide))
      obtain rfl : x15 = .int .i64 z := (hev 15 (by decide)).symm.trans (hFs 15 (by decide) (by decide))
      obtain rfl : x16 = .pointer (some ⟨w.heap.size, 4, none⟩) := (hev 16 (by decide)).symm.trans (hFs 16 (by decide) (by decide))
      obtain rfl : x17 = .string t := (hev 17 (by decide)).symm.trans (hFs 17 (by decide) (by decide))
      clear hev he hFs hF HC HR HBLK
      have HH := hideR hh
      clear hh
      simp only [List.drop_succ_cons, List.drop_zero, List.take_succ_cons, List.take_zero, List.cons_append, List.nil_append]
      go_wp2_with (go_at_call 32; refine (HH.out _ (Below.refl _ _)).mono ?_; rintro e w2 ⟨rfl, hp⟩; have HP := hideR hp; clear hp)
      go_ret
      exact ⟨rfl, _, HP.out⟩
set_option maxRecDepth 100000 in
set_option maxHeartbeats 4000000 in
theorem plays1 {w0 w : World} {k : Nat} {mv qv : Value} (h : Pair w0 k mv qv w) (at_ : Nat) (n v : Int) (t : ByteArray) (ha : at_ ≤ 18446744073709551615) (hn : n ≤ 9223372036854775807) :
    Calls Try.prog 18 #[mv, qv, .agg #[.int .i64 1, .int .u64 at_, .int .i64 n, .int .u64 v, .string t]] w fun e w' => e = .returned (.bool true) ∧ ∃ k', Pair w0 k' mv qv w' := by
  have hB : Below w.heap.size w (w.alloc (.cells #[.int .i64 1, .int .u64 at_, .int .i64 n, .int .u64 v, .string t] 34)) := (Below.refl _ _).alloc (Nat.le_refl _) _
  have hP := (h.at_).on0 hB
  have hblk : (w.alloc (.cells #[.int .i64 1, .int .u64 at_, .int .i64 n, .int .u64 v, .string t] 34)).heap[w.heap.size]? = some (.cells #[.int .i64 1, .int .u64 at_, .int .i64 n, .int .u64 v, .string t] 34) := Go.Deep.blk_alloc_new _ _
  obtain ⟨z, hzz⟩ : ∃ z, z = IntKind.i64.wrap at_ := ⟨_, rfl⟩
  have hz : z ≤ 9223372036854775807 := by rw [hzz, IntKind.wrap_i64]; omega
  have HZ := hideR hzz
  clear hzz
  have HP := hideR hP
  obtain ⟨x, ok, h1, h2⟩ := both_load hP at_ n ha hn
  have H1 := hideR h1
  have H2 := hideR h2
  clear h1 h2 hP hB h hblk
  cases ok
  all_goals (
    go_enter Try.func18, Try.ntmps18
    go_wp2_with (first | (go_at_call 16; refine H1.out.mono ?_; rintro e w' ⟨rfl, rfl⟩) | (go_at_call 11; refine H2.out.mono ?_; rintro e w' ⟨rfl, rfl⟩))
    go_ret
    exact ⟨rfl, _, HP.out⟩)
set_option maxRecDepth 100000 in
set_option maxHeartbeats 4000000 in
theorem plays3 {w0 w : World} {k : Nat} {mv qv : Value} (h : Pair w0 k mv qv w) (at_ : Nat) (n v : Int) (t : ByteArray) (ha : at_ ≤ 18446744073709551615) (hn : n ≤ 9223372036854775807) :
    Calls Try.prog 18 #[mv, qv, .agg #[.int .i64 3, .int .u64 at_, .int .i64 n, .int .u64 v, .string t]] w fun e w' => e = .returned (.bool true) ∧ ∃ k', Pair w0 k' mv qv w' := by
  have hB : Below w.heap.size w (w.alloc (.cells #[.int .i64 3, .int .u64 at_, .int .i64 n, .int .u64 v, .string t] 34)) := (Below.refl _ _).alloc (Nat.le_refl _) _
  have hP := (h.at_).on0 hB
  have hblk : (w.alloc (.cells #[.int .i64 3, .int .u64 at_, .int .i64 n, .int .u64 v, .string t] 34)).heap[w.heap.size]? = some (.cells #[.int .i64 3, .int .u64 at_, .int .i64 n, .int .u64 v, .string t] 34) := Go.Deep.blk_alloc_new _ _
  obtain ⟨z, hzz⟩ : ∃ z, z = IntKind.i64.wrap at_ := ⟨_, rfl⟩
  have hz : z ≤ 9223372036854775807 := by rw [hzz, IntKind.wrap_i64]; omega
  have HZ := hideR hzz
  clear hzz
  have HP := hideR hP
  obtain ⟨x, ok, h1, h2⟩ := both_text hP z n hz hn
  have hz1 : IntKind.i64.wrap (at_ : Int) = z := HZ.out.symm
  have hz2 : wrap64 (at_ : Int) = z := by rw [HZ.out, IntKind.wrap_i64]; unfold wrap64; omega
  have H1 := hideR h1
  have H2 := hideR h2
  clear h1 h2 hP hB h hblk
  cases ok
  all_goals (
    go_enter Try.func18, Try.ntmps18
    go_wp2_with (first | (go_at_call 20; refine H1.out.mono ?_; rintro e w' ⟨rfl, rfl⟩) | (go_at_call 30; refine H2.out.mono ?_; rintro e w' ⟨rfl, rfl⟩))
    go_ret
    exact ⟨rfl, _, HP.out⟩)
set_option maxRecDepth 100000 in
set_option maxHeartbeats 4000000 in
theorem plays4L {w0 w : World} {k : Nat} {mv qv : Value} (h : Pair w0 k mv qv w) (at_ : Nat) (n v : Int) (t : ByteArray) (ha : at_ ≤ 18446744073709551615) (hn : n ≤ 9223372036854775807) (h21 : (t.size : Int) > 2097152) :
    Calls Try.prog 18 #[mv, qv, .agg #[.int .i64 4, .int .u64 at_, .int .i64 n, .int .u64 v, .string t]] w fun e w' => e = .returned (.bool true) ∧ ∃ k', Pair w0 k' mv qv w' := by
  have hB : Below w.heap.size w (w.alloc (.cells #[.int .i64 4, .int .u64 at_, .int .i64 n, .int .u64 v, .string t] 34)) := (Below.refl _ _).alloc (Nat.le_refl _) _
  have hP := (h.at_).on0 hB
  have hblk : (w.alloc (.cells #[.int .i64 4, .int .u64 at_, .int .i64 n, .int .u64 v, .string t] 34)).heap[w.heap.size]? = some (.cells #[.int .i64 4, .int .u64 at_, .int .i64 n, .int .u64 v, .string t] 34) := Go.Deep.blk_alloc_new _ _
  obtain ⟨z, hzz⟩ : ∃ z, z = IntKind.i64.wrap at_ := ⟨_, rfl⟩
  have hz : z ≤ 9223372036854775807 := by rw [hzz, IntKind.wrap_i64]; omega
  have HZ := hideR hzz
  clear hzz
  have HP := hideR hP
  have d21 : decide ((t.size : Int) > 2097152) = true := decide_eq_true h21
  clear hP hB h hblk
  go_enter Try.func18, Try.ntmps18
  go_wp2_with fail
  go_quiet (fail)
  go_wp2
  go_ret
  exact ⟨rfl, _, HP.out.on0 (below_drewN' _ _)⟩
set_option maxRecDepth 100000 in
set_option maxHeartbeats 4000000 in
theorem playsX {w0 w : World} {k : Nat} {mv qv : Value} (h : Pair w0 k mv qv w) (kd : Int) (at_ : Nat) (n v : Int) (t : ByteArray) (ha : at_ ≤ 18446744073709551615) (hn : n ≤ 9223372036854775807) (h0 : kd ≠ 0) (h1 : kd ≠ 1) (h2 : kd ≠ 2) (h3 : kd ≠ 3) (h4 : kd ≠ 4) :
    Calls Try.prog 18 #[mv, qv, .agg #[.int .i64 kd, .int .u64 at_, .int .i64 n, .int .u64 v, .string t]] w fun e w' => e = .returned (.bool true) ∧ ∃ k', Pair w0 k' mv qv w' := by
  have hB : Below w.heap.size w (w.alloc (.cells #[.int .i64 kd, .int .u64 at_, .int .i64 n, .int .u64 v, .string t] 34)) := (Below.refl _ _).alloc (Nat.le_refl _) _
  have hP := (h.at_).on0 hB
  have hblk : (w.alloc (.cells #[.int .i64 kd, .int .u64 at_, .int .i64 n, .int .u64 v, .string t] 34)).heap[w.heap.size]? = some (.cells #[.int .i64 kd, .int .u64 at_, .int .i64 n, .int .u64 v, .string t] 34) := Go.Deep.blk_alloc_new _ _
  obtain ⟨z, hzz⟩ : ∃ z, z = IntKind.i64.wrap at_ := ⟨_, rfl⟩
  have hz : z ≤ 9223372036854775807 := by rw [hzz, IntKind.wrap_i64]; omega
  have HZ := hideR hzz
  clear hzz
  have HP := hideR hP
  clear hP hB h hblk
  go_enter Try.func18, Try.ntmps18
  go_wp2
  go_ret
  exact ⟨rfl, _, HP.out⟩
theorem playsC {w0 w : World} {k : Nat} {mv qv : Value} (h : Pair w0 k mv qv w) (kd : Int) (at_ : Nat) (n v : Int) (t : ByteArray) (ha : at_ ≤ 18446744073709551615) (hn : n ≤ 9223372036854775807) (hv : 0 ≤ v ∧ v ≤ 18446744073709551615) (ht : t.size ≤ 9223372036854775807) :
    Calls Try.prog 18 #[mv, qv, .agg #[.int .i64 kd, .int .u64 at_, .int .i64 n, .int .u64 v, .string t]] w fun e w' => e = .returned (.bool true) ∧ ∃ k', Pair w0 k' mv qv w' := by
  by_cases h0 : kd = 0
  · subst h0; exact plays0 h at_ n v t ha hn hv ht
  by_cases h1 : kd = 1
  · subst h1; exact plays1 h at_ n v t ha hn
  by_cases h2 : kd = 2
  · subst h2; exact plays2 h at_ n v t ha hn hv ht
  by_cases h3 : kd = 3
  · subst h3; exact plays3 h at_ n v t ha hn
  by_cases h4 : kd = 4
  · subst h4
    by_cases h21 : (t.size : Int) > 2097152
    · exact plays4L h at_ n v t ha hn h21
    · exact plays4 h at_ n v t ha hn hv ht h21
  exact playsX h kd at_ n v t ha hn h0 h1 h2 h3 h4
end Go.Proofs.Ytagcdnkgochpnaa
