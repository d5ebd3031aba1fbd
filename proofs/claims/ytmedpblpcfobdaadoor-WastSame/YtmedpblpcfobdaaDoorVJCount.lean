/- VJCount: several texts in one. -/
import Derived.Test.YtmedpblpcfobdaaDoorVJRep
import Derived.Deep.RegionWith
import Derived.Test.YtmedpblpcfobdaaDoorVK1
import Derived.Deep.CutRange
import Derived.Deep.Cut
/- How many instructions the document's own count finds in instructions that lie in memory: the plain count; nothing but the tape is touched. -/
namespace Go.Proofs.YtmedpblpcfobdaaDoor
open Go.RowKit Rep
set_option linter.unusedVariables false

theorem hideR {p : Prop} (h : p) : Hid p := h
/-- a contract at a world some draws on, as a region that draws wants it -/
theorem quiet_at {P : Program} {f : FuncId} {args : Array Value} {w : World} {m j : Nat} {v : Value} (h : Calls P f args (w.drewN (m + j)) fun e w' => e = .returned v ∧ ∃ n, w' = (w.drewN (m + j)).drewN n) :
    Calls P f args (w.drewN (m + j)) fun e w' => e = .returned v ∧ ∃ n, w' = w.drewN (m + n) :=
  h.mono fun _ _ ⟨he, n, hn⟩ => ⟨he, j + n, by rw [hn, World.drewN_drewN, Nat.add_assoc]⟩
theorem cntL_end {α : Type} {f : α → Nat → Nat} {l : List (Ins α)} {k c r : Nat} (hk : ¬ (k < l.length ∧ c ≤ 65536)) (h : r = cntL f (l.drop k) c) : r = c := by
  rw [h]
  by_cases hl : k < l.length
  · have hc : ¬ c ≤ 65536 := fun hc => hk ⟨hl, hc⟩
    rw [List.drop_eq_getElem_cons hl]
    unfold cntL
    rw [if_neg hc]
  · rw [List.drop_of_length_le (by omega)]; rfl
theorem cntL_on {α : Type} {f : α → Nat → Nat} {l : List (Ins α)} {k c r : Nat} {x : Ins α} (hx : l[k]? = some x) (hc : c ≤ 65536) (h : r = cntL f (l.drop k) c) : r = cntL f (l.drop (k + 1)) (f x.els (f x.body (c + 1))) := by
  have hl : k < l.length := (List.getElem?_eq_some_iff.1 hx).1
  have he : l[k] = x := (List.getElem?_eq_some_iff.1 hx).2
  rw [h, List.drop_eq_getElem_cons hl, he]
  conv => lhs; unfold cntL
  rw [if_pos hc]

set_option maxHeartbeats 1000000 in
theorem refCount0 (o : Option Addr) (cap c : Nat) (w : World) (hc : c ≤ 65537) :
    Calls Tryd.prog 45 #[.slice o 0 cap, .int .i64 c] w fun e w' => e = .returned (.int .i64 (c : Nat)) ∧ ∃ m, w' = w.drewN m := by
  go_enter Tryd.func45, Tryd.ntmps45
  go_wp2_with fail
  go_loopw [1, 5] (fun u i wr => u = .int .i64 c ∧ i = .int .i64 0 ∧ wr = w) (fun _ _ _ => 0)
  case atStart => exact ⟨rfl, rfl, rfl⟩
  case round =>
    obtain ⟨rfl, rfl, rfl⟩ := hrel
    go_wp2
    go_ret
    exact ⟨rfl, 0, rfl⟩

def CountSays (d : Nat) : Prop := ∀ (v : Value) (l : IL d) (c : Nat) (w : World), At w d v l → c ≤ 65537 →
    Calls Tryd.prog 45 #[v, .int .i64 c] w fun e w' => e = .returned (.int .i64 (cnt d l c : Nat)) ∧ ∃ m, w' = w.drewN m

set_option maxHeartbeats 1000000 in
theorem refCountS (d : Nat) (IH : CountSays d) (v : Value) (l : List (Ins (IL d))) (c : Nat) (w : World) (hAt : Row 7 (InsAt w (At w d)) v l) (hc : c ≤ 65537) :
    Calls Tryd.prog 45 #[v, .int .i64 c] w fun e w' => e = .returned (.int .i64 (cntL (cnt d) l c : Nat)) ∧ ∃ m, w' = w.drewN m := by
  have hlen := hAt.1
  by_cases hz : l.length = 0
  · obtain ⟨o, cap, rfl⟩ := hAt.len
    rw [hz]
    obtain rfl : l = [] := List.length_eq_zero_iff.1 hz
    exact refCount0 o cap c w hc
  obtain ⟨b, off, cap, rfl, hx⟩ := hAt.some (by omega)
  obtain ⟨R, hR⟩ : ∃ R, R = cntL (cnt d) l c := ⟨_, rfl⟩
  rw [← hR]
  have HR : Hid (R = cntL (cnt d) (l.drop 0) c) := hR
  have HX := hideR hx
  clear hx hAt hR
  generalize hn : l.length = n at *
  go_enter Tryd.func45, Tryd.ntmps45
  go_wp2_with fail
  go_loopw [1, 5] (fun u i wr => ∃ k ck m : Nat, k ≤ n ∧ ck ≤ 65537 ∧ u = .int .i64 ck ∧ i = .int .i64 k ∧ R = cntL (cnt d) (l.drop k) ck ∧ wr = w.drewN m) (fun _ i _ => n - (intOf i).toNat)
  case atStart => exact ⟨0, c, 0, by omega, hc, rfl, rfl, HR.out, rfl⟩
  case round =>
    obtain ⟨k, ck, m, hk, hck, rfl, rfl, hrr, rfl⟩ := hrel
    have HK := hideR hrr
    clear hrr
    by_cases hgo : k < n ∧ ck ≤ 65536
    · obtain ⟨x, hxk⟩ : ∃ x, l[k]? = some x := ⟨_, List.getElem?_eq_getElem (by omega)⟩
      have hI := HX.out k x hxk
      obtain ⟨vb, cb, ab⟩ := hI.body
      obtain ⟨ve, ce, ae⟩ := hI.els
      have HN := hideR (cntL_on hxk hgo.2 HK.out)
      have hle1 := cnt_le d x.body (ck + 1)
      have hle2 := cnt_le d x.els (cnt d x.body (ck + 1))
      have e1 : ((ck + 1 : Nat) : Int) = (ck : Int) + 1 := by omega
      have i1 := fun (j : Nat) => hideR (quiet_at (IH vb x.body (ck + 1) (w.drewN (m + j)) (At.on (below_drewN' w _) _ _ _ ab) (by omega)))
      have i2 := fun (j : Nat) => hideR (quiet_at (IH ve x.els (cnt d x.body (ck + 1)) (w.drewN (m + j)) (At.on (below_drewN' w _) _ _ _ ae) (by omega)))
      rw [e1] at i1
      clear e1
      clear hI hxk ab ae HK
      generalize cnt d x.body (ck + 1) = c1 at *
      generalize cnt d x.els c1 = c2 at *
      have hg1 : k < n := hgo.1
      have hg2 : ck ≤ 65536 := hgo.2
      clear hgo
      go_wp2_with fail
      go_quiet (first | (go_at_call_of 45 vb; exact (i1 _).out) | (go_at_call_of 45 ve; exact (i2 _).out))
      go_wp2
      go_roundw
      case rel => exact ⟨k + 1, c2, m + nq, by omega, by omega, rfl, by go_num, HN.out, rfl⟩
      case measure => simp [intOf]; omega
    · have HE := hideR (cntL_end (by omega) HK.out)
      by_cases hkn : k < n
      · have hb : decide ((ck : Int) ≤ 65536) = false := by simp; omega
        go_wp2
        go_ret
        exact ⟨by rw [HE.out]; rfl, m, rfl⟩
      · go_wp2
        go_ret
        exact ⟨by rw [HE.out]; rfl, m, rfl⟩

theorem refCount : ∀ (d : Nat), CountSays d
  | 0 => fun v l c w ⟨o, cap, hv⟩ hc => by
    subst hv
    exact refCount0 o cap c w hc
  | d + 1 => fun v l c w hAt hc => refCountS d (refCount d) v l c w hAt hc
end Go.Proofs.YtmedpblpcfobdaaDoor

/- The document's words for sameness: of numbers. -/
namespace Go.Proofs.YtmedpblpcfobdaaDoor
open Go.RowKit Rep
set_option linter.unusedVariables false
namespace Rep
theorem dec_on {α : Type} [DecidableEq α] {a b : List α} {j : Nat} {x y : α} {R : Bool} (hx : a[j]? = some x) (hy : b[j]? = some y) (h : R = decide (a.drop j = b.drop j)) : R = (decide (x = y) && decide (a.drop (j + 1) = b.drop (j + 1))) := by
  have hl : j < a.length := (List.getElem?_eq_some_iff.1 hx).1
  have he : a[j] = x := (List.getElem?_eq_some_iff.1 hx).2
  have hl2 : j < b.length := (List.getElem?_eq_some_iff.1 hy).1
  have he2 : b[j] = y := (List.getElem?_eq_some_iff.1 hy).2
  rw [h, List.drop_eq_getElem_cons hl, he, List.drop_eq_getElem_cons hl2, he2, ← Bool.decide_and]
  simp only [List.cons.injEq]
end Rep
set_option maxRecDepth 100000 in
set_option maxHeartbeats 1000000 in
theorem refKeep (va vb : Value) (a b : List Int) (w : World) (hA : Ints w va a) (hB : Ints w vb b) :
    Calls Tryd.prog 47 #[va, vb] w fun e w' => e = .returned (.bool (decide (a = b))) ∧ ∃ n, w' = w.drewN n := by
  have la := hA.1
  have lb := hB.1
  obtain ⟨oa, ca, rfl⟩ := Row.len hA
  obtain ⟨ob, cb, rfl⟩ := Row.len hB
  have HA := hideR hA
  have HB := hideR hB
  obtain ⟨R, hR⟩ : ∃ R, R = decide (a = b) := ⟨_, rfl⟩
  rw [← hR]
  have HR : Hid (R = decide (a.drop 0 = b.drop 0)) := hR
  have HL : Hid (a.length ≠ b.length → R = false) := hideR (fun h => by rw [hR, decide_eq_false (fun e => h (by rw [e]))])
  clear hA hB hR
  generalize hn : a.length = n at *
  generalize hm : b.length = k at *
  by_cases hne : n = k
  rotate_left
  · obtain rfl := HL.out hne
    have hne' : ((n : Int) != (k : Int)) = true := by rw [bne_iff_ne]; omega
    clear HR HL
    go_enter Tryd.func47, Tryd.ntmps47
    go_wp2
    go_ret
    exact ⟨rfl, 0, rfl⟩
  subst hne
  clear HL
  go_enter Tryd.func47, Tryd.ntmps47
  go_wp2_with fail
  go_loopw [5] (fun i wr => ∃ j q : Nat, j ≤ n ∧ i = .int .i64 j ∧ Hid (R = decide (a.drop j = b.drop j)) ∧ wr = w.drewN q) (fun i _ => n - (intOf i).toNat)
  case atStart => exact ⟨0, 0, by omega, rfl, HR, rfl⟩
  case round =>
    obtain ⟨j, q, hj, rfl, HK, rfl⟩ := hrel
    by_cases hgo : j < n
    · obtain ⟨b1, off1, cap1, hv1, hx1⟩ := Row.some HA.out (by omega)
      injection hv1 with ho1 e11 e12
      subst ho1
      obtain ⟨b2, off2, cap2, hv2, hx2⟩ := Row.some HB.out (by omega)
      injection hv2 with ho2 e21 e22
      subst ho2
      obtain ⟨x, hxk⟩ : ∃ x, a[j]? = some x := ⟨_, List.getElem?_eq_getElem (by omega)⟩
      obtain ⟨y, hyk⟩ : ∃ y, b[j]? = some y := ⟨_, List.getElem?_eq_getElem (by omega)⟩
      have k1 := hx1 j x hxk
      have k2 := hx2 j y hyk
      rw [Nat.mul_one] at k1 k2
      have HN := hideR (dec_on hxk hyk HK.out)
      clear hx1 hx2 hxk hyk HK e11 e12 e21 e22
      go_upto_region 6 with fail
      go_quiet (fail)
      by_cases hxy : x = y
      · subst hxy
        have HN2 : Hid (R = decide (a.drop (j + 1) = b.drop (j + 1))) := hideR (by rw [HN.out, decide_eq_true rfl, Bool.true_and])
        clear HN
        go_wp2
        go_roundw
        case rel => exact ⟨j + 1, q + nq, by omega, by go_num, HN2, by first | rfl | (rw [World.drewN_drewN])⟩
        case measure => simp [intOf]; omega
      · obtain rfl : R = false := by rw [HN.out, decide_eq_false hxy]; rfl
        have hxy' : (x != y) = true := by rw [bne_iff_ne]; exact hxy
        clear HN
        go_wp2
        go_ret
        exact ⟨rfl, q + nq, by first | rfl | (rw [World.drewN_drewN])⟩
    · obtain rfl : R = true := by rw [HK.out, List.drop_of_length_le (by omega), List.drop_of_length_le (by omega)]; rfl
      clear HK
      go_wp2
      go_ret
      exact ⟨rfl, q, rfl⟩
end Go.Proofs.YtmedpblpcfobdaaDoor
