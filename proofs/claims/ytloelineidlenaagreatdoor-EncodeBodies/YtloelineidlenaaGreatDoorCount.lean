/- How many instructions the document's own count finds in instructions that lie in memory: the plain count; nothing but the tape is touched. -/
import Derived.Test.YtloelineidlenaaGreatDoorRep
import Derived.Deep.RegionWith
namespace Go.Proofs.YtloelineidlenaaGreatDoor
open Go.RowKit Rep
set_option linter.unusedVariables false

theorem hideR {p : Prop} (h : p) : Hid p := h
/-- a contract at a world some draws on, as a region that draws wants it -/
theorem quiet_at {P : Program} {f : FuncId} {args : Array Value} {w : World} {m j : Nat} {v : Value} (h : Calls P f args (w.drewN (m + j)) fun e w' => e = .returned v ∧ ∃ n, w' = (w.drewN (m + j)).drewN n) :
    Calls P f args (w.drewN (m + j)) fun e w' => e = .returned v ∧ ∃ n, w' = w.drewN (m + n) :=
  h.mono fun _ _ ⟨he, n, hn⟩ => ⟨he, j + n, by rw [hn, World.drewN_drewN, Nat.add_assoc]⟩
theorem cntL_end {α : Type} {f : α → Nat → Nat} {l : List (Ins α)} {k c r : Nat} (hk : ¬ (k < l.length ∧ c ≤ 65536)) (h : r = cntL f (l.drop k) c) : r = c := by
  rw [h]
  by_cases hl : k < l.length
  · have hc : ¬ c ≤ 65536 := fun hc => hk ⟨hl, hc⟩
    rw [List.drop_eq_getElem_cons hl]
    unfold cntL
    rw [if_neg hc]
  · rw [List.drop_of_length_le (by omega)]; rfl
theorem cntL_on {α : Type} {f : α → Nat → Nat} {l : List (Ins α)} {k c r : Nat} {x : Ins α} (hx : l[k]? = some x) (hc : c ≤ 65536) (h : r = cntL f (l.drop k) c) : r = cntL f (l.drop (k + 1)) (f x.els (f x.body (c + 1))) := by
  have hl : k < l.length := (List.getElem?_eq_some_iff.1 hx).1
  have he : l[k] = x := (List.getElem?_eq_some_iff.1 hx).2
  rw [h, List.drop_eq_getElem_cons hl, he]
  conv => lhs; unfold cntL
  rw [if_pos hc]

set_option maxHeartbeats 1000000 in
theorem refCount0 (o : Option Addr) (cap c : Nat) (w : World) (hc : c ≤ 65537) :
    Calls Tryz.prog 95 #[.slice o 0 cap, .int .i64 c] w fun e w' => e = .returned (.int .i64 (c : Nat)) ∧ ∃ m, w' = w.drewN m := by
  go_enter Tryz.func95, Tryz.ntmps95
  go_wp2_with fail
  go_loopw [1, 5] (fun u i wr => u = .int .i64 c ∧ i = .int .i64 0 ∧ wr = w) (fun _ _ _ => 0)
  case atStart => exact ⟨rfl, rfl, rfl⟩
  case round =>
    obtain ⟨rfl, rfl, rfl⟩ := hrel
    go_wp2
    go_ret
    exact ⟨rfl, 0, rfl⟩

def CountSays (d : Nat) : Prop := ∀ (v : Value) (l : IL d) (c : Nat) (w : World), At w d v l → c ≤ 65537 →
    Calls Tryz.prog 95 #[v, .int .i64 c] w fun e w' => e = .returned (.int .i64 (cnt d l c : Nat)) ∧ ∃ m, w' = w.drewN m

set_option maxHeartbeats 1000000 in
theorem refCountS (d : Nat) (IH : CountSays d) (v : Value) (l : List (Ins (IL d))) (c : Nat) (w : World) (hAt : Row 7 (InsAt w (At w d)) v l) (hc : c ≤ 65537) :
    Calls Tryz.prog 95 #[v, .int .i64 c] w fun e w' => e = .returned (.int .i64 (cntL (cnt d) l c : Nat)) ∧ ∃ m, w' = w.drewN m := by
  have hlen := hAt.1
  by_cases hz : l.length = 0
  · obtain ⟨o, cap, rfl⟩ := hAt.len
    rw [hz]
    obtain rfl : l = [] := List.length_eq_zero_iff.1 hz
    exact refCount0 o cap c w hc
  obtain ⟨b, off, cap, rfl, hx⟩ := hAt.some (by omega)
  obtain ⟨R, hR⟩ : ∃ R, R = cntL (cnt d) l c := ⟨_, rfl⟩
  rw [← hR]
  have HR : Hid (R = cntL (cnt d) (l.drop 0) c) := hR
  have HX := hideR hx
  clear hx hAt hR
  generalize hn : l.length = n at *
  go_enter Tryz.func95, Tryz.ntmps95
  go_wp2_with fail
  go_loopw [1, 5] (fun u i wr => ∃ k ck m : Nat, k ≤ n ∧ ck ≤ 65537 ∧ u = .int .i64 ck ∧ i = .int .i64 k ∧ R = cntL (cnt d) (l.drop k) ck ∧ wr = w.drewN m) (fun _ i _ => n - (intOf i).toNat)
  case atStart => exact ⟨0, c, 0, by omega, hc, rfl, rfl, HR.out, rfl⟩
  case round =>
    obtain ⟨k, ck, m, hk, hck, rfl, rfl, hrr, rfl⟩ := hrel
    have HK := hideR hrr
    clear hrr
    by_cases hgo : k < n ∧ ck ≤ 65536
    · obtain ⟨x, hxk⟩ : ∃ x, l[k]? = some x := ⟨_, List.getElem?_eq_getElem (by omega)⟩
      have hI := HX.out k x hxk
      obtain ⟨vb, cb, ab⟩ := hI.body
      obtain ⟨ve, ce, ae⟩ := hI.els
      have HN := hideR (cntL_on hxk hgo.2 HK.out)
      have hle1 := cnt_le d x.body (ck + 1)
      have hle2 := cnt_le d x.els (cnt d x.body (ck + 1))
      have e1 : ((ck + 1 : Nat) : Int) = (ck : Int) + 1 := by omega
      have i1 := fun (j : Nat) => hideR (quiet_at (IH vb x.body (ck + 1) (w.drewN (m + j)) (At.on (below_drewN' w _) _ _ _ ab) (by omega)))
      have i2 := fun (j : Nat) => hideR (quiet_at (IH ve x.els (cnt d x.body (ck + 1)) (w.drewN (m + j)) (At.on (below_drewN' w _) _ _ _ ae) (by omega)))
      rw [e1] at i1
      clear e1
      clear hI hxk ab ae HK
      generalize cnt d x.body (ck + 1) = c1 at *
      generalize cnt d x.els c1 = c2 at *
      have hg1 : k < n := hgo.1
      have hg2 : ck ≤ 65536 := hgo.2
      clear hgo
      go_wp2_with fail
      go_quiet (first | (go_at_call_of 95 vb; exact (i1 _).out) | (go_at_call_of 95 ve; exact (i2 _).out))
      go_wp2
      go_roundw
      case rel => exact ⟨k + 1, c2, m + nq, by omega, by omega, rfl, by go_num, HN.out, rfl⟩
      case measure => simp [intOf]; omega
    · have HE := hideR (cntL_end (by omega) HK.out)
      by_cases hkn : k < n
      · have hb : decide ((ck : Int) ≤ 65536) = false := by simp; omega
        go_wp2
        go_ret
        exact ⟨by rw [HE.out]; rfl, m, rfl⟩
      · go_wp2
        go_ret
        exact ⟨by rw [HE.out]; rfl, m, rfl⟩

theorem refCount : ∀ (d : Nat), CountSays d
  | 0 => fun v l c w ⟨o, cap, hv⟩ hc => by
    subst hv
    exact refCount0 o cap c w hc
  | d + 1 => fun v l c w hAt hc => refCountS d (refCount d) v l c w hAt hc
end Go.Proofs.YtloelineidlenaaGreatDoor
