/- QJCount: several texts in one. -/
import Derived.Test.YtmedpblpcfobdaaDoorQJRep
import Derived.Deep.RegionWith
import Derived.Test.YtmedpblpcfobdaaDoorQR3
import Derived.Test.YtmedpblpcfobdaaDoorQW12
/- How many instructions the document's own count finds in instructions that lie in memory: the plain count; nothing but the tape is touched. -/
namespace Go.Proofs.YtmedpblpcfobdaaDoor
open Go.RowKit Rep
set_option linter.unusedVariables false

theorem hideR {p : Prop} (h : p) : Hid p := h
/-- a contract at a world some draws on, as a region that draws wants it -/
theorem quiet_at {P : Program} {f : FuncId} {args : Array Value} {w : World} {m j : Nat} {v : Value} (h : Calls P f args (w.drewN (m + j)) fun e w' => e = .returned v ∧ ∃ n, w' = (w.drewN (m + j)).drewN n) :
    Calls P f args (w.drewN (m + j)) fun e w' => e = .returned v ∧ ∃ n, w' = w.drewN (m + n) :=
  h.mono fun _ _ ⟨he, n, hn⟩ => ⟨he, j + n, by rw [hn, World.drewN_drewN, Nat.add_assoc]⟩
theorem cntL_end {α : Type} {f : α → Nat → Nat} {l : List (Ins α)} {k c r : Nat} (hk : ¬ (k < l.length ∧ c ≤ 65536)) (h : r = cntL f (l.drop k) c) : r = c := by
  rw [h]
  by_cases hl : k < l.length
  · have hc : ¬ c ≤ 65536 := fun hc => hk ⟨hl, hc⟩
    rw [List.drop_eq_getElem_cons hl]
    unfold cntL
    rw [if_neg hc]
  · rw [List.drop_of_length_le (by omega)]; rfl
theorem cntL_on {α : Type} {f : α → Nat → Nat} {l : List (Ins α)} {k c r : Nat} {x : Ins α} (hx : l[k]? = some x) (hc : c ≤ 65536) (h : r = cntL f (l.drop k) c) : r = cntL f (l.drop (k + 1)) (f x.els (f x.body (c + 1))) := by
  have hl : k < l.length := (List.getElem?_eq_some_iff.1 hx).1
  have he : l[k] = x := (List.getElem?_eq_some_iff.1 hx).2
  rw [h, List.drop_eq_getElem_cons hl, he]
  conv => lhs; unfold cntL
  rw [if_pos hc]

set_option maxHeartbeats 1000000 in
theorem refCount0 (o : Option Addr) (cap c : Nat) (w : World) (hc : c ≤ 65537) :
    Calls Tryd.prog 45 #[.slice o 0 cap, .int .i64 c] w fun e w' => e = .returned (.int .i64 (c : Nat)) ∧ ∃ m, w' = w.drewN m := by
  go_enter Tryd.func45, Tryd.ntmps45
  go_wp2_with fail
  go_loopw [1, 5] (fun u i wr => u = .int .i64 c ∧ i = .int .i64 0 ∧ wr = w) (fun _ _ _ => 0)
  case atStart => exact ⟨rfl, rfl, rfl⟩
  case round =>
    obtain ⟨rfl, rfl, rfl⟩ := hrel
    go_wp2
    go_ret
    exact ⟨rfl, 0, rfl⟩

def CountSays (d : Nat) : Prop := ∀ (v : Value) (l : IL d) (c : Nat) (w : World), At w d v l → c ≤ 65537 →
    Calls Tryd.prog 45 #[v, .int .i64 c] w fun e w' => e = .returned (.int .i64 (cnt d l c : Nat)) ∧ ∃ m, w' = w.drewN m

set_option maxHeartbeats 1000000 in
theorem refCountS (d : Nat) (IH : CountSays d) (v : Value) (l : List (Ins (IL d))) (c : Nat) (w : World) (hAt : Row 7 (InsAt w (At w d)) v l) (hc : c ≤ 65537) :
    Calls Tryd.prog 45 #[v, .int .i64 c] w fun e w' => e = .returned (.int .i64 (cntL (cnt d) l c : Nat)) ∧ ∃ m, w' = w.drewN m := by
  have hlen := hAt.1
  by_cases hz : l.length = 0
  · obtain ⟨o, cap, rfl⟩ := hAt.len
    rw [hz]
    obtain rfl : l = [] := List.length_eq_zero_iff.1 hz
    exact refCount0 o cap c w hc
  obtain ⟨b, off, cap, rfl, hx⟩ := hAt.some (by omega)
  obtain ⟨R, hR⟩ : ∃ R, R = cntL (cnt d) l c := ⟨_, rfl⟩
  rw [← hR]
  have HR : Hid (R = cntL (cnt d) (l.drop 0) c) := hR
  have HX := hideR hx
  clear hx hAt hR
  generalize hn : l.length = n at *
  go_enter Tryd.func45, Tryd.ntmps45
  go_wp2_with fail
  go_loopw [1, 5] (fun u i wr => ∃ k ck m : Nat, k ≤ n ∧ ck ≤ 65537 ∧ u = .int .i64 ck ∧ i = .int .i64 k ∧ R = cntL (cnt d) (l.drop k) ck ∧ wr = w.drewN m) (fun _ i _ => n - (intOf i).toNat)
  case atStart => exact ⟨0, c, 0, by omega, hc, rfl, rfl, HR.out, rfl⟩
  case round =>
    obtain ⟨k, ck, m, hk, hck, rfl, rfl, hrr, rfl⟩ := hrel
    have HK := hideR hrr
    clear hrr
    by_cases hgo : k < n ∧ ck ≤ 65536
    · obtain ⟨x, hxk⟩ : ∃ x, l[k]? = some x := ⟨_, List.getElem?_eq_getElem (by omega)⟩
      have hI := HX.out k x hxk
      obtain ⟨vb, cb, ab⟩ := hI.body
      obtain ⟨ve, ce, ae⟩ := hI.els
      have HN := hideR (cntL_on hxk hgo.2 HK.out)
      have hle1 := cnt_le d x.body (ck + 1)
      have hle2 := cnt_le d x.els (cnt d x.body (ck + 1))
      have e1 : ((ck + 1 : Nat) : Int) = (ck : Int) + 1 := by omega
      have i1 := fun (j : Nat) => hideR (quiet_at (IH vb x.body (ck + 1) (w.drewN (m + j)) (At.on (below_drewN' w _) _ _ _ ab) (by omega)))
      have i2 := fun (j : Nat) => hideR (quiet_at (IH ve x.els (cnt d x.body (ck + 1)) (w.drewN (m + j)) (At.on (below_drewN' w _) _ _ _ ae) (by omega)))
      rw [e1] at i1
      clear e1
      clear hI hxk ab ae HK
      generalize cnt d x.body (ck + 1) = c1 at *
      generalize cnt d x.els c1 = c2 at *
      have hg1 : k < n := hgo.1
      have hg2 : ck ≤ 65536 := hgo.2
      clear hgo
      go_wp2_with fail
      go_quiet (first | (go_at_call_of 45 vb; exact (i1 _).out) | (go_at_call_of 45 ve; exact (i2 _).out))
      go_wp2
      go_roundw
      case rel => exact ⟨k + 1, c2, m + nq, by omega, by omega, rfl, by go_num, HN.out, rfl⟩
      case measure => simp [intOf]; omega
    · have HE := hideR (cntL_end (by omega) HK.out)
      by_cases hkn : k < n
      · have hb : decide ((ck : Int) ≤ 65536) = false := by simp; omega
        go_wp2
        go_ret
        exact ⟨by rw [HE.out]; rfl, m, rfl⟩
      · go_wp2
        go_ret
        exact ⟨by rw [HE.out]; rfl, m, rfl⟩

theorem refCount : ∀ (d : Nat), CountSays d
  | 0 => fun v l c w ⟨o, cap, hv⟩ hc => by
    subst hv
    exact refCount0 o cap c w hc
  | d + 1 => fun v l c w hAt hc => refCountS d (refCount d) v l c w hAt hc
end Go.Proofs.YtmedpblpcfobdaaDoor

/- The document's own count of a module's instructions, and its look at limits: the plain answers. -/
namespace Go.Proofs.YtmedpblpcfobdaaDoor
open Go.RowKit Rep
set_option linter.unusedVariables false

namespace Rep
theorem retI {a b : Int} (h : a = b) : Ending.returned (.int .i64 a) = .returned (.int .i64 b) := by rw [h]
def cntF (d : Nat) : List (Fun d) → Nat → Nat
  | [], c => c
  | f :: r, c => if c ≤ 65536 then cntF d r (cnt d f.body c) else c
theorem cntF_end {d : Nat} {l : List (Fun d)} {k c : Nat} (hk : ¬ (k < l.length ∧ c ≤ 65536)) : cntF d (l.drop k) c = c := by
  by_cases hl : k < l.length
  · have hc : ¬ c ≤ 65536 := fun hc => hk ⟨hl, hc⟩
    rw [List.drop_eq_getElem_cons hl]
    unfold cntF
    rw [if_neg hc]
  · rw [List.drop_of_length_le (by omega)]; rfl
theorem cntF_on {d : Nat} {l : List (Fun d)} {k c : Nat} {x : Fun d} (hx : l[k]? = some x) (hc : c ≤ 65536) : cntF d (l.drop k) c = cntF d (l.drop (k + 1)) (cnt d x.body c) := by
  have hl : k < l.length := (List.getElem?_eq_some_iff.1 hx).1
  have he : l[k] = x := (List.getElem?_eq_some_iff.1 hx).2
  rw [List.drop_eq_getElem_cons hl, he]
  conv => lhs; unfold cntF
  rw [if_pos hc]
end Rep

set_option maxHeartbeats 2000000 in
theorem refCountM (d : Nat) (v0 v1 v2 v3 v4 v5 v6 v7 v8 v9 : Value) (l : List (Fun d)) (w : World) (hAt : Row 3 (FunAt w d) v2 l) (hT : TenSlices v0 v1 v3 v4 v5 v6 v7 v8 v9) :
    Calls Tryd.prog 18 #[.agg #[v0, v1, v2, v3, v4, v5, v6, v7, v8, v9]] w fun e w' => e = .returned (.int .i64 (min (cntF d l 0) 65537 : Nat)) ∧ Below w.heap.size w w' := by
  have hlen := hAt.1
  obtain ⟨o2, c2, hv⟩ := Row.len hAt
  have HA := hideM hAt
  subst hv
  obtain ⟨⟨o0, m0, c0, rfl⟩, ⟨o1, m1, c1, rfl⟩, ⟨o3, m3, c3, rfl⟩, ⟨o4, m4, c4, rfl⟩, ⟨o5, m5, c5, rfl⟩, ⟨o6, m6, c6, rfl⟩, ⟨o7, m7, c7, rfl⟩, ⟨o8, m8, c8, rfl⟩, ⟨o9, m9, c9, rfl⟩⟩ := hT
  have HB0 := hideM (Box.start w 36 (.slice o0 m0 c0) (.slice o1 m1 c1) (.slice o2 l.length c2) (.slice o3 m3 c3) (.slice o4 m4 c4) (.slice o5 m5 c5) (.slice o6 m6 c6) (.slice o7 m7 c7) (.slice o8 m8 c8) (.slice o9 m9 c9))
  obtain ⟨R, hR⟩ : ∃ R, R = cntF d l 0 := ⟨_, rfl⟩
  rw [← hR]
  have HR : Hid (R = cntF d (l.drop 0) 0) := hR
  clear hAt hR
  generalize hn : l.length = n at *
  go_enter Tryd.func18, Tryd.ntmps18
  go_wp2_with fail
  go_loopw [3, 4] (fun u i wr => ∃ k ck : Nat, k ≤ n ∧ ck ≤ 65537 ∧ u = .int .i64 ck ∧ i = .int .i64 k ∧ Hid (R = cntF d (l.drop k) ck) ∧ Hid (Box w (.slice o0 m0 c0) (.slice o1 m1 c1) (.slice o2 n c2) (.slice o3 m3 c3) (.slice o4 m4 c4) (.slice o5 m5 c5) (.slice o6 m6 c6) (.slice o7 m7 c7) (.slice o8 m8 c8) (.slice o9 m9 c9) wr)) (fun _ i _ => n - (intOf i).toNat)
  case atStart => exact ⟨0, 0, by omega, by omega, rfl, rfl, HR, HB0⟩
  case round =>
    obtain ⟨k, ck, hk, hck, rfl, rfl, HK, HBX⟩ := hrel
    have q2 := HBX.out.c2
    clear HB0 HR
    by_cases hgo : k < n ∧ ck ≤ 65536
    · obtain ⟨b, off, cap3, hv2, hx⟩ := Row.some (HA.out.imp fun _ _ _ _ => FunAt.on HBX.out.bel) (by omega)
      injection hv2 with ho h2 h3
      subst ho
      obtain ⟨x, hxk⟩ : ∃ x, l[k]? = some x := ⟨_, List.getElem?_eq_getElem (by omega)⟩
      obtain ⟨bv, kb, ab⟩ := (hx k x hxk).body
      have HN := hideM (HK.out.trans (cntF_on hxk hgo.2))
      have hle := cnt_le d x.body ck
      have I1 := hideM (refCount d bv x.body ck wr ab hck)
      clear hx hxk HK h2 h3 ab
      generalize cnt d x.body ck = c1 at *
      have hg1 : k < n := hgo.1
      have hg2 : ck ≤ 65536 := hgo.2
      have hd2 : decide ((ck : Int) ≤ 65536) = true := by simp; omega
      clear hgo
      go_wp2_with fail
      refine I1.out.mono ?_
      rintro e u ⟨rfl, mm, rfl⟩
      have HBN := hideM (HBX.out.on (below_drewN' wr mm))
      clear q2 kb
      go_wp2
      go_roundw
      case rel => exact ⟨k + 1, c1, by omega, by omega, rfl, by go_num, HN, HBN⟩
      case measure => simp [intOf]; omega
    · have HE := hideM (HK.out.trans (cntF_end (by omega)))
      clear HK
      by_cases hkn : k < n
      · have hb : decide ((ck : Int) ≤ 65536) = false := by simp; omega
        go_wp2
        all_goals go_ret
        all_goals refine ⟨retI ?_, HBX.out.bel⟩
        all_goals rw [HE.out]
        all_goals first | omega | (simp; omega) | trace_state
      · go_wp2
        all_goals go_ret
        all_goals refine ⟨retI ?_, HBX.out.bel⟩
        all_goals rw [HE.out]
        all_goals first | omega | (simp; omega) | trace_state
end Go.Proofs.YtmedpblpcfobdaaDoor
