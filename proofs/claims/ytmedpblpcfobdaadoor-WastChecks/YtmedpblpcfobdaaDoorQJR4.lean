/- QJR4: several texts in one. -/
import Derived.Test.YtmedpblpcfobdaaDoorQJR3
import Derived.Test.YtmedpblpcfobdaaDoorQJCount
import Derived.Test.YtmedpblpcfobdaaDoorQJW12
import Derived.Test.YtmedpblpcfobdaaDoorQJRep
/- The document's own count of a module's instructions, and its look at limits: the plain answers. -/
namespace Go.Proofs.YtmedpblpcfobdaaDoor
open Go.RowKit Rep
set_option linter.unusedVariables false

namespace Rep
theorem retI {a b : Int} (h : a = b) : Ending.returned (.int .i64 a) = .returned (.int .i64 b) := by rw [h]
def cntF (d : Nat) : List (Fun d) → Nat → Nat
  | [], c => c
  | f :: r, c => if c ≤ 65536 then cntF d r (cnt d f.body c) else c
theorem cntF_end {d : Nat} {l : List (Fun d)} {k c : Nat} (hk : ¬ (k < l.length ∧ c ≤ 65536)) : cntF d (l.drop k) c = c := by
  by_cases hl : k < l.length
  · have hc : ¬ c ≤ 65536 := fun hc => hk ⟨hl, hc⟩
    rw [List.drop_eq_getElem_cons hl]
    unfold cntF
    rw [if_neg hc]
  · rw [List.drop_of_length_le (by omega)]; rfl
theorem cntF_on {d : Nat} {l : List (Fun d)} {k c : Nat} {x : Fun d} (hx : l[k]? = some x) (hc : c ≤ 65536) : cntF d (l.drop k) c = cntF d (l.drop (k + 1)) (cnt d x.body c) := by
  have hl : k < l.length := (List.getElem?_eq_some_iff.1 hx).1
  have he : l[k] = x := (List.getElem?_eq_some_iff.1 hx).2
  rw [List.drop_eq_getElem_cons hl, he]
  conv => lhs; unfold cntF
  rw [if_pos hc]
end Rep

set_option maxHeartbeats 2000000 in
theorem refCountM (d : Nat) (v0 v1 v2 v3 v4 v5 v6 v7 v8 v9 : Value) (l : List (Fun d)) (w : World) (hAt : Row 3 (FunAt w d) v2 l) (hT : TenSlices v0 v1 v3 v4 v5 v6 v7 v8 v9) :
    Calls Tryd.prog 18 #[.agg #[v0, v1, v2, v3, v4, v5, v6, v7, v8, v9]] w fun e w' => e = .returned (.int .i64 (min (cntF d l 0) 65537 : Nat)) ∧ Below w.heap.size w w' := by
  have hlen := hAt.1
  obtain ⟨o2, c2, hv⟩ := Row.len hAt
  have HA := hideM hAt
  subst hv
  obtain ⟨⟨o0, m0, c0, rfl⟩, ⟨o1, m1, c1, rfl⟩, ⟨o3, m3, c3, rfl⟩, ⟨o4, m4, c4, rfl⟩, ⟨o5, m5, c5, rfl⟩, ⟨o6, m6, c6, rfl⟩, ⟨o7, m7, c7, rfl⟩, ⟨o8, m8, c8, rfl⟩, ⟨o9, m9, c9, rfl⟩⟩ := hT
  have HB0 := hideM (Box.start w 36 (.slice o0 m0 c0) (.slice o1 m1 c1) (.slice o2 l.length c2) (.slice o3 m3 c3) (.slice o4 m4 c4) (.slice o5 m5 c5) (.slice o6 m6 c6) (.slice o7 m7 c7) (.slice o8 m8 c8) (.slice o9 m9 c9))
  obtain ⟨R, hR⟩ : ∃ R, R = cntF d l 0 := ⟨_, rfl⟩
  rw [← hR]
  have HR : Hid (R = cntF d (l.drop 0) 0) := hR
  clear hAt hR
  generalize hn : l.length = n at *
  go_enter Tryd.func18, Tryd.ntmps18
  go_wp2_with fail
  go_loopw [3, 4] (fun u i wr => ∃ k ck : Nat, k ≤ n ∧ ck ≤ 65537 ∧ u = .int .i64 ck ∧ i = .int .i64 k ∧ Hid (R = cntF d (l.drop k) ck) ∧ Hid (Box w (.slice o0 m0 c0) (.slice o1 m1 c1) (.slice o2 n c2) (.slice o3 m3 c3) (.slice o4 m4 c4) (.slice o5 m5 c5) (.slice o6 m6 c6) (.slice o7 m7 c7) (.slice o8 m8 c8) (.slice o9 m9 c9) wr)) (fun _ i _ => n - (intOf i).toNat)
  case atStart => exact ⟨0, 0, by omega, by omega, rfl, rfl, HR, HB0⟩
  case round =>
    obtain ⟨k, ck, hk, hck, rfl, rfl, HK, HBX⟩ := hrel
    have q2 := HBX.out.c2
    clear HB0 HR
    by_cases hgo : k < n ∧ ck ≤ 65536
    · obtain ⟨b, off, cap3, hv2, hx⟩ := Row.some (HA.out.imp fun _ _ _ _ => FunAt.on HBX.out.bel) (by omega)
      injection hv2 with ho h2 h3
      subst ho
      obtain ⟨x, hxk⟩ : ∃ x, l[k]? = some x := ⟨_, List.getElem?_eq_getElem (by omega)⟩
      obtain ⟨bv, kb, ab⟩ := (hx k x hxk).body
      have HN := hideM (HK.out.trans (cntF_on hxk hgo.2))
      have hle := cnt_le d x.body ck
      have I1 := hideM (refCount d bv x.body ck wr ab hck)
      clear hx hxk HK h2 h3 ab
      generalize cnt d x.body ck = c1 at *
      have hg1 : k < n := hgo.1
      have hg2 : ck ≤ 65536 := hgo.2
      have hd2 : decide ((ck : Int) ≤ 65536) = true := by simp; omega
      clear hgo
      go_wp2_with fail
      refine I1.out.mono ?_
      rintro e u ⟨rfl, mm, rfl⟩
      have HBN := hideM (HBX.out.on (below_drewN' wr mm))
      clear q2 kb
      go_wp2
      go_roundw
      case rel => exact ⟨k + 1, c1, by omega, by omega, rfl, by go_num, HN, HBN⟩
      case measure => simp [intOf]; omega
    · have HE := hideM (HK.out.trans (cntF_end (by omega)))
      clear HK
      by_cases hkn : k < n
      · have hb : decide ((ck : Int) ≤ 65536) = false := by simp; omega
        go_wp2
        all_goals go_ret
        all_goals refine ⟨retI ?_, HBX.out.bel⟩
        all_goals rw [HE.out]
        all_goals first | omega | (simp; omega) | trace_state
      · go_wp2
        all_goals go_ret
        all_goals refine ⟨retI ?_, HBX.out.bel⟩
        all_goals rw [HE.out]
        all_goals first | omega | (simp; omega) | trace_state
end Go.Proofs.YtmedpblpcfobdaaDoor

/- What the document's own looks at labels and at depth tell of instructions that lie in memory: the plain functions; nothing is touched. -/
namespace Go.Proofs.YtmedpblpcfobdaaDoor
open Go.RowKit Rep
set_option linter.unusedVariables false

namespace Rep
theorem hideD {p : Prop} (h : p) : Hid p := h
/-- has an instruction too many labels? -/
def lab : (d : Nat) → IL d → Bool
  | 0, _ => false
  | d + 1, l => List.any (α := Ins (IL d)) l fun x => decide (4096 < x.labels.length) || lab d x.body || lab d x.els
/-- does an instruction stand too deep? -/
def dp : (d : Nat) → IL d → Nat → Bool
  | 0, _, _ => false
  | d + 1, l, at_ => (decide (0 < List.length (α := Ins (IL d)) l) && decide (64 < at_)) || List.any (α := Ins (IL d)) l fun x => dp d x.body (at_ + 1) || dp d x.els (at_ + 1)
theorem any_end {α : Type} {p : α → Bool} {l : List α} {k : Nat} {r : Bool} (hk : ¬ k < l.length) (h : r = (l.drop k).any p) : r = false := by
  rw [h, List.drop_of_length_le (by omega)]; rfl
theorem any_on {α : Type} {p : α → Bool} {l : List α} {k : Nat} {r : Bool} {x : α} (hx : l[k]? = some x) (h : r = (l.drop k).any p) : r = (p x || (l.drop (k + 1)).any p) := by
  have hl : k < l.length := (List.getElem?_eq_some_iff.1 hx).1
  have he : l[k] = x := (List.getElem?_eq_some_iff.1 hx).2
  rw [h, List.drop_eq_getElem_cons hl, he, List.any_cons]
end Rep

set_option maxHeartbeats 1000000 in
theorem refLabels0 (o : Option Addr) (cap : Nat) (w : World) :
    Calls Tryd.prog 41 #[.slice o 0 cap] w fun e w' => e = .returned (.bool false) ∧ w' = w := by
  go_enter Tryd.func41, Tryd.ntmps41
  go_wp2_with fail
  go_loopw [3] (fun i wr => i = .int .i64 0 ∧ wr = w) (fun _ _ => 0)
  case atStart => exact ⟨rfl, rfl⟩
  case round =>
    obtain ⟨rfl, rfl⟩ := hrel
    go_wp2
    go_ret
    exact ⟨rfl, rfl⟩
def LabelsSays (d : Nat) : Prop := ∀ (v : Value) (l : IL d) (w : World), At w d v l →
    Calls Tryd.prog 41 #[v] w fun e w' => e = .returned (.bool (lab d l)) ∧ w' = w

set_option maxHeartbeats 1000000 in
theorem refLabelsS (d : Nat) (IH : LabelsSays d) (v : Value) (l : List (Ins (IL d))) (w : World) (hAt : Row 7 (InsAt w (At w d)) v l) :
    Calls Tryd.prog 41 #[v] w fun e w' => e = .returned (.bool (l.any fun x => decide (4096 < x.labels.length) || lab d x.body || lab d x.els)) ∧ w' = w := by
  have hlen := hAt.1
  by_cases hz : l.length = 0
  · obtain ⟨o, cap, rfl⟩ := hAt.len
    rw [hz]
    obtain rfl : l = [] := List.length_eq_zero_iff.1 hz
    exact refLabels0 o cap w
  obtain ⟨b, off, cap, rfl, hx⟩ := hAt.some (by omega)
  obtain ⟨R, hR⟩ : ∃ R, R = l.any fun x => decide (4096 < x.labels.length) || lab d x.body || lab d x.els := ⟨_, rfl⟩
  rw [← hR]
  have HR : Hid (R = (l.drop 0).any fun x => decide (4096 < x.labels.length) || lab d x.body || lab d x.els) := hR
  have HX := hideD hx
  clear hx hAt hR
  generalize hn : l.length = n at *
  go_enter Tryd.func41, Tryd.ntmps41
  go_wp2_with fail
  go_loopw [3] (fun i wr => ∃ k : Nat, k ≤ n ∧ i = .int .i64 k ∧ R = ((l.drop k).any fun x => decide (4096 < x.labels.length) || lab d x.body || lab d x.els) ∧ wr = w) (fun i _ => n - (intOf i).toNat)
  case atStart => exact ⟨0, by omega, rfl, HR.out, rfl⟩
  case round =>
    obtain ⟨k, hk, rfl, hrr, rfl⟩ := hrel
    have HK := hideD hrr
    clear hrr
    by_cases hgo : k < n
    · obtain ⟨x, hxk⟩ : ∃ x, l[k]? = some x := ⟨_, List.getElem?_eq_getElem (by omega)⟩
      have hI := HX.out k x hxk
      obtain ⟨vl, cl, al⟩ := hI.labels
      obtain ⟨ol, capl, rfl⟩ := al.len
      obtain ⟨vb, cb, ab⟩ := hI.body
      obtain ⟨ve, ce, ae⟩ := hI.els
      have HN := any_on hxk HK.out
      have i1 := hideD (IH vb x.body wr ab)
      have i2 := hideD (IH ve x.els wr ae)
      have hll := al.1
      clear hI hxk ab ae HK al
      generalize x.labels.length = nl at *
      by_cases h1 : 4096 < nl
      · have hfin : R = true := by rw [HN, decide_eq_true h1]; rfl
        clear HN
        go_wp2
        go_ret
        exact ⟨rfl, rfl⟩
      · rw [decide_eq_false h1, Bool.false_or] at HN
        generalize lab d x.body = r1 at *
        generalize lab d x.els = r2 at *
        have HN' := hideD HN
        clear HN
        go_wp2_with fail
        refine i1.out.mono ?_
        rintro e w1 ⟨rfl, rfl⟩
        cases r1
        · go_wp2_with fail
          refine i2.out.mono ?_
          rintro e w1 ⟨rfl, rfl⟩
          cases r2
          · go_wp2
            go_roundw
            case rel => exact ⟨k + 1, by omega, by go_num, by rw [HN'.out]; rfl, trivial⟩
            case measure => simp [intOf]; omega
          · have hfin : R = true := by rw [HN'.out]; rfl
            go_wp2
            go_ret
            exact ⟨by rw [hfin]; rfl, rfl⟩
        · have hfin : R = true := by rw [HN'.out]; rfl
          go_wp2
          go_ret
          exact ⟨by rw [hfin]; rfl, rfl⟩
    · have HE := any_end (by omega) HK.out
      clear HK
      go_wp2
      go_ret
      exact ⟨by rw [HE]; rfl, rfl⟩
theorem refLabels : ∀ (d : Nat), LabelsSays d
  | 0 => fun v l w ⟨o, cap, hv⟩ => by
    subst hv
    exact refLabels0 o cap w
  | d + 1 => fun v l w hAt => refLabelsS d (refLabels d) v l w hAt

set_option maxHeartbeats 1000000 in
theorem refDeep0 (o : Option Addr) (cap at_ : Nat) (w : World) :
    Calls Tryd.prog 42 #[.slice o 0 cap, .int .i64 at_] w fun e w' => e = .returned (.bool false) ∧ w' = w := by
  go_enter Tryd.func42, Tryd.ntmps42
  go_wp2_with fail
  go_loopw [5] (fun i wr => i = .int .i64 0 ∧ wr = w) (fun _ _ => 0)
  case atStart => exact ⟨rfl, rfl⟩
  case round =>
    obtain ⟨rfl, rfl⟩ := hrel
    go_wp2
    go_ret
    exact ⟨rfl, rfl⟩
def DeepSays (d : Nat) : Prop := ∀ (v : Value) (l : IL d) (at_ : Nat) (w : World), At w d v l → at_ ≤ 65 →
    Calls Tryd.prog 42 #[v, .int .i64 at_] w fun e w' => e = .returned (.bool (dp d l at_)) ∧ w' = w

set_option maxHeartbeats 1000000 in
theorem refDeepS (d : Nat) (IH : DeepSays d) (v : Value) (l : List (Ins (IL d))) (at_ : Nat) (w : World) (hAt : Row 7 (InsAt w (At w d)) v l) (ha : at_ ≤ 65) :
    Calls Tryd.prog 42 #[v, .int .i64 at_] w fun e w' => e = .returned (.bool ((decide (0 < l.length) && decide (64 < at_)) || l.any fun x => dp d x.body (at_ + 1) || dp d x.els (at_ + 1))) ∧ w' = w := by
  have hlen := hAt.1
  by_cases hz : l.length = 0
  · obtain ⟨o, cap, rfl⟩ := hAt.len
    rw [hz]
    obtain rfl : l = [] := List.length_eq_zero_iff.1 hz
    exact refDeep0 o cap at_ w
  obtain ⟨b, off, cap, rfl, hx⟩ := hAt.some (by omega)
  have hpos : decide (0 < l.length) = true := by simp; omega
  rw [hpos, Bool.true_and]
  by_cases h64 : 64 < at_
  · rw [decide_eq_true h64, Bool.true_or]
    clear hx hAt hpos
    generalize l.length = n at *
    go_enter Tryd.func42, Tryd.ntmps42
    go_wp2
    go_ret
    exact ⟨rfl, rfl⟩
  rw [decide_eq_false h64, Bool.false_or]
  obtain ⟨R, hR⟩ : ∃ R, R = l.any fun x => dp d x.body (at_ + 1) || dp d x.els (at_ + 1) := ⟨_, rfl⟩
  rw [← hR]
  have HR : Hid (R = (l.drop 0).any fun x => dp d x.body (at_ + 1) || dp d x.els (at_ + 1)) := hR
  have HX := hideD hx
  clear hx hAt hR hpos
  have e1 : ((at_ + 1 : Nat) : Int) = (at_ : Int) + 1 := by omega
  generalize hn : l.length = n at *
  go_enter Tryd.func42, Tryd.ntmps42
  go_wp2_with fail
  go_loopw [5] (fun i wr => ∃ k : Nat, k ≤ n ∧ i = .int .i64 k ∧ R = ((l.drop k).any fun x => dp d x.body (at_ + 1) || dp d x.els (at_ + 1)) ∧ wr = w) (fun i _ => n - (intOf i).toNat)
  case atStart => exact ⟨0, by omega, rfl, HR.out, rfl⟩
  case round =>
    obtain ⟨k, hk, rfl, hrr, rfl⟩ := hrel
    have HK := hideD hrr
    clear hrr
    by_cases hgo : k < n
    · obtain ⟨x, hxk⟩ : ∃ x, l[k]? = some x := ⟨_, List.getElem?_eq_getElem (by omega)⟩
      have hI := HX.out k x hxk
      obtain ⟨vb, cb, ab⟩ := hI.body
      obtain ⟨ve, ce, ae⟩ := hI.els
      have HN := any_on hxk HK.out
      have j1 := IH vb x.body (at_ + 1) wr ab (by omega)
      have j2 := IH ve x.els (at_ + 1) wr ae (by omega)
      rw [e1] at j1 j2
      have i1 := hideD j1
      have i2 := hideD j2
      clear hI hxk ab ae HK j1 j2 e1
      generalize dp d x.body (at_ + 1) = r1 at *
      generalize dp d x.els (at_ + 1) = r2 at *
      have HN' := hideD HN
      clear HN
      go_wp2_with fail
      refine i1.out.mono ?_
      rintro e w1 ⟨rfl, rfl⟩
      cases r1
      · go_wp2_with fail
        refine i2.out.mono ?_
        rintro e w1 ⟨rfl, rfl⟩
        cases r2
        · go_wp2
          go_roundw
          case rel => exact ⟨k + 1, by omega, by go_num, by rw [HN'.out]; rfl, trivial⟩
          case measure => simp [intOf]; omega
        · have hfin : R = true := by rw [HN'.out]; rfl
          go_wp2
          go_ret
          exact ⟨by rw [hfin]; rfl, rfl⟩
      · have hfin : R = true := by rw [HN'.out]; rfl
        go_wp2
        go_ret
        exact ⟨by rw [hfin]; rfl, rfl⟩
    · have HE := any_end (by omega) HK.out
      clear HK
      go_wp2
      go_ret
      exact ⟨by rw [HE]; rfl, rfl⟩
theorem refDeep : ∀ (d : Nat), DeepSays d
  | 0 => fun v l at_ w ⟨o, cap, hv⟩ _ => by
    subst hv
    exact refDeep0 o cap at_ w
  | d + 1 => fun v l at_ w hAt ha => refDeepS d (refDeep d) v l at_ w hAt ha
end Go.Proofs.YtmedpblpcfobdaaDoor
