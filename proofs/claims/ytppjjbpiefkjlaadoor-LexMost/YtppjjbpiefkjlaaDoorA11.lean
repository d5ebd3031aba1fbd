/- Tokens: lists of them, as they lie; the document's Lex. -/
import Derived.Test.YtppjjbpiefkjlaaDoorA9
import Derived.Laws.AppendOwn
import Derived.OwnWalk
namespace Go.Proofs.YtppjjbpiefkjlaaDoor
open Go.RowKit Lx
set_option linter.unusedVariables false
namespace Lx
def cs4 (t : Tk) : List Value := [.int .i64 t.k, .string t.x, .int .i64 t.n, .int .i64 t.a]
def flat : List Tk → List Value
  | [] => []
  | t :: l => cs4 t ++ flat l
theorem flat_app : ∀ (l m : List Tk), flat (l ++ m) = flat l ++ flat m
  | [], m => rfl
  | t :: l, m => by rw [List.cons_append, flat, flat, flat_app l m, List.append_assoc]
theorem flat_len : ∀ (l : List Tk), (flat l).length = l.length * 4
  | [] => rfl
  | t :: l => by rw [flat, List.length_append, flat_len l, List.length_cons]; show 4 + _ = _; omega
theorem flat_at : ∀ (l : List Tk) (i : Nat) (t : Tk), l[i]? = some t → ∀ j, j < 4 → (flat l)[i * 4 + j]? = (cs4 t)[j]?
  | [], i, t, h, _, _ => by simp at h
  | x :: l, 0, t, h, j, hj => by
    simp at h
    subst h
    rw [flat, Nat.zero_mul, Nat.zero_add, List.getElem?_append_left (show j < (cs4 x).length from hj)]
  | x :: l, i + 1, t, h, j, hj => by
    have h' : l[i]? = some t := by simpa using h
    rw [flat, List.getElem?_append_right (show (cs4 x).length ≤ (i + 1) * 4 + j by show 4 ≤ _; omega), show (i + 1) * 4 + j - (cs4 x).length = i * 4 + j by show (i + 1) * 4 + j - 4 = _; omega]
    exact flat_at l i t h' j hj
/-- tokens as they lie -/
def TkAt (w : World) (v : Value) (l : List Tk) : Prop :=
  (v = .slice none 0 0 ∧ l = []) ∨ ∃ g c, v = .slice (some ⟨g, 0, none⟩) l.length c ∧ ∀ i t, l[i]? = some t → ∀ j u, (cs4 t)[j]? = some u → w.cell? ⟨g, i * 4 + j, none⟩ = some u
theorem TkAt.nil (w : World) : TkAt w (.slice none 0 0) [] := .inl ⟨rfl, rfl⟩
theorem TkAt.on {w w' : World} {v : Value} {l : List Tk} (h : TkAt w v l) (hb : Below w.heap.size w w') : TkAt w' v l := by
  rcases h with h | ⟨g, c, h1, h2⟩
  · exact .inl h
  · refine .inr ⟨g, c, h1, fun i t hi j u hj => ?_⟩
    have hc := h2 i t hi j u hj
    have hlt : g < w.heap.size := by
      unfold World.cell? at hc
      rcases Nat.lt_or_ge g w.heap.size with hl | hl
      · exact hl
      · rw [Array.getElem?_eq_none hl] at hc; cases hc
    unfold World.cell? at hc ⊢
    rw [hb.block g hlt]
    exact hc
theorem tkAt_own {w : World} {B : Nat} {e : TypeId} {v : Value} {l : List Tk} (h : w.ownsRow B e 4 v l.length (flat l)) : TkAt w v l := by
  rcases h.2 with ⟨h1, h2⟩ | ⟨g, cap, cur, rfl, _, hg, _, _, hs, ht⟩
  · exact .inl ⟨h1, List.eq_nil_of_length_eq_zero h2⟩
  · refine .inr ⟨g, cap, rfl, fun i t hi j u hj => ?_⟩
    have h4 : j < 4 := (List.getElem?_eq_some_iff.1 hj).1
    have hf := (flat_at l i t hi j h4).trans hj
    have hc := h.cells (g := g) rfl _ _ hf
    rw [Addr.add_mid, Nat.zero_add] at hc
    exact hc
theorem own_on {w w' : World} {B : Nat} {e : TypeId} {n : Nat} {v : Value} {xs : List Value} (h : w.ownsRow B e 4 v n xs) (hb : Below w.heap.size w w') : w'.ownsRow B e 4 v n xs := by
  refine ⟨h.1, ?_⟩
  rcases h.2 with h2 | ⟨g, cap, cur, h1, h2, hg, h3⟩
  · exact .inl h2
  · exact .inr ⟨g, cap, cur, h1, h2, by rw [hb.block g (Array.getElem?_eq_some_iff.1 hg).1]; exact hg, h3⟩
theorem infoTk : (Tryd.prog.info? 32).map (fun i => (i.zero, i.size, i.bytes)) = some (some (.agg #[.int .i64 0, .string ⟨#[]⟩, .int .i64 0, .int .i64 0]), 4, 40) := by kernel_rfl
theorem one_err {s : ByteArray} {i : Nat} {z : Int} (h : one s i = .error z) : z = 2 ∨ z = 110 := by
  unfold one at h
  repeat' split at h
  all_goals first | (injection h with h; omega) | cases h
theorem new4 (w : World) (a0 a1 a2 a3 : Value) (t : TypeId) : ∀ j u, [a0, a1, a2, a3][j]? = some u → (w.alloc (.cells #[a0, a1, a2, a3] t)).cell? ((⟨w.heap.size, 0, none⟩ : Addr).add j) = some u := fun j u h => by
  rw [Addr.add_mid, Nat.zero_add, World.cell?_alloc_at _ t _ _ rfl]
  simpa using h
theorem new4' (w : World) (g : Nat) (hg : g = w.heap.size) (a0 a1 a2 a3 : Value) (t : TypeId) : ∀ j u, [a0, a1, a2, a3][j]? = some u → (w.alloc (.cells #[a0, a1, a2, a3] t)).cell? ((⟨g, 0, none⟩ : Addr).add j) = some u := by
  subst hg; exact new4 w a0 a1 a2 a3 t
theorem one4 (k : Int) (x : ByteArray) (n i : Int) : ∀ u ∈ [Value.int .i64 k, .string x, .int .i64 n, .int .i64 i], u.oneCell' = true := by simp [Value.oneCell']
theorem own_snoc {w : World} {B : Nat} {e : TypeId} {v : Value} {acc : List Tk} {k : Int} {x : ByteArray} {n i : Int} (h : w.ownsRow B e 4 v (acc.length + 1) (flat acc ++ [.int .i64 k, .string x, .int .i64 n, .int .i64 i])) : w.ownsRow B e 4 v (acc ++ [Tk.mk k x n i]).length (flat (acc ++ [Tk.mk k x n i])) := by
  rw [flat_app, List.length_append]
  exact h
theorem bel_two {w u w' : World} {v : Value} {e : TypeId} {m : Nat} {xs : List Value} (hb : Below w.heap.size w u) (ho : u.ownsRow w.heap.size e 4 v m xs) (o1 o2 : Obj) (hg : ((u.alloc o1).alloc o2).grownBy w' v.ownBlock) : Below w.heap.size w w' := by
  have h1 : Below w.heap.size w (u.alloc o1) := hb.alloc hb.size _
  have h2 : Below w.heap.size w ((u.alloc o1).alloc o2) := h1.alloc h1.size _
  exact h2.grown hg h2.size fun k hk => (ho.lt k hk).1
theorem aP (n : Nat) (h : n + 1 ≤ 4096) : n + 1 ≤ maxLen ∧ (n + 1) * 40 ≤ 140737488355328 := by unfold maxLen; omega
theorem aQ {w u : World} (h : Below w.heap.size w u) (o1 o2 : Obj) : w.heap.size ≤ ((u.alloc o1).alloc o2).heap.size := by have := h.size; simp; omega
/-- what Lex tells -/
def LexR (w : World) (R : List Tk × Int × Int) (e : Ending) (w' : World) : Prop :=
  ∃ v, e = .returned (.tuple #[v, .int .i64 R.2.1, .int .i64 R.2.2]) ∧ TkAt w' v R.1 ∧ Below w.heap.size w w'
theorem lexR_nil {w w' : World} {a z : Int} {R : List Tk × Int × Int} (hR : R = ([], a, z)) (hb : Below w.heap.size w w') : LexR w R (.returned (.tuple #[.slice none 0 0, .int .i64 a, .int .i64 z])) w' := by
  subst hR; exact ⟨_, rfl, TkAt.nil _, hb⟩
theorem lexR_own {w w' : World} {v : Value} {l : List Tk} {e : TypeId} {R : List Tk × Int × Int} (hR : R = (l, 0, 0)) (hb : Below w.heap.size w w') (ho : w'.ownsRow w.heap.size e 4 v l.length (flat l)) : LexR w R (.returned (.tuple #[v, .int .i64 0, .int .i64 0])) w' := by
  subst hR; exact ⟨_, rfl, tkAt_own ho, hb⟩
theorem aJ (n k : Nat) (h : k < n) (hn : n ≤ 8192) : decide ((k : Int) < (n : Int)) = true := decide_eq_true (by omega)
theorem aK (n k : Nat) (h : ¬ k < n) : decide ((k : Int) < (n : Int)) = false := decide_eq_false (by omega)
theorem aL {n : Nat} (h : n = 4096) : ((n : Int) == 4096) = true := beq_iff_eq.2 (by omega)
theorem aM {n : Nat} (h : ¬ n = 4096) : ((n : Int) == 4096) = false := beq_eq_false_iff_ne.2 (by omega)
theorem aN {z : Int} (h : z = 2 ∨ z = 110) : (z == 0) = false ∧ (z != 0) = true := by rcases h with rfl | rfl <;> exact ⟨rfl, rfl⟩
end Lx
set_option maxRecDepth 100000 in
set_option maxHeartbeats 8000000 in
theorem rLex (s : ByteArray) (w : World) : Calls Tryd.prog 8 #[.string s] w (LexR w (lx s)) := by
  by_cases hbig : 8192 < s.size
  · have hR : lx s = ([], 0, 2) := if_pos hbig
    have HR := hideR hR
    have q0 : decide ((s.size : Int) > 8192) = true := decide_eq_true (by omega)
    generalize lx s = R at *
    clear hR
    go_enter Tryd.func8, Tryd.ntmps8
    go_wp2
    refine bodyPost_ret (results_tmp3 rfl _ _ _) rfl ?_
    exact lexR_nil HR.out (Below.refl _ _)
  · have hR : lx s = lxF s s.size (sk s false 0) [] := if_neg hbig
    have q0 : decide ((s.size : Int) > 8192) = false := decide_eq_false (by omega)
    obtain ⟨R, hR'⟩ : ∃ R, R = lx s := ⟨_, rfl⟩
    rw [← hR'] at hR ⊢
    have st0 : Hid (lxF s s.size (sk s false 0) [] = R) := hideR hR.symm
    have hsz : s.size ≤ 8192 := by omega
    have HSk := hideR (rSkip s 0 (Nat.zero_le _) (by omega) w)
    have hsk := sk_le s false (Nat.zero_le s.size)
    have HSz := hideR hsz
    obtain ⟨i0, hi, hz0, hz1, hz2⟩ := info_parts infoTk
    obtain ⟨p0, hp0⟩ : ∃ p, p = sk s false 0 := ⟨_, rfl⟩
    rw [← hp0] at HSk st0 hsk
    clear hR hR' hp0
    go_enter Tryd.func8, Tryd.ntmps8
    go_wp2_with fail
    refine HSk.out.mono ?_
    rintro e u ⟨rfl, hu⟩
    obtain rfl : w = u := hu.symm
    go_wp2_with fail
    go_loopw [5, 6] (fun tv av w' => ∃ (acc : List Tk) (i f : Nat), av = .int .i64 i ∧ i ≤ s.size ∧ w'.ownsRow w.heap.size 32 4 tv acc.length (flat acc) ∧ Below w.heap.size w w' ∧ acc.length ≤ 4096 ∧ Hid (s.size ≤ i + f) ∧ Hid (lxF s f i acc = R)) (fun _ av _ => match av with | .int _ k => s.size - k.toNat | _ => 0)
    case atStart => exact ⟨[], p0, s.size, rfl, hsk, World.ownsRow_nil _ _ _ _, Below.refl _ _, by simp, hideR (by omega), st0⟩
    case round =>
      obtain ⟨acc, i, f, rfl, hle, hown, hbel, hlen, hf, hR⟩ := hrel
      clear st0 HSk hsk
      by_cases hp : i < s.size
      · have q1 := aJ s.size i hp HSz.out
        obtain ⟨g, hg, hst⟩ := lxF_step s f i acc hp hf.out
        rw [hR.out] at hst
        have HO := hideR (rOne s i hp (by omega) wr)
        obtain ⟨o5, c5, hv5⟩ : ∃ o c, u5 = .slice o acc.length c := by
          rcases hown.2 with ⟨h1, h2⟩ | ⟨g, cap, cur, h1, _⟩
          · exact ⟨none, 0, by rw [h1, h2]⟩
          · exact ⟨_, _, h1⟩
        cases ho : one s i with
        | error z =>
          rw [ho] at hst HO
          obtain ⟨q2, q3⟩ := aN (one_err ho)
          have HR := hideR (show R = ([], (i : Int), z) from hst)
          have HB := hideR hbel
          subst hv5
          clear hst ho hR hf hown hbel hg
          go_wp2_with fail
          refine Calls.mono (show Calls _ _ _ _ _ from HO.out) ?_
          rintro e u ⟨rfl, hb⟩
          have HB2 := hideR (below_go HB.out hb)
          simp only [oOut]
          clear hb HO
          go_wp2
          refine bodyPost_ret (results_tmp3 rfl _ _ _) rfl ?_
          exact lexR_nil HR.out (HB2.out.alloc (HB2.out.size) _)
        | ok r =>
          obtain ⟨k, x, n, e'⟩ := r
          rw [ho] at hst HO
          obtain ⟨he1, he2⟩ := one_end hp ho
          by_cases h4 : acc.length = 4096
          · have q2 := aL h4
            have HR := hideR (show R = ([], (i : Int), 3) from by rw [hst]; exact if_pos h4)
            have HB := hideR hbel
            subst hv5
            clear hst ho hR hf hown hbel hg
            go_wp2_with fail
            refine Calls.mono (show Calls _ _ _ _ _ from HO.out) ?_
            rintro e u ⟨rfl, hb⟩
            have HB2 := hideR (below_go HB.out hb)
            simp only [oOut]
            clear hb HO
            go_wp2
            refine bodyPost_ret (results_tmp3 rfl _ _ _) rfl ?_
            exact lexR_nil HR.out (HB2.out.alloc (HB2.out.size) _)
          · have q2 := aM h4
            have HR := hideR (show R = lxF s g (sk s false e') (acc ++ [⟨k, x, n, i⟩]) from by rw [hst]; exact if_neg h4)
            have HB := hideR hbel
            have HOW := hideR hown
            have HSk := fun (u : World) => hideR (rSkip s e' he2 (by omega) u)
            have hs0 := sk_ge s false e'
            have hs1 := sk_le s false he2
            obtain ⟨p1, hp1⟩ : ∃ p, p = sk s false e' := ⟨_, rfl⟩
            rw [← hp1] at HR HSk hs0 hs1
            have HG : Hid (s.size ≤ p1 + g) := hideR (by have := hf.out; omega)
            have HL : Hid (acc.length + 1 ≤ 4096) := hideR (by omega)
            have HE : Hid (e' ≤ p1 ∧ p1 ≤ s.size ∧ i < e') := hideR ⟨hs0, hs1, he1⟩
            clear hst ho hR hf hown hbel hg hp1 hs0 hs1 he1 he2 hlen
            subst hv5
            go_wp2_with fail
            refine Calls.mono (show Calls _ _ _ _ _ from HO.out) ?_
            rintro e u ⟨rfl, hb⟩
            have HB2 := hideR (below_go HB.out hb)
            have HO2 := hideR (own_on HOW.out hb)
            simp only [oOut]
            clear hb HO HOW HB
            go_wp2_with (first | (at_builtin; refine wpList_append_own _ rfl _ _ 23 rfl w.heap.size 32 i0 _ 4 40 Tryd.underlying23 hi hz0 hz1 hz2 rfl (by decide) _ acc.length (flat acc) rfl ((HO2.out.alloc _).alloc _) ⟨u.heap.size + 1, 0, none⟩ 1 1 [.int .i64 k, .string x, .int .i64 n, .int .i64 i] rfl rfl ?c1 ?c2 ?c3 ?c4 ?c5 ?c6))
            case c1 => exact new4' _ _ (by simp) _ _ _ _ _
            case c2 => exact one4 k x n i
            case c3 => exact (aP _ HL.out).1
            case c4 => exact (aP _ HL.out).2
            case c5 => exact aQ HB2.out _ _
            case c6 =>
              intro v' w9 hown' hgr _
              have HB3 := hideR (bel_two HB2.out HO2.out _ _ hgr)
              have HO3 := hideR (own_snoc hown')
              clear hown' hgr HB2 HO2
              go_wp2_with fail
              refine (HSk _).out.mono ?_
              rintro e u9 ⟨rfl, hu9⟩
              obtain rfl : w9 = u9 := hu9.symm
              clear HSk
              go_wp2
              go_roundw
              case rel => exact ⟨acc ++ [⟨k, x, n, i⟩], p1, g, rfl, HE.out.2.1, HO3.out, HB3.out, by rw [List.length_append]; exact HL.out, HG, hideR HR.out.symm⟩
              case measure => have := HE.out; simp; omega
      · have q1 := aK s.size i hp
        have HR := hideR (hR.out.symm.trans (lxF_end s f i acc hp))
        have HOW := hideR hown
        have HB := hideR hbel
        clear hR hf hown hbel
        go_wp2
        refine bodyPost_ret (results_tmp3 rfl _ _ _) rfl ?_
        exact lexR_own HR.out HB.out HOW.out
end Go.Proofs.YtppjjbpiefkjlaaDoor
