/- Tokens: the program's Lex. -/
import Derived.Test.YtppjjbpiefkjlaaDoorA10s
import Derived.Test.YtppjjbpiefkjlaaDoorA11
namespace Go.Proofs.YtppjjbpiefkjlaaDoor
open Go.RowKit Lx
set_option linter.unusedVariables false
namespace Lx
theorem aR {a b n : Nat} (h : a + b ≤ n) (hn : n ≤ 8192) : wrap64 ((a : Int) + (b : Int)) = ((a + b : Nat) : Int) ∧ (a : Int) + (b : Int) = ((a + b : Nat) : Int) := by
  unfold wrap64; omega
theorem aV {n m : Nat} (h : m ≤ n) (hn : n ≤ 8192) : wrap64 (m : Int) = (m : Int) := by unfold wrap64; omega
theorem aS2 {n i f g e p : Nat} (h : n ≤ i + f) (hg : f = g + 1) (h1 : e ≤ p) (h2 : i < e) : n ≤ p + g := by omega
end Lx
set_option maxRecDepth 100000 in
set_option maxHeartbeats 8000000 in
theorem pLex (s : ByteArray) (w : World) (hWL : WL w) : Calls Tryd.prog 7 #[.string s] w (LexR w (lx s)) := by
  by_cases hbig : 8192 < s.size
  · have hR : lx s = ([], 0, 2) := if_pos hbig
    have HR := hideR hR
    have q0 : decide ((s.size : Int) > 8192) = true := decide_eq_true (by omega)
    generalize lx s = R at *
    clear hR
    go_enter Tryd.func7, Tryd.ntmps7
    go_wp2
    refine bodyPost_ret (results_tmp3 rfl _ _ _) rfl ?_
    exact lexR_nil HR.out (Below.refl _ _)
  · have hR : lx s = lxF s s.size (sk s false 0) [] := if_neg hbig
    have q0 : decide ((s.size : Int) > 8192) = false := decide_eq_false (by omega)
    obtain ⟨R, hR'⟩ : ∃ R, R = lx s := ⟨_, rfl⟩
    rw [← hR'] at hR ⊢
    have st0 : Hid (lxF s s.size (sk s false 0) [] = R) := hideR hR.symm
    have hsz : s.size ≤ 8192 := by omega
    have HSk := hideR (pGap s w)
    have hsk := sk_le s false (Nat.zero_le s.size)
    have HSz := hideR hsz
    obtain ⟨i0, hi, hz0, hz1, hz2⟩ := info_parts infoTk
    obtain ⟨p0, hp0⟩ : ∃ p, p = sk s false 0 := ⟨_, rfl⟩
    rw [← hp0] at HSk st0 hsk
    clear hR hR' hp0
    go_enter Tryd.func7, Tryd.ntmps7
    go_wp2_with fail
    refine HSk.out.mono ?_
    rintro e u0 ⟨rfl, hbg⟩
    have HBG := hideR hbg
    clear hbg
    go_wp2_with fail
    go_loopw [5, 6] (fun tv av w' => ∃ (acc : List Tk) (i f : Nat), av = .int .i64 i ∧ i ≤ s.size ∧ w'.ownsRow w.heap.size 32 4 tv acc.length (flat acc) ∧ Below w.heap.size w w' ∧ acc.length ≤ 4096 ∧ Hid (s.size ≤ i + f) ∧ Hid (lxF s f i acc = R)) (fun _ av _ => match av with | .int _ k => s.size - k.toNat | _ => 0)
    case atStart => exact ⟨[], p0, s.size, rfl, hsk, World.ownsRow_nil _ _ _ _, HBG.out, by simp, hideR (by omega), st0⟩
    case round =>
      obtain ⟨acc, i, f, rfl, hle, hown, hbel, hlen, hf, hR⟩ := hrel
      clear st0 HSk hsk HBG
      by_cases hp : i < s.size
      · have q1 := aJ s.size i hp HSz.out
        obtain ⟨g, hg, hst⟩ := lxF_step s f i acc hp hf.out
        rw [hR.out] at hst
        obtain ⟨tx, htx⟩ : ∃ t, t = s.extract i s.size := ⟨_, rfl⟩
        have htz : 0 < tx.size ∧ tx.size ≤ s.size := by rw [htx, size_from]; omega
        have hofr := one_from s i hp
        rw [← htx] at hofr
        have HO := hideR (pFirst tx htz.1 (Nat.lt_of_le_of_lt htz.2 (by omega)) (Nat.le_trans htz.2 (by omega)) wr (hWL.on hbel))
        have hsl : s.extract i s.size = tx := htx.symm
        clear htz htx
        obtain ⟨o5, c5, hv5⟩ : ∃ o c, u5 = .slice o acc.length c := by
          rcases hown.2 with ⟨h1, h2⟩ | ⟨g, cap, cur, h1, _⟩
          · exact ⟨none, 0, by rw [h1, h2]⟩
          · exact ⟨_, _, h1⟩
        cases ho : one tx 0 with
        | error z =>
          rw [hofr, ho] at hst
          rw [ho] at HO
          obtain ⟨q2, q3⟩ := aN (one_err ho)
          have HR := hideR (show R = ([], (i : Int), z) from hst)
          have HB := hideR hbel
          subst hv5
          clear hst ho hofr hR hf hown hbel hg
          go_wp2_with fail
          refine Calls.mono (show Calls _ _ _ _ _ from HO.out) ?_
          rintro e u ⟨rfl, hb⟩
          have HB2 := hideR (below_go HB.out hb)
          simp only [oOut]
          clear hb HO
          go_wp2
          refine bodyPost_ret (results_tmp3 rfl _ _ _) rfl ?_
          exact lexR_nil HR.out (HB2.out.alloc (HB2.out.size) _)
        | ok r =>
          obtain ⟨k, x, n, e'⟩ := r
          have hoe : one s i = .ok (k, x, n, i + e') := by rw [hofr, ho]; rfl
          obtain ⟨he1, he2⟩ := one_end hp hoe
          rw [hoe] at hst
          rw [ho] at HO
          clear hofr
          by_cases h4 : acc.length = 4096
          · have q2 := aL h4
            have HR := hideR (show R = ([], (i : Int), 3) from by rw [hst]; exact if_pos h4)
            have HB := hideR hbel
            subst hv5
            clear hst ho hoe hR hf hown hbel hg he1 he2
            go_wp2_with fail
            refine Calls.mono (show Calls _ _ _ _ _ from HO.out) ?_
            rintro e u ⟨rfl, hb⟩
            have HB2 := hideR (below_go HB.out hb)
            simp only [oOut]
            clear hb HO
            go_wp2
            refine bodyPost_ret (results_tmp3 rfl _ _ _) rfl ?_
            exact lexR_nil HR.out (HB2.out.alloc (HB2.out.size) _)
          · have q2 := aM h4
            have HR := hideR (show R = lxF s g (sk s false (i + e')) (acc ++ [⟨k, x, n, i⟩]) from by rw [hst]; exact if_neg h4)
            have HB := hideR hbel
            have HOW := hideR hown
            obtain ⟨e2, hE2⟩ : ∃ e2, e2 = i + e' := ⟨_, rfl⟩
            obtain ⟨hwa, hwa2⟩ := aR he2 HSz.out
            rw [← hE2] at hwa hwa2 HR he1 he2
            obtain ⟨t2, ht2⟩ : ∃ t, t = s.extract e2 s.size := ⟨_, rfl⟩
            have hsl2 : s.extract e2 s.size = t2 := ht2.symm
            have HSk := fun (u : World) => hideR (pGap t2 u)
            have hs0 := sk_ge s false e2
            have hs1 := sk_le s false he2
            have hfr := sk_from s e2 he2 false
            rw [← ht2] at hfr
            obtain ⟨p1, hp1⟩ : ∃ p, p = sk s false e2 := ⟨_, rfl⟩
            rw [← hp1] at HR hs0 hs1 hfr
            generalize sk t2 false 0 = d2 at *
            have hwb : wrap64 ((e2 : Int) + (d2 : Int)) = (p1 : Int) := by rw [(aR (by rw [hfr]; exact hs1) HSz.out).1, hfr]
            have hwb2 : (e2 : Int) + (d2 : Int) = (p1 : Int) := by rw [(aR (by rw [hfr]; exact hs1) HSz.out).2, hfr]
            have he2k := he2
            have HWP := hideR (aV hs1 HSz.out)
            have HG : Hid (s.size ≤ p1 + g) := hideR (aS2 hf.out hg hs0 he1)
            have HL : Hid (acc.length + 1 ≤ 4096) := hideR (by omega)
            have HE : Hid (e2 ≤ p1 ∧ p1 ≤ s.size ∧ i < e2) := hideR ⟨hs0, hs1, he1⟩
            clear hst ho hoe hR hf hown hbel hg hp1 hs0 hs1 he1 he2 hlen hfr ht2 hE2
            subst hv5
            go_wp2_with fail
            refine Calls.mono (show Calls _ _ _ _ _ from HO.out) ?_
            rintro e u ⟨rfl, hb⟩
            have HB2 := hideR (below_go HB.out hb)
            have HO2 := hideR (own_on HOW.out hb)
            simp only [oOut]
            clear hb HO HOW HB
            go_wp2_with (first | (at_builtin; refine wpList_append_own _ rfl _ _ 23 rfl w.heap.size 32 i0 _ 4 40 Tryd.underlying23 hi hz0 hz1 hz2 rfl (by decide) _ acc.length (flat acc) rfl ((HO2.out.alloc _).alloc _) ⟨u.heap.size + 1, 0, none⟩ 1 1 [.int .i64 k, .string x, .int .i64 n, .int .i64 i] rfl rfl ?c1 ?c2 ?c3 ?c4 ?c5 ?c6))
            case c1 => exact new4' _ _ (by simp) _ _ _ _ _
            case c2 => exact one4 k x n i
            case c3 => exact (aP _ HL.out).1
            case c4 => exact (aP _ HL.out).2
            case c5 => exact aQ HB2.out _ _
            case c6 =>
              intro v' w9 hown' hgr _
              have HB3 := hideR (bel_two HB2.out HO2.out _ _ hgr)
              have HO3 := hideR (own_snoc hown')
              clear hown' hgr HB2 HO2
              go_wp2_with fail
              refine (HSk _).out.mono ?_
              rintro e u9 ⟨rfl, hb9⟩
              have HB4 := hideR (below_go HB3.out hb9)
              have HO4 := hideR (own_on HO3.out hb9)
              clear HSk hb9 HB3 HO3
              go_wp2
              go_roundw
              case rel => exact ⟨acc ++ [⟨k, x, n, i⟩], p1, g, congrArg (Value.int .i64) HWP.out, HE.out.2.1, HO4.out, HB4.out, by rw [List.length_append]; exact HL.out, HG, hideR HR.out.symm⟩
              case measure => clear hwa hwa2 hwb hwb2; have h1 := HE.out; simp only [HWP.out]; clear HWP; simp; omega
      · have q1 := aK s.size i hp
        have HR := hideR (hR.out.symm.trans (lxF_end s f i acc hp))
        have HOW := hideR hown
        have HB := hideR hbel
        clear hR hf hown hbel
        go_wp2
        refine bodyPost_ret (results_tmp3 rfl _ _ _) rfl ?_
        exact lexR_own HR.out HB.out HOW.out
end Go.Proofs.YtppjjbpiefkjlaaDoor

