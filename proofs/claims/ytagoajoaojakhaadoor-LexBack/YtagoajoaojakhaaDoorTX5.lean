/- Tokens as a text: the program's Text, walked. -/
import Derived.Test.YtagoajoaojakhaaDoorTX4
namespace Go.Proofs.YtagoajoaojakhaaDoor
open Go.RowKit Lx
set_option linter.unusedVariables false
namespace Lx
/-- what is asked of tokens: no text too long, numbers of 64 bits -/
def TkB (l : List Tk) : Prop := ∀ t ∈ l, t.x.size ≤ 140737488355328 ∧ -9223372036854775808 ≤ t.n ∧ t.n ≤ 9223372036854775807
theorem tB {j n : Nat} (h : j < n) (hn : n ≤ 4096) : decide ((j : Int) < (n : Int)) = true ∧ wrap64 ((j : Int) + 1) = ((j + 1 : Nat) : Int) := by
  refine ⟨decide_eq_true (by omega), ?_⟩
  unfold wrap64; omega
theorem bld0 (w : World) : IsB w.heap.size w.heap.size [] (w.alloc (.cells #[.pointer none, .slice none 0 0] 39)) := Lib.fresh_isBuilder 39 5 w
theorem spB {k : Int} {x : ByteArray} {n : Int} (h : x.size ≤ 140737488355328) : (spl k x n).size ≤ 281474976710656 ∨ k = 4 := by
  unfold spl
  split
  · rw [size_quote]; exact .inl (by omega)
  · split
    · exact .inr (by assumption)
    · exact .inl (by omega)
theorem itB {n : Int} (h0 : -9223372036854775808 ≤ n) (h1 : n ≤ 9223372036854775807) : (itx n).size ≤ 281474976710656 := by
  unfold itx
  rw [size_list]
  by_cases hn : n < 0
  · rw [itx_neg hn, List.length_cons]
    have := dd_len19 n.natAbs (by omega)
    omega
  · rw [itx_pos hn]
    have := dd_len19 n.toNat (by omega)
    omega
theorem spB' {k : Int} {x : ByteArray} {n : Int} (h : x.size ≤ 140737488355328) (h0 : -9223372036854775808 ≤ n) (h1 : n ≤ 9223372036854775807) : (spl k x n).size ≤ 281474976710656 := by
  rcases spB (k := k) (n := n) h with h | h
  · exact h
  · subst h; exact itB h0 h1
theorem txO {w w' : World} {R : ByteArray × Int} {s : ByteArray} {z : Int} (h : R = (s, z)) (hb : Below w.heap.size w w') : TxO w R (.returned (.tuple #[.string s, .int .i64 z])) w' := by subst h; exact ⟨rfl, hb⟩
end Lx
set_option maxRecDepth 100000 in
set_option maxHeartbeats 8000000 in
theorem pText (v : Value) (l : List Tk) (w : World) (hv : TkAt w v l) (hB : TkB l) (hWL : WL w) (hT : TP w) :
    Calls Tryd.prog 7 #[v] w (TxO w (txt l)) := by
  obtain ⟨o, c, rfl⟩ := hv.len
  by_cases h4 : 4096 < l.length
  · have hR : txt l = (⟨#[]⟩, 3) := if_pos h4
    have q0 : decide ((l.length : Int) > 4096) = true := decide_eq_true (by omega)
    rw [hR]
    clear hv hB hWL hT hR h4
    go_enter Tryd.func7, Tryd.ntmps7
    go_wp2
    go_ret2
    exact ⟨rfl, Below.refl _ _⟩
  · have q0 : decide ((l.length : Int) > 4096) = false := decide_eq_false (by omega)
    have HV := hideR hv
    have HB := hideR hB
    have HWL := hideR hWL
    have HT := hideR hT
    have H4 := hideR h4
    have HI0 := hideR (bld0 w)
    have HW0 := hideR ((Below.refl w.heap.size w).alloc (Nat.le_refl _) (.cells #[.pointer none, .slice none 0 0] 39))
    clear hv hB hWL hT h4
    go_enter Tryd.func7, Tryd.ntmps7
    go_wp2_with fail
    go_loopw [13] (fun x wx => ∃ k : Nat, x = .int .i64 k ∧ k ≤ l.length ∧ Hid (∀ t ∈ l.take k, gdK t = true) ∧ Hid (IsB w.heap.size w.heap.size (jnL (l.take k)) wx) ∧ Hid (Below w.heap.size w wx)) (fun x _ => match x with | .int _ k => l.length - k.toNat | _ => 0)
    case atStart => exact ⟨0, rfl, Nat.zero_le _, hideR (fun t ht => by simp at ht), HI0, HW0⟩
    case round =>
      obtain ⟨k, rfl, hk, HG, HI, HW⟩ := hrel
      clear HI0 HW0
      by_cases hkl : k < l.length
      · obtain ⟨q1, hw1⟩ := tB hkl (by have := H4.out; omega)
        obtain ⟨tt, ht⟩ : ∃ t, l[k]? = some t := ⟨_, List.getElem?_eq_getElem hkl⟩
        obtain ⟨hxz, hn0, hn1⟩ := HB.out tt (List.mem_of_getElem? ht)
        obtain ⟨g, cg, hvg, hcells⟩ := (HV.out.on HW.out).some (by omega)
        injection hvg with ho2 _ hcg
        subst ho2
        have y0 : wr.cell? ⟨g, k * 4, none⟩ = some (.int .i64 tt.k) := hcells k tt ht 0 _ rfl
        have y1 : wr.cell? ⟨g, k * 4 + 1, none⟩ = some (.string tt.x) := hcells k tt ht 1 _ rfl
        have y2 : wr.cell? ⟨g, k * 4 + 2, none⟩ = some (.int .i64 tt.n) := hcells k tt ht 2 _ rfl
        have y3 : wr.cell? ⟨g, k * 4 + 3, none⟩ = some (.int .i64 tt.a) := hcells k tt ht 3 _ rfl
        have HJ := hideR (jn_take ht)
        have HTK := hideR (fun hg => taken HG.out ht hg)
        have HBad := hideR (fun hg => txt_bad H4.out ht hg)
        have hgk : gdK tt = mkT (spl tt.k tt.x tt.n) tt.k tt.x tt.n := (mk_gd _ _ _).symm
        have HSz := hideR (fun (hg : gdK tt = true) => spl_size (k := tt.k) (x := tt.x) (n := tt.n) hg)
        have HSpz := hideR (spB' (k := tt.k) hxz hn0 hn1)
        have HJz := hideR (jn_len _ HG.out)
        have hsk : spK tt = spl tt.k tt.x tt.n := rfl
        rw [hsk] at HJ
        rw [hgk] at HTK HBad HSz
        obtain ⟨tk, tx, tn, ta⟩ := tt
        simp only at y0 y1 y2 y3 hxz hn0 hn1 HJ HTK HBad HSz HSpz
        have z1 : g < wr.heap.size := World.block_lt_of_cell? _ _ y0
        have HA := hideR (tA wr tk tx tn ta 25)
        have HSp := hideR (pSpell tk tx tn ta hxz hn0 hn1 _ (HT.out.on (below_go HW.out HA.out)))
        have HMk := fun (u : World) (hb : Below w.heap.size w u) => hideR (pMakes (spl tk tx tn) tk tx tn ta HSpz.out u (HWL.out.on hb))
        generalize mkT (spl tk tx tn) tk tx tn = M at *
        generalize spl tk tx tn = S at *
        clear ht hcells hcg hgk hsk hxz hn0 hn1
        go_wp2_with fail
        refine Calls.mono (show Calls _ _ _ _ _ from HSp.out) ?_
        rintro e u1 ⟨rfl, hb1⟩
        have HB1 := hideR (below_go (below_go HW.out HA.out) hb1)
        obtain ⟨hlt, c0, c1, c2, c3⟩ := box_cells hb1
        have HI1 := hideR ((HI.out.on HA.out).on hb1)
        clear hb1 HSp y0 y1 y2 y3 z1
        go_wp2_with fail
        refine Calls.mono (show Calls _ _ _ _ _ from (HMk _ HB1.out).out) ?_
        rintro e u2 ⟨rfl, hb2⟩
        have HB2 := hideR (below_go HB1.out hb2)
        have HI2 := hideR (HI1.out.on hb2)
        clear hb2 HMk HI1 HI c0 c1 c2 c3 hlt
        cases M with
        | false =>
          have HR := hideR (HBad.out rfl)
          clear HBad
          go_wp2
          go_ret2
          exact txO HR.out HB2.out
        | true =>
          have HG3 := hideR (HTK.out rfl)
          have hsz := HSz.out rfl
          have hjz : (jnL (l.take k)).length ≤ 140000 := by
            have h1 := HJz.out
            rw [List.length_take, Nat.min_eq_left hk] at h1
            have := H4.out
            omega
          have HJz2 := hideR hjz
          have HSz2 := hideR hsz
          clear hjz hsz HJz HSz HTK HBad
          rcases Nat.eq_zero_or_pos k with h0 | h0
          · have q2 : ¬ 0 < k := by omega
            have hj0 : jnL (l.take k) = [] := by rw [h0, List.take_zero]; rfl
            have hj1 := HJ.out
            rw [if_pos h0] at hj1
            have hI2 := HI2.out
            rw [hj0] at hI2
            have HWS := hideR (sWriteS w.heap.size w.heap.size [] S u2 hI2 (by have := HSz2.out; simp; omega) HB2.out.size)
            have HJ1 := hideR hj1
            clear hj0 hj1 hI2 HJ HI2 h0
            go_wp2_with fail
            refine Calls.mono (show Calls _ _ _ _ _ from HWS.out) ?_
            rintro e u3 ⟨rfl, hb3, hw3⟩
            have HI3 : Hid (IsB w.heap.size w.heap.size (jnL (l.take (k + 1))) u3) := hideR (by rw [HJ1.out]; exact hb3)
            have HW3 := hideR (HB2.out.trans hw3)
            clear hb3 hw3 HWS
            go_wp2
            go_roundw
            case rel => exact ⟨k + 1, by first | rfl | (congr 1), hkl, HG3, HI3, HW3⟩
            case measure => clear hw1 q1; simp; omega
          · have q2 : 0 < k := h0
            have hj1 := HJ.out
            rw [if_neg (by omega)] at hj1
            have HWB := hideR (sWriteB w.heap.size w.heap.size (jnL (l.take k)) 32 u2 HI2.out (by have := HJz2.out; omega) HB2.out.size)
            have h32 : (((32 : UInt8).toNat : Nat) : Int) = 32 := rfl
            rw [h32] at HWB
            have HJ1 := hideR hj1
            clear hj1 HJ h32 h0
            go_wp2_with fail
            refine Calls.mono (show Calls _ _ _ _ _ from HWB.out) ?_
            rintro e u3 ⟨rfl, hb3, hw3⟩
            have HW3 := hideR (HB2.out.trans hw3)
            have HWS := hideR (sWriteS w.heap.size w.heap.size (jnL (l.take k) ++ [32]) S u3 hb3 (by have := HSz2.out; have := HJz2.out; simp; omega) HW3.out.size)
            clear hb3 hw3 HWB
            go_wp2_with fail
            refine Calls.mono (show Calls _ _ _ _ _ from HWS.out) ?_
            rintro e u4 ⟨rfl, hb4, hw4⟩
            have HI4 : Hid (IsB w.heap.size w.heap.size (jnL (l.take (k + 1))) u4) := hideR (by rw [HJ1.out]; exact hb4)
            have HW4 := hideR (HW3.out.trans hw4)
            clear hb4 hw4 HWS
            go_wp2
            go_roundw
            case rel => exact ⟨k + 1, by first | rfl | (congr 1), hkl, HG3, HI4, HW4⟩
            case measure => simp only [hw1]; clear hw1 q1; simp; omega
      · have hkL : k = l.length := by omega
        have q1 := aK l.length k hkl
        have hI := HI.out
        have hG := HG.out
        rw [hkL, List.take_length] at hI hG
        have HR := hideR (txt_ok H4.out hG)
        have HL := hideR (sLen w.heap.size w.heap.size (jnL l) wr hI)
        have HS := hideR (sString w.heap.size w.heap.size (jnL l) wr hI HW.out.size)
        clear hI hG HI HG hkL
        generalize jnL l = J at *
        by_cases h8 : 8192 < J.length
        · have q2 : decide ((J.length : Int) > 8192) = true := decide_eq_true (by omega)
          have hR := HR.out
          rw [if_pos h8] at hR
          have HR2 := hideR hR
          clear hR HR HS h8
          go_wp2_with fail
          refine Calls.mono (show Calls _ _ _ _ _ from HL.out) ?_
          rintro e u1 ⟨rfl, rfl⟩
          go_wp2
          go_ret2
          exact txO HR2.out HW.out
        · have q2 : decide ((J.length : Int) > 8192) = false := decide_eq_false (by omega)
          have hR := HR.out
          rw [if_neg h8] at hR
          have HR2 := hideR hR
          clear hR HR h8
          go_wp2_with fail
          refine Calls.mono (show Calls _ _ _ _ _ from HL.out) ?_
          rintro e u1 ⟨rfl, rfl⟩
          go_wp2_with fail
          refine Calls.mono (show Calls _ _ _ _ _ from HS.out) ?_
          rintro e u2 ⟨rfl, hb2⟩
          have HW2 := hideR (HW.out.trans hb2)
          clear hb2 HS
          go_wp2
          go_ret2
          exact txO HR2.out HW2.out
end Go.Proofs.YtagoajoaojakhaaDoor
