/- QJ7: several texts in one. -/
import Derived.Test.YtlpnoelolkbmmaaDoorQJ6
import Derived.Test.YtlpnoelolkbmmaaDoorK1
namespace Go.Proofs.YtlpnoelolkbmmaaDoor
open Go.RowKit Rep Val
set_option linter.unusedVariables false
namespace Val
def Bls (w : World) (v : Value) (l : List Bool) : Prop := Row 1 (fun b o (z : Bool) => w.cell? ⟨b, o, none⟩ = some (.bool z)) v l
theorem Bls.on {w w' : World} (hb : Below w.heap.size w w') {v : Value} {l : List Bool} (h : Bls w v l) : Bls w' v l := Row.imp h fun _ _ _ _ h => cell_on hb h
theorem body_snoc (bs : List Bool) (j : Nat) (b : Bool) (h : bs[j]? = some b) : dBody (bs.take (j + 1)) = dBody (bs.take j) ++ [dIns b j] := by
  have hj := (List.getElem?_eq_some_iff.1 h).1
  unfold dBody
  rw [List.take_add_one, h]
  show i0 0 0 0 :: dList (bs.take j ++ [b]) 0 = _
  rw [dList_app, Nat.zero_add, List.length_take, Nat.min_eq_left (by omega)]
  rfl
theorem lft_snoc (bs : List Bool) (j : Nat) (b : Bool) (h : bs[j]? = some b) : lft (bs.take (j + 1)) 0 = if b then lft (bs.take j) 0 - 1 else lft (bs.take j) 0 + 1 := by
  rw [List.take_add_one, h]
  exact lft_app _ b 0
theorem row_snoc {w : World} {B n : Nat} {v : Value} {l : List I0} {x : I0} (h : w.ownsRow B 26 7 v n (flat7 (l.map pz) ++ pc7 (pz x))) : w.ownsRow B 26 7 v n (flat7 ((l ++ [x]).map pz)) := by
  rw [List.map_append]; exact (flat7_snoc (l.map pz) (pz x)) ▸ h
theorem lit1 (w : World) : (w.alloc (.cells #[.int .i64 0, .int .i64 0, .int .i64 0, .int .i64 0, .slice none 0 0, .slice none 0 0, .slice none 0 0] 26)).ownsRow w.heap.size 26 7 (.slice (some ⟨w.heap.size, 0, none⟩) 1 1) 1 (flat7 ((dBody []).map pz)) :=
  World.ownsRow_lit (base := w.heap.size) (e := 26) (size := 7) w #[.int .i64 0, .int .i64 0, .int .i64 0, .int .i64 0, .slice none 0 0, .slice none 0 0, .slice none 0 0] 1 (Nat.le_refl _) (by unfold maxLen; omega) rfl
theorem dBody_len (bs : List Bool) : (dBody bs).length = bs.length + 1 := by show (dList bs 0).length + 1 = _; rw [dList_len]
theorem mwOf {w : World} {bT bF : Nat} {rv bv : Value} {rs : List Int} {bs : List Bool} (hI : UtfI w) (hm : MD w bT bF rv bv) (hi : IntsS w (fun k => k < w.heap.size) rv rs) (hA : AtS w (fun k => k < w.heap.size) 1 bv (dBody bs)) (hb : bs.length ≤ 200) (hr : rs = [] ∨ rs = [127] ∨ rs = [126]) : MW (d := 0) w bT bF rv bv rs (dBody bs) :=
  ⟨hI, hm, hi, hA, fun x hx => (dBody_ok bs hb x hx).2.2, by rw [dBody_len]; omega, by decide, chk_flat rs _ hr (by rw [dBody_len]; omega) (fun x hx => (dBody_ok bs hb x hx).2.1) (fun x hx => (dBody_ok bs hb x hx).1), by rcases hr with rfl | rfl | rfl <;> decide⟩
def mk3 (w : World) (bv : Value) : World := ((w.alloc (.cells #[.slice none 0 0, .slice none 0 0] 28)).alloc (.cells #[.int .i64 0, .slice none 0 0, bv] 31)).alloc
  (.cells #[.slice (some ⟨w.heap.size, 0, none⟩) 1 1, .slice none 0 0, .slice (some ⟨w.heap.size + 1, 0, none⟩) 1 1, .slice none 0 0, .slice none 0 0, .slice none 0 0, .slice none 0 0, .slice none 0 0, .slice none 0 0, .slice none 0 0] 40)
structure M3 (w : World) (bv rv : Value) (u : World) : Prop where
  below : Below w.heap.size w u
  ft : u.heap[w.heap.size]? = some (.cells #[.slice none 0 0, rv] 28 (0, 0))
  fn : u.heap[w.heap.size + 1]? = some (.cells #[.int .i64 0, .slice none 0 0, bv] 31 (0, 0))
  mo : u.heap[w.heap.size + 1 + 1]? = some (.cells (mCells w.heap.size (w.heap.size + 1)) 40 (0, 0))
theorem mk3_says (w : World) (bv : Value) : M3 w bv (.slice none 0 0) (mk3 w bv) := by
  unfold mk3
  have h1 := World.alloc_heap_new w (.cells #[.slice none 0 0, .slice none 0 0] 28)
  have b1 := new_on' w (.cells #[.slice none 0 0, .slice none 0 0] 28)
  have s1 : (w.alloc (.cells #[.slice none 0 0, .slice none 0 0] 28)).heap.size = w.heap.size + 1 := World.size_alloc _ _
  generalize w.alloc (.cells #[.slice none 0 0, .slice none 0 0] 28) = w1 at *
  have h2 := World.alloc_heap_new w1 (.cells #[.int .i64 0, .slice none 0 0, bv] 31)
  have b2 := new_on' w1 (.cells #[.int .i64 0, .slice none 0 0, bv] 31)
  have s2 : (w1.alloc (.cells #[.int .i64 0, .slice none 0 0, bv] 31)).heap.size = w1.heap.size + 1 := World.size_alloc _ _
  have h1 := alloc_of (o' := .cells #[.int .i64 0, .slice none 0 0, bv] 31) h1
  generalize w1.alloc (.cells #[.int .i64 0, .slice none 0 0, bv] 31) = w2 at *
  have h3 := World.alloc_heap_new w2 (.cells (mCells w.heap.size (w.heap.size + 1)) 40)
  have b3 := new_on' w2 (.cells (mCells w.heap.size (w.heap.size + 1)) 40)
  have h1 := alloc_of (o' := .cells (mCells w.heap.size (w.heap.size + 1)) 40) h1
  have h2 := alloc_of (o' := .cells (mCells w.heap.size (w.heap.size + 1)) 40) h2
  rw [s1] at h2
  rw [s2, s1] at h3
  exact ⟨below_go' (below_go' b1 b2) b3, h1, h2, h3⟩
def mk5 (w u : World) (z : Int) : World := (u.alloc (.cells #[.int .i64 z] 3)).setCell ⟨w.heap.size, 1, none⟩ (.slice (some ⟨u.heap.size, 0, none⟩) 1 1)
theorem mk5_says {w u : World} {bv rv : Value} (h : M3 w bv rv u) (z : Int) : M3 w bv (.slice (some ⟨u.heap.size, 0, none⟩) 1 1) (mk5 w u z) ∧ IntsS (mk5 w u z) (fun k => k < (mk5 w u z).heap.size) (.slice (some ⟨u.heap.size, 0, none⟩) 1 1) [z] := by
  unfold mk5
  have l1 : w.heap.size + 1 < u.heap.size := (Array.getElem?_eq_some_iff.1 h.fn).1
  have hn := World.alloc_heap_new u (.cells #[.int .i64 z] 3)
  have s : (u.alloc (.cells #[.int .i64 z] 3)).heap.size = u.heap.size + 1 := World.size_alloc _ _
  have b := new_on' u (.cells #[.int .i64 z] 3)
  have f1 := alloc_of (o' := .cells #[.int .i64 z] 3) h.ft
  have f2 := alloc_of (o' := .cells #[.int .i64 z] 3) h.fn
  have f3 := alloc_of (o' := .cells #[.int .i64 z] 3) h.mo
  generalize u.alloc (.cells #[.int .i64 z] 3) = u1 at *
  have oth : ∀ k v, k ≠ w.heap.size → (u1.setCell ⟨w.heap.size, 1, none⟩ v).heap[k]? = u1.heap[k]? := fun k v hk => Below.heap_setCell _ _ _ _ hk
  refine ⟨⟨(below_go' h.below b).setCell (Nat.le_refl _) _, heap_setCell_same u1 w.heap.size 1 _ _ _ f1, (oth _ _ (by omega)).trans f2, (oth _ _ (by omega)).trans f3⟩, rone ⟨by simp; omega, cellOf ((oth _ _ (by omega)).trans hn) rfl⟩⟩
theorem M3.md {w u : World} {bv rv : Value} (h : M3 w bv rv u) : MD u w.heap.size (w.heap.size + 1) rv bv := ⟨cellOf h.ft rfl, cellOf h.ft rfl, cellOf h.fn rfl, cellOf h.fn rfl, cellOf h.fn rfl⟩
end Val
set_option maxRecDepth 100000 in
set_option maxHeartbeats 16000000 in
theorem vDead (typ : Int) (o : Option Addr) (n k : Nat) (bs : List Bool) (w : World) (hI : UtfI w) (hB : Bls w (.slice o n k) bs) :
    Calls Tryd.prog 3 #[.int .i64 typ, .slice o n k] w fun e w' => e = .returned (.bool true) ∧ Below w.heap.size w w' := by
  obtain ⟨o', k', hv⟩ := Row.len hB
  injection hv with h1 h2 h3
  subst h1; subst h2; subst h3
  have hlen := hB.1
  have HL := hideR hB
  have HI := hideR hI
  have HIni := hideR (lit1 w)
  have HB1 := hideR (new_on' w (.cells #[.int .i64 0, .int .i64 0, .int .i64 0, .int .i64 0, .slice none 0 0, .slice none 0 0, .slice none 0 0] 26))
  clear hB hI
  generalize hn : bs.length = n at *
  obtain ⟨N1, hN1⟩ : ∃ N1, N1 = min n 200 := ⟨_, rfl⟩
  have hN1a : N1 ≤ n := by omega
  have hN1b : N1 ≤ 200 := by omega
  have HN := hideR hN1
  have HNN := hideR hn
  clear hN1 hn
  go_enter Tryd.func3, Tryd.ntmps3
  go_wp2_with fail
  go_loopw [5, 6, 7] (fun l s t wr => ∃ j : Nat, j ≤ N1 ∧ t = .int .i64 j ∧ (∃ q : Nat, q ≤ j ∧ s = .int .i64 q ∧ Hid (q = lft (bs.take j) 0)) ∧ (∃ o c, l = .slice o (j + 1) c) ∧ Hid (wr.ownsRow w.heap.size 26 7 l (j + 1) (flat7 ((dBody (bs.take j)).map pz))) ∧ Hid (Below w.heap.size w wr)) (fun _ _ t _ => N1 - (RowKit.intOf t).toNat)
  case atStart => exact ⟨0, by omega, rfl, ⟨0, by omega, rfl, hideR rfl⟩, ⟨_, _, rfl⟩, HIni, HB1⟩
  case round =>
    obtain ⟨j, hj, rfl, ⟨q, hqj, rfl, HQ⟩, ⟨oT, cT, rfl⟩, HO, HP⟩ := hrel
    by_cases hgo : j < N1
    · obtain ⟨bb, off, cap2, hv2, hx⟩ := Row.some (HL.out.on HP.out) (by have := HNN.out; omega)
      injection hv2 with ho h2 h3
      subst ho
      obtain ⟨b, hbj⟩ : ∃ b, bs[j]? = some b := ⟨_, List.getElem?_eq_getElem (by have := HNN.out; omega)⟩
      have hc := hx j b hbj
      rw [Nat.mul_one] at hc
      have HBJ := hideR hbj
      clear hx hbj h2 h3
      have d1 : decide ((j : Int) < n) = true := decide_eq_true (by omega)
      have d2 : decide ((j : Int) < 200) = true := decide_eq_true (by omega)
      obtain ⟨i1, hi1, hy0, hy1, hy2⟩ := info_parts insInfo
      have HSZ : Hid (w.heap.size ≤ wr.heap.size) := hideR HP.out.size
      cases b with
      | true =>
        have HNB := hideR (Blk.new wr wr.heap.size 26 0 0 0 (.slice none 0 0) (.slice none 0 0) (.slice none 0 0) rfl)
        have HO8 := hideR (HO.out.alloc (.cells #[.int .i64 26, .int .i64 0, .int .i64 0, .int .i64 0, .slice none 0 0, .slice none 0 0, .slice none 0 0] 26))
        have hmx : max (0 : Int) ((q : Int) - 1) = ((q - 1 : Nat) : Int) := by omega
        go_wp2_with (first | (at_builtin; refine wpList_appS rfl _ _ 24 rfl w.heap.size 26 i1 _ 7 104 Tryd.underlying24 hi1 hy0 hy1 hy2 rfl (by decide) _ _ _ rfl HO8.out (some ⟨wr.heap.size, 0, none⟩) 1 1 (pc7 (pz (i0 26 0 0))) rfl ?c6 ?c0 ?c1 ?c2 ?c3 ?c4 ?c5 ?_))
        case c6 => intro h; cases h
        case c0 => rfl
        case c1 => exact fun ad h => by injection h with h; subst h; exact pc7_cells (x := i0 26 0 0) HNB.out
        case c2 => exact pc7_one _ rfl rfl rfl
        case c3 => unfold maxLen; omega
        case c4 => omega
        case c5 => have := HSZ.out; simp; omega
        intro v' w9 hown9 hg9 hv9
        have HB9 : Hid (Below w.heap.size w w9) := hideR ((HP.out.alloc HSZ.out _).grown hg9 (by have := HSZ.out; simp; omega) fun k hk => (HO8.out.lt k hk).1)
        have HO9 : Hid (w9.ownsRow w.heap.size 26 7 v' (j + 1 + 1) (flat7 ((dBody (bs.take (j + 1))).map pz))) := hideR (by rw [body_snoc bs j _ HBJ.out]; exact row_snoc hown9)
        have HQ9 : Hid (q - 1 = lft (bs.take (j + 1)) 0) := hideR (by rw [lft_snoc bs j _ HBJ.out, ← HQ.out]; rfl)
        have hsl := own_slice hown9
        clear hown9 hg9 hv9 HO8 HNB HQ HO
        obtain ⟨oN, cN, rfl⟩ := hsl
        go_wp2
        go_roundw
        case rel => exact ⟨j + 1, by omega, by go_num, ⟨q - 1, by omega, by go_num, HQ9⟩, ⟨_, _, rfl⟩, HO9, HB9⟩
        case measure => simp [RowKit.intOf]; omega
      | false =>
        have HNB := hideR (Blk.new wr wr.heap.size 65 0 0 j (.slice none 0 0) (.slice none 0 0) (.slice none 0 0) rfl)
        have HO8 := hideR (HO.out.alloc (.cells #[.int .i64 65, .int .i64 0, .int .i64 0, .int .i64 j, .slice none 0 0, .slice none 0 0, .slice none 0 0] 26))
        go_wp2_with (first | (at_builtin; refine wpList_appS rfl _ _ 24 rfl w.heap.size 26 i1 _ 7 104 Tryd.underlying24 hi1 hy0 hy1 hy2 rfl (by decide) _ _ _ rfl HO8.out (some ⟨wr.heap.size, 0, none⟩) 1 1 (pc7 (pz (i0 65 0 j))) rfl ?e6 ?e0 ?e1 ?e2 ?e3 ?e4 ?e5 ?_))
        case e6 => intro h; cases h
        case e0 => rfl
        case e1 => exact fun ad h => by injection h with h; subst h; exact pc7_cells (x := i0 65 0 j) HNB.out
        case e2 => exact pc7_one _ rfl rfl rfl
        case e3 => unfold maxLen; omega
        case e4 => omega
        case e5 => have := HSZ.out; simp; omega
        intro v' w9 hown9 hg9 hv9
        have HB9 : Hid (Below w.heap.size w w9) := hideR ((HP.out.alloc HSZ.out _).grown hg9 (by have := HSZ.out; simp; omega) fun k hk => (HO8.out.lt k hk).1)
        have HO9 : Hid (w9.ownsRow w.heap.size 26 7 v' (j + 1 + 1) (flat7 ((dBody (bs.take (j + 1))).map pz))) := hideR (by rw [body_snoc bs j _ HBJ.out]; exact row_snoc hown9)
        have HQ9 : Hid (q + 1 = lft (bs.take (j + 1)) 0) := hideR (by rw [lft_snoc bs j _ HBJ.out, ← HQ.out]; rfl)
        have hsl := own_slice hown9
        clear hown9 hg9 hv9 HO8 HNB HQ HO
        obtain ⟨oN, cN, rfl⟩ := hsl
        go_wp2
        go_roundw
        case rel => exact ⟨j + 1, by omega, by go_num, ⟨q + 1, by omega, by go_num, HQ9⟩, ⟨_, _, rfl⟩, HO9, HB9⟩
        case measure => simp [RowKit.intOf]; omega
    · obtain rfl : N1 = j := by omega
      have hcs : N1 = n ∨ N1 = 200 := by have := HN.out; omega
      have hdd : (decide ((N1 : Int) < n) && decide ((N1 : Int) < 200)) = false := by
        rcases hcs with h | h
        · rw [decide_eq_false (by omega)]; rfl
        · rw [show decide ((N1 : Int) < 200) = false from decide_eq_false (by omega)]; simp
      clear hcs
      have HLN : Hid ((bs.take N1).length ≤ 200) := hideR (by rw [List.length_take]; omega)
      have HA : Hid (AtS wr (fun k => k < wr.heap.size) 1 (.slice oT (N1 + 1) cT) (dBody (bs.take N1))) := hideR (at_row (fun x hx => (dBody_ok _ HLN.out x hx).2.1) (by have := HLN.out; rw [dBody_len]; omega) (by
        rw [dBody_len, List.length_take, Nat.min_eq_left (by have := HNN.out; omega)]; exact HO.out))
      clear HO HL HIni HB1
      by_cases hd1 : (N1 : Int) < n
      · have hd2 : ¬ (N1 : Int) < 200 := by simpa [hd1] using hdd
        clear hdd
        go_wp2_with fail
        obtain ⟨w3, hw3⟩ : ∃ w3, w3 = mk3 wr (.slice oT (N1 + 1) cT) := ⟨_, rfl⟩
        have HM3 := hideR (mk3_says wr (.slice oT (N1 + 1) cT))
        rw [← hw3] at HM3
        unfold mk3 at hw3
        rw [← hw3]
        clear hw3
        refine (vMod typ 3 _ (by decide) (by decide)).mono ?_
        rintro e u ⟨⟨r, rfl, hr⟩, hu⟩
        obtain rfl := hu.symm
        have hrc : r = 0 ∨ r = 1 ∨ r = 2 := by omega
        clear hr hu
        rcases hrc with rfl | rfl | rfl
        · by_cases hq : 0 < q
          · have dq : decide ((0 : Int) < q) = true := decide_eq_true (by omega)
            have HMW := hideR (mwOf (utfI_on (below_go' HP.out HM3.out.below) HI.out) HM3.out.md (show IntsS w3 _ (.slice none 0 0) [] from rnil) (at_now HM3.out.below HA.out) HLN.out (.inl rfl))
            have HV := hideR HMW.out.validate
            rw [dead0, ← HQ.out, if_pos hq] at HV
            have HF := HM3
            have q0 : w3.cell? ⟨wr.heap.size + 1 + 1, 0, none⟩ = some (.slice (some ⟨wr.heap.size, 0, none⟩) 1 1) := cellOf HF.out.mo rfl
            have q1 : w3.cell? ⟨wr.heap.size + 1 + 1, 1, none⟩ = some (.slice none 0 0) := cellOf HF.out.mo rfl
            have q2 : w3.cell? ⟨wr.heap.size + 1 + 1, 2, none⟩ = some (.slice (some ⟨wr.heap.size + 1, 0, none⟩) 1 1) := cellOf HF.out.mo rfl
            have q3 : w3.cell? ⟨wr.heap.size + 1 + 1, 3, none⟩ = some (.slice none 0 0) := cellOf HF.out.mo rfl
            have q4 : w3.cell? ⟨wr.heap.size + 1 + 1, 4, none⟩ = some (.slice none 0 0) := cellOf HF.out.mo rfl
            have q5 : w3.cell? ⟨wr.heap.size + 1 + 1, 5, none⟩ = some (.slice none 0 0) := cellOf HF.out.mo rfl
            have q6 : w3.cell? ⟨wr.heap.size + 1 + 1, 6, none⟩ = some (.slice none 0 0) := cellOf HF.out.mo rfl
            have q7 : w3.cell? ⟨wr.heap.size + 1 + 1, 7, none⟩ = some (.slice none 0 0) := cellOf HF.out.mo rfl
            have q8 : w3.cell? ⟨wr.heap.size + 1 + 1, 8, none⟩ = some (.slice none 0 0) := cellOf HF.out.mo rfl
            have q9 : w3.cell? ⟨wr.heap.size + 1 + 1, 9, none⟩ = some (.slice none 0 0) := cellOf HF.out.mo rfl
            clear HMW
            unfold mCells at *
            go_wp2_with fail
            refine HV.out.mono ?_
            rintro e u6 ⟨rfl, hb6⟩
            have HB6 := hideR (below_go' (below_go' HP.out HF.out.below) hb6)
            clear hb6 HV q0 q1 q2 q3 q4 q5 q6 q7 q8 q9
            go_wp2_with fail
            refine (vWakes u6 (utfI_on HB6.out HI.out)).mono ?_
            rintro e u7 ⟨rfl, hb7⟩
            have HB7 := hideR (below_go' HB6.out hb7)
            clear hb7
            go_wp2
            go_ret
            exact ⟨rfl, HB7.out⟩
          · have dq : decide ((0 : Int) < q) = false := decide_eq_false (by omega)
            have HMW := hideR (mwOf (utfI_on (below_go' HP.out HM3.out.below) HI.out) HM3.out.md (show IntsS w3 _ (.slice none 0 0) [] from rnil) (at_now HM3.out.below HA.out) HLN.out (.inl rfl))
            have HV := hideR HMW.out.validate
            rw [dead0, ← HQ.out, if_neg hq] at HV
            have HF := HM3
            have q0 : w3.cell? ⟨wr.heap.size + 1 + 1, 0, none⟩ = some (.slice (some ⟨wr.heap.size, 0, none⟩) 1 1) := cellOf HF.out.mo rfl
            have q1 : w3.cell? ⟨wr.heap.size + 1 + 1, 1, none⟩ = some (.slice none 0 0) := cellOf HF.out.mo rfl
            have q2 : w3.cell? ⟨wr.heap.size + 1 + 1, 2, none⟩ = some (.slice (some ⟨wr.heap.size + 1, 0, none⟩) 1 1) := cellOf HF.out.mo rfl
            have q3 : w3.cell? ⟨wr.heap.size + 1 + 1, 3, none⟩ = some (.slice none 0 0) := cellOf HF.out.mo rfl
            have q4 : w3.cell? ⟨wr.heap.size + 1 + 1, 4, none⟩ = some (.slice none 0 0) := cellOf HF.out.mo rfl
            have q5 : w3.cell? ⟨wr.heap.size + 1 + 1, 5, none⟩ = some (.slice none 0 0) := cellOf HF.out.mo rfl
            have q6 : w3.cell? ⟨wr.heap.size + 1 + 1, 6, none⟩ = some (.slice none 0 0) := cellOf HF.out.mo rfl
            have q7 : w3.cell? ⟨wr.heap.size + 1 + 1, 7, none⟩ = some (.slice none 0 0) := cellOf HF.out.mo rfl
            have q8 : w3.cell? ⟨wr.heap.size + 1 + 1, 8, none⟩ = some (.slice none 0 0) := cellOf HF.out.mo rfl
            have q9 : w3.cell? ⟨wr.heap.size + 1 + 1, 9, none⟩ = some (.slice none 0 0) := cellOf HF.out.mo rfl
            clear HMW
            unfold mCells at *
            go_wp2_with fail
            refine HV.out.mono ?_
            rintro e u6 ⟨rfl, hb6⟩
            have HB6 := hideR (below_go' (below_go' HP.out HF.out.below) hb6)
            clear hb6 HV q0 q1 q2 q3 q4 q5 q6 q7 q8 q9
            go_wp2_with fail
            refine (vWakes u6 (utfI_on HB6.out HI.out)).mono ?_
            rintro e u7 ⟨rfl, hb7⟩
            have HB7 := hideR (below_go' HB6.out hb7)
            clear hb7
            go_wp2
            go_ret
            exact ⟨rfl, HB7.out⟩
        · by_cases hq : 1 < q
          · have dq : decide ((1 : Int) < q) = true := decide_eq_true (by omega)
            have c0 : w3.cell? ⟨wr.heap.size + 1 + 1, 0, none⟩ = some (.slice (some ⟨wr.heap.size, 0, none⟩) 1 1) := cellOf HM3.out.mo rfl
            have t1 : ∀ o, (w3.alloc o).cell? ⟨wr.heap.size, 1, none⟩ = some (.slice none 0 0) := fun o => cell_on (new_on' _ o) (cellOf HM3.out.ft (j := 1) rfl)
            have c0o : ∀ o, (w3.alloc o).cell? ⟨wr.heap.size + 1 + 1, 0, none⟩ = some (.slice (some ⟨wr.heap.size, 0, none⟩) 1 1) := fun o => cell_on (new_on' _ o) c0
            have t2 : ∀ o, (w3.alloc o).frozen? ⟨wr.heap.size, 1, none⟩ = false := fun o => by unfold World.frozen?; rw [alloc_of HM3.out.ft]; simp
            go_upto_region 22 with fail
            obtain ⟨w5, hw5⟩ : ∃ w5, w5 = mk5 wr w3 127 := ⟨_, rfl⟩
            have HS := hideR (mk5_says HM3.out 127)
            rw [← hw5] at HS
            unfold mk5 at hw5
            rw [← hw5]
            clear hw5 c0 c0o t1 t2
            have HF := hideR HS.out.1
            have HMW := hideR (mwOf (utfI_on (below_go' HP.out HF.out.below) HI.out) HF.out.md HS.out.2 (at_now HF.out.below HA.out) HLN.out (.inr (.inl rfl)))
            have HV := hideR HMW.out.validate
            rw [dead1, ← HQ.out, if_pos hq] at HV
            have q0 : w5.cell? ⟨wr.heap.size + 1 + 1, 0, none⟩ = some (.slice (some ⟨wr.heap.size, 0, none⟩) 1 1) := cellOf HF.out.mo rfl
            have q1 : w5.cell? ⟨wr.heap.size + 1 + 1, 1, none⟩ = some (.slice none 0 0) := cellOf HF.out.mo rfl
            have q2 : w5.cell? ⟨wr.heap.size + 1 + 1, 2, none⟩ = some (.slice (some ⟨wr.heap.size + 1, 0, none⟩) 1 1) := cellOf HF.out.mo rfl
            have q3 : w5.cell? ⟨wr.heap.size + 1 + 1, 3, none⟩ = some (.slice none 0 0) := cellOf HF.out.mo rfl
            have q4 : w5.cell? ⟨wr.heap.size + 1 + 1, 4, none⟩ = some (.slice none 0 0) := cellOf HF.out.mo rfl
            have q5 : w5.cell? ⟨wr.heap.size + 1 + 1, 5, none⟩ = some (.slice none 0 0) := cellOf HF.out.mo rfl
            have q6 : w5.cell? ⟨wr.heap.size + 1 + 1, 6, none⟩ = some (.slice none 0 0) := cellOf HF.out.mo rfl
            have q7 : w5.cell? ⟨wr.heap.size + 1 + 1, 7, none⟩ = some (.slice none 0 0) := cellOf HF.out.mo rfl
            have q8 : w5.cell? ⟨wr.heap.size + 1 + 1, 8, none⟩ = some (.slice none 0 0) := cellOf HF.out.mo rfl
            have q9 : w5.cell? ⟨wr.heap.size + 1 + 1, 9, none⟩ = some (.slice none 0 0) := cellOf HF.out.mo rfl
            clear HMW
            unfold mCells at *
            go_wp2_with fail
            refine HV.out.mono ?_
            rintro e u6 ⟨rfl, hb6⟩
            have HB6 := hideR (below_go' (below_go' HP.out HF.out.below) hb6)
            clear hb6 HV q0 q1 q2 q3 q4 q5 q6 q7 q8 q9
            go_wp2_with fail
            refine (vWakes u6 (utfI_on HB6.out HI.out)).mono ?_
            rintro e u7 ⟨rfl, hb7⟩
            have HB7 := hideR (below_go' HB6.out hb7)
            clear hb7
            go_wp2
            go_ret
            exact ⟨rfl, HB7.out⟩
          · have dq : decide ((1 : Int) < q) = false := decide_eq_false (by omega)
            have c0 : w3.cell? ⟨wr.heap.size + 1 + 1, 0, none⟩ = some (.slice (some ⟨wr.heap.size, 0, none⟩) 1 1) := cellOf HM3.out.mo rfl
            have t1 : ∀ o, (w3.alloc o).cell? ⟨wr.heap.size, 1, none⟩ = some (.slice none 0 0) := fun o => cell_on (new_on' _ o) (cellOf HM3.out.ft (j := 1) rfl)
            have c0o : ∀ o, (w3.alloc o).cell? ⟨wr.heap.size + 1 + 1, 0, none⟩ = some (.slice (some ⟨wr.heap.size, 0, none⟩) 1 1) := fun o => cell_on (new_on' _ o) c0
            have t2 : ∀ o, (w3.alloc o).frozen? ⟨wr.heap.size, 1, none⟩ = false := fun o => by unfold World.frozen?; rw [alloc_of HM3.out.ft]; simp
            go_upto_region 22 with fail
            obtain ⟨w5, hw5⟩ : ∃ w5, w5 = mk5 wr w3 127 := ⟨_, rfl⟩
            have HS := hideR (mk5_says HM3.out 127)
            rw [← hw5] at HS
            unfold mk5 at hw5
            rw [← hw5]
            clear hw5 c0 c0o t1 t2
            have HF := hideR HS.out.1
            have HMW := hideR (mwOf (utfI_on (below_go' HP.out HF.out.below) HI.out) HF.out.md HS.out.2 (at_now HF.out.below HA.out) HLN.out (.inr (.inl rfl)))
            have HV := hideR HMW.out.validate
            rw [dead1, ← HQ.out, if_neg hq] at HV
            have q0 : w5.cell? ⟨wr.heap.size + 1 + 1, 0, none⟩ = some (.slice (some ⟨wr.heap.size, 0, none⟩) 1 1) := cellOf HF.out.mo rfl
            have q1 : w5.cell? ⟨wr.heap.size + 1 + 1, 1, none⟩ = some (.slice none 0 0) := cellOf HF.out.mo rfl
            have q2 : w5.cell? ⟨wr.heap.size + 1 + 1, 2, none⟩ = some (.slice (some ⟨wr.heap.size + 1, 0, none⟩) 1 1) := cellOf HF.out.mo rfl
            have q3 : w5.cell? ⟨wr.heap.size + 1 + 1, 3, none⟩ = some (.slice none 0 0) := cellOf HF.out.mo rfl
            have q4 : w5.cell? ⟨wr.heap.size + 1 + 1, 4, none⟩ = some (.slice none 0 0) := cellOf HF.out.mo rfl
            have q5 : w5.cell? ⟨wr.heap.size + 1 + 1, 5, none⟩ = some (.slice none 0 0) := cellOf HF.out.mo rfl
            have q6 : w5.cell? ⟨wr.heap.size + 1 + 1, 6, none⟩ = some (.slice none 0 0) := cellOf HF.out.mo rfl
            have q7 : w5.cell? ⟨wr.heap.size + 1 + 1, 7, none⟩ = some (.slice none 0 0) := cellOf HF.out.mo rfl
            have q8 : w5.cell? ⟨wr.heap.size + 1 + 1, 8, none⟩ = some (.slice none 0 0) := cellOf HF.out.mo rfl
            have q9 : w5.cell? ⟨wr.heap.size + 1 + 1, 9, none⟩ = some (.slice none 0 0) := cellOf HF.out.mo rfl
            clear HMW
            unfold mCells at *
            go_wp2_with fail
            refine HV.out.mono ?_
            rintro e u6 ⟨rfl, hb6⟩
            have HB6 := hideR (below_go' (below_go' HP.out HF.out.below) hb6)
            clear hb6 HV q0 q1 q2 q3 q4 q5 q6 q7 q8 q9
            go_wp2_with fail
            refine (vWakes u6 (utfI_on HB6.out HI.out)).mono ?_
            rintro e u7 ⟨rfl, hb7⟩
            have HB7 := hideR (below_go' HB6.out hb7)
            clear hb7
            go_wp2
            go_ret
            exact ⟨rfl, HB7.out⟩
        · by_cases hq : 0 < q
          · have dq : decide ((0 : Int) < q) = true := decide_eq_true (by omega)
            have c0 : w3.cell? ⟨wr.heap.size + 1 + 1, 0, none⟩ = some (.slice (some ⟨wr.heap.size, 0, none⟩) 1 1) := cellOf HM3.out.mo rfl
            have t1 : ∀ o, (w3.alloc o).cell? ⟨wr.heap.size, 1, none⟩ = some (.slice none 0 0) := fun o => cell_on (new_on' _ o) (cellOf HM3.out.ft (j := 1) rfl)
            have c0o : ∀ o, (w3.alloc o).cell? ⟨wr.heap.size + 1 + 1, 0, none⟩ = some (.slice (some ⟨wr.heap.size, 0, none⟩) 1 1) := fun o => cell_on (new_on' _ o) c0
            have t2 : ∀ o, (w3.alloc o).frozen? ⟨wr.heap.size, 1, none⟩ = false := fun o => by unfold World.frozen?; rw [alloc_of HM3.out.ft]; simp
            go_upto_region 15 with fail
            obtain ⟨w5, hw5⟩ : ∃ w5, w5 = mk5 wr w3 126 := ⟨_, rfl⟩
            have HS := hideR (mk5_says HM3.out 126)
            rw [← hw5] at HS
            unfold mk5 at hw5
            rw [← hw5]
            clear hw5 c0 c0o t1 t2
            have HF := hideR HS.out.1
            have HMW := hideR (mwOf (utfI_on (below_go' HP.out HF.out.below) HI.out) HF.out.md HS.out.2 (at_now HF.out.below HA.out) HLN.out (.inr (.inr rfl)))
            have HV := hideR HMW.out.validate
            rw [dead2, ← HQ.out, if_pos hq] at HV
            have q0 : w5.cell? ⟨wr.heap.size + 1 + 1, 0, none⟩ = some (.slice (some ⟨wr.heap.size, 0, none⟩) 1 1) := cellOf HF.out.mo rfl
            have q1 : w5.cell? ⟨wr.heap.size + 1 + 1, 1, none⟩ = some (.slice none 0 0) := cellOf HF.out.mo rfl
            have q2 : w5.cell? ⟨wr.heap.size + 1 + 1, 2, none⟩ = some (.slice (some ⟨wr.heap.size + 1, 0, none⟩) 1 1) := cellOf HF.out.mo rfl
            have q3 : w5.cell? ⟨wr.heap.size + 1 + 1, 3, none⟩ = some (.slice none 0 0) := cellOf HF.out.mo rfl
            have q4 : w5.cell? ⟨wr.heap.size + 1 + 1, 4, none⟩ = some (.slice none 0 0) := cellOf HF.out.mo rfl
            have q5 : w5.cell? ⟨wr.heap.size + 1 + 1, 5, none⟩ = some (.slice none 0 0) := cellOf HF.out.mo rfl
            have q6 : w5.cell? ⟨wr.heap.size + 1 + 1, 6, none⟩ = some (.slice none 0 0) := cellOf HF.out.mo rfl
            have q7 : w5.cell? ⟨wr.heap.size + 1 + 1, 7, none⟩ = some (.slice none 0 0) := cellOf HF.out.mo rfl
            have q8 : w5.cell? ⟨wr.heap.size + 1 + 1, 8, none⟩ = some (.slice none 0 0) := cellOf HF.out.mo rfl
            have q9 : w5.cell? ⟨wr.heap.size + 1 + 1, 9, none⟩ = some (.slice none 0 0) := cellOf HF.out.mo rfl
            clear HMW
            unfold mCells at *
            go_wp2_with fail
            refine HV.out.mono ?_
            rintro e u6 ⟨rfl, hb6⟩
            have HB6 := hideR (below_go' (below_go' HP.out HF.out.below) hb6)
            clear hb6 HV q0 q1 q2 q3 q4 q5 q6 q7 q8 q9
            go_wp2_with fail
            refine (vWakes u6 (utfI_on HB6.out HI.out)).mono ?_
            rintro e u7 ⟨rfl, hb7⟩
            have HB7 := hideR (below_go' HB6.out hb7)
            clear hb7
            go_wp2
            go_ret
            exact ⟨rfl, HB7.out⟩
          · have dq : decide ((0 : Int) < q) = false := decide_eq_false (by omega)
            have c0 : w3.cell? ⟨wr.heap.size + 1 + 1, 0, none⟩ = some (.slice (some ⟨wr.heap.size, 0, none⟩) 1 1) := cellOf HM3.out.mo rfl
            have t1 : ∀ o, (w3.alloc o).cell? ⟨wr.heap.size, 1, none⟩ = some (.slice none 0 0) := fun o => cell_on (new_on' _ o) (cellOf HM3.out.ft (j := 1) rfl)
            have c0o : ∀ o, (w3.alloc o).cell? ⟨wr.heap.size + 1 + 1, 0, none⟩ = some (.slice (some ⟨wr.heap.size, 0, none⟩) 1 1) := fun o => cell_on (new_on' _ o) c0
            have t2 : ∀ o, (w3.alloc o).frozen? ⟨wr.heap.size, 1, none⟩ = false := fun o => by unfold World.frozen?; rw [alloc_of HM3.out.ft]; simp
            go_upto_region 15 with fail
            obtain ⟨w5, hw5⟩ : ∃ w5, w5 = mk5 wr w3 126 := ⟨_, rfl⟩
            have HS := hideR (mk5_says HM3.out 126)
            rw [← hw5] at HS
            unfold mk5 at hw5
            rw [← hw5]
            clear hw5 c0 c0o t1 t2
            have HF := hideR HS.out.1
            have HMW := hideR (mwOf (utfI_on (below_go' HP.out HF.out.below) HI.out) HF.out.md HS.out.2 (at_now HF.out.below HA.out) HLN.out (.inr (.inr rfl)))
            have HV := hideR HMW.out.validate
            rw [dead2, ← HQ.out, if_neg hq] at HV
            have q0 : w5.cell? ⟨wr.heap.size + 1 + 1, 0, none⟩ = some (.slice (some ⟨wr.heap.size, 0, none⟩) 1 1) := cellOf HF.out.mo rfl
            have q1 : w5.cell? ⟨wr.heap.size + 1 + 1, 1, none⟩ = some (.slice none 0 0) := cellOf HF.out.mo rfl
            have q2 : w5.cell? ⟨wr.heap.size + 1 + 1, 2, none⟩ = some (.slice (some ⟨wr.heap.size + 1, 0, none⟩) 1 1) := cellOf HF.out.mo rfl
            have q3 : w5.cell? ⟨wr.heap.size + 1 + 1, 3, none⟩ = some (.slice none 0 0) := cellOf HF.out.mo rfl
            have q4 : w5.cell? ⟨wr.heap.size + 1 + 1, 4, none⟩ = some (.slice none 0 0) := cellOf HF.out.mo rfl
            have q5 : w5.cell? ⟨wr.heap.size + 1 + 1, 5, none⟩ = some (.slice none 0 0) := cellOf HF.out.mo rfl
            have q6 : w5.cell? ⟨wr.heap.size + 1 + 1, 6, none⟩ = some (.slice none 0 0) := cellOf HF.out.mo rfl
            have q7 : w5.cell? ⟨wr.heap.size + 1 + 1, 7, none⟩ = some (.slice none 0 0) := cellOf HF.out.mo rfl
            have q8 : w5.cell? ⟨wr.heap.size + 1 + 1, 8, none⟩ = some (.slice none 0 0) := cellOf HF.out.mo rfl
            have q9 : w5.cell? ⟨wr.heap.size + 1 + 1, 9, none⟩ = some (.slice none 0 0) := cellOf HF.out.mo rfl
            clear HMW
            unfold mCells at *
            go_wp2_with fail
            refine HV.out.mono ?_
            rintro e u6 ⟨rfl, hb6⟩
            have HB6 := hideR (below_go' (below_go' HP.out HF.out.below) hb6)
            clear hb6 HV q0 q1 q2 q3 q4 q5 q6 q7 q8 q9
            go_wp2_with fail
            refine (vWakes u6 (utfI_on HB6.out HI.out)).mono ?_
            rintro e u7 ⟨rfl, hb7⟩
            have HB7 := hideR (below_go' HB6.out hb7)
            clear hb7
            go_wp2
            go_ret
            exact ⟨rfl, HB7.out⟩
      · obtain rfl : N1 = n := by omega
        clear hdd hd1
        go_wp2_with fail
        obtain ⟨w3, hw3⟩ : ∃ w3, w3 = mk3 wr (.slice oT (N1 + 1) cT) := ⟨_, rfl⟩
        have HM3 := hideR (mk3_says wr (.slice oT (N1 + 1) cT))
        rw [← hw3] at HM3
        unfold mk3 at hw3
        rw [← hw3]
        clear hw3
        refine (vMod typ 3 _ (by decide) (by decide)).mono ?_
        rintro e u ⟨⟨r, rfl, hr⟩, hu⟩
        obtain rfl := hu.symm
        have hrc : r = 0 ∨ r = 1 ∨ r = 2 := by omega
        clear hr hu
        rcases hrc with rfl | rfl | rfl
        · by_cases hq : 0 < q
          · have dq : decide ((0 : Int) < q) = true := decide_eq_true (by omega)
            have HMW := hideR (mwOf (utfI_on (below_go' HP.out HM3.out.below) HI.out) HM3.out.md (show IntsS w3 _ (.slice none 0 0) [] from rnil) (at_now HM3.out.below HA.out) HLN.out (.inl rfl))
            have HV := hideR HMW.out.validate
            rw [dead0, ← HQ.out, if_pos hq] at HV
            have HF := HM3
            have q0 : w3.cell? ⟨wr.heap.size + 1 + 1, 0, none⟩ = some (.slice (some ⟨wr.heap.size, 0, none⟩) 1 1) := cellOf HF.out.mo rfl
            have q1 : w3.cell? ⟨wr.heap.size + 1 + 1, 1, none⟩ = some (.slice none 0 0) := cellOf HF.out.mo rfl
            have q2 : w3.cell? ⟨wr.heap.size + 1 + 1, 2, none⟩ = some (.slice (some ⟨wr.heap.size + 1, 0, none⟩) 1 1) := cellOf HF.out.mo rfl
            have q3 : w3.cell? ⟨wr.heap.size + 1 + 1, 3, none⟩ = some (.slice none 0 0) := cellOf HF.out.mo rfl
            have q4 : w3.cell? ⟨wr.heap.size + 1 + 1, 4, none⟩ = some (.slice none 0 0) := cellOf HF.out.mo rfl
            have q5 : w3.cell? ⟨wr.heap.size + 1 + 1, 5, none⟩ = some (.slice none 0 0) := cellOf HF.out.mo rfl
            have q6 : w3.cell? ⟨wr.heap.size + 1 + 1, 6, none⟩ = some (.slice none 0 0) := cellOf HF.out.mo rfl
            have q7 : w3.cell? ⟨wr.heap.size + 1 + 1, 7, none⟩ = some (.slice none 0 0) := cellOf HF.out.mo rfl
            have q8 : w3.cell? ⟨wr.heap.size + 1 + 1, 8, none⟩ = some (.slice none 0 0) := cellOf HF.out.mo rfl
            have q9 : w3.cell? ⟨wr.heap.size + 1 + 1, 9, none⟩ = some (.slice none 0 0) := cellOf HF.out.mo rfl
            clear HMW
            unfold mCells at *
            go_wp2_with fail
            refine HV.out.mono ?_
            rintro e u6 ⟨rfl, hb6⟩
            have HB6 := hideR (below_go' (below_go' HP.out HF.out.below) hb6)
            clear hb6 HV q0 q1 q2 q3 q4 q5 q6 q7 q8 q9
            go_wp2_with fail
            refine (vWakes u6 (utfI_on HB6.out HI.out)).mono ?_
            rintro e u7 ⟨rfl, hb7⟩
            have HB7 := hideR (below_go' HB6.out hb7)
            clear hb7
            go_wp2
            go_ret
            exact ⟨rfl, HB7.out⟩
          · have dq : decide ((0 : Int) < q) = false := decide_eq_false (by omega)
            have HMW := hideR (mwOf (utfI_on (below_go' HP.out HM3.out.below) HI.out) HM3.out.md (show IntsS w3 _ (.slice none 0 0) [] from rnil) (at_now HM3.out.below HA.out) HLN.out (.inl rfl))
            have HV := hideR HMW.out.validate
            rw [dead0, ← HQ.out, if_neg hq] at HV
            have HF := HM3
            have q0 : w3.cell? ⟨wr.heap.size + 1 + 1, 0, none⟩ = some (.slice (some ⟨wr.heap.size, 0, none⟩) 1 1) := cellOf HF.out.mo rfl
            have q1 : w3.cell? ⟨wr.heap.size + 1 + 1, 1, none⟩ = some (.slice none 0 0) := cellOf HF.out.mo rfl
            have q2 : w3.cell? ⟨wr.heap.size + 1 + 1, 2, none⟩ = some (.slice (some ⟨wr.heap.size + 1, 0, none⟩) 1 1) := cellOf HF.out.mo rfl
            have q3 : w3.cell? ⟨wr.heap.size + 1 + 1, 3, none⟩ = some (.slice none 0 0) := cellOf HF.out.mo rfl
            have q4 : w3.cell? ⟨wr.heap.size + 1 + 1, 4, none⟩ = some (.slice none 0 0) := cellOf HF.out.mo rfl
            have q5 : w3.cell? ⟨wr.heap.size + 1 + 1, 5, none⟩ = some (.slice none 0 0) := cellOf HF.out.mo rfl
            have q6 : w3.cell? ⟨wr.heap.size + 1 + 1, 6, none⟩ = some (.slice none 0 0) := cellOf HF.out.mo rfl
            have q7 : w3.cell? ⟨wr.heap.size + 1 + 1, 7, none⟩ = some (.slice none 0 0) := cellOf HF.out.mo rfl
            have q8 : w3.cell? ⟨wr.heap.size + 1 + 1, 8, none⟩ = some (.slice none 0 0) := cellOf HF.out.mo rfl
            have q9 : w3.cell? ⟨wr.heap.size + 1 + 1, 9, none⟩ = some (.slice none 0 0) := cellOf HF.out.mo rfl
            clear HMW
            unfold mCells at *
            go_wp2_with fail
            refine HV.out.mono ?_
            rintro e u6 ⟨rfl, hb6⟩
            have HB6 := hideR (below_go' (below_go' HP.out HF.out.below) hb6)
            clear hb6 HV q0 q1 q2 q3 q4 q5 q6 q7 q8 q9
            go_wp2_with fail
            refine (vWakes u6 (utfI_on HB6.out HI.out)).mono ?_
            rintro e u7 ⟨rfl, hb7⟩
            have HB7 := hideR (below_go' HB6.out hb7)
            clear hb7
            go_wp2
            go_ret
            exact ⟨rfl, HB7.out⟩
        · by_cases hq : 1 < q
          · have dq : decide ((1 : Int) < q) = true := decide_eq_true (by omega)
            have c0 : w3.cell? ⟨wr.heap.size + 1 + 1, 0, none⟩ = some (.slice (some ⟨wr.heap.size, 0, none⟩) 1 1) := cellOf HM3.out.mo rfl
            have t1 : ∀ o, (w3.alloc o).cell? ⟨wr.heap.size, 1, none⟩ = some (.slice none 0 0) := fun o => cell_on (new_on' _ o) (cellOf HM3.out.ft (j := 1) rfl)
            have c0o : ∀ o, (w3.alloc o).cell? ⟨wr.heap.size + 1 + 1, 0, none⟩ = some (.slice (some ⟨wr.heap.size, 0, none⟩) 1 1) := fun o => cell_on (new_on' _ o) c0
            have t2 : ∀ o, (w3.alloc o).frozen? ⟨wr.heap.size, 1, none⟩ = false := fun o => by unfold World.frozen?; rw [alloc_of HM3.out.ft]; simp
            go_upto_region 22 with fail
            obtain ⟨w5, hw5⟩ : ∃ w5, w5 = mk5 wr w3 127 := ⟨_, rfl⟩
            have HS := hideR (mk5_says HM3.out 127)
            rw [← hw5] at HS
            unfold mk5 at hw5
            rw [← hw5]
            clear hw5 c0 c0o t1 t2
            have HF := hideR HS.out.1
            have HMW := hideR (mwOf (utfI_on (below_go' HP.out HF.out.below) HI.out) HF.out.md HS.out.2 (at_now HF.out.below HA.out) HLN.out (.inr (.inl rfl)))
            have HV := hideR HMW.out.validate
            rw [dead1, ← HQ.out, if_pos hq] at HV
            have q0 : w5.cell? ⟨wr.heap.size + 1 + 1, 0, none⟩ = some (.slice (some ⟨wr.heap.size, 0, none⟩) 1 1) := cellOf HF.out.mo rfl
            have q1 : w5.cell? ⟨wr.heap.size + 1 + 1, 1, none⟩ = some (.slice none 0 0) := cellOf HF.out.mo rfl
            have q2 : w5.cell? ⟨wr.heap.size + 1 + 1, 2, none⟩ = some (.slice (some ⟨wr.heap.size + 1, 0, none⟩) 1 1) := cellOf HF.out.mo rfl
            have q3 : w5.cell? ⟨wr.heap.size + 1 + 1, 3, none⟩ = some (.slice none 0 0) := cellOf HF.out.mo rfl
            have q4 : w5.cell? ⟨wr.heap.size + 1 + 1, 4, none⟩ = some (.slice none 0 0) := cellOf HF.out.mo rfl
            have q5 : w5.cell? ⟨wr.heap.size + 1 + 1, 5, none⟩ = some (.slice none 0 0) := cellOf HF.out.mo rfl
            have q6 : w5.cell? ⟨wr.heap.size + 1 + 1, 6, none⟩ = some (.slice none 0 0) := cellOf HF.out.mo rfl
            have q7 : w5.cell? ⟨wr.heap.size + 1 + 1, 7, none⟩ = some (.slice none 0 0) := cellOf HF.out.mo rfl
            have q8 : w5.cell? ⟨wr.heap.size + 1 + 1, 8, none⟩ = some (.slice none 0 0) := cellOf HF.out.mo rfl
            have q9 : w5.cell? ⟨wr.heap.size + 1 + 1, 9, none⟩ = some (.slice none 0 0) := cellOf HF.out.mo rfl
            clear HMW
            unfold mCells at *
            go_wp2_with fail
            refine HV.out.mono ?_
            rintro e u6 ⟨rfl, hb6⟩
            have HB6 := hideR (below_go' (below_go' HP.out HF.out.below) hb6)
            clear hb6 HV q0 q1 q2 q3 q4 q5 q6 q7 q8 q9
            go_wp2_with fail
            refine (vWakes u6 (utfI_on HB6.out HI.out)).mono ?_
            rintro e u7 ⟨rfl, hb7⟩
            have HB7 := hideR (below_go' HB6.out hb7)
            clear hb7
            go_wp2
            go_ret
            exact ⟨rfl, HB7.out⟩
          · have dq : decide ((1 : Int) < q) = false := decide_eq_false (by omega)
            have c0 : w3.cell? ⟨wr.heap.size + 1 + 1, 0, none⟩ = some (.slice (some ⟨wr.heap.size, 0, none⟩) 1 1) := cellOf HM3.out.mo rfl
            have t1 : ∀ o, (w3.alloc o).cell? ⟨wr.heap.size, 1, none⟩ = some (.slice none 0 0) := fun o => cell_on (new_on' _ o) (cellOf HM3.out.ft (j := 1) rfl)
            have c0o : ∀ o, (w3.alloc o).cell? ⟨wr.heap.size + 1 + 1, 0, none⟩ = some (.slice (some ⟨wr.heap.size, 0, none⟩) 1 1) := fun o => cell_on (new_on' _ o) c0
            have t2 : ∀ o, (w3.alloc o).frozen? ⟨wr.heap.size, 1, none⟩ = false := fun o => by unfold World.frozen?; rw [alloc_of HM3.out.ft]; simp
            go_upto_region 22 with fail
            obtain ⟨w5, hw5⟩ : ∃ w5, w5 = mk5 wr w3 127 := ⟨_, rfl⟩
            have HS := hideR (mk5_says HM3.out 127)
            rw [← hw5] at HS
            unfold mk5 at hw5
            rw [← hw5]
            clear hw5 c0 c0o t1 t2
            have HF := hideR HS.out.1
            have HMW := hideR (mwOf (utfI_on (below_go' HP.out HF.out.below) HI.out) HF.out.md HS.out.2 (at_now HF.out.below HA.out) HLN.out (.inr (.inl rfl)))
            have HV := hideR HMW.out.validate
            rw [dead1, ← HQ.out, if_neg hq] at HV
            have q0 : w5.cell? ⟨wr.heap.size + 1 + 1, 0, none⟩ = some (.slice (some ⟨wr.heap.size, 0, none⟩) 1 1) := cellOf HF.out.mo rfl
            have q1 : w5.cell? ⟨wr.heap.size + 1 + 1, 1, none⟩ = some (.slice none 0 0) := cellOf HF.out.mo rfl
            have q2 : w5.cell? ⟨wr.heap.size + 1 + 1, 2, none⟩ = some (.slice (some ⟨wr.heap.size + 1, 0, none⟩) 1 1) := cellOf HF.out.mo rfl
            have q3 : w5.cell? ⟨wr.heap.size + 1 + 1, 3, none⟩ = some (.slice none 0 0) := cellOf HF.out.mo rfl
            have q4 : w5.cell? ⟨wr.heap.size + 1 + 1, 4, none⟩ = some (.slice none 0 0) := cellOf HF.out.mo rfl
            have q5 : w5.cell? ⟨wr.heap.size + 1 + 1, 5, none⟩ = some (.slice none 0 0) := cellOf HF.out.mo rfl
            have q6 : w5.cell? ⟨wr.heap.size + 1 + 1, 6, none⟩ = some (.slice none 0 0) := cellOf HF.out.mo rfl
            have q7 : w5.cell? ⟨wr.heap.size + 1 + 1, 7, none⟩ = some (.slice none 0 0) := cellOf HF.out.mo rfl
            have q8 : w5.cell? ⟨wr.heap.size + 1 + 1, 8, none⟩ = some (.slice none 0 0) := cellOf HF.out.mo rfl
            have q9 : w5.cell? ⟨wr.heap.size + 1 + 1, 9, none⟩ = some (.slice none 0 0) := cellOf HF.out.mo rfl
            clear HMW
            unfold mCells at *
            go_wp2_with fail
            refine HV.out.mono ?_
            rintro e u6 ⟨rfl, hb6⟩
            have HB6 := hideR (below_go' (below_go' HP.out HF.out.below) hb6)
            clear hb6 HV q0 q1 q2 q3 q4 q5 q6 q7 q8 q9
            go_wp2_with fail
            refine (vWakes u6 (utfI_on HB6.out HI.out)).mono ?_
            rintro e u7 ⟨rfl, hb7⟩
            have HB7 := hideR (below_go' HB6.out hb7)
            clear hb7
            go_wp2
            go_ret
            exact ⟨rfl, HB7.out⟩
        · by_cases hq : 0 < q
          · have dq : decide ((0 : Int) < q) = true := decide_eq_true (by omega)
            have c0 : w3.cell? ⟨wr.heap.size + 1 + 1, 0, none⟩ = some (.slice (some ⟨wr.heap.size, 0, none⟩) 1 1) := cellOf HM3.out.mo rfl
            have t1 : ∀ o, (w3.alloc o).cell? ⟨wr.heap.size, 1, none⟩ = some (.slice none 0 0) := fun o => cell_on (new_on' _ o) (cellOf HM3.out.ft (j := 1) rfl)
            have c0o : ∀ o, (w3.alloc o).cell? ⟨wr.heap.size + 1 + 1, 0, none⟩ = some (.slice (some ⟨wr.heap.size, 0, none⟩) 1 1) := fun o => cell_on (new_on' _ o) c0
            have t2 : ∀ o, (w3.alloc o).frozen? ⟨wr.heap.size, 1, none⟩ = false := fun o => by unfold World.frozen?; rw [alloc_of HM3.out.ft]; simp
            go_upto_region 15 with fail
            obtain ⟨w5, hw5⟩ : ∃ w5, w5 = mk5 wr w3 126 := ⟨_, rfl⟩
            have HS := hideR (mk5_says HM3.out 126)
            rw [← hw5] at HS
            unfold mk5 at hw5
            rw [← hw5]
            clear hw5 c0 c0o t1 t2
            have HF := hideR HS.out.1
            have HMW := hideR (mwOf (utfI_on (below_go' HP.out HF.out.below) HI.out) HF.out.md HS.out.2 (at_now HF.out.below HA.out) HLN.out (.inr (.inr rfl)))
            have HV := hideR HMW.out.validate
            rw [dead2, ← HQ.out, if_pos hq] at HV
            have q0 : w5.cell? ⟨wr.heap.size + 1 + 1, 0, none⟩ = some (.slice (some ⟨wr.heap.size, 0, none⟩) 1 1) := cellOf HF.out.mo rfl
            have q1 : w5.cell? ⟨wr.heap.size + 1 + 1, 1, none⟩ = some (.slice none 0 0) := cellOf HF.out.mo rfl
            have q2 : w5.cell? ⟨wr.heap.size + 1 + 1, 2, none⟩ = some (.slice (some ⟨wr.heap.size + 1, 0, none⟩) 1 1) := cellOf HF.out.mo rfl
            have q3 : w5.cell? ⟨wr.heap.size + 1 + 1, 3, none⟩ = some (.slice none 0 0) := cellOf HF.out.mo rfl
            have q4 : w5.cell? ⟨wr.heap.size + 1 + 1, 4, none⟩ = some (.slice none 0 0) := cellOf HF.out.mo rfl
            have q5 : w5.cell? ⟨wr.heap.size + 1 + 1, 5, none⟩ = some (.slice none 0 0) := cellOf HF.out.mo rfl
            have q6 : w5.cell? ⟨wr.heap.size + 1 + 1, 6, none⟩ = some (.slice none 0 0) := cellOf HF.out.mo rfl
            have q7 : w5.cell? ⟨wr.heap.size + 1 + 1, 7, none⟩ = some (.slice none 0 0) := cellOf HF.out.mo rfl
            have q8 : w5.cell? ⟨wr.heap.size + 1 + 1, 8, none⟩ = some (.slice none 0 0) := cellOf HF.out.mo rfl
            have q9 : w5.cell? ⟨wr.heap.size + 1 + 1, 9, none⟩ = some (.slice none 0 0) := cellOf HF.out.mo rfl
            clear HMW
            unfold mCells at *
            go_wp2_with fail
            refine HV.out.mono ?_
            rintro e u6 ⟨rfl, hb6⟩
            have HB6 := hideR (below_go' (below_go' HP.out HF.out.below) hb6)
            clear hb6 HV q0 q1 q2 q3 q4 q5 q6 q7 q8 q9
            go_wp2_with fail
            refine (vWakes u6 (utfI_on HB6.out HI.out)).mono ?_
            rintro e u7 ⟨rfl, hb7⟩
            have HB7 := hideR (below_go' HB6.out hb7)
            clear hb7
            go_wp2
            go_ret
            exact ⟨rfl, HB7.out⟩
          · have dq : decide ((0 : Int) < q) = false := decide_eq_false (by omega)
            have c0 : w3.cell? ⟨wr.heap.size + 1 + 1, 0, none⟩ = some (.slice (some ⟨wr.heap.size, 0, none⟩) 1 1) := cellOf HM3.out.mo rfl
            have t1 : ∀ o, (w3.alloc o).cell? ⟨wr.heap.size, 1, none⟩ = some (.slice none 0 0) := fun o => cell_on (new_on' _ o) (cellOf HM3.out.ft (j := 1) rfl)
            have c0o : ∀ o, (w3.alloc o).cell? ⟨wr.heap.size + 1 + 1, 0, none⟩ = some (.slice (some ⟨wr.heap.size, 0, none⟩) 1 1) := fun o => cell_on (new_on' _ o) c0
            have t2 : ∀ o, (w3.alloc o).frozen? ⟨wr.heap.size, 1, none⟩ = false := fun o => by unfold World.frozen?; rw [alloc_of HM3.out.ft]; simp
            go_upto_region 15 with fail
            obtain ⟨w5, hw5⟩ : ∃ w5, w5 = mk5 wr w3 126 := ⟨_, rfl⟩
            have HS := hideR (mk5_says HM3.out 126)
            rw [← hw5] at HS
            unfold mk5 at hw5
            rw [← hw5]
            clear hw5 c0 c0o t1 t2
            have HF := hideR HS.out.1
            have HMW := hideR (mwOf (utfI_on (below_go' HP.out HF.out.below) HI.out) HF.out.md HS.out.2 (at_now HF.out.below HA.out) HLN.out (.inr (.inr rfl)))
            have HV := hideR HMW.out.validate
            rw [dead2, ← HQ.out, if_neg hq] at HV
            have q0 : w5.cell? ⟨wr.heap.size + 1 + 1, 0, none⟩ = some (.slice (some ⟨wr.heap.size, 0, none⟩) 1 1) := cellOf HF.out.mo rfl
            have q1 : w5.cell? ⟨wr.heap.size + 1 + 1, 1, none⟩ = some (.slice none 0 0) := cellOf HF.out.mo rfl
            have q2 : w5.cell? ⟨wr.heap.size + 1 + 1, 2, none⟩ = some (.slice (some ⟨wr.heap.size + 1, 0, none⟩) 1 1) := cellOf HF.out.mo rfl
            have q3 : w5.cell? ⟨wr.heap.size + 1 + 1, 3, none⟩ = some (.slice none 0 0) := cellOf HF.out.mo rfl
            have q4 : w5.cell? ⟨wr.heap.size + 1 + 1, 4, none⟩ = some (.slice none 0 0) := cellOf HF.out.mo rfl
            have q5 : w5.cell? ⟨wr.heap.size + 1 + 1, 5, none⟩ = some (.slice none 0 0) := cellOf HF.out.mo rfl
            have q6 : w5.cell? ⟨wr.heap.size + 1 + 1, 6, none⟩ = some (.slice none 0 0) := cellOf HF.out.mo rfl
            have q7 : w5.cell? ⟨wr.heap.size + 1 + 1, 7, none⟩ = some (.slice none 0 0) := cellOf HF.out.mo rfl
            have q8 : w5.cell? ⟨wr.heap.size + 1 + 1, 8, none⟩ = some (.slice none 0 0) := cellOf HF.out.mo rfl
            have q9 : w5.cell? ⟨wr.heap.size + 1 + 1, 9, none⟩ = some (.slice none 0 0) := cellOf HF.out.mo rfl
            clear HMW
            unfold mCells at *
            go_wp2_with fail
            refine HV.out.mono ?_
            rintro e u6 ⟨rfl, hb6⟩
            have HB6 := hideR (below_go' (below_go' HP.out HF.out.below) hb6)
            clear hb6 HV q0 q1 q2 q3 q4 q5 q6 q7 q8 q9
            go_wp2_with fail
            refine (vWakes u6 (utfI_on HB6.out HI.out)).mono ?_
            rintro e u7 ⟨rfl, hb7⟩
            have HB7 := hideR (below_go' HB6.out hb7)
            clear hb7
            go_wp2
            go_ret
            exact ⟨rfl, HB7.out⟩
end Go.Proofs.YtlpnoelolkbmmaaDoor

namespace Go.Proofs.YtlpnoelolkbmmaaDoor
open Go.RowKit Rep Val
set_option linter.unusedVariables false
theorem bools_of {H : Type} {enc : TypeId × Value → H} {w : World} {base : Nat} {spare : Nat → Bool} {held : Bool} {fuel : Nat} {v : Value} {x : DataW H × List MemPlace} (h : DataW.trod enc Tryd.prog w base spare held fuel 22 [v] = some x) : ∃ l, Bls w v l := by
  refine (row_of_trod 1 (by omega) _ Tryd.underlying22 cBool h fun n cs y b o _ hy hl hc => ?_).1
  obtain ⟨z, h1, _⟩ := DataW.trod_bool Tryd.underlying4 hy
  refine ⟨z, ?_⟩
  have := hc 0 (by omega)
  rw [h1] at this
  simpa using this
end Go.Proofs.YtlpnoelolkbmmaaDoor
