/- The program's Same: printed by gen_psame.py. -/
import Derived.Test.YtmedpblpcfobdaaDoorVP3s
import Derived.Deep.RegionLaw
import Derived.Deep.CutRange
namespace Go.Proofs.YtmedpblpcfobdaaDoor
open Go.RowKit Rep
set_option linter.unusedVariables false
namespace Rep
theorem samB_lenT {α : Type} {f : α → α → Bool} : ∀ (l k : List α), samB f l k = true → l.length = k.length
  | [], [], _ => rfl
  | [], _ :: _, h => by cases h
  | _ :: _, [], h => by cases h
  | x :: r, y :: s, h => by
    have h' : (f x y && samB f r s) = true := h
    rw [Bool.and_eq_true] at h'
    simp [samB_lenT r s h'.2]
theorem samM_chain {d : Nat} (m k : Mod d) : samM m k = (((((((((samB fT m.types k.types && samB fI m.imports k.imports) && samB fF m.funcs k.funcs) && samB fL m.tables k.tables) && samB fL m.mems k.mems) && samB fG m.globals k.globals) && samB fX m.exports k.exports) && samB (fun (x y : Int) => x == y) m.start k.start) && samB fE m.elems k.elems) && samB fD m.datas k.datas) := by
  have hb : ∀ a b : Bool, (a = true ↔ b = true) → a = b := fun a b h => by cases a <;> cases b <;> simp_all
  refine hb _ _ ⟨fun h => ?_, fun h => ?_⟩
  · unfold samM szs at h
    simp only [Bool.and_eq_true, lq_iff, decide_eq_true_eq] at h
    obtain ⟨⟨⟨⟨⟨⟨⟨⟨⟨⟨_, _⟩, _⟩, _⟩, _⟩, _⟩, _⟩, h7⟩, _⟩, _⟩, s0, s1, s2, s3, s4, s5, s6, s8, s9, _⟩ := h
    simp only [Bool.and_eq_true, samB_int, decide_eq_true_eq]
    exact ⟨⟨⟨⟨⟨⟨⟨⟨⟨s0, s1⟩, s2⟩, s3⟩, s4⟩, s5⟩, s6⟩, h7⟩, s8⟩, s9⟩
  · simp only [Bool.and_eq_true, samB_int, decide_eq_true_eq] at h
    obtain ⟨⟨⟨⟨⟨⟨⟨⟨⟨s0, s1⟩, s2⟩, s3⟩, s4⟩, s5⟩, s6⟩, h7⟩, s8⟩, s9⟩ := h
    unfold samM szs
    simp only [Bool.and_eq_true, lq_iff, decide_eq_true_eq]
    exact ⟨⟨⟨⟨⟨⟨⟨⟨⟨⟨samB_lenT _ _ s0, samB_lenT _ _ s1⟩, samB_lenT _ _ s2⟩, samB_lenT _ _ s3⟩, samB_lenT _ _ s4⟩, samB_lenT _ _ s5⟩, samB_lenT _ _ s6⟩, h7⟩, samB_lenT _ _ s8⟩, samB_lenT _ _ s9⟩, s0, s1, s2, s3, s4, s5, s6, s8, s9, trivial⟩
end Rep
namespace Rep
def QSame {d : Nat} (m k : Mod d) (o0 o1 o2 o3 o4 o5 o6 o7 o8 o9 g0 g1 g2 g3 g4 g5 g6 g7 g8 g9 : Option Addr) (n0 n1 n2 n3 n4 n5 n6 n7 n8 n9 k0 k1 k2 k3 k4 k5 k6 k7 k8 k9 m0 m1 m2 m3 m4 m5 m6 m7 m8 m9 h0 h1 h2 h3 h4 h5 h6 h7 h8 h9 : Nat) (p1 p2 : Nat) (C1 C2 C3 C4 C5 C6 C7 C8 C9 C10 e1 e2 e3 e4 e5 e6 e7 e8 e9 e10 : Bool) : Nat → Stab
  | 0 => sEq (.pointer (some ⟨p1, 0, none⟩))
  | 1 => sEq (.slice o0 n0 k0)
  | 2 => sEq (.pointer (some ⟨p2, 0, none⟩))
  | 3 => sEq (.slice g0 m0 h0)
  | 4 => sEq (.bool C1)
  | 5 => sEq (.bool C1)
  | 6 => sIf C1 (.pointer (some ⟨p1, 1, none⟩))
  | 7 => sIf C1 (.slice o1 n1 k1)
  | 8 => sIf C1 (.pointer (some ⟨p2, 1, none⟩))
  | 9 => sIf C1 (.slice g1 m1 h1)
  | 10 => sIf C1 (.bool e2)
  | 11 => sEq (.bool C2)
  | 12 => sEq (.bool C2)
  | 13 => sIf C2 (.pointer (some ⟨p1, 2, none⟩))
  | 14 => sIf C2 (.slice o2 n2 k2)
  | 15 => sIf C2 (.pointer (some ⟨p2, 2, none⟩))
  | 16 => sIf C2 (.slice g2 m2 h2)
  | 17 => sIf C2 (.bool e3)
  | 18 => sEq (.bool C3)
  | 19 => sEq (.bool C3)
  | 20 => sIf C3 (.pointer (some ⟨p1, 3, none⟩))
  | 21 => sIf C3 (.slice o3 n3 k3)
  | 22 => sIf C3 (.pointer (some ⟨p2, 3, none⟩))
  | 23 => sIf C3 (.slice g3 m3 h3)
  | 24 => sIf C3 (.bool e4)
  | 25 => sEq (.bool C4)
  | 26 => sEq (.bool C4)
  | 27 => sIf C4 (.pointer (some ⟨p1, 4, none⟩))
  | 28 => sIf C4 (.slice o4 n4 k4)
  | 29 => sIf C4 (.pointer (some ⟨p2, 4, none⟩))
  | 30 => sIf C4 (.slice g4 m4 h4)
  | 31 => sIf C4 (.bool e5)
  | 32 => sEq (.bool C5)
  | 33 => sEq (.bool C5)
  | 34 => sIf C5 (.pointer (some ⟨p1, 5, none⟩))
  | 35 => sIf C5 (.slice o5 n5 k5)
  | 36 => sIf C5 (.pointer (some ⟨p2, 5, none⟩))
  | 37 => sIf C5 (.slice g5 m5 h5)
  | 38 => sIf C5 (.bool e6)
  | 39 => sEq (.bool C6)
  | 40 => sEq (.bool C6)
  | 41 => sIf C6 (.pointer (some ⟨p1, 6, none⟩))
  | 42 => sIf C6 (.slice o6 n6 k6)
  | 43 => sIf C6 (.pointer (some ⟨p2, 6, none⟩))
  | 44 => sIf C6 (.slice g6 m6 h6)
  | 45 => sIf C6 (.bool e7)
  | 46 => sEq (.bool C7)
  | 47 => sEq (.bool C7)
  | 48 => sIf C7 (.pointer (some ⟨p1, 7, none⟩))
  | 49 => sIf C7 (.slice o7 n7 k7)
  | 50 => sIf C7 (.pointer (some ⟨p2, 7, none⟩))
  | 51 => sIf C7 (.slice g7 m7 h7)
  | 52 => sIf C7 (.bool e8)
  | 53 => sEq (.bool C8)
  | 54 => sEq (.bool C8)
  | 55 => sIf C8 (.pointer (some ⟨p1, 8, none⟩))
  | 56 => sIf C8 (.slice o8 n8 k8)
  | 57 => sIf C8 (.pointer (some ⟨p2, 8, none⟩))
  | 58 => sIf C8 (.slice g8 m8 h8)
  | 59 => sIf C8 (.bool e9)
  | 60 => sEq (.bool C9)
  | 61 => sEq (.bool C9)
  | 62 => sIf C9 (.pointer (some ⟨p1, 9, none⟩))
  | 63 => sIf C9 (.slice o9 n9 k9)
  | 64 => sIf C9 (.pointer (some ⟨p2, 9, none⟩))
  | 65 => sIf C9 (.slice g9 m9 h9)
  | 66 => sIf C9 (.bool e10)
  | 67 => sEq (.bool C10)
  | 68 => sEq (.bool C10)
  | _ => sEq undef
end Rep
set_option maxRecDepth 100000 in
set_option maxHeartbeats 8000000 in
theorem pSame {d : Nat} (m k : Mod d) (o0 o1 o2 o3 o4 o5 o6 o7 o8 o9 g0 g1 g2 g3 g4 g5 g6 g7 g8 g9 : Option Addr) (n0 n1 n2 n3 n4 n5 n6 n7 n8 n9 k0 k1 k2 k3 k4 k5 k6 k7 k8 k9 m0 m1 m2 m3 m4 m5 m6 m7 m8 m9 h0 h1 h2 h3 h4 h5 h6 h7 h8 h9 : Nat) (w : World) (hM : ModAt w d (.slice o0 n0 k0) (.slice o1 n1 k1) (.slice o2 n2 k2) (.slice o3 n3 k3) (.slice o4 n4 k4) (.slice o5 n5 k5) (.slice o6 n6 k6) (.slice o7 n7 k7) (.slice o8 n8 k8) (.slice o9 n9 k9) m) (hK : ModAt w d (.slice g0 m0 h0) (.slice g1 m1 h1) (.slice g2 m2 h2) (.slice g3 m3 h3) (.slice g4 m4 h4) (.slice g5 m5 h5) (.slice g6 m6 h6) (.slice g7 m7 h7) (.slice g8 m8 h8) (.slice g9 m9 h9) k) : Calls Tryd.prog 20 #[.agg #[.slice o0 n0 k0, .slice o1 n1 k1, .slice o2 n2 k2, .slice o3 n3 k3, .slice o4 n4 k4, .slice o5 n5 k5, .slice o6 n6 k6, .slice o7 n7 k7, .slice o8 n8 k8, .slice o9 n9 k9], .agg #[.slice g0 m0 h0, .slice g1 m1 h1, .slice g2 m2 h2, .slice g3 m3 h3, .slice g4 m4 h4, .slice g5 m5 h5, .slice g6 m6 h6, .slice g7 m7 h7, .slice g8 m8 h8, .slice g9 m9 h9]] w fun e w' => e = .returned (.bool (samM m k)) ∧ Below w.heap.size w w' := by
  have HM := hideR hM
  have HK := hideR hK
  clear hM hK
  obtain ⟨e1, HE10⟩ : ∃ e, e = samB fT m.types k.types := ⟨_, rfl⟩
  have HE1 := hideR HE10
  clear HE10
  obtain ⟨e2, HE20⟩ : ∃ e, e = samB fI m.imports k.imports := ⟨_, rfl⟩
  have HE2 := hideR HE20
  clear HE20
  obtain ⟨e3, HE30⟩ : ∃ e, e = samB fF m.funcs k.funcs := ⟨_, rfl⟩
  have HE3 := hideR HE30
  clear HE30
  obtain ⟨e4, HE40⟩ : ∃ e, e = samB fL m.tables k.tables := ⟨_, rfl⟩
  have HE4 := hideR HE40
  clear HE40
  obtain ⟨e5, HE50⟩ : ∃ e, e = samB fL m.mems k.mems := ⟨_, rfl⟩
  have HE5 := hideR HE50
  clear HE50
  obtain ⟨e6, HE60⟩ : ∃ e, e = samB fG m.globals k.globals := ⟨_, rfl⟩
  have HE6 := hideR HE60
  clear HE60
  obtain ⟨e7, HE70⟩ : ∃ e, e = samB fX m.exports k.exports := ⟨_, rfl⟩
  have HE7 := hideR HE70
  clear HE70
  obtain ⟨e8, HE80⟩ : ∃ e, e = samB (fun (x y : Int) => x == y) m.start k.start := ⟨_, rfl⟩
  have HE8 := hideR HE80
  clear HE80
  obtain ⟨e9, HE90⟩ : ∃ e, e = samB fE m.elems k.elems := ⟨_, rfl⟩
  have HE9 := hideR HE90
  clear HE90
  obtain ⟨e10, HE100⟩ : ∃ e, e = samB fD m.datas k.datas := ⟨_, rfl⟩
  have HE10 := hideR HE100
  clear HE100
  obtain ⟨C1, HC10⟩ : ∃ c, c = e1 := ⟨_, rfl⟩
  have HC1 := hideR HC10
  clear HC10
  obtain ⟨C2, HC20⟩ : ∃ c, c = (C1 && e2) := ⟨_, rfl⟩
  have HC2 := hideR HC20
  clear HC20
  obtain ⟨C3, HC30⟩ : ∃ c, c = (C2 && e3) := ⟨_, rfl⟩
  have HC3 := hideR HC30
  clear HC30
  obtain ⟨C4, HC40⟩ : ∃ c, c = (C3 && e4) := ⟨_, rfl⟩
  have HC4 := hideR HC40
  clear HC40
  obtain ⟨C5, HC50⟩ : ∃ c, c = (C4 && e5) := ⟨_, rfl⟩
  have HC5 := hideR HC50
  clear HC50
  obtain ⟨C6, HC60⟩ : ∃ c, c = (C5 && e6) := ⟨_, rfl⟩
  have HC6 := hideR HC60
  clear HC60
  obtain ⟨C7, HC70⟩ : ∃ c, c = (C6 && e7) := ⟨_, rfl⟩
  have HC7 := hideR HC70
  clear HC70
  obtain ⟨C8, HC80⟩ : ∃ c, c = (C7 && e8) := ⟨_, rfl⟩
  have HC8 := hideR HC80
  clear HC80
  obtain ⟨C9, HC90⟩ : ∃ c, c = (C8 && e9) := ⟨_, rfl⟩
  have HC9 := hideR HC90
  clear HC90
  obtain ⟨C10, HC100⟩ : ∃ c, c = (C9 && e10) := ⟨_, rfl⟩
  have HC10 := hideR HC100
  clear HC100
  have hZ : samM m k = C10 := by
    rw [samM_chain, HC10.out, HC9.out, HC8.out, HC7.out, HC6.out, HC5.out, HC4.out, HC3.out, HC2.out, HC1.out, HE1.out, HE2.out, HE3.out, HE4.out, HE5.out, HE6.out, HE7.out, HE8.out, HE9.out, HE10.out]
  rw [hZ]
  clear hZ
  go_enter Tryd.func20, Tryd.ntmps20
  go_upto_region 1 with fail
  obtain ⟨u1, hu1⟩ : ∃ u1, u1 = (w.alloc (.cells #[.slice o0 n0 k0, .slice o1 n1 k1, .slice o2 n2 k2, .slice o3 n3 k3, .slice o4 n4 k4, .slice o5 n5 k5, .slice o6 n6 k6, .slice o7 n7 k7, .slice o8 n8 k8, .slice o9 n9 k9] 36)).alloc (.cells #[.slice g0 m0 h0, .slice g1 m1 h1, .slice g2 m2 h2, .slice g3 m3 h3, .slice g4 m4 h4, .slice g5 m5 h5, .slice g6 m6 h6, .slice g7 m7 h7, .slice g8 m8 h8, .slice g9 m9 h9] 36) := ⟨_, rfl⟩
  have HB1 : Hid (Bk u1 w.heap.size 36 #[.slice o0 n0 k0, .slice o1 n1 k1, .slice o2 n2 k2, .slice o3 n3 k3, .slice o4 n4 k4, .slice o5 n5 k5, .slice o6 n6 k6, .slice o7 n7 k7, .slice o8 n8 k8, .slice o9 n9 k9]) := hideR (by rw [hu1]; exact (Bk.new rfl).on (new_on' _ _))
  have HB2 : Hid (Bk u1 (w.heap.size + 1) 36 #[.slice g0 m0 h0, .slice g1 m1 h1, .slice g2 m2 h2, .slice g3 m3 h3, .slice g4 m4 h4, .slice g5 m5 h5, .slice g6 m6 h6, .slice g7 m7 h7, .slice g8 m8 h8, .slice g9 m9 h9]) := hideR (by rw [hu1]; exact Bk.new (by simp))
  have HU : Hid (Below w.heap.size w u1) := hideR (by rw [hu1]; exact below_go' (new_on' _ _) (new_on' _ _))
  rw [← hu1]
  clear hu1
  obtain ⟨p2, hp2⟩ : ∃ p2, p2 = w.heap.size + 1 := ⟨_, rfl⟩
  rw [← hp2] at HB2 ⊢
  clear hp2
  generalize hp1 : w.heap.size = p1 at HB1 ⊢
  try simp only [List.append_eq, List.cons_append, List.nil_append]
  refine Reg.wp_region_allq 69 (fun i => if i < 68 then 5 + i else 4) (fun i => (QSame m k o0 o1 o2 o3 o4 o5 o6 o7 o8 o9 g0 g1 g2 g3 g4 g5 g6 g7 g8 g9 n0 n1 n2 n3 n4 n5 n6 n7 n8 n9 k0 k1 k2 k3 k4 k5 k6 k7 k8 k9 m0 m1 m2 m3 m4 m5 m6 m7 m8 m9 h0 h1 h2 h3 h4 h5 h6 h7 h8 h9 p1 p2 C1 C2 C3 C4 C5 C6 C7 C8 C9 C10 e1 e2 e3 e4 e5 e6 e7 e8 e9 e10 i).1) ?hn (fun i j h1 h2 h => by have h' : (if i < 68 then 5 + i else 4) = (if j < 68 then 5 + j else 4) := h; split at h' <;> split at h' <;> omega) (Reg.dst_okG (size := 73) (by kernel_rfl)) (fun i v w w' _ h hb => (QSame m k o0 o1 o2 o3 o4 o5 o6 o7 o8 o9 g0 g1 g2 g3 g4 g5 g6 g7 g8 g9 n0 n1 n2 n3 n4 n5 n6 n7 n8 n9 k0 k1 k2 k3 k4 k5 k6 k7 k8 k9 m0 m1 m2 m3 m4 m5 m6 m7 m8 m9 h0 h1 h2 h3 h4 h5 h6 h7 h8 h9 p1 p2 C1 C2 C3 C4 C5 C6 C7 C8 C9 C10 e1 e2 e3 e4 e5 e6 e7 e8 e9 e10 i).2 v w w' h hb) ?hstep ?htail
  case hn => simp
  case hstep =>
    intro i o a w2 hi ho hF hB hd
    have hBw := below_go' HU.out hB
    have f2 : a.tmps[2]?.getD undef = .pointer (some ⟨p1, 0, none⟩) := Reg.ev_get (hF.eval 2 (fun i hi => by show (if i < 68 then 5 + i else 4) ≠ 2; split <;> omega))
    have f3 : a.tmps[3]?.getD undef = .pointer (some ⟨p2, 0, none⟩) := Reg.ev_get (hF.eval 3 (fun i hi => by show (if i < 68 then 5 + i else 4) ≠ 3; split <;> omega))
    have c0 := (HB1.out.on hB).cell 0 _ rfl
    have c1 := (HB1.out.on hB).cell 1 _ rfl
    have c2 := (HB1.out.on hB).cell 2 _ rfl
    have c3 := (HB1.out.on hB).cell 3 _ rfl
    have c4 := (HB1.out.on hB).cell 4 _ rfl
    have c5 := (HB1.out.on hB).cell 5 _ rfl
    have c6 := (HB1.out.on hB).cell 6 _ rfl
    have c7 := (HB1.out.on hB).cell 7 _ rfl
    have c8 := (HB1.out.on hB).cell 8 _ rfl
    have c9 := (HB1.out.on hB).cell 9 _ rfl
    have d0 := (HB2.out.on hB).cell 0 _ rfl
    have d1 := (HB2.out.on hB).cell 1 _ rfl
    have d2 := (HB2.out.on hB).cell 2 _ rfl
    have d3 := (HB2.out.on hB).cell 3 _ rfl
    have d4 := (HB2.out.on hB).cell 4 _ rfl
    have d5 := (HB2.out.on hB).cell 5 _ rfl
    have d6 := (HB2.out.on hB).cell 6 _ rfl
    have d7 := (HB2.out.on hB).cell 7 _ rfl
    have d8 := (HB2.out.on hB).cell 8 _ rfl
    have d9 := (HB2.out.on hB).cell 9 _ rfl
    have HBW := hideR hBw
    clear hBw
    have hcase : i = 0 ∨ i = 1 ∨ i = 2 ∨ i = 3 ∨ i = 4 ∨ i = 5 ∨ i = 6 ∨ i = 7 ∨ i = 8 ∨ i = 9 ∨ i = 10 ∨ i = 11 ∨ i = 12 ∨ i = 13 ∨ i = 14 ∨ i = 15 ∨ i = 16 ∨ i = 17 ∨ i = 18 ∨ i = 19 ∨ i = 20 ∨ i = 21 ∨ i = 22 ∨ i = 23 ∨ i = 24 ∨ i = 25 ∨ i = 26 ∨ i = 27 ∨ i = 28 ∨ i = 29 ∨ i = 30 ∨ i = 31 ∨ i = 32 ∨ i = 33 ∨ i = 34 ∨ i = 35 ∨ i = 36 ∨ i = 37 ∨ i = 38 ∨ i = 39 ∨ i = 40 ∨ i = 41 ∨ i = 42 ∨ i = 43 ∨ i = 44 ∨ i = 45 ∨ i = 46 ∨ i = 47 ∨ i = 48 ∨ i = 49 ∨ i = 50 ∨ i = 51 ∨ i = 52 ∨ i = 53 ∨ i = 54 ∨ i = 55 ∨ i = 56 ∨ i = 57 ∨ i = 58 ∨ i = 59 ∨ i = 60 ∨ i = 61 ∨ i = 62 ∨ i = 63 ∨ i = 64 ∨ i = 65 ∨ i = 66 ∨ i = 67 ∨ i = 68 := by omega
    clear hi
    rcases hcase with rfl | rfl | rfl | rfl | rfl | rfl | rfl | rfl | rfl | rfl | rfl | rfl | rfl | rfl | rfl | rfl | rfl | rfl | rfl | rfl | rfl | rfl | rfl | rfl | rfl | rfl | rfl | rfl | rfl | rfl | rfl | rfl | rfl | rfl | rfl | rfl | rfl | rfl | rfl | rfl | rfl | rfl | rfl | rfl | rfl | rfl | rfl | rfl | rfl | rfl | rfl | rfl | rfl | rfl | rfl | rfl | rfl | rfl | rfl | rfl | rfl | rfl | rfl | rfl | rfl | rfl | rfl | rfl | rfl
    · simp only [List.getElem?_toArray, List.getElem?_cons_zero, Option.some.injEq] at ho
      subst ho
      refine Reg.Does.go rfl (Reg.step_k fun K hK => ?_)
      go_simp
      exact hK _ _ ⟨_, rfl, Below.refl _ _, rfl⟩
    · simp only [List.getElem?_toArray, List.getElem?_cons_succ, List.getElem?_cons_zero, Option.some.injEq] at ho
      subst ho
      have q0 : a.tmps[5]?.getD undef = .pointer (some ⟨p1, 0, none⟩) := Reg.ev_get (hd 0 (by decide))
      refine Reg.Does.go rfl (Reg.step_k fun K hK => ?_)
      go_simp
      exact hK _ _ ⟨_, rfl, Below.refl _ _, rfl⟩
    · simp only [List.getElem?_toArray, List.getElem?_cons_succ, List.getElem?_cons_zero, Option.some.injEq] at ho
      subst ho
      refine Reg.Does.go rfl (Reg.step_k fun K hK => ?_)
      go_simp
      exact hK _ _ ⟨_, rfl, Below.refl _ _, rfl⟩
    · simp only [List.getElem?_toArray, List.getElem?_cons_succ, List.getElem?_cons_zero, Option.some.injEq] at ho
      subst ho
      have q0 : a.tmps[7]?.getD undef = .pointer (some ⟨p2, 0, none⟩) := Reg.ev_get (hd 2 (by decide))
      refine Reg.Does.go rfl (Reg.step_k fun K hK => ?_)
      go_simp
      exact hK _ _ ⟨_, rfl, Below.refl _ _, rfl⟩
    · simp only [List.getElem?_toArray, List.getElem?_cons_succ, List.getElem?_cons_zero, Option.some.injEq] at ho
      subst ho
      have q0 : a.tmps[6]?.getD undef = .slice o0 n0 k0 := Reg.ev_get (hd 1 (by decide))
      have q1 : a.tmps[8]?.getD undef = .slice g0 m0 h0 := Reg.ev_get (hd 3 (by decide))
      refine Reg.Does.go rfl (Reg.step_k fun K hK => ?_)
      have HKK := hideR hK
      clear hK
      go_simp
      refine (pEqFFuncType _ _ m.types k.types w2 ((HM.out.on HBW.out).types) ((HK.out.on HBW.out).types)).mono ?_
      rintro e w' ⟨rfl, hw⟩
      exact HKK.out _ _ ⟨_, rfl, hw, congrArg Value.bool (HE1.out.symm.trans HC1.out.symm)⟩
    · simp only [List.getElem?_toArray, List.getElem?_cons_succ, List.getElem?_cons_zero, Option.some.injEq] at ho
      subst ho
      have q0 : a.tmps[9]?.getD undef = .bool C1 := Reg.ev_get (hd 4 (by decide))
      refine Reg.Does.go rfl (Reg.step_k fun K hK => ?_)
      go_simp
      exact hK _ _ ⟨_, rfl, Below.refl _ _, rfl⟩
    · simp only [List.getElem?_toArray, List.getElem?_cons_succ, List.getElem?_cons_zero, Option.some.injEq] at ho
      subst ho
      have qg : a.eval (.tmp 10) = .bool C1 := hd 5 (by decide)
      cases C1
      · exact Reg.Does.skip rfl rfl rfl qg rfl
      · refine Reg.Does.wanted rfl rfl rfl qg (Reg.step_k fun K hK => ?_)
        clear qg
        go_simp
        exact hK _ _ ⟨_, rfl, Below.refl _ _, rfl⟩
    · simp only [List.getElem?_toArray, List.getElem?_cons_succ, List.getElem?_cons_zero, Option.some.injEq] at ho
      subst ho
      have qg : a.eval (.tmp 10) = .bool C1 := hd 5 (by decide)
      cases C1
      · exact Reg.Does.skip rfl rfl rfl qg rfl
      · refine Reg.Does.wanted rfl rfl rfl qg (Reg.step_k fun K hK => ?_)
        clear qg
        have q0 : a.tmps[11]?.getD undef = .pointer (some ⟨p1, 1, none⟩) := Reg.ev_get (hd 6 (by decide))
        go_simp
        exact hK _ _ ⟨_, rfl, Below.refl _ _, rfl⟩
    · simp only [List.getElem?_toArray, List.getElem?_cons_succ, List.getElem?_cons_zero, Option.some.injEq] at ho
      subst ho
      have qg : a.eval (.tmp 10) = .bool C1 := hd 5 (by decide)
      cases C1
      · exact Reg.Does.skip rfl rfl rfl qg rfl
      · refine Reg.Does.wanted rfl rfl rfl qg (Reg.step_k fun K hK => ?_)
        clear qg
        go_simp
        exact hK _ _ ⟨_, rfl, Below.refl _ _, rfl⟩
    · simp only [List.getElem?_toArray, List.getElem?_cons_succ, List.getElem?_cons_zero, Option.some.injEq] at ho
      subst ho
      have qg : a.eval (.tmp 10) = .bool C1 := hd 5 (by decide)
      cases C1
      · exact Reg.Does.skip rfl rfl rfl qg rfl
      · refine Reg.Does.wanted rfl rfl rfl qg (Reg.step_k fun K hK => ?_)
        clear qg
        have q0 : a.tmps[13]?.getD undef = .pointer (some ⟨p2, 1, none⟩) := Reg.ev_get (hd 8 (by decide))
        go_simp
        exact hK _ _ ⟨_, rfl, Below.refl _ _, rfl⟩
    · simp only [List.getElem?_toArray, List.getElem?_cons_succ, List.getElem?_cons_zero, Option.some.injEq] at ho
      subst ho
      have qg : a.eval (.tmp 10) = .bool C1 := hd 5 (by decide)
      cases C1
      · exact Reg.Does.skip rfl rfl rfl qg rfl
      · refine Reg.Does.wanted rfl rfl rfl qg (Reg.step_k fun K hK => ?_)
        clear qg
        have q0 : a.tmps[12]?.getD undef = .slice o1 n1 k1 := Reg.ev_get (hd 7 (by decide))
        have q1 : a.tmps[14]?.getD undef = .slice g1 m1 h1 := Reg.ev_get (hd 9 (by decide))
        have HKK := hideR hK
        clear hK
        go_simp
        refine (pEqImp _ _ m.imports k.imports w2 ((HM.out.on HBW.out).imports) ((HK.out.on HBW.out).imports)).mono ?_
        rintro e w' ⟨rfl, hw⟩
        exact HKK.out _ _ ⟨_, rfl, hw, congrArg Value.bool (HE2.out.symm)⟩
    · simp only [List.getElem?_toArray, List.getElem?_cons_succ, List.getElem?_cons_zero, Option.some.injEq] at ho
      subst ho
      have qc : a.tmps[10]?.getD undef = .bool C1 := Reg.ev_get (hd 5 (by decide))
      have qe : a.tmps[15]?.getD undef = if C1 then .bool e2 else undef := Reg.ev_get (hd 10 (by decide))
      refine Reg.Does.go rfl (Reg.step_k fun K hK => ?_)
      have HCN := HC2
      cases C1
      · simp only [Bool.false_eq_true, if_false] at qe
        go_simp
        exact hK _ _ ⟨_, rfl, Below.refl _ _, congrArg Value.bool HCN.out.symm⟩
      · simp only [if_true] at qe
        go_simp
        exact hK _ _ ⟨_, rfl, Below.refl _ _, congrArg Value.bool (HCN.out.trans (Bool.true_and _)).symm⟩
    · simp only [List.getElem?_toArray, List.getElem?_cons_succ, List.getElem?_cons_zero, Option.some.injEq] at ho
      subst ho
      have q0 : a.tmps[16]?.getD undef = .bool C2 := Reg.ev_get (hd 11 (by decide))
      refine Reg.Does.go rfl (Reg.step_k fun K hK => ?_)
      go_simp
      exact hK _ _ ⟨_, rfl, Below.refl _ _, rfl⟩
    · simp only [List.getElem?_toArray, List.getElem?_cons_succ, List.getElem?_cons_zero, Option.some.injEq] at ho
      subst ho
      have qg : a.eval (.tmp 17) = .bool C2 := hd 12 (by decide)
      cases C2
      · exact Reg.Does.skip rfl rfl rfl qg rfl
      · refine Reg.Does.wanted rfl rfl rfl qg (Reg.step_k fun K hK => ?_)
        clear qg
        go_simp
        exact hK _ _ ⟨_, rfl, Below.refl _ _, rfl⟩
    · simp only [List.getElem?_toArray, List.getElem?_cons_succ, List.getElem?_cons_zero, Option.some.injEq] at ho
      subst ho
      have qg : a.eval (.tmp 17) = .bool C2 := hd 12 (by decide)
      cases C2
      · exact Reg.Does.skip rfl rfl rfl qg rfl
      · refine Reg.Does.wanted rfl rfl rfl qg (Reg.step_k fun K hK => ?_)
        clear qg
        have q0 : a.tmps[18]?.getD undef = .pointer (some ⟨p1, 2, none⟩) := Reg.ev_get (hd 13 (by decide))
        go_simp
        exact hK _ _ ⟨_, rfl, Below.refl _ _, rfl⟩
    · simp only [List.getElem?_toArray, List.getElem?_cons_succ, List.getElem?_cons_zero, Option.some.injEq] at ho
      subst ho
      have qg : a.eval (.tmp 17) = .bool C2 := hd 12 (by decide)
      cases C2
      · exact Reg.Does.skip rfl rfl rfl qg rfl
      · refine Reg.Does.wanted rfl rfl rfl qg (Reg.step_k fun K hK => ?_)
        clear qg
        go_simp
        exact hK _ _ ⟨_, rfl, Below.refl _ _, rfl⟩
    · simp only [List.getElem?_toArray, List.getElem?_cons_succ, List.getElem?_cons_zero, Option.some.injEq] at ho
      subst ho
      have qg : a.eval (.tmp 17) = .bool C2 := hd 12 (by decide)
      cases C2
      · exact Reg.Does.skip rfl rfl rfl qg rfl
      · refine Reg.Does.wanted rfl rfl rfl qg (Reg.step_k fun K hK => ?_)
        clear qg
        have q0 : a.tmps[20]?.getD undef = .pointer (some ⟨p2, 2, none⟩) := Reg.ev_get (hd 15 (by decide))
        go_simp
        exact hK _ _ ⟨_, rfl, Below.refl _ _, rfl⟩
    · simp only [List.getElem?_toArray, List.getElem?_cons_succ, List.getElem?_cons_zero, Option.some.injEq] at ho
      subst ho
      have qg : a.eval (.tmp 17) = .bool C2 := hd 12 (by decide)
      cases C2
      · exact Reg.Does.skip rfl rfl rfl qg rfl
      · refine Reg.Does.wanted rfl rfl rfl qg (Reg.step_k fun K hK => ?_)
        clear qg
        have q0 : a.tmps[19]?.getD undef = .slice o2 n2 k2 := Reg.ev_get (hd 14 (by decide))
        have q1 : a.tmps[21]?.getD undef = .slice g2 m2 h2 := Reg.ev_get (hd 16 (by decide))
        have HKK := hideR hK
        clear hK
        go_simp
        refine (pEqFFunc d _ _ m.funcs k.funcs w2 ((HM.out.on HBW.out).funcs) ((HK.out.on HBW.out).funcs)).mono ?_
        rintro e w' ⟨rfl, hw⟩
        exact HKK.out _ _ ⟨_, rfl, hw, congrArg Value.bool (HE3.out.symm)⟩
    · simp only [List.getElem?_toArray, List.getElem?_cons_succ, List.getElem?_cons_zero, Option.some.injEq] at ho
      subst ho
      have qc : a.tmps[17]?.getD undef = .bool C2 := Reg.ev_get (hd 12 (by decide))
      have qe : a.tmps[22]?.getD undef = if C2 then .bool e3 else undef := Reg.ev_get (hd 17 (by decide))
      refine Reg.Does.go rfl (Reg.step_k fun K hK => ?_)
      have HCN := HC3
      cases C2
      · simp only [Bool.false_eq_true, if_false] at qe
        go_simp
        exact hK _ _ ⟨_, rfl, Below.refl _ _, congrArg Value.bool HCN.out.symm⟩
      · simp only [if_true] at qe
        go_simp
        exact hK _ _ ⟨_, rfl, Below.refl _ _, congrArg Value.bool (HCN.out.trans (Bool.true_and _)).symm⟩
    · simp only [List.getElem?_toArray, List.getElem?_cons_succ, List.getElem?_cons_zero, Option.some.injEq] at ho
      subst ho
      have q0 : a.tmps[23]?.getD undef = .bool C3 := Reg.ev_get (hd 18 (by decide))
      refine Reg.Does.go rfl (Reg.step_k fun K hK => ?_)
      go_simp
      exact hK _ _ ⟨_, rfl, Below.refl _ _, rfl⟩
    · simp only [List.getElem?_toArray, List.getElem?_cons_succ, List.getElem?_cons_zero, Option.some.injEq] at ho
      subst ho
      have qg : a.eval (.tmp 24) = .bool C3 := hd 19 (by decide)
      cases C3
      · exact Reg.Does.skip rfl rfl rfl qg rfl
      · refine Reg.Does.wanted rfl rfl rfl qg (Reg.step_k fun K hK => ?_)
        clear qg
        go_simp
        exact hK _ _ ⟨_, rfl, Below.refl _ _, rfl⟩
    · simp only [List.getElem?_toArray, List.getElem?_cons_succ, List.getElem?_cons_zero, Option.some.injEq] at ho
      subst ho
      have qg : a.eval (.tmp 24) = .bool C3 := hd 19 (by decide)
      cases C3
      · exact Reg.Does.skip rfl rfl rfl qg rfl
      · refine Reg.Does.wanted rfl rfl rfl qg (Reg.step_k fun K hK => ?_)
        clear qg
        have q0 : a.tmps[25]?.getD undef = .pointer (some ⟨p1, 3, none⟩) := Reg.ev_get (hd 20 (by decide))
        go_simp
        exact hK _ _ ⟨_, rfl, Below.refl _ _, rfl⟩
    · simp only [List.getElem?_toArray, List.getElem?_cons_succ, List.getElem?_cons_zero, Option.some.injEq] at ho
      subst ho
      have qg : a.eval (.tmp 24) = .bool C3 := hd 19 (by decide)
      cases C3
      · exact Reg.Does.skip rfl rfl rfl qg rfl
      · refine Reg.Does.wanted rfl rfl rfl qg (Reg.step_k fun K hK => ?_)
        clear qg
        go_simp
        exact hK _ _ ⟨_, rfl, Below.refl _ _, rfl⟩
    · simp only [List.getElem?_toArray, List.getElem?_cons_succ, List.getElem?_cons_zero, Option.some.injEq] at ho
      subst ho
      have qg : a.eval (.tmp 24) = .bool C3 := hd 19 (by decide)
      cases C3
      · exact Reg.Does.skip rfl rfl rfl qg rfl
      · refine Reg.Does.wanted rfl rfl rfl qg (Reg.step_k fun K hK => ?_)
        clear qg
        have q0 : a.tmps[27]?.getD undef = .pointer (some ⟨p2, 3, none⟩) := Reg.ev_get (hd 22 (by decide))
        go_simp
        exact hK _ _ ⟨_, rfl, Below.refl _ _, rfl⟩
    · simp only [List.getElem?_toArray, List.getElem?_cons_succ, List.getElem?_cons_zero, Option.some.injEq] at ho
      subst ho
      have qg : a.eval (.tmp 24) = .bool C3 := hd 19 (by decide)
      cases C3
      · exact Reg.Does.skip rfl rfl rfl qg rfl
      · refine Reg.Does.wanted rfl rfl rfl qg (Reg.step_k fun K hK => ?_)
        clear qg
        have q0 : a.tmps[26]?.getD undef = .slice o3 n3 k3 := Reg.ev_get (hd 21 (by decide))
        have q1 : a.tmps[28]?.getD undef = .slice g3 m3 h3 := Reg.ev_get (hd 23 (by decide))
        have HKK := hideR hK
        clear hK
        go_simp
        refine (pEqLim _ _ m.tables k.tables w2 ((HM.out.on HBW.out).tables) ((HK.out.on HBW.out).tables)).mono ?_
        rintro e w' ⟨rfl, hw⟩
        exact HKK.out _ _ ⟨_, rfl, hw, congrArg Value.bool (HE4.out.symm)⟩
    · simp only [List.getElem?_toArray, List.getElem?_cons_succ, List.getElem?_cons_zero, Option.some.injEq] at ho
      subst ho
      have qc : a.tmps[24]?.getD undef = .bool C3 := Reg.ev_get (hd 19 (by decide))
      have qe : a.tmps[29]?.getD undef = if C3 then .bool e4 else undef := Reg.ev_get (hd 24 (by decide))
      refine Reg.Does.go rfl (Reg.step_k fun K hK => ?_)
      have HCN := HC4
      cases C3
      · simp only [Bool.false_eq_true, if_false] at qe
        go_simp
        exact hK _ _ ⟨_, rfl, Below.refl _ _, congrArg Value.bool HCN.out.symm⟩
      · simp only [if_true] at qe
        go_simp
        exact hK _ _ ⟨_, rfl, Below.refl _ _, congrArg Value.bool (HCN.out.trans (Bool.true_and _)).symm⟩
    · simp only [List.getElem?_toArray, List.getElem?_cons_succ, List.getElem?_cons_zero, Option.some.injEq] at ho
      subst ho
      have q0 : a.tmps[30]?.getD undef = .bool C4 := Reg.ev_get (hd 25 (by decide))
      refine Reg.Does.go rfl (Reg.step_k fun K hK => ?_)
      go_simp
      exact hK _ _ ⟨_, rfl, Below.refl _ _, rfl⟩
    · simp only [List.getElem?_toArray, List.getElem?_cons_succ, List.getElem?_cons_zero, Option.some.injEq] at ho
      subst ho
      have qg : a.eval (.tmp 31) = .bool C4 := hd 26 (by decide)
      cases C4
      · exact Reg.Does.skip rfl rfl rfl qg rfl
      · refine Reg.Does.wanted rfl rfl rfl qg (Reg.step_k fun K hK => ?_)
        clear qg
        go_simp
        exact hK _ _ ⟨_, rfl, Below.refl _ _, rfl⟩
    · simp only [List.getElem?_toArray, List.getElem?_cons_succ, List.getElem?_cons_zero, Option.some.injEq] at ho
      subst ho
      have qg : a.eval (.tmp 31) = .bool C4 := hd 26 (by decide)
      cases C4
      · exact Reg.Does.skip rfl rfl rfl qg rfl
      · refine Reg.Does.wanted rfl rfl rfl qg (Reg.step_k fun K hK => ?_)
        clear qg
        have q0 : a.tmps[32]?.getD undef = .pointer (some ⟨p1, 4, none⟩) := Reg.ev_get (hd 27 (by decide))
        go_simp
        exact hK _ _ ⟨_, rfl, Below.refl _ _, rfl⟩
    · simp only [List.getElem?_toArray, List.getElem?_cons_succ, List.getElem?_cons_zero, Option.some.injEq] at ho
      subst ho
      have qg : a.eval (.tmp 31) = .bool C4 := hd 26 (by decide)
      cases C4
      · exact Reg.Does.skip rfl rfl rfl qg rfl
      · refine Reg.Does.wanted rfl rfl rfl qg (Reg.step_k fun K hK => ?_)
        clear qg
        go_simp
        exact hK _ _ ⟨_, rfl, Below.refl _ _, rfl⟩
    · simp only [List.getElem?_toArray, List.getElem?_cons_succ, List.getElem?_cons_zero, Option.some.injEq] at ho
      subst ho
      have qg : a.eval (.tmp 31) = .bool C4 := hd 26 (by decide)
      cases C4
      · exact Reg.Does.skip rfl rfl rfl qg rfl
      · refine Reg.Does.wanted rfl rfl rfl qg (Reg.step_k fun K hK => ?_)
        clear qg
        have q0 : a.tmps[34]?.getD undef = .pointer (some ⟨p2, 4, none⟩) := Reg.ev_get (hd 29 (by decide))
        go_simp
        exact hK _ _ ⟨_, rfl, Below.refl _ _, rfl⟩
    · simp only [List.getElem?_toArray, List.getElem?_cons_succ, List.getElem?_cons_zero, Option.some.injEq] at ho
      subst ho
      have qg : a.eval (.tmp 31) = .bool C4 := hd 26 (by decide)
      cases C4
      · exact Reg.Does.skip rfl rfl rfl qg rfl
      · refine Reg.Does.wanted rfl rfl rfl qg (Reg.step_k fun K hK => ?_)
        clear qg
        have q0 : a.tmps[33]?.getD undef = .slice o4 n4 k4 := Reg.ev_get (hd 28 (by decide))
        have q1 : a.tmps[35]?.getD undef = .slice g4 m4 h4 := Reg.ev_get (hd 30 (by decide))
        have HKK := hideR hK
        clear hK
        go_simp
        refine (pEqLim _ _ m.mems k.mems w2 ((HM.out.on HBW.out).mems) ((HK.out.on HBW.out).mems)).mono ?_
        rintro e w' ⟨rfl, hw⟩
        exact HKK.out _ _ ⟨_, rfl, hw, congrArg Value.bool (HE5.out.symm)⟩
    · simp only [List.getElem?_toArray, List.getElem?_cons_succ, List.getElem?_cons_zero, Option.some.injEq] at ho
      subst ho
      have qc : a.tmps[31]?.getD undef = .bool C4 := Reg.ev_get (hd 26 (by decide))
      have qe : a.tmps[36]?.getD undef = if C4 then .bool e5 else undef := Reg.ev_get (hd 31 (by decide))
      refine Reg.Does.go rfl (Reg.step_k fun K hK => ?_)
      have HCN := HC5
      cases C4
      · simp only [Bool.false_eq_true, if_false] at qe
        go_simp
        exact hK _ _ ⟨_, rfl, Below.refl _ _, congrArg Value.bool HCN.out.symm⟩
      · simp only [if_true] at qe
        go_simp
        exact hK _ _ ⟨_, rfl, Below.refl _ _, congrArg Value.bool (HCN.out.trans (Bool.true_and _)).symm⟩
    · simp only [List.getElem?_toArray, List.getElem?_cons_succ, List.getElem?_cons_zero, Option.some.injEq] at ho
      subst ho
      have q0 : a.tmps[37]?.getD undef = .bool C5 := Reg.ev_get (hd 32 (by decide))
      refine Reg.Does.go rfl (Reg.step_k fun K hK => ?_)
      go_simp
      exact hK _ _ ⟨_, rfl, Below.refl _ _, rfl⟩
    · simp only [List.getElem?_toArray, List.getElem?_cons_succ, List.getElem?_cons_zero, Option.some.injEq] at ho
      subst ho
      have qg : a.eval (.tmp 38) = .bool C5 := hd 33 (by decide)
      cases C5
      · exact Reg.Does.skip rfl rfl rfl qg rfl
      · refine Reg.Does.wanted rfl rfl rfl qg (Reg.step_k fun K hK => ?_)
        clear qg
        go_simp
        exact hK _ _ ⟨_, rfl, Below.refl _ _, rfl⟩
    · simp only [List.getElem?_toArray, List.getElem?_cons_succ, List.getElem?_cons_zero, Option.some.injEq] at ho
      subst ho
      have qg : a.eval (.tmp 38) = .bool C5 := hd 33 (by decide)
      cases C5
      · exact Reg.Does.skip rfl rfl rfl qg rfl
      · refine Reg.Does.wanted rfl rfl rfl qg (Reg.step_k fun K hK => ?_)
        clear qg
        have q0 : a.tmps[39]?.getD undef = .pointer (some ⟨p1, 5, none⟩) := Reg.ev_get (hd 34 (by decide))
        go_simp
        exact hK _ _ ⟨_, rfl, Below.refl _ _, rfl⟩
    · simp only [List.getElem?_toArray, List.getElem?_cons_succ, List.getElem?_cons_zero, Option.some.injEq] at ho
      subst ho
      have qg : a.eval (.tmp 38) = .bool C5 := hd 33 (by decide)
      cases C5
      · exact Reg.Does.skip rfl rfl rfl qg rfl
      · refine Reg.Does.wanted rfl rfl rfl qg (Reg.step_k fun K hK => ?_)
        clear qg
        go_simp
        exact hK _ _ ⟨_, rfl, Below.refl _ _, rfl⟩
    · simp only [List.getElem?_toArray, List.getElem?_cons_succ, List.getElem?_cons_zero, Option.some.injEq] at ho
      subst ho
      have qg : a.eval (.tmp 38) = .bool C5 := hd 33 (by decide)
      cases C5
      · exact Reg.Does.skip rfl rfl rfl qg rfl
      · refine Reg.Does.wanted rfl rfl rfl qg (Reg.step_k fun K hK => ?_)
        clear qg
        have q0 : a.tmps[41]?.getD undef = .pointer (some ⟨p2, 5, none⟩) := Reg.ev_get (hd 36 (by decide))
        go_simp
        exact hK _ _ ⟨_, rfl, Below.refl _ _, rfl⟩
    · simp only [List.getElem?_toArray, List.getElem?_cons_succ, List.getElem?_cons_zero, Option.some.injEq] at ho
      subst ho
      have qg : a.eval (.tmp 38) = .bool C5 := hd 33 (by decide)
      cases C5
      · exact Reg.Does.skip rfl rfl rfl qg rfl
      · refine Reg.Does.wanted rfl rfl rfl qg (Reg.step_k fun K hK => ?_)
        clear qg
        have q0 : a.tmps[40]?.getD undef = .slice o5 n5 k5 := Reg.ev_get (hd 35 (by decide))
        have q1 : a.tmps[42]?.getD undef = .slice g5 m5 h5 := Reg.ev_get (hd 37 (by decide))
        have HKK := hideR hK
        clear hK
        go_simp
        refine (pEqFGlobal d _ _ m.globals k.globals w2 ((HM.out.on HBW.out).globals) ((HK.out.on HBW.out).globals)).mono ?_
        rintro e w' ⟨rfl, hw⟩
        exact HKK.out _ _ ⟨_, rfl, hw, congrArg Value.bool (HE6.out.symm)⟩
    · simp only [List.getElem?_toArray, List.getElem?_cons_succ, List.getElem?_cons_zero, Option.some.injEq] at ho
      subst ho
      have qc : a.tmps[38]?.getD undef = .bool C5 := Reg.ev_get (hd 33 (by decide))
      have qe : a.tmps[43]?.getD undef = if C5 then .bool e6 else undef := Reg.ev_get (hd 38 (by decide))
      refine Reg.Does.go rfl (Reg.step_k fun K hK => ?_)
      have HCN := HC6
      cases C5
      · simp only [Bool.false_eq_true, if_false] at qe
        go_simp
        exact hK _ _ ⟨_, rfl, Below.refl _ _, congrArg Value.bool HCN.out.symm⟩
      · simp only [if_true] at qe
        go_simp
        exact hK _ _ ⟨_, rfl, Below.refl _ _, congrArg Value.bool (HCN.out.trans (Bool.true_and _)).symm⟩
    · simp only [List.getElem?_toArray, List.getElem?_cons_succ, List.getElem?_cons_zero, Option.some.injEq] at ho
      subst ho
      have q0 : a.tmps[44]?.getD undef = .bool C6 := Reg.ev_get (hd 39 (by decide))
      refine Reg.Does.go rfl (Reg.step_k fun K hK => ?_)
      go_simp
      exact hK _ _ ⟨_, rfl, Below.refl _ _, rfl⟩
    · simp only [List.getElem?_toArray, List.getElem?_cons_succ, List.getElem?_cons_zero, Option.some.injEq] at ho
      subst ho
      have qg : a.eval (.tmp 45) = .bool C6 := hd 40 (by decide)
      cases C6
      · exact Reg.Does.skip rfl rfl rfl qg rfl
      · refine Reg.Does.wanted rfl rfl rfl qg (Reg.step_k fun K hK => ?_)
        clear qg
        go_simp
        exact hK _ _ ⟨_, rfl, Below.refl _ _, rfl⟩
    · simp only [List.getElem?_toArray, List.getElem?_cons_succ, List.getElem?_cons_zero, Option.some.injEq] at ho
      subst ho
      have qg : a.eval (.tmp 45) = .bool C6 := hd 40 (by decide)
      cases C6
      · exact Reg.Does.skip rfl rfl rfl qg rfl
      · refine Reg.Does.wanted rfl rfl rfl qg (Reg.step_k fun K hK => ?_)
        clear qg
        have q0 : a.tmps[46]?.getD undef = .pointer (some ⟨p1, 6, none⟩) := Reg.ev_get (hd 41 (by decide))
        go_simp
        exact hK _ _ ⟨_, rfl, Below.refl _ _, rfl⟩
    · simp only [List.getElem?_toArray, List.getElem?_cons_succ, List.getElem?_cons_zero, Option.some.injEq] at ho
      subst ho
      have qg : a.eval (.tmp 45) = .bool C6 := hd 40 (by decide)
      cases C6
      · exact Reg.Does.skip rfl rfl rfl qg rfl
      · refine Reg.Does.wanted rfl rfl rfl qg (Reg.step_k fun K hK => ?_)
        clear qg
        go_simp
        exact hK _ _ ⟨_, rfl, Below.refl _ _, rfl⟩
    · simp only [List.getElem?_toArray, List.getElem?_cons_succ, List.getElem?_cons_zero, Option.some.injEq] at ho
      subst ho
      have qg : a.eval (.tmp 45) = .bool C6 := hd 40 (by decide)
      cases C6
      · exact Reg.Does.skip rfl rfl rfl qg rfl
      · refine Reg.Does.wanted rfl rfl rfl qg (Reg.step_k fun K hK => ?_)
        clear qg
        have q0 : a.tmps[48]?.getD undef = .pointer (some ⟨p2, 6, none⟩) := Reg.ev_get (hd 43 (by decide))
        go_simp
        exact hK _ _ ⟨_, rfl, Below.refl _ _, rfl⟩
    · simp only [List.getElem?_toArray, List.getElem?_cons_succ, List.getElem?_cons_zero, Option.some.injEq] at ho
      subst ho
      have qg : a.eval (.tmp 45) = .bool C6 := hd 40 (by decide)
      cases C6
      · exact Reg.Does.skip rfl rfl rfl qg rfl
      · refine Reg.Does.wanted rfl rfl rfl qg (Reg.step_k fun K hK => ?_)
        clear qg
        have q0 : a.tmps[47]?.getD undef = .slice o6 n6 k6 := Reg.ev_get (hd 42 (by decide))
        have q1 : a.tmps[49]?.getD undef = .slice g6 m6 h6 := Reg.ev_get (hd 44 (by decide))
        have HKK := hideR hK
        clear hK
        go_simp
        refine (pEqExp _ _ m.exports k.exports w2 ((HM.out.on HBW.out).exports) ((HK.out.on HBW.out).exports)).mono ?_
        rintro e w' ⟨rfl, hw⟩
        exact HKK.out _ _ ⟨_, rfl, hw, congrArg Value.bool (HE7.out.symm)⟩
    · simp only [List.getElem?_toArray, List.getElem?_cons_succ, List.getElem?_cons_zero, Option.some.injEq] at ho
      subst ho
      have qc : a.tmps[45]?.getD undef = .bool C6 := Reg.ev_get (hd 40 (by decide))
      have qe : a.tmps[50]?.getD undef = if C6 then .bool e7 else undef := Reg.ev_get (hd 45 (by decide))
      refine Reg.Does.go rfl (Reg.step_k fun K hK => ?_)
      have HCN := HC7
      cases C6
      · simp only [Bool.false_eq_true, if_false] at qe
        go_simp
        exact hK _ _ ⟨_, rfl, Below.refl _ _, congrArg Value.bool HCN.out.symm⟩
      · simp only [if_true] at qe
        go_simp
        exact hK _ _ ⟨_, rfl, Below.refl _ _, congrArg Value.bool (HCN.out.trans (Bool.true_and _)).symm⟩
    · simp only [List.getElem?_toArray, List.getElem?_cons_succ, List.getElem?_cons_zero, Option.some.injEq] at ho
      subst ho
      have q0 : a.tmps[51]?.getD undef = .bool C7 := Reg.ev_get (hd 46 (by decide))
      refine Reg.Does.go rfl (Reg.step_k fun K hK => ?_)
      go_simp
      exact hK _ _ ⟨_, rfl, Below.refl _ _, rfl⟩
    · simp only [List.getElem?_toArray, List.getElem?_cons_succ, List.getElem?_cons_zero, Option.some.injEq] at ho
      subst ho
      have qg : a.eval (.tmp 52) = .bool C7 := hd 47 (by decide)
      cases C7
      · exact Reg.Does.skip rfl rfl rfl qg rfl
      · refine Reg.Does.wanted rfl rfl rfl qg (Reg.step_k fun K hK => ?_)
        clear qg
        go_simp
        exact hK _ _ ⟨_, rfl, Below.refl _ _, rfl⟩
    · simp only [List.getElem?_toArray, List.getElem?_cons_succ, List.getElem?_cons_zero, Option.some.injEq] at ho
      subst ho
      have qg : a.eval (.tmp 52) = .bool C7 := hd 47 (by decide)
      cases C7
      · exact Reg.Does.skip rfl rfl rfl qg rfl
      · refine Reg.Does.wanted rfl rfl rfl qg (Reg.step_k fun K hK => ?_)
        clear qg
        have q0 : a.tmps[53]?.getD undef = .pointer (some ⟨p1, 7, none⟩) := Reg.ev_get (hd 48 (by decide))
        go_simp
        exact hK _ _ ⟨_, rfl, Below.refl _ _, rfl⟩
    · simp only [List.getElem?_toArray, List.getElem?_cons_succ, List.getElem?_cons_zero, Option.some.injEq] at ho
      subst ho
      have qg : a.eval (.tmp 52) = .bool C7 := hd 47 (by decide)
      cases C7
      · exact Reg.Does.skip rfl rfl rfl qg rfl
      · refine Reg.Does.wanted rfl rfl rfl qg (Reg.step_k fun K hK => ?_)
        clear qg
        go_simp
        exact hK _ _ ⟨_, rfl, Below.refl _ _, rfl⟩
    · simp only [List.getElem?_toArray, List.getElem?_cons_succ, List.getElem?_cons_zero, Option.some.injEq] at ho
      subst ho
      have qg : a.eval (.tmp 52) = .bool C7 := hd 47 (by decide)
      cases C7
      · exact Reg.Does.skip rfl rfl rfl qg rfl
      · refine Reg.Does.wanted rfl rfl rfl qg (Reg.step_k fun K hK => ?_)
        clear qg
        have q0 : a.tmps[55]?.getD undef = .pointer (some ⟨p2, 7, none⟩) := Reg.ev_get (hd 50 (by decide))
        go_simp
        exact hK _ _ ⟨_, rfl, Below.refl _ _, rfl⟩
    · simp only [List.getElem?_toArray, List.getElem?_cons_succ, List.getElem?_cons_zero, Option.some.injEq] at ho
      subst ho
      have qg : a.eval (.tmp 52) = .bool C7 := hd 47 (by decide)
      cases C7
      · exact Reg.Does.skip rfl rfl rfl qg rfl
      · refine Reg.Does.wanted rfl rfl rfl qg (Reg.step_k fun K hK => ?_)
        clear qg
        have q0 : a.tmps[54]?.getD undef = .slice o7 n7 k7 := Reg.ev_get (hd 49 (by decide))
        have q1 : a.tmps[56]?.getD undef = .slice g7 m7 h7 := Reg.ev_get (hd 51 (by decide))
        have HKK := hideR hK
        clear hK
        go_simp
        refine (pEqInt _ _ m.start k.start w2 ((HM.out.on HBW.out).start) ((HK.out.on HBW.out).start)).mono ?_
        rintro e w' ⟨rfl, hw⟩
        exact HKK.out _ _ ⟨_, rfl, hw, congrArg Value.bool (HE8.out.symm)⟩
    · simp only [List.getElem?_toArray, List.getElem?_cons_succ, List.getElem?_cons_zero, Option.some.injEq] at ho
      subst ho
      have qc : a.tmps[52]?.getD undef = .bool C7 := Reg.ev_get (hd 47 (by decide))
      have qe : a.tmps[57]?.getD undef = if C7 then .bool e8 else undef := Reg.ev_get (hd 52 (by decide))
      refine Reg.Does.go rfl (Reg.step_k fun K hK => ?_)
      have HCN := HC8
      cases C7
      · simp only [Bool.false_eq_true, if_false] at qe
        go_simp
        exact hK _ _ ⟨_, rfl, Below.refl _ _, congrArg Value.bool HCN.out.symm⟩
      · simp only [if_true] at qe
        go_simp
        exact hK _ _ ⟨_, rfl, Below.refl _ _, congrArg Value.bool (HCN.out.trans (Bool.true_and _)).symm⟩
    · simp only [List.getElem?_toArray, List.getElem?_cons_succ, List.getElem?_cons_zero, Option.some.injEq] at ho
      subst ho
      have q0 : a.tmps[58]?.getD undef = .bool C8 := Reg.ev_get (hd 53 (by decide))
      refine Reg.Does.go rfl (Reg.step_k fun K hK => ?_)
      go_simp
      exact hK _ _ ⟨_, rfl, Below.refl _ _, rfl⟩
    · simp only [List.getElem?_toArray, List.getElem?_cons_succ, List.getElem?_cons_zero, Option.some.injEq] at ho
      subst ho
      have qg : a.eval (.tmp 59) = .bool C8 := hd 54 (by decide)
      cases C8
      · exact Reg.Does.skip rfl rfl rfl qg rfl
      · refine Reg.Does.wanted rfl rfl rfl qg (Reg.step_k fun K hK => ?_)
        clear qg
        go_simp
        exact hK _ _ ⟨_, rfl, Below.refl _ _, rfl⟩
    · simp only [List.getElem?_toArray, List.getElem?_cons_succ, List.getElem?_cons_zero, Option.some.injEq] at ho
      subst ho
      have qg : a.eval (.tmp 59) = .bool C8 := hd 54 (by decide)
      cases C8
      · exact Reg.Does.skip rfl rfl rfl qg rfl
      · refine Reg.Does.wanted rfl rfl rfl qg (Reg.step_k fun K hK => ?_)
        clear qg
        have q0 : a.tmps[60]?.getD undef = .pointer (some ⟨p1, 8, none⟩) := Reg.ev_get (hd 55 (by decide))
        go_simp
        exact hK _ _ ⟨_, rfl, Below.refl _ _, rfl⟩
    · simp only [List.getElem?_toArray, List.getElem?_cons_succ, List.getElem?_cons_zero, Option.some.injEq] at ho
      subst ho
      have qg : a.eval (.tmp 59) = .bool C8 := hd 54 (by decide)
      cases C8
      · exact Reg.Does.skip rfl rfl rfl qg rfl
      · refine Reg.Does.wanted rfl rfl rfl qg (Reg.step_k fun K hK => ?_)
        clear qg
        go_simp
        exact hK _ _ ⟨_, rfl, Below.refl _ _, rfl⟩
    · simp only [List.getElem?_toArray, List.getElem?_cons_succ, List.getElem?_cons_zero, Option.some.injEq] at ho
      subst ho
      have qg : a.eval (.tmp 59) = .bool C8 := hd 54 (by decide)
      cases C8
      · exact Reg.Does.skip rfl rfl rfl qg rfl
      · refine Reg.Does.wanted rfl rfl rfl qg (Reg.step_k fun K hK => ?_)
        clear qg
        have q0 : a.tmps[62]?.getD undef = .pointer (some ⟨p2, 8, none⟩) := Reg.ev_get (hd 57 (by decide))
        go_simp
        exact hK _ _ ⟨_, rfl, Below.refl _ _, rfl⟩
    · simp only [List.getElem?_toArray, List.getElem?_cons_succ, List.getElem?_cons_zero, Option.some.injEq] at ho
      subst ho
      have qg : a.eval (.tmp 59) = .bool C8 := hd 54 (by decide)
      cases C8
      · exact Reg.Does.skip rfl rfl rfl qg rfl
      · refine Reg.Does.wanted rfl rfl rfl qg (Reg.step_k fun K hK => ?_)
        clear qg
        have q0 : a.tmps[61]?.getD undef = .slice o8 n8 k8 := Reg.ev_get (hd 56 (by decide))
        have q1 : a.tmps[63]?.getD undef = .slice g8 m8 h8 := Reg.ev_get (hd 58 (by decide))
        have HKK := hideR hK
        clear hK
        go_simp
        refine (pEqFElem d _ _ m.elems k.elems w2 ((HM.out.on HBW.out).elems) ((HK.out.on HBW.out).elems)).mono ?_
        rintro e w' ⟨rfl, hw⟩
        exact HKK.out _ _ ⟨_, rfl, hw, congrArg Value.bool (HE9.out.symm)⟩
    · simp only [List.getElem?_toArray, List.getElem?_cons_succ, List.getElem?_cons_zero, Option.some.injEq] at ho
      subst ho
      have qc : a.tmps[59]?.getD undef = .bool C8 := Reg.ev_get (hd 54 (by decide))
      have qe : a.tmps[64]?.getD undef = if C8 then .bool e9 else undef := Reg.ev_get (hd 59 (by decide))
      refine Reg.Does.go rfl (Reg.step_k fun K hK => ?_)
      have HCN := HC9
      cases C8
      · simp only [Bool.false_eq_true, if_false] at qe
        go_simp
        exact hK _ _ ⟨_, rfl, Below.refl _ _, congrArg Value.bool HCN.out.symm⟩
      · simp only [if_true] at qe
        go_simp
        exact hK _ _ ⟨_, rfl, Below.refl _ _, congrArg Value.bool (HCN.out.trans (Bool.true_and _)).symm⟩
    · simp only [List.getElem?_toArray, List.getElem?_cons_succ, List.getElem?_cons_zero, Option.some.injEq] at ho
      subst ho
      have q0 : a.tmps[65]?.getD undef = .bool C9 := Reg.ev_get (hd 60 (by decide))
      refine Reg.Does.go rfl (Reg.step_k fun K hK => ?_)
      go_simp
      exact hK _ _ ⟨_, rfl, Below.refl _ _, rfl⟩
    · simp only [List.getElem?_toArray, List.getElem?_cons_succ, List.getElem?_cons_zero, Option.some.injEq] at ho
      subst ho
      have qg : a.eval (.tmp 66) = .bool C9 := hd 61 (by decide)
      cases C9
      · exact Reg.Does.skip rfl rfl rfl qg rfl
      · refine Reg.Does.wanted rfl rfl rfl qg (Reg.step_k fun K hK => ?_)
        clear qg
        go_simp
        exact hK _ _ ⟨_, rfl, Below.refl _ _, rfl⟩
    · simp only [List.getElem?_toArray, List.getElem?_cons_succ, List.getElem?_cons_zero, Option.some.injEq] at ho
      subst ho
      have qg : a.eval (.tmp 66) = .bool C9 := hd 61 (by decide)
      cases C9
      · exact Reg.Does.skip rfl rfl rfl qg rfl
      · refine Reg.Does.wanted rfl rfl rfl qg (Reg.step_k fun K hK => ?_)
        clear qg
        have q0 : a.tmps[67]?.getD undef = .pointer (some ⟨p1, 9, none⟩) := Reg.ev_get (hd 62 (by decide))
        go_simp
        exact hK _ _ ⟨_, rfl, Below.refl _ _, rfl⟩
    · simp only [List.getElem?_toArray, List.getElem?_cons_succ, List.getElem?_cons_zero, Option.some.injEq] at ho
      subst ho
      have qg : a.eval (.tmp 66) = .bool C9 := hd 61 (by decide)
      cases C9
      · exact Reg.Does.skip rfl rfl rfl qg rfl
      · refine Reg.Does.wanted rfl rfl rfl qg (Reg.step_k fun K hK => ?_)
        clear qg
        go_simp
        exact hK _ _ ⟨_, rfl, Below.refl _ _, rfl⟩
    · simp only [List.getElem?_toArray, List.getElem?_cons_succ, List.getElem?_cons_zero, Option.some.injEq] at ho
      subst ho
      have qg : a.eval (.tmp 66) = .bool C9 := hd 61 (by decide)
      cases C9
      · exact Reg.Does.skip rfl rfl rfl qg rfl
      · refine Reg.Does.wanted rfl rfl rfl qg (Reg.step_k fun K hK => ?_)
        clear qg
        have q0 : a.tmps[69]?.getD undef = .pointer (some ⟨p2, 9, none⟩) := Reg.ev_get (hd 64 (by decide))
        go_simp
        exact hK _ _ ⟨_, rfl, Below.refl _ _, rfl⟩
    · simp only [List.getElem?_toArray, List.getElem?_cons_succ, List.getElem?_cons_zero, Option.some.injEq] at ho
      subst ho
      have qg : a.eval (.tmp 66) = .bool C9 := hd 61 (by decide)
      cases C9
      · exact Reg.Does.skip rfl rfl rfl qg rfl
      · refine Reg.Does.wanted rfl rfl rfl qg (Reg.step_k fun K hK => ?_)
        clear qg
        have q0 : a.tmps[68]?.getD undef = .slice o9 n9 k9 := Reg.ev_get (hd 63 (by decide))
        have q1 : a.tmps[70]?.getD undef = .slice g9 m9 h9 := Reg.ev_get (hd 65 (by decide))
        have HKK := hideR hK
        clear hK
        go_simp
        refine (pEqFData d _ _ m.datas k.datas w2 ((HM.out.on HBW.out).datas) ((HK.out.on HBW.out).datas)).mono ?_
        rintro e w' ⟨rfl, hw⟩
        exact HKK.out _ _ ⟨_, rfl, hw, congrArg Value.bool (HE10.out.symm)⟩
    · simp only [List.getElem?_toArray, List.getElem?_cons_succ, List.getElem?_cons_zero, Option.some.injEq] at ho
      subst ho
      have qc : a.tmps[66]?.getD undef = .bool C9 := Reg.ev_get (hd 61 (by decide))
      have qe : a.tmps[71]?.getD undef = if C9 then .bool e10 else undef := Reg.ev_get (hd 66 (by decide))
      refine Reg.Does.go rfl (Reg.step_k fun K hK => ?_)
      have HCN := HC10
      cases C9
      · simp only [Bool.false_eq_true, if_false] at qe
        go_simp
        exact hK _ _ ⟨_, rfl, Below.refl _ _, congrArg Value.bool HCN.out.symm⟩
      · simp only [if_true] at qe
        go_simp
        exact hK _ _ ⟨_, rfl, Below.refl _ _, congrArg Value.bool (HCN.out.trans (Bool.true_and _)).symm⟩
    · simp only [List.getElem?_toArray, List.getElem?_cons_succ, List.getElem?_cons_zero, Option.some.injEq] at ho
      subst ho
      have q0 : a.tmps[72]?.getD undef = .bool C10 := Reg.ev_get (hd 67 (by decide))
      refine Reg.Does.go rfl (Reg.step_k fun K hK => ?_)
      go_simp
      exact hK _ _ ⟨_, rfl, Below.refl _ _, rfl⟩
  case htail =>
    intro a w2 hF hB hG
    have gl : a.eval (.tmp 4) = .bool C10 := hG 68 (by omega)
    have HW := hideR (below_go' HU.out hB)
    rw [List.drop_eq_nil_of_le (by simp)]
    refine wpList_nil ?_
    go_wp2_with fail
    refine bodyPost_ret (v := .bool C10) ((results_tmp rfl _ _ _).trans (congrArg (fun v => Result.ok v w2) gl)) hF.defers ⟨rfl, hp1 ▸ HW.out⟩
end Go.Proofs.YtmedpblpcfobdaaDoor
