/- A frame dies. -/
import Derived.Test.YtlpnoelolkbmmaaDoorV6
import Derived.Deep.Cut
import Derived.Deep.CutRange
namespace Go.Proofs.YtlpnoelolkbmmaaDoor
open Go.RowKit Rep Val
set_option linter.unusedVariables false
namespace Val
def kill (f : Fv) : Fv := ({ f.1 with dead := true }, f.2)
theorem flat4_kill (fs : List Fv) (f : Fv) : (flat4 (fs ++ [f])).set (fs.length * 4 + 3) (.bool true) = flat4 (fs ++ [kill f]) := by
  rw [flat4_app, flat4_app, List.set_append_right _ _ (by rw [flat4_len]; omega), flat4_len, Nat.add_sub_cancel_left]
  rfl
theorem TS.die {w0 w : World} {p : Nat} {c : Nat → Value} {loc : Value} {st : List Int} {fs : List Fv} {f : Fv} {vs : Value} {g n cap : Nat} (h : TS w0 p c loc st (fs ++ [f]) vs (.slice (some ⟨g, 0, none⟩) n cap) w) :
    TS w0 p c loc st (fs ++ [kill f]) vs (.slice (some ⟨g, 0, none⟩) n cap) (w.setCell ⟨g, fs.length * 4 + 3, none⟩ (.bool true)) ∧ Gr p vs (.slice (some ⟨g, 0, none⟩) n cap) w vs (.slice (some ⟨g, 0, none⟩) n cap) (w.setCell ⟨g, fs.length * 4 + 3, none⟩ (.bool true)) := by
  have hn : n = (fs ++ [f]).length := by
    obtain ⟨o, c', e⟩ := own_slice h.hf
    injection e
  subst hn
  have hgb := (h.hf.lt g rfl)
  have hb : ∀ k, k ≠ g → (w.setCell ⟨g, fs.length * 4 + 3, none⟩ (.bool true)).heap[k]? = w.heap[k]? := fun k hk => Below.heap_setCell _ _ _ _ hk
  have hg : Gr p vs (.slice (some ⟨g, 0, none⟩) (fs ++ [f]).length cap) w vs (.slice (some ⟨g, 0, none⟩) (fs ++ [f]).length cap) (w.setCell ⟨g, fs.length * 4 + 3, none⟩ (.bool true)) :=
    ⟨by simp, fun k hk => ⟨⟨by simpa using hk.1, hk.2⟩, hb k (fun e => hk.2.2.2 (by rw [e]; rfl))⟩⟩
  have grown : w.grownBy (w.setCell ⟨g, fs.length * 4 + 3, none⟩ (.bool true)) (some g) := ⟨rfl, rfl, rfl, by simp, fun k _ hk => hb k (fun e => hk (by rw [e]))⟩
  have hs' := h.hs.kept grown (by
    cases hq : vs.ownBlock with
    | none => exact .inl rfl
    | some q => exact .inr (fun e => by injection e with e; subst e; exact h.ne q hq rfl))
  have hf' := World.ownsRow.stored h.hf (fs.length * 4 + 3) (.bool true)
  rw [flat4_kill] at hf'
  refine ⟨⟨h.below.setCell (by have := h.base; show w0.heap.size ≤ g; omega) _, h.base, by rw [hb p (by omega)]; exact h.blk, hs', by rw [show (fs ++ [kill f]).length = (fs ++ [f]).length by simp]; exact hf'.1, fun x hx => ?_⟩, hg⟩
  rcases List.mem_append.1 hx with hx | hx
  · have := h.ints x (List.mem_append_left _ hx)
    exact ⟨this.1.keep hg.keep, this.2.keep hg.keep⟩
  · rw [List.mem_singleton.1 hx]
    have := h.ints f (List.mem_append_right _ (List.mem_singleton.2 rfl))
    exact ⟨this.1.keep hg.keep, this.2.keep hg.keep⟩
/-- what the reads of die tell -/
def dG (p g q : Nat) (vs vs' : Value) (ht : Nat) : Nat → Value
  | 0 => .pointer (some ⟨p, 0, none⟩)
  | 1 => .pointer (some ⟨p, 0, none⟩)
  | 2 => .pointer (some ⟨p, 0, none⟩)
  | 3 => .pointer (some ⟨p, 11, none⟩)
  | 4 => vs
  | 5 => .pointer (some ⟨g, q, none⟩)
  | 6 => .pointer (some ⟨g, q, none⟩)
  | 7 => .pointer (some ⟨g, q + 2, none⟩)
  | 8 => .int .i64 ht
  | 9 => vs'
  | 10 => .pointer (some ⟨p, 0, none⟩)
  | _ => .pointer (some ⟨p, 11, none⟩)
end Val
set_option maxRecDepth 100000 in
set_option maxHeartbeats 8000000 in
theorem vDie (w0 : World) (p : Nat) (c : Nat → Value) (loc : Value) (st : List Int) (fs : List Fv) (f : Fv) (vs vf : Value) (w : World) (h : TS w0 p c loc st (fs ++ [f]) vs vf w) (hb : fs.length ≤ 1000000) (hh : f.1.height ≤ st.length) (hl : st.length ≤ 1000000000) :
    Calls Tryd.prog 66 #[.pointer (some ⟨p, 0, none⟩)] w fun e w' => e = .returned (.tuple #[]) ∧ ∃ vs', TS w0 p c loc (st.take f.1.height) (fs ++ [kill f]) vs' vf w' ∧ Gr p vs vf w vs' vf w' := by
  have HI := hideR (vInner w0 p c loc st fs f vs vf w h hb)
  obtain ⟨g, cap, rfl, hx8⟩ := inner_at w0 p c loc st fs f vs vf w h
  clear hx8
  -- the stack, cut
  obtain ⟨vs', hcut, hrun⟩ : ∃ vs', (∀ u, TS w0 p c loc st (fs ++ [f]) vs (.slice (some ⟨g, 0, none⟩) (fs.length + 1) cap) u → TS w0 p c loc (st.take f.1.height) (fs ++ [f]) vs' (.slice (some ⟨g, 0, none⟩) (fs.length + 1) cap) (u.setCell ⟨p, 11, none⟩ vs') ∧ Gr p vs (.slice (some ⟨g, 0, none⟩) (fs.length + 1) cap) u vs' (.slice (some ⟨g, 0, none⟩) (fs.length + 1) cap) (u.setCell ⟨p, 11, none⟩ vs')) ∧
      ((vs = .slice none 0 0 ∧ vs' = .slice none 0 0 ∧ f.1.height = 0) ∨ ∃ gs cs, vs = .slice (some ⟨gs, 0, none⟩) st.length cs ∧ vs' = .slice (some ⟨gs, 0, none⟩) f.1.height cs ∧ st.length ≤ cs) := by
    rcases h.hs.2 with ⟨e, h0⟩ | ⟨gs, cs, cur, e, _, _, h4, _, _, _⟩
    · refine ⟨.slice none 0 0, fun u hu => ?_, .inl ⟨e, rfl, by omega⟩⟩
      have e2 : st = [] := List.length_eq_zero_iff.1 h0
      refine hu.set11 ?_ (by rw [e])
      rw [e2, List.take_nil]
      exact World.ownsRow_nil _ _ _ _
    · refine ⟨.slice (some ⟨gs, 0, none⟩) f.1.height cs, fun u hu => hu.set11 ?_ (by rw [e]; rfl), .inr ⟨gs, cs, e, rfl, h4⟩⟩
      have hs := hu.hs
      rw [e] at hs
      have := own_take hs f.1.height hh
      rw [← List.map_take] at this
      rw [List.length_take, Nat.min_eq_left hh]
      exact this
  have HCUT := hideR hcut
  have hq : ∃ oS nS cS, vs = .slice oS nS cS := by rcases hrun with ⟨e, _⟩ | ⟨gs, cs, e, _⟩ <;> exact ⟨_, _, _, e⟩
  have hq' : ∃ oS nS cS, vs' = .slice oS nS cS := by rcases hrun with ⟨_, e, _⟩ | ⟨gs, cs, _, e, _⟩ <;> exact ⟨_, _, _, e⟩
  clear h hcut
  obtain ⟨m, hm⟩ : ∃ m, m = f.1.height := ⟨_, rfl⟩
  rw [← hm] at hrun hh
  have HM := hideR hm
  clear hm
  go_enter Tryd.func66, Tryd.ntmps66
  go_wp2_with fail
  refine HI.out.mono ?_
  rintro e u ⟨⟨g', cap', e', rfl⟩, h1, h2, hx9⟩
  injection e' with a1 a2 a3
  injection a1 with a1
  injection a1 with a1 a4 a5
  subst a1
  clear a2 a3 a4 a5 hx9
  obtain ⟨g9, cap9, e9, hc, hfz, hpg⟩ := inner_at w0 p c loc st fs f _ _ u h1
  injection e9 with a1 a2 a3
  injection a1 with a1
  injection a1 with a1 a4 a5
  subst a1
  clear a4 a5
  have c11 := h1.cell 11 _ rfl
  have k2 := hc 2 _ rfl
  rw [← HM.out] at k2
  have H1 := hideR h1
  have H2 := hideR h2
  obtain ⟨q, hqq⟩ : ∃ q, q = fs.length * 4 := ⟨_, rfl⟩
  rw [← hqq] at k2 ⊢
  have HQ := hideR hqq
  clear h1 h2 hc a2 a3 HI hfz hqq
  go_wp2_with fail
  refine Reg.wp_region_two 12 (fun i => 5 + i) (fun j v _ => v = dG p g q vs vs' m j) (by kernel_rfl) (by kernel_rfl) (fun i j h1 h2 h => by have h' : 5 + i = 5 + j := h; omega) (Reg.dst_ok (size := 20) (by kernel_rfl)) (fun i v w w' _ h _ => h) ?hstep ?htail
  case hstep =>
    intro j o a u1 hj ho hF hB hd
    have f0 : a.tmps[0]?.getD undef = .pointer (some ⟨p, 0, none⟩) := Reg.ev_get (hF.eval 0 (fun i hi => by show 5 + i ≠ 0; omega))
    have f2 : a.tmps[2]?.getD undef = .pointer (some ⟨g, q, none⟩) := Reg.ev_get (hF.eval 2 (fun i hi => by show 5 + i ≠ 2; omega))
    have d1 := cell_on hB c11
    have d2 := cell_on hB k2
    have hcase : j = 0 ∨ j = 1 ∨ j = 2 ∨ j = 3 ∨ j = 4 ∨ j = 5 ∨ j = 6 ∨ j = 7 ∨ j = 8 ∨ j = 9 ∨ j = 10 ∨ j = 11 := by omega
    clear hj c11 k2
    rcases hcase with rfl | rfl | rfl | rfl | rfl | rfl | rfl | rfl | rfl | rfl | rfl | rfl
    all_goals (simp only [List.getElem?_toArray, List.getElem?_cons_succ, List.getElem?_cons_zero, Option.some.injEq] at ho; subst ho; refine Reg.step_k fun K hK => ?_)
    · go_simp
      exact hK _ _ ⟨_, rfl, Below.refl _ _, rfl⟩
    · go_simp
      exact hK _ _ ⟨_, rfl, Below.refl _ _, rfl⟩
    · have q : a.tmps[6]?.getD undef = .pointer (some ⟨p, 0, none⟩) := Reg.ev_get (hd 1 (by decide))
      go_simp
      exact hK _ _ ⟨_, rfl, Below.refl _ _, rfl⟩
    · have q : a.tmps[7]?.getD undef = .pointer (some ⟨p, 0, none⟩) := Reg.ev_get (hd 2 (by decide))
      go_simp
      exact hK _ _ ⟨_, rfl, Below.refl _ _, rfl⟩
    · have q : a.tmps[8]?.getD undef = .pointer (some ⟨p, 11, none⟩) := Reg.ev_get (hd 3 (by decide))
      obtain ⟨oS, nS, cS, rfl⟩ := hq
      go_simp
      exact hK _ _ ⟨_, rfl, Below.refl _ _, rfl⟩
    · go_simp
      exact hK _ _ ⟨_, rfl, Below.refl _ _, rfl⟩
    · have q : a.tmps[10]?.getD undef = .pointer (some ⟨g, q, none⟩) := Reg.ev_get (hd 5 (by decide))
      go_simp
      exact hK _ _ ⟨_, rfl, Below.refl _ _, rfl⟩
    · have q : a.tmps[11]?.getD undef = .pointer (some ⟨g, q, none⟩) := Reg.ev_get (hd 6 (by decide))
      go_simp
      exact hK _ _ ⟨_, rfl, Below.refl _ _, rfl⟩
    · have q : a.tmps[12]?.getD undef = .pointer (some ⟨g, q + 2, none⟩) := Reg.ev_get (hd 7 (by decide))
      go_simp
      exact hK _ _ ⟨_, rfl, Below.refl _ _, rfl⟩
    · have q1 : a.tmps[9]?.getD undef = vs := Reg.ev_get (hd 4 (by decide))
      have q2 : a.tmps[13]?.getD undef = .int .i64 m := Reg.ev_get (hd 8 (by decide))
      rcases hrun with ⟨rfl, rfl, e0⟩ | ⟨gs, cs, rfl, rfl, hcs⟩
      · obtain rfl : m = 0 := by omega
        go_simp
        exact hK _ _ ⟨_, rfl, Below.refl _ _, rfl⟩
      · have hmc : m ≤ cs := by omega
        go_simp
        exact hK _ _ ⟨_, rfl, Below.refl _ _, rfl⟩
    · have q : a.tmps[5]?.getD undef = .pointer (some ⟨p, 0, none⟩) := Reg.ev_get (hd 0 (by decide))
      go_simp
      exact hK _ _ ⟨_, rfl, Below.refl _ _, rfl⟩
    · have q : a.tmps[15]?.getD undef = .pointer (some ⟨p, 0, none⟩) := Reg.ev_get (hd 10 (by decide))
      go_simp
      exact hK _ _ ⟨_, rfl, Below.refl _ _, rfl⟩
  case htail =>
    intro a u1 hF hB hG
    obtain ⟨x, hxl, rfl, hev⟩ := Reg.Fr.lit (l := [.pointer (some ⟨p, 0, none⟩), undef, .pointer (some ⟨g, q, none⟩), .pointer (some ⟨p, 0, none⟩), .pointer (some ⟨g, q, none⟩), undef, undef, undef, undef, undef, undef, undef, undef, undef, undef, undef, undef, undef, undef, undef]) hF (by simp)
    match x, hxl with
    | [x0, x1, x2, x3, x4, x5, x6, x7, x8, x9, x10, x11], _ =>
      obtain rfl : x9 = vs' := (hev 9 (by decide)).symm.trans (hG 9 (by decide))
      obtain rfl : x11 = .pointer (some ⟨p, 11, none⟩) := (hev 11 (by decide)).symm.trans (hG 11 (by decide))
      obtain ⟨hu1, hgu1⟩ := H1.out.on hB
      obtain ⟨ht1, hgt1⟩ := HCUT.out u1 hu1
      have d11 := hu1.cell 11 _ rfl
      have z11 := hu1.frz 11
      obtain ⟨t1, hT1⟩ : ∃ t1, t1 = u1.setCell ⟨p, 11, none⟩ x9 := ⟨_, rfl⟩
      rw [← hT1] at ht1 hgt1
      obtain ⟨g7, cap7, e7, hc7, hf7, _⟩ := inner_at w0 p c loc _ fs f _ _ t1 ht1
      injection e7 with b1 b2 b3
      injection b1 with b1
      injection b1 with b1 b4 b5
      subst b1
      have k3 := hc7 3 _ rfl
      have z3 := hf7 (fs.length * 4 + 3)
      have hdie := ht1.die
      rw [← HQ.out] at k3 z3 hdie
      have HDIE := hideR hdie
      have HGG := hideR ((H2.out.trans hgu1).trans hgt1)
      have HT1 := hideR hT1
      clear hev hG hF hB hu1 hgu1 ht1 hgt1 hc7 hf7 b2 b3 b4 b5 hdie hT1 c11 k2
      obtain ⟨oS, nS, cS, rfl⟩ := hq'
      simp only [List.drop_succ_cons, List.drop_zero, List.take_succ_cons, List.take_zero, List.cons_append, List.nil_append]
      go_upto_region 2 with fail
      rw [← HT1.out]
      clear HT1 d11 z11
      go_wp2
      go_end0
      exact ⟨rfl, _, HDIE.out.1, HGG.out.trans HDIE.out.2⟩
end Go.Proofs.YtlpnoelolkbmmaaDoor
