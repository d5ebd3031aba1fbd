/- Tokens as a text: the document's Text: printed by gen_tx9.py. -/
import Derived.Test.YtagoajoaojakhaaDoorTX7
import Derived.Test.YtagoajoaojakhaaDoorTX8
import Derived.Test.YtagoajoaojakhaaDoorTX5
import Derived.Test.YtagoajoaojakhaaDoorA16
import Derived.Test.YtagoajoaojakhaaDoorE1b
import Derived.Lib.AppendStr
namespace Go.Proofs.YtagoajoaojakhaaDoor
open Go.RowKit Lx
set_option linter.unusedVariables false
namespace Lx
/-- tokens as they lie, wherever they begin -/
structure TC (w : World) (b o : Nat) (t : Tk) : Prop where
  c0 : w.cell? ⟨b, o, none⟩ = some (.int .i64 t.k)
  c1 : w.cell? ⟨b, o + 1, none⟩ = some (.string t.x)
  c2 : w.cell? ⟨b, o + 2, none⟩ = some (.int .i64 t.n)
  c3 : w.cell? ⟨b, o + 3, none⟩ = some (.int .i64 t.a)
theorem TC.on {w w' : World} {b o : Nat} {t : Tk} (h : TC w b o t) (hb : Below w.heap.size w w') : TC w' b o t := ⟨Rep.cell_on hb h.c0, Rep.cell_on hb h.c1, Rep.cell_on hb h.c2, Rep.cell_on hb h.c3⟩
def TkR (w : World) (v : Value) (l : List Tk) : Prop := Rep.Row 4 (TC w) v l
theorem TkR.on {w w' : World} {v : Value} {l : List Tk} (h : TkR w v l) (hb : Below w.heap.size w w') : TkR w' v l := Rep.Row.imp h fun _ _ _ _ hx => hx.on hb
theorem TkR.len {w : World} {v : Value} {l : List Tk} (h : TkR w v l) : ∃ o c, v = .slice o l.length c := Rep.Row.len h
theorem TkR.some {w : World} {v : Value} {l : List Tk} (h : TkR w v l) (h0 : 0 < l.length) : ∃ b off c, v = .slice (some ⟨b, off, none⟩) l.length c ∧ ∀ (i : Nat) (x : Tk), l[i]? = some x → TC w b (off + i * 4) x := Rep.Row.some h h0
/-- bytes in a row of one's own -/
def OB (w0 : World) (v : Value) (J : List UInt8) (w : World) : Prop := w.ownsRow w0.heap.size 5 1 v J.length (Lib.byteCells J) ∧ Below w0.heap.size w0 w
theorem OB.nil (w0 w : World) (hb : Below w0.heap.size w0 w) : OB w0 (.slice none 0 0) [] w := ⟨World.ownsRow_nil _ _ _ _, hb⟩
theorem OB.on {w0 w w' : World} {v : Value} {J : List UInt8} (h : OB w0 v J w) (hb : Below w.heap.size w w') : OB w0 v J w' := by
  refine ⟨⟨h.1.1, ?_⟩, below_go h.2 hb⟩
  rcases h.1.2 with h2 | ⟨g, cap, cur, h1, h2, hg, h3⟩
  · exact .inl h2
  · exact .inr ⟨g, cap, cur, h1, h2, by rw [hb.block g (Array.getElem?_eq_some_iff.1 hg).1]; exact hg, h3⟩
theorem OB.len {w0 w : World} {v : Value} {J : List UInt8} (h : OB w0 v J w) : ∃ o c, v = .slice o J.length c := own_slice h.1
theorem OB.byte {w0 wr w1 : World} {v v' : Value} {J : List UInt8} {c : UInt8} {o : Obj} (h : OB w0 v J wr) (hown' : w1.ownsRow w0.heap.size 5 1 v' (J.length + 1) (Lib.byteCells J ++ [.int .u8 (c.toNat : Int)])) (hgrow : (wr.alloc o).grownBy w1 v.ownBlock) : OB w0 v' (J ++ [c]) w1 :=
  ⟨by rw [List.length_append, Lib.byteCells_append]; exact hown', (h.2.alloc h.2.size o).grown hgrow (by have := h.2.size; simp; omega) (fun j hj => (h.1.lt j hj).1)⟩
theorem OB.byte' {w0 wr wq w1 : World} {v v' : Value} {J : List UInt8} {c : UInt8} (h : OB w0 v J wr) (hown' : w1.ownsRow w0.heap.size 5 1 v' (J.length + 1) (Lib.byteCells J ++ [.int .u8 (c.toNat : Int)])) (hb : Below w0.heap.size w0 w1) : OB w0 v' (J ++ [c]) w1 :=
  ⟨by rw [List.length_append, Lib.byteCells_append]; exact hown', hb⟩
theorem OB.str {w0 wr w1 : World} {v v' : Value} {J : List UInt8} {s : ByteArray} (h : OB w0 v J wr) (hown' : w1.ownsRow w0.heap.size 5 1 v' (J.length + s.size) (Lib.byteCells J ++ Lib.strCells s)) (hgrow : wr.grownBy w1 v.ownBlock) : OB w0 v' (J ++ s.data.toList) w1 :=
  ⟨by rw [List.length_append, Lib.byteCells_append, ls_size, ← Lib.strCells_eq]; exact hown', h.2.grown hgrow h.2.size (fun j hj => (h.1.lt j hj).1)⟩
theorem OB.conv {w0 w : World} {v : Value} {J : List UInt8} (h : OB w0 v J w) : (convert 37 9 v).run Tryd.prog w = .ok (.string ⟨J.toArray⟩) w := by
  have h1 := h.1
  rcases h1.2 with ⟨hv, h0⟩ | ⟨g, cap, cur, hv, _⟩
  · subst hv
    have : J = [] := List.eq_nil_of_length_eq_zero h0
    subst this
    exact run_convert_bytes_nil w 37 5 Tryd.underlying37 Tryd.underlying5 0 0 9 Tryd.underlying9
  · subst hv
    have e : strOfNums (J.map fun b => (b.toNat : Int)) = ⟨J.toArray⟩ := by
      have hid : ((fun n : Int => UInt8.ofNat n.toNat) ∘ fun b : UInt8 => (b.toNat : Int)) = id := by funext b; simp
      unfold strOfNums
      rw [List.map_map, hid, List.map_id]
    rw [← e]
    refine run_convert_bytes_arg w 37 5 Tryd.underlying37 Tryd.underlying5 g 0 J.length cap (J.map fun b => (b.toNat : Int)) (by simp) (fun i hi => ?_) 9 Tryd.underlying9
    have := h1.cellAt i (by rw [Nat.mul_one]; exact hi)
    rw [Nat.zero_add, this]
    simp [Lib.byteCells, List.getElem?_eq_getElem hi, List.getD]
theorem bnd1 {n : Nat} (h : n ≤ 140000) : n + 1 ≤ maxLen ∧ (n + 1) * 1 ≤ 140737488355328 := by unfold maxLen; omega
theorem bndS {n m : Nat} (h : n ≤ 140100) (hm : m ≤ 33) : n + m ≤ maxLen ∧ n + m ≤ 140737488355328 := by unfold maxLen; omega
theorem sp3 {x : ByteArray} {n : Int} : (spl 3 x n).data.toList = [39] ++ x.data.toList := by
  show (⟨#[39]⟩ ++ x : ByteArray).data.toList = _
  simp [ByteArray.data_append]
theorem x3 {k : Int} {x : ByteArray} {n : Int} (hk : k = 3) (h : gdT k x n = true) : x.size ≤ 33 := by
  have := spl_size h
  subst hk
  rw [show spl 3 x n = ⟨#[39]⟩ ++ x from rfl, size_quote] at this
  omega
theorem x4 {k : Int} {x : ByteArray} {n : Int} (hk : k = 4) (h : gdT k x n = true) : isIn n = true := by
  subst hk
  unfold gdT at h
  rw [if_neg (by rintro ⟨h, _⟩; exact h rfl), if_neg (by decide), if_neg (by decide), if_neg (by decide), if_pos rfl, Bool.and_eq_true] at h
  exact h.2
theorem ob_none (v : Value) : v.ownBlock = none ∨ v.ownBlock ≠ none := by cases v.ownBlock with | none => exact .inl rfl | some q => exact .inr (fun e => by cases e)
/-- what a drawn region knows of its slots: a byte and a text put behind -/
def tG (w0 : World) (vb vl : Value) (J : List UInt8) (g off k : Nat) (x : ByteArray) (i : Nat) (v : Value) (w : World) : Prop := match i with
  | 0 => v = vb
  | 1 => ∃ b, v = .slice (some ⟨b, 0, none⟩) 1 1 ∧ w.cell? ⟨b, 0, none⟩ = some (.int .u8 39) ∧ vb.ownBlock ≠ some b ∧ b < w.heap.size
  | 2 => w.ownsRow w0.heap.size 5 1 v (J.length + 1) (Lib.byteCells J ++ [.int .u8 39])
  | 3 => v = vl
  | 4 => v = .int .i64 (k : Int)
  | 5 => v = .pointer (some ⟨g, off + k * 4, none⟩)
  | 6 => v = .pointer (some ⟨g, off + k * 4 + 1, none⟩)
  | _ => v = .string x
def tF (vb : Value) (i : Nat) : Option Nat := match i with
  | 2 => vb.ownBlock
  | _ => none
theorem tF_none {vb : Value} {k : Nat} (h : k ≠ 2) : tF vb k = none := by
  unfold tF
  split
  · exact absurd rfl h
  · rfl
theorem tG_on {w0 : World} {vb vl : Value} {J : List UInt8} {g off k : Nat} {x : ByteArray} {i j : Nat} (hij : i ≠ j) {v : Value} {w w' : World} (h : tG w0 vb vl J g off k x i v w) (hg : w.grownBy w' (tF vb j)) : tG w0 vb vl J g off k x i v w' := by
  match i, h with
  | 0, h => exact h
  | 1, ⟨b, h1, h2, h3, h4⟩ =>
    refine ⟨b, h1, hg.cell h2 ?_, h3, Nat.lt_of_lt_of_le h4 hg.size⟩
    show some b ≠ tF vb j
    unfold tF
    split
    · exact fun e => h3 e.symm
    · exact fun e => by cases e
  | 2, h =>
    have hn : tF vb j = none := by
      unfold tF
      split
      · exact absurd rfl hij
      · rfl
    rw [hn] at hg
    refine World.ownsRow.kept h hg ?_
    cases v.ownBlock with
    | none => exact .inl rfl
    | some q => exact .inr (fun e => by cases e)
  | 3, h => exact h
  | 4, h => exact h
  | 5, h => exact h
  | 6, h => exact h
  | n + 7, h => exact h
theorem len8 {x : List Value} (h : x.length = 8) : ∃ x0 x1 x2 x3 x4 x5 x6 x7, x = [x0, x1, x2, x3, x4, x5, x6, x7] := by
  match x, h with
  | [x0, x1, x2, x3, x4, x5, x6, x7], _ => exact ⟨x0, x1, x2, x3, x4, x5, x6, x7, rfl⟩
end Lx
set_option maxRecDepth 100000 in
set_option maxHeartbeats 16000000 in
theorem rText (v : Value) (l : List Tk) (w : World) (hv : TkR w v l) :
    Calls Tryd.prog 8 #[v] w (TxO w (txt l)) := by
  obtain ⟨o, c, rfl⟩ := hv.len
  by_cases h4 : 4096 < l.length
  · have hR : txt l = (⟨#[]⟩, 3) := if_pos h4
    have q0 : decide ((l.length : Int) > 4096) = true := decide_eq_true (by omega)
    have HR := hideR hR
    clear hv hR h4
    go_enter Tryd.func8, Tryd.ntmps8
    go_wp2
    go_ret2
    exact txO HR.out (Below.refl _ _)
  · have q0 : decide ((l.length : Int) > 4096) = false := decide_eq_false (by omega)
    obtain ⟨i0, hi, hz0, hz1, hz2⟩ := info_parts linfo8
    have HV := hideR hv
    have H4 := hideR h4
    clear hv h4
    go_enter Tryd.func8, Tryd.ntmps8
    go_wp2_with fail
    go_loopw [5] (fun x wx => ∃ k : Nat, x = .int .i64 k ∧ k ≤ l.length ∧ Hid (∀ t ∈ l.take k, gdK t = true) ∧ Hid (Below w.heap.size w wx)) (fun x _ => match x with | .int _ k => l.length - k.toNat | _ => 0)
    case atStart => exact ⟨0, rfl, Nat.zero_le _, hideR (fun t ht => by simp at ht), hideR (Below.refl _ _)⟩
    case round =>
      obtain ⟨k, rfl, hk, HG, HW⟩ := hrel
      by_cases hkl : k < l.length
      · obtain ⟨q1, hw1⟩ := tB hkl (by have := H4.out; omega)
        obtain ⟨tt, ht⟩ : ∃ t, l[k]? = some t := ⟨_, List.getElem?_eq_getElem hkl⟩
        obtain ⟨g, off, cg, hvg, hcells⟩ := (HV.out.on HW.out).some (by omega)
        injection hvg with ho2 _ hcg
        subst ho2
        have y0 : wr.cell? ⟨g, off + k * 4, none⟩ = some (.int .i64 tt.k) := (hcells k tt ht).c0
        have y1 : wr.cell? ⟨g, off + k * 4 + 1, none⟩ = some (.string tt.x) := (hcells k tt ht).c1
        have y2 : wr.cell? ⟨g, off + k * 4 + 2, none⟩ = some (.int .i64 tt.n) := (hcells k tt ht).c2
        have y3 : wr.cell? ⟨g, off + k * 4 + 3, none⟩ = some (.int .i64 tt.a) := (hcells k tt ht).c3
        have HTK := hideR (fun hg => taken HG.out ht hg)
        have HBad := hideR (fun hg => txt_bad H4.out ht hg)
        have hgk : gdK tt = gdT tt.k tt.x tt.n := rfl
        rw [hgk] at HTK HBad
        obtain ⟨tk, tx, tn, ta⟩ := tt
        simp only at y0 y1 y2 y3 HTK HBad
        have HGo := hideR (rGood tk tx tn ta wr)
        generalize gdT tk tx tn = M at *
        clear ht hcells hcg hgk
        go_wp2_with fail
        refine Calls.mono (show Calls _ _ _ _ _ from HGo.out) ?_
        rintro e u1 ⟨rfl, hb1⟩
        have HB1 := hideR (below_go HW.out hb1)
        clear hb1 HGo y0 y1 y2 y3
        cases M with
        | false =>
          have HR := hideR (HBad.out rfl)
          clear HBad
          go_wp2
          go_ret2
          exact txO HR.out HB1.out
        | true =>
          have HG3 := hideR (HTK.out rfl)
          clear HTK HBad
          go_wp2
          go_roundw
          case rel => exact ⟨k + 1, by first | rfl | (congr 1), hkl, HG3, HB1⟩
          case measure => simp only [hw1]; clear hw1 q1; simp; omega
      · have hkL : k = l.length := by omega
        have q1 := aK l.length k hkl
        have hG := HG.out
        rw [hkL, List.take_length] at hG
        have HA := hideR hG
        clear HG hG hkL
        have HOB := hideR (OB.nil w wr HW.out)
        go_wp2_with fail
        go_loopw [4, 6] (fun vb x wx => ∃ k : Nat, x = .int .i64 k ∧ k ≤ l.length ∧ Hid (OB w vb (jnL (l.take k)) wx)) (fun _ x _ => match x with | .int _ k => l.length - k.toNat | _ => 0)
        case atStart => exact ⟨0, rfl, Nat.zero_le _, HOB⟩
        case round =>
          clear HOB HW
          obtain ⟨j, rfl, hj, HO⟩ := hrel
          obtain ⟨ov, cv, hvv⟩ := HO.out.len
          subst hvv
          by_cases hjl : j < l.length
          · obtain ⟨q2, hw2⟩ := tB hjl (by have := H4.out; omega)
            obtain ⟨tt, ht⟩ : ∃ t, l[j]? = some t := ⟨_, List.getElem?_eq_getElem hjl⟩
            have hgd : gdT tt.k tt.x tt.n = true := HA.out tt (List.mem_of_getElem? ht)
            obtain ⟨g, off, cg, hvg, hcells⟩ := HV.out.some (by omega)
            injection hvg with ho2 _ hcg
            subst ho2
            have HY : Hid (∀ u, Below w.heap.size w u → u.cell? ⟨g, off + j * 4, none⟩ = some (.int .i64 tt.k) ∧ u.cell? ⟨g, off + j * 4 + 1, none⟩ = some (.string tt.x) ∧ u.cell? ⟨g, off + j * 4 + 2, none⟩ = some (.int .i64 tt.n)) := hideR fun u hb => ⟨Rep.cell_on hb (hcells j tt ht).c0, Rep.cell_on hb (hcells j tt ht).c1, Rep.cell_on hb (hcells j tt ht).c2⟩
            have hgw : g < w.heap.size := World.block_lt_of_cell? _ _ (hcells j tt ht).c0
            have HJ := hideR (jn_take ht)
            have hsk : spK tt = spl tt.k tt.x tt.n := rfl
            rw [hsk] at HJ
            have HJz : Hid ((jnL (l.take j)).length ≤ 140000) := hideR (by
              have h1 := jn_len (l.take j) (fun t ht => HA.out t (List.mem_of_mem_take ht))
              rw [List.length_take, Nat.min_eq_left hj] at h1
              have := H4.out
              omega)
            obtain ⟨tk, tx, tn, ta⟩ := tt
            simp only at hgd HY HJ
            have HGD := hideR hgd
            clear ht hcells hcg hsk hgd q1 hkl
            rcases Nat.eq_zero_or_pos j with h0 | h0
            · have q5 : ¬ 0 < j := by omega
              have hj1 := HJ.out
              rw [if_pos h0] at hj1
              have hj0 : jnL (l.take j) = [] := by rw [h0, List.take_zero]; rfl
              have HJ1 : Hid (jnL (l.take (j + 1)) = jnL (l.take j) ++ (spl tk tx tn).data.toList) := hideR (by rw [hj1, hj0]; rfl)
              have HB1Y := HJz
              have HB1Z := hideR (bnd1 HJz.out)
              have HJB : Hid ((jnL (l.take j)).length ≤ 140100) := hideR (Nat.le_trans HJz.out (by decide))
              clear hj1 hj0 HJ h0 HJz
              generalize jnL (l.take j) = J1 at *
              obtain ⟨y0, y1, y2⟩ := HY.out wr HO.out.2
              by_cases h4 : tk = 4
              · have q4 := eqT h4
                have hin := x4 h4 HGD.out
                have hsz := itx_size hin
                have hsp : spl tk tx tn = itx tn := by subst h4; rfl
                rw [hsp] at HJ1
                have HIn := hideR (rInt tn hin wr)
                have HSZ := hideR hsz
                generalize itx tn = S at *
                clear hin hsz hsp h4
                go_wp2_with fail
                refine Calls.mono (show Calls _ _ _ _ _ from HIn.out) ?_
                rintro e u5 ⟨rfl, hb5⟩
                have HO5 := hideR (HO.out.on hb5)
                clear hb5 HIn
                have HZZ := hideR (bndS (n := (J1).length) (m := S.size) HJB.out HSZ.out)
                go_wp2_with (first | (at_builtin; refine Lib.wpList_append_own_string _ rfl _ _ 37 9 rfl w.heap.size 5 i0 Tryd.underlying37 Tryd.underlying9 hi hz0 hz1 hz2 _ _ _ rfl HO5.out.1 S rfl HZZ.out.1 HZZ.out.2 HO5.out.2.size ?c7))
                case c7 =>
                  intro v9 w9 hown9 hgr9 _
                  have HOX := hideR (OB.str HO5.out hown9 hgr9)
                  clear hown9 hgr9 HZZ
                  have HOF : Hid (OB w v9 (jnL (l.take (j + 1))) w9) := hideR (by rw [HJ1.out]; first | exact HOX.out | (rw [← List.append_assoc]; exact HOX.out) | (simpa using HOX.out))
                  clear HOX
                  obtain ⟨o9, c9, hv9⟩ := HOF.out.len
                  subst hv9
                  go_wp2
                  go_roundw
                  case rel => exact ⟨j + 1, by first | rfl | (congr 1), hjl, HOF⟩
                  case measure => clear hw2 q2; simp; omega
              · have q4 := eqF h4
                by_cases h3 : tk = 3
                · have q3 := eqT h3
                  have hsz := x3 h3 HGD.out
                  have hsp : (spl tk tx tn).data.toList = [39] ++ tx.data.toList := by subst h3; exact sp3
                  rw [hsp] at HJ1
                  have HSZ := hideR hsz
                  have hown := HO.out.1.lt
                  have HLT : Hid (∀ b, (Value.slice ov J1.length cv).ownBlock = some b → w.heap.size ≤ b ∧ b < wr.heap.size) := hideR hown
                  have HGW := hideR hgw
                  clear hsz hsp h3 h4 hown
                  go_upto_region 19 with fail
                  clear y0 y1 y2
                  refine Reg.wp_region_eff 8 (fun i => 57 + i) (tF (Value.slice ov J1.length cv)) (fun u => Below w.heap.size w u ∧ wr.heap.size ≤ u.heap.size) (fun i u => i = 2 → u.ownsRow w.heap.size 5 1 (Value.slice ov J1.length cv) (J1).length (Lib.byteCells (J1))) (tG w (Value.slice ov J1.length cv) (.slice (some ⟨g, off, none⟩) l.length c) (J1) g off j tx) (by kernel_rfl) (by kernel_rfl) (fun i j h1 h2 h => by have h' : 57 + i = 57 + j := h; omega) ?hdst0 (fun i k v u u' _ _ hik _ h hg => tG_on hik h hg) (fun i k u u' _ _ hik h hg h2 => by subst h2; refine World.ownsRow.kept (h rfl) hg ?_; have hn : tF (Value.slice ov J1.length cv) k = none := tF_none (fun e => hik e.symm); rw [hn]; exact ob_none _) (fun k u u' _ h hg => ⟨h.1.grown hg (Nat.le_trans HO.out.2.size h.2) (fun b hb => by unfold tF at hb; split at hb; exact (HLT.out b hb).1; cases hb), Nat.le_trans h.2 hg.size⟩) ?hstep0 ?htail0 ⟨below_go HO.out.2 (drew_on _), Nat.le_refl _⟩ (fun i _ _ => (HO.out.on (drew_on _)).1)
                  case hdst0 => exact Reg.dst_ok (size := 71) (by kernel_rfl)
                  case hstep0 =>
                    intro i o a u hi8 ho hF hK hR hd
                    obtain ⟨y0, y1, y2⟩ := HY.out u hK.1
                    have f0 : a.tmps[0]?.getD undef = .slice (some ⟨g, off, none⟩) l.length c := Reg.ev_get (hF.eval 0 (fun i hi => by show 57 + i ≠ 0; omega))
                    have f4 : a.tmps[4]?.getD undef = Value.slice ov J1.length cv := Reg.ev_get (hF.eval 4 (fun i hi => by show 57 + i ≠ 4; omega))
                    have f6 : a.tmps[6]?.getD undef = .int .i64 (j : Int) := Reg.ev_get (hF.eval 6 (fun i hi => by show 57 + i ≠ 6; omega))
                    have hgr0 : u.grownBy u none := ⟨rfl, rfl, rfl, Nat.le_refl _, fun _ _ _ => rfl⟩
                    have hcase : i = 0 ∨ i = 1 ∨ i = 2 ∨ i = 3 ∨ i = 4 ∨ i = 5 ∨ i = 6 ∨ i = 7 := by clear hw2; omega
                    clear hi8
                    rcases hcase with rfl | rfl | rfl | rfl | rfl | rfl | rfl | rfl
                    all_goals (simp only [List.getElem?_toArray, List.getElem?_cons_succ, List.getElem?_cons_zero, Option.some.injEq] at ho; subst ho)
                    · refine Reg.step_k fun KK hKK => ?_
                      go_simp
                      exact hKK _ _ ⟨_, rfl, hgr0, rfl⟩
                    · have HN := hideR (nb u (.int .u8 39) 5)
                      have HNB : Hid ((Value.slice ov J1.length cv).ownBlock ≠ some u.heap.size) := hideR (fun e => by have := (HLT.out _ e).2; have := hK.2; omega)
                      refine Reg.step_k fun KK hKK => ?_
                      go_simp
                      exact hKK _ _ ⟨_, rfl, World.grownBy_alloc u _ _, ⟨_, rfl, HN.out.2, HNB.out, by simp⟩⟩
                    · obtain ⟨bk, g1, hc, _, _⟩ := hd 1 (by decide)
                      have g0 : a.eval (.tmp 57) = Value.slice ov J1.length cv := hd 0 (by decide)
                      refine wp_append_own u _ _ 37 rfl w.heap.size 5 i0 (.int .u8 0) 1 1 Tryd.underlying37 hi hz0 hz1 hz2 rfl (by decide) (Value.slice ov J1.length cv) (J1).length (Lib.byteCells (J1)) g0 (hR rfl) ⟨bk, 0, none⟩ 1 1 [.int .u8 39] g1 rfl (fun q uu hq => by match q, hq with | 0, hq => simp at hq; subst hq; exact hc) (by simp [Value.oneCell']) HB1Z.out.1 HB1Z.out.2 (Nat.le_trans HO.out.2.size hK.2) (fun v9 w9 h9 hg9 _ => ⟨v9, rfl, hg9, h9⟩)
                    · refine Reg.step_k fun KK hKK => ?_
                      go_simp
                      exact hKK _ _ ⟨_, rfl, hgr0, rfl⟩
                    · refine Reg.step_k fun KK hKK => ?_
                      go_simp
                      exact hKK _ _ ⟨_, rfl, hgr0, rfl⟩
                    · have g0 : a.tmps[60]?.getD undef = .slice (some ⟨g, off, none⟩) l.length c := Reg.ev_get (hd 3 (by decide))
                      have g1 : a.tmps[61]?.getD undef = .int .i64 (j : Int) := Reg.ev_get (hd 4 (by decide))
                      refine Reg.step_k fun KK hKK => ?_
                      go_simp
                      exact hKK _ _ ⟨_, rfl, hgr0, rfl⟩
                    · have g0 : a.tmps[62]?.getD undef = .pointer (some ⟨g, off + j * 4, none⟩) := Reg.ev_get (hd 5 (by decide))
                      refine Reg.step_k fun KK hKK => ?_
                      go_simp
                      exact hKK _ _ ⟨_, rfl, hgr0, rfl⟩
                    · have g0 : a.tmps[63]?.getD undef = .pointer (some ⟨g, off + j * 4 + 1, none⟩) := Reg.ev_get (hd 6 (by decide))
                      refine Reg.step_k fun KK hKK => ?_
                      go_simp
                      exact hKK _ _ ⟨_, rfl, hgr0, rfl⟩
                  case htail0 =>
                    intro a u hF hK hG
                    have hO2 : OB w (a.eval (.tmp 59)) ((J1) ++ [39]) u := OB.byte' (wq := u) HO.out (c := 39) (hG 2 (by decide)) hK.1
                    have g7 : a.eval (.tmp 64) = .string tx := hG 7 (by decide)
                    obtain ⟨xs, hxl, rfl, hev⟩ := hF.lit (by simp)
                    rw [hev 2 (by decide)] at hO2
                    rw [hev 7 (by decide)] at g7
                    obtain ⟨x0, x1, x2, x3, x4, x5, x6, x7, rfl⟩ := len8 hxl
                    have hO3 : OB w x2 ((J1) ++ [39]) u := hO2
                    have g8 : x7 = .string tx := g7
                    subst g8
                    have HO6 := hideR hO3
                    have HJB6 : Hid (((J1) ++ [39]).length ≤ 140100) := hideR (by rw [List.length_append]; have := HB1Y.out; simp; omega)
                    have HJ2 : Hid (jnL (l.take (j + 1)) = (J1 ++ [39]) ++ tx.data.toList) := hideR (by rw [HJ1.out, List.append_assoc])
                    clear HJ1 hO2 hO3 HB1Y HB1Z HJB
                    generalize J1 ++ [39] = J2 at *
                    have HJ1 := HJ2
                    obtain ⟨o6, c6, hv6⟩ := HO6.out.len
                    subst hv6
                    clear hF hK hG g7 hev hxl
                    simp only [List.take_succ_cons, List.take_zero, List.drop_succ_cons, List.drop_zero, List.cons_append, List.nil_append]
                    have HZZ := hideR (bndS (n := (J2).length) (m := tx.size) HJB6.out HSZ.out)
                    go_wp2_with (first | (at_builtin; refine Lib.wpList_append_own_string _ rfl _ _ 37 9 rfl w.heap.size 5 i0 Tryd.underlying37 Tryd.underlying9 hi hz0 hz1 hz2 _ _ _ rfl HO6.out.1 tx rfl HZZ.out.1 HZZ.out.2 HO6.out.2.size ?c7))
                    case c7 =>
                      intro v9 w9 hown9 hgr9 _
                      have HOX := hideR (OB.str HO6.out hown9 hgr9)
                      clear hown9 hgr9 HZZ
                      have HOF : Hid (OB w v9 (jnL (l.take (j + 1))) w9) := hideR (by rw [HJ1.out]; first | exact HOX.out | (rw [← List.append_assoc]; exact HOX.out) | (simpa using HOX.out))
                      clear HOX
                      obtain ⟨o9, c9, hv9⟩ := HOF.out.len
                      subst hv9
                      go_wp2
                      go_roundw
                      case rel => exact ⟨j + 1, by first | rfl | (congr 1), hjl, HOF⟩
                      case measure => clear hw2 q2; simp; omega
                · have q3 := eqF h3
                  have hsp : spl tk tx tn = tx := by unfold spl; rw [if_neg h3, if_neg h4]
                  have hsz := spl_size HGD.out
                  rw [hsp] at HJ1 hsz
                  have HSZ := hideR hsz
                  clear hsp hsz h3 h4
                  have HZZ := hideR (bndS (n := (J1).length) (m := tx.size) HJB.out HSZ.out)
                  go_wp2_with (first | (at_builtin; refine Lib.wpList_append_own_string _ rfl _ _ 37 9 rfl w.heap.size 5 i0 Tryd.underlying37 Tryd.underlying9 hi hz0 hz1 hz2 _ _ _ rfl HO.out.1 tx rfl HZZ.out.1 HZZ.out.2 HO.out.2.size ?c7))
                  case c7 =>
                    intro v9 w9 hown9 hgr9 _
                    have HOX := hideR (OB.str HO.out hown9 hgr9)
                    clear hown9 hgr9 HZZ
                    have HOF : Hid (OB w v9 (jnL (l.take (j + 1))) w9) := hideR (by rw [HJ1.out]; first | exact HOX.out | (rw [← List.append_assoc]; exact HOX.out) | (simpa using HOX.out))
                    clear HOX
                    obtain ⟨o9, c9, hv9⟩ := HOF.out.len
                    subst hv9
                    go_wp2
                    go_roundw
                    case rel => exact ⟨j + 1, by first | rfl | (congr 1), hjl, HOF⟩
                    case measure => clear hw2 q2; simp; omega
            · have q5 : 0 < j := h0
              have hj1 := HJ.out
              rw [if_neg (by omega)] at hj1
              have HJ0 := hideR hj1
              have HBZ := hideR (bnd1 HJz.out)
              have HSB : Hid (w.heap.size ≤ (wr.alloc (.cells #[.int .u8 32] 5)).heap.size) := hideR (by have := HO.out.2.size; simp; omega)
              clear hj1 HJ h0
              generalize jnL (l.take j) = J at *
              go_wp2_with (first | (at_builtin; refine wpList_append_own _ rfl _ _ 37 rfl w.heap.size 5 i0 (.int .u8 0) 1 1 Tryd.underlying37 hi hz0 hz1 hz2 rfl (by decide) _ _ _ rfl (HO.out.1.alloc _) ⟨wr.heap.size, 0, none⟩ 1 1 [.int .u8 32] rfl rfl (one_new _ _ _) ?c2 HBZ.out.1 HBZ.out.2 HSB.out ?c6))
              case c2 => simp [Value.oneCell']
              case c6 =>
                intro v8 w8 hown8 hgr8 _
                have HO2 := hideR (OB.byte (c := 32) HO.out hown8 hgr8)
                have HB1Y : Hid ((J ++ [32]).length ≤ 140001) := hideR (by rw [List.length_append]; have := HJz.out; simp; omega)
                have HJ1 : Hid (jnL (l.take (j + 1)) = (J ++ [32]) ++ (spl tk tx tn).data.toList) := HJ0
                clear hown8 hgr8 HO HBZ HSB HJ0 HJz
                generalize J ++ [32] = J1 at *
                obtain ⟨ow, cw, hvw⟩ := HO2.out.len
                subst hvw
                have HB1Z : Hid (J1.length + 1 ≤ maxLen ∧ (J1.length + 1) * 1 ≤ 140737488355328) := hideR (by have := HB1Y.out; unfold maxLen; omega)
                have HJB : Hid (J1.length ≤ 140100) := hideR (Nat.le_trans HB1Y.out (by decide))
                obtain ⟨y0, y1, y2⟩ := HY.out w8 HO2.out.2
                by_cases h4 : tk = 4
                · have q4 := eqT h4
                  have hin := x4 h4 HGD.out
                  have hsz := itx_size hin
                  have hsp : spl tk tx tn = itx tn := by subst h4; rfl
                  rw [hsp] at HJ1
                  have HIn := hideR (rInt tn hin w8)
                  have HSZ := hideR hsz
                  generalize itx tn = S at *
                  clear hin hsz hsp h4
                  go_wp2_with fail
                  refine Calls.mono (show Calls _ _ _ _ _ from HIn.out) ?_
                  rintro e u5 ⟨rfl, hb5⟩
                  have HO5 := hideR (HO2.out.on hb5)
                  clear hb5 HIn
                  have HZZ := hideR (bndS (n := (J1).length) (m := S.size) HJB.out HSZ.out)
                  go_wp2_with (first | (at_builtin; refine Lib.wpList_append_own_string _ rfl _ _ 37 9 rfl w.heap.size 5 i0 Tryd.underlying37 Tryd.underlying9 hi hz0 hz1 hz2 _ _ _ rfl HO5.out.1 S rfl HZZ.out.1 HZZ.out.2 HO5.out.2.size ?c7))
                  case c7 =>
                    intro v9 w9 hown9 hgr9 _
                    have HOX := hideR (OB.str HO5.out hown9 hgr9)
                    clear hown9 hgr9 HZZ
                    have HOF : Hid (OB w v9 (jnL (l.take (j + 1))) w9) := hideR (by rw [HJ1.out]; first | exact HOX.out | (rw [← List.append_assoc]; exact HOX.out) | (simpa using HOX.out))
                    clear HOX
                    obtain ⟨o9, c9, hv9⟩ := HOF.out.len
                    subst hv9
                    go_wp2
                    go_roundw
                    case rel => exact ⟨j + 1, by first | rfl | (congr 1), hjl, HOF⟩
                    case measure => simp only [hw2]; clear hw2 q2; simp; omega
                · have q4 := eqF h4
                  by_cases h3 : tk = 3
                  · have q3 := eqT h3
                    have hsz := x3 h3 HGD.out
                    have hsp : (spl tk tx tn).data.toList = [39] ++ tx.data.toList := by subst h3; exact sp3
                    rw [hsp] at HJ1
                    have HSZ := hideR hsz
                    have hown := HO2.out.1.lt
                    have HLT : Hid (∀ b, (Value.slice ow J1.length cw).ownBlock = some b → w.heap.size ≤ b ∧ b < w8.heap.size) := hideR hown
                    have HGW := hideR hgw
                    clear hsz hsp h3 h4 hown
                    go_upto_region 19 with fail
                    clear y0 y1 y2
                    refine Reg.wp_region_eff 8 (fun i => 57 + i) (tF (Value.slice ow J1.length cw)) (fun u => Below w.heap.size w u ∧ w8.heap.size ≤ u.heap.size) (fun i u => i = 2 → u.ownsRow w.heap.size 5 1 (Value.slice ow J1.length cw) (J1).length (Lib.byteCells (J1))) (tG w (Value.slice ow J1.length cw) (.slice (some ⟨g, off, none⟩) l.length c) (J1) g off j tx) (by kernel_rfl) (by kernel_rfl) (fun i j h1 h2 h => by have h' : 57 + i = 57 + j := h; omega) ?hdst1 (fun i k v u u' _ _ hik _ h hg => tG_on hik h hg) (fun i k u u' _ _ hik h hg h2 => by subst h2; refine World.ownsRow.kept (h rfl) hg ?_; have hn : tF (Value.slice ow J1.length cw) k = none := tF_none (fun e => hik e.symm); rw [hn]; exact ob_none _) (fun k u u' _ h hg => ⟨h.1.grown hg (Nat.le_trans HO2.out.2.size h.2) (fun b hb => by unfold tF at hb; split at hb; exact (HLT.out b hb).1; cases hb), Nat.le_trans h.2 hg.size⟩) ?hstep1 ?htail1 ⟨below_go HO2.out.2 (drew_on _), Nat.le_refl _⟩ (fun i _ _ => (HO2.out.on (drew_on _)).1)
                    case hdst1 => exact Reg.dst_ok (size := 71) (by kernel_rfl)
                    case hstep1 =>
                      intro i o a u hi8 ho hF hK hR hd
                      obtain ⟨y0, y1, y2⟩ := HY.out u hK.1
                      have f0 : a.tmps[0]?.getD undef = .slice (some ⟨g, off, none⟩) l.length c := Reg.ev_get (hF.eval 0 (fun i hi => by show 57 + i ≠ 0; omega))
                      have f4 : a.tmps[4]?.getD undef = Value.slice ow J1.length cw := Reg.ev_get (hF.eval 4 (fun i hi => by show 57 + i ≠ 4; omega))
                      have f6 : a.tmps[6]?.getD undef = .int .i64 (j : Int) := Reg.ev_get (hF.eval 6 (fun i hi => by show 57 + i ≠ 6; omega))
                      have hgr0 : u.grownBy u none := ⟨rfl, rfl, rfl, Nat.le_refl _, fun _ _ _ => rfl⟩
                      have hcase : i = 0 ∨ i = 1 ∨ i = 2 ∨ i = 3 ∨ i = 4 ∨ i = 5 ∨ i = 6 ∨ i = 7 := by clear hw2; omega
                      clear hi8
                      rcases hcase with rfl | rfl | rfl | rfl | rfl | rfl | rfl | rfl
                      all_goals (simp only [List.getElem?_toArray, List.getElem?_cons_succ, List.getElem?_cons_zero, Option.some.injEq] at ho; subst ho)
                      · refine Reg.step_k fun KK hKK => ?_
                        go_simp
                        exact hKK _ _ ⟨_, rfl, hgr0, rfl⟩
                      · have HN := hideR (nb u (.int .u8 39) 5)
                        have HNB : Hid ((Value.slice ow J1.length cw).ownBlock ≠ some u.heap.size) := hideR (fun e => by have := (HLT.out _ e).2; have := hK.2; omega)
                        refine Reg.step_k fun KK hKK => ?_
                        go_simp
                        exact hKK _ _ ⟨_, rfl, World.grownBy_alloc u _ _, ⟨_, rfl, HN.out.2, HNB.out, by simp⟩⟩
                      · obtain ⟨bk, g1, hc, _, _⟩ := hd 1 (by decide)
                        have g0 : a.eval (.tmp 57) = Value.slice ow J1.length cw := hd 0 (by decide)
                        refine wp_append_own u _ _ 37 rfl w.heap.size 5 i0 (.int .u8 0) 1 1 Tryd.underlying37 hi hz0 hz1 hz2 rfl (by decide) (Value.slice ow J1.length cw) (J1).length (Lib.byteCells (J1)) g0 (hR rfl) ⟨bk, 0, none⟩ 1 1 [.int .u8 39] g1 rfl (fun q uu hq => by match q, hq with | 0, hq => simp at hq; subst hq; exact hc) (by simp [Value.oneCell']) HB1Z.out.1 HB1Z.out.2 (Nat.le_trans HO2.out.2.size hK.2) (fun v9 w9 h9 hg9 _ => ⟨v9, rfl, hg9, h9⟩)
                      · refine Reg.step_k fun KK hKK => ?_
                        go_simp
                        exact hKK _ _ ⟨_, rfl, hgr0, rfl⟩
                      · refine Reg.step_k fun KK hKK => ?_
                        go_simp
                        exact hKK _ _ ⟨_, rfl, hgr0, rfl⟩
                      · have g0 : a.tmps[60]?.getD undef = .slice (some ⟨g, off, none⟩) l.length c := Reg.ev_get (hd 3 (by decide))
                        have g1 : a.tmps[61]?.getD undef = .int .i64 (j : Int) := Reg.ev_get (hd 4 (by decide))
                        refine Reg.step_k fun KK hKK => ?_
                        go_simp
                        exact hKK _ _ ⟨_, rfl, hgr0, rfl⟩
                      · have g0 : a.tmps[62]?.getD undef = .pointer (some ⟨g, off + j * 4, none⟩) := Reg.ev_get (hd 5 (by decide))
                        refine Reg.step_k fun KK hKK => ?_
                        go_simp
                        exact hKK _ _ ⟨_, rfl, hgr0, rfl⟩
                      · have g0 : a.tmps[63]?.getD undef = .pointer (some ⟨g, off + j * 4 + 1, none⟩) := Reg.ev_get (hd 6 (by decide))
                        refine Reg.step_k fun KK hKK => ?_
                        go_simp
                        exact hKK _ _ ⟨_, rfl, hgr0, rfl⟩
                    case htail1 =>
                      intro a u hF hK hG
                      have hO2 : OB w (a.eval (.tmp 59)) ((J1) ++ [39]) u := OB.byte' (wq := u) HO2.out (c := 39) (hG 2 (by decide)) hK.1
                      have g7 : a.eval (.tmp 64) = .string tx := hG 7 (by decide)
                      obtain ⟨xs, hxl, rfl, hev⟩ := hF.lit (by simp)
                      rw [hev 2 (by decide)] at hO2
                      rw [hev 7 (by decide)] at g7
                      obtain ⟨x0, x1, x2, x3, x4, x5, x6, x7, rfl⟩ := len8 hxl
                      have hO3 : OB w x2 ((J1) ++ [39]) u := hO2
                      have g8 : x7 = .string tx := g7
                      subst g8
                      have HO6 := hideR hO3
                      have HJB6 : Hid (((J1) ++ [39]).length ≤ 140100) := hideR (by rw [List.length_append]; have := HB1Y.out; simp; omega)
                      have HJ2 : Hid (jnL (l.take (j + 1)) = (J1 ++ [39]) ++ tx.data.toList) := hideR (by rw [HJ1.out, List.append_assoc])
                      clear HJ1 hO2 hO3 HB1Y HB1Z HJB
                      generalize J1 ++ [39] = J2 at *
                      have HJ1 := HJ2
                      obtain ⟨o6, c6, hv6⟩ := HO6.out.len
                      subst hv6
                      clear hF hK hG g7 hev hxl
                      simp only [List.take_succ_cons, List.take_zero, List.drop_succ_cons, List.drop_zero, List.cons_append, List.nil_append]
                      have HZZ := hideR (bndS (n := (J2).length) (m := tx.size) HJB6.out HSZ.out)
                      go_wp2_with (first | (at_builtin; refine Lib.wpList_append_own_string _ rfl _ _ 37 9 rfl w.heap.size 5 i0 Tryd.underlying37 Tryd.underlying9 hi hz0 hz1 hz2 _ _ _ rfl HO6.out.1 tx rfl HZZ.out.1 HZZ.out.2 HO6.out.2.size ?c7))
                      case c7 =>
                        intro v9 w9 hown9 hgr9 _
                        have HOX := hideR (OB.str HO6.out hown9 hgr9)
                        clear hown9 hgr9 HZZ
                        have HOF : Hid (OB w v9 (jnL (l.take (j + 1))) w9) := hideR (by rw [HJ1.out]; first | exact HOX.out | (rw [← List.append_assoc]; exact HOX.out) | (simpa using HOX.out))
                        clear HOX
                        obtain ⟨o9, c9, hv9⟩ := HOF.out.len
                        subst hv9
                        go_wp2
                        go_roundw
                        case rel => exact ⟨j + 1, by first | rfl | (congr 1), hjl, HOF⟩
                        case measure => simp only [hw2]; clear hw2 q2; simp; omega
                  · have q3 := eqF h3
                    have hsp : spl tk tx tn = tx := by unfold spl; rw [if_neg h3, if_neg h4]
                    have hsz := spl_size HGD.out
                    rw [hsp] at HJ1 hsz
                    have HSZ := hideR hsz
                    clear hsp hsz h3 h4
                    have HZZ := hideR (bndS (n := (J1).length) (m := tx.size) HJB.out HSZ.out)
                    go_wp2_with (first | (at_builtin; refine Lib.wpList_append_own_string _ rfl _ _ 37 9 rfl w.heap.size 5 i0 Tryd.underlying37 Tryd.underlying9 hi hz0 hz1 hz2 _ _ _ rfl HO2.out.1 tx rfl HZZ.out.1 HZZ.out.2 HO2.out.2.size ?c7))
                    case c7 =>
                      intro v9 w9 hown9 hgr9 _
                      have HOX := hideR (OB.str HO2.out hown9 hgr9)
                      clear hown9 hgr9 HZZ
                      have HOF : Hid (OB w v9 (jnL (l.take (j + 1))) w9) := hideR (by rw [HJ1.out]; first | exact HOX.out | (rw [← List.append_assoc]; exact HOX.out) | (simpa using HOX.out))
                      clear HOX
                      obtain ⟨o9, c9, hv9⟩ := HOF.out.len
                      subst hv9
                      go_wp2
                      go_roundw
                      case rel => exact ⟨j + 1, by first | rfl | (congr 1), hjl, HOF⟩
                      case measure => simp only [hw2]; clear hw2 q2; simp; omega
          · have hjL : j = l.length := by omega
            have q2 := aK l.length j hjl
            have htl : l.take j = l := by rw [hjL, List.take_length]
            rw [htl] at HO ⊢
            have hO := HO.out
            have HR := hideR (txt_ok H4.out HA.out)
            have hcv := hO.conv
            have HW2 := hideR hO.2
            clear hO HO hjL htl HA
            generalize jnL l = J at *
            by_cases h8 : 8192 < J.length
            · have q3 : decide ((J.length : Int) > 8192) = true := decide_eq_true (by omega)
              have hR := HR.out
              rw [if_pos h8] at hR
              have HR2 := hideR hR
              clear hR HR h8 hcv
              go_wp2
              go_ret2
              exact txO HR2.out HW2.out
            · have q3 : decide ((J.length : Int) > 8192) = false := decide_eq_false (by omega)
              have hR := HR.out
              rw [if_neg h8] at hR
              have HR2 := hideR hR
              clear hR HR h8
              go_wp2
              go_ret2
              exact txO HR2.out HW2.out
end Go.Proofs.YtagoajoaojakhaaDoor
