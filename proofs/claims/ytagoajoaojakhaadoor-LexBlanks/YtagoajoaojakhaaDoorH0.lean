/- Regions by a table of what each operation tells. -/
import Derived.Test.YtagoajoaojakhaaDoorG0
import Derived.Test.YtagoajoaojakhaaDoorBM
namespace Go.Proofs.YtagoajoaojakhaaDoor
open Go.RowKit Rep
set_option linter.unusedVariables false
namespace Reg
def Tab (L : List Value) (i : Nat) (v : Value) (_ : World) : Prop := v = L.getD i undef
section
variable {P : Program} {ops : Array Oper} {Q : Exit → Act → World → Prop} {id : Nat} {a0 : Act} {w0 : World}
theorem tab_get {a : Act} {lo j : Nat} {L : List Value} (h : a.eval (.tmp (lo + j)) = L.getD j undef) : a.tmps[j + lo]?.getD undef = L.getD j undef := by
  rw [Nat.add_comm]; exact ev_get h
/-- an order that is drawn -/
theorem wp_tab (n lo size : Nat) (L : List Value) (hm : P.follows .mixedOrders = true) (hT : lowOk ops n = true) (hd : dstOkG ops n (fun i => lo + i) size = true) (hs : a0.tmps.size = size)
    (hstep : ∀ i o a w, i < n → ops[i]? = some o → Fr a0 (fun i => lo + i) n a → Below w0.heap.size w0 w → (∀ j ∈ deps o, a.tmps[j + lo]?.getD undef = L.getD j undef) → Does P ops Q (Tab L i) o a w)
    (hend : ∀ a w, Fr a0 (fun i => lo + i) n a → Below w0.heap.size w0 w → (∀ i, i < n → a.eval (.tmp (lo + i)) = L.getD i undef) → Q .normal a w) :
    (Code.region id ops true).wp P Q a0 w0 :=
  wp_region_all n (fun i => lo + i) (Tab L) hm hT (fun i j _ _ h => by have h' : lo + i = lo + j := h; omega) (fun i hi => by rw [hs]; exact dst_okG hd i hi) (fun _ _ _ _ _ h _ => h)
    (fun i o a w hi ho hF hB hG => hstep i o a w hi ho hF hB fun j hj => tab_get (hG j hj)) (fun a w hF hB hG => hend a w hF hB fun i hi => hG i hi)
/-- a fixed order -/
theorem wp_tabq (n lo size : Nat) (L : List Value) (hn : n ≤ ops.size) (hd : dstOkG ops n (fun i => lo + i) size = true) (hs : a0.tmps.size = size)
    (hstep : ∀ i o a w, i < n → ops[i]? = some o → Fr a0 (fun i => lo + i) n a → Below w0.heap.size w0 w → (∀ j, j < i → a.tmps[j + lo]?.getD undef = L.getD j undef) → Does P ops Q (Tab L i) o a w)
    (htail : ∀ a w, Fr a0 (fun i => lo + i) n a → Below w0.heap.size w0 w → (∀ i, i < n → a.eval (.tmp (lo + i)) = L.getD i undef) → wpList P ops Q (ops.toList.drop n) a w) :
    (Code.region id ops false).wp P Q a0 w0 :=
  wp_region_allq n (fun i => lo + i) (Tab L) hn (fun i j _ _ h => by have h' : lo + i = lo + j := h; omega) (fun i hi => by rw [hs]; exact dst_okG hd i hi) (fun _ _ _ _ _ h _ => h)
    (fun i o a w hi ho hF hB hG => hstep i o a w hi ho hF hB fun j hj => tab_get (hG j (List.mem_range.2 hj))) (fun a w hF hB hG => htail a w hF hB fun i hi => hG i hi)
/-- the same, whose last operation writes to a slot ahead -/
theorem wp_tabz (n lo z size : Nat) (L : List Value) (hn : n ≤ ops.size) (hd : dstOkG ops n (fun i => if i < n - 1 then lo + i else z) size = true) (hs : a0.tmps.size = size) (hz : z < lo ∧ 0 < n)
    (hstep : ∀ i o a w, i < n → ops[i]? = some o → Fr a0 (fun i => if i < n - 1 then lo + i else z) n a → Below w0.heap.size w0 w → (∀ j, j < i → a.tmps[j + lo]?.getD undef = L.getD j undef) → Does P ops Q (Tab L i) o a w)
    (htail : ∀ a w, Fr a0 (fun i => if i < n - 1 then lo + i else z) n a → Below w0.heap.size w0 w → a.eval (.tmp z) = L.getD (n - 1) undef → wpList P ops Q (ops.toList.drop n) a w) :
    (Code.region id ops false).wp P Q a0 w0 :=
  wp_region_allq n (fun i => if i < n - 1 then lo + i else z) (Tab L) hn (fun i j h1 h2 h => by have h' : (if i < n - 1 then lo + i else z) = (if j < n - 1 then lo + j else z) := h; split at h' <;> split at h' <;> omega) (fun i hi => by rw [hs]; exact dst_okG hd i hi) (fun _ _ _ _ _ h _ => h)
    (fun i o a w hi ho hF hB hG => hstep i o a w hi ho hF hB fun j hj => by
      have h := hG j (List.mem_range.2 hj)
      have e : (if j < n - 1 then lo + j else z) = lo + j := if_pos (by omega)
      rw [e] at h
      exact tab_get h)
    (fun a w hF hB hG => htail a w hF hB (by
      have h := hG (n - 1) (by omega)
      have e : (if n - 1 < n - 1 then lo + (n - 1) else z) = z := if_neg (by omega)
      rw [e] at h
      exact h))
theorem does_tab {p : Value → World → Prop} {o oj : Oper} {a : Act} {w : World} {j lo : Nat} {b : Bool} {L : List Value} (hg : o.guard = some (j, b)) (hj : ops[j]? = some oj) (hk : oj.dst = some (j + lo)) (hb : L.getD j undef = .bool b) (hd : a.tmps[j + lo]?.getD undef = L.getD j undef) (h : o.wp P a w (fun a' w' => ∃ v, a' = a.put o.dst v ∧ Below w.heap.size w w' ∧ p v w') Q) : Does P ops Q p o a w :=
  Does.wanted hg hj hk (by show a.tmps.getD (j + lo) undef = _; rw [Array.getD_eq_getD_getElem?, hd, hb]) h
end
end Reg
end Go.Proofs.YtagoajoaojakhaaDoor
