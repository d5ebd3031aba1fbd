/- Appending to a row of one's own: the row stays where it is, or moves to new memory; what lies apart from it stays. -/
import Derived.Test.YtagoajoaojakhaaDoorMod
import Derived.Test.YtagoajoaojakhaaDoorCount
import Derived.Laws.AppendOwn
import Derived.Laws.AppendOwnNone
import Derived.OwnWalk
namespace Go.Proofs.YtagoajoaojakhaaDoor
open Go.RowKit Rep
set_option linter.unusedVariables false
theorem below_go' {w u v : World} (h : Below w.heap.size w u) (k : Below u.heap.size u v) : Below w.heap.size w v := h.trans (k.mono h.size)
theorem new_on' (w : World) (o : Obj) : Below w.heap.size w (w.alloc o) := (Below.refl _ w).alloc (Nat.le_refl _) o
theorem drew_on (w : World) : Below w.heap.size w w.drew := (Below.refl _ w).drew
section App
variable {P : Program}
theorem run_app (w : World) (base : Nat) (t ty e : TypeId) (i : TypeInfo) (z : Value) (size bytes : Nat) (ht : P.underlying t = some (.slice e)) (hi : P.info? e = some i) (hz : i.zero = some z)
    (hsize : i.size = size) (hby : i.bytes = bytes) (hzs : z.cells.size = size) (hsz : 0 < size)
    (v : Value) (n : Nat) (xs : List Value) (hown : w.ownsRow base e size v n xs)
    (a : Addr) (m c : Nat) (news : List Value) (hl : news.length = m * size) (hnews : ∀ j u, news[j]? = some u → w.cell? (a.add j) = some u) (h1 : ∀ u ∈ news, u.oneCell' = true)
    (h63 : n + m ≤ maxLen) (hbytes : (n + m) * bytes ≤ 140737488355328) (hbase : base ≤ w.heap.size) :
    ∃ v' w', (Builtin.append_ #[t, t] ty #[v, .slice (some a) m c]).run P w = .ok v' w' ∧ w'.ownsRow base e size v' (n + m) (xs ++ news) ∧ w.grownBy w' v.ownBlock ∧
      (v'.ownBlock = v.ownBlock ∨ v'.ownBlock = some w.heap.size) := by
  obtain ⟨v', w', hr, h2, h3, h4⟩ := run_append_own (P := P) w base t ty e i z size bytes ht hi hz hsize hby hzs hsz v n xs hown a m c news hl hnews h1 h63 hbytes hbase
  refine ⟨v', w', hr, h2, h3, ?_⟩
  subst hsize
  subst hby
  unfold maxLen at h63
  rcases hown.2 with ⟨rfl, rfl⟩ | ⟨g, cap, cur, rfl, hbg, hg, hnc, hcm, hcs, htake⟩
  · by_cases hm : m = 0
    · left; rw [h4.2 ⟨rfl, hm⟩]
    · rw [run_append_nil (P := P) w t ty e i z ht hi hz a m c news hl hnews (by omega) (by omega) (by simp only [Nat.zero_add] at hbytes; omega)] at hr
      injection hr with hv _
      right; rw [← hv]; rfl
  · by_cases hroom : n + m ≤ cap
    · have hfit : n * i.size + news.length ≤ cur.size := by rw [hl, hcs, ← Nat.add_mul]; exact Nat.mul_le_mul_right _ hroom
      rw [run_append_room (P := P) w t ty e i ht hi g n cap cur hg a m c news hl hnews h1 hroom hfit] at hr
      injection hr with hv _
      left; rw [← hv]; rfl
    · have holds : ∀ j u, xs[j]? = some u → w.cell? ((⟨g, 0, none⟩ : Addr).add j) = some u := hown.cells (g := g) rfl
      rw [run_append_grow (P := P) w t ty e i z ht hi hz ⟨g, 0, none⟩ n cap xs hown.1 holds a m c news hl hnews (by omega) (by omega) (growslice_fits (by omega) hbytes)] at hr
      injection hr with hv _
      right; rw [← hv]; rfl
theorem wpList_app {w : World} {ops : Array Oper} {rest : List Oper} {o : Oper} {a : Act} {Q : Exit → Act → World → Prop} (hgd : o.guard = none) (s x : Operand) (t : TypeId)
    (ho : o.op = .call { callee := .builtin .append, args := #[s, x], argTypes := #[t, t] })
    (base : Nat) (e : TypeId) (i : TypeInfo) (z : Value) (size bytes : Nat) (ht : P.underlying t = some (.slice e)) (hi : P.info? e = some i) (hz : i.zero = some z)
    (hsize : i.size = size) (hby : i.bytes = bytes) (hzs : z.cells.size = size) (hsz : 0 < size)
    (v : Value) (n : Nat) (xs : List Value) (hs : a.eval s = v) (hown : w.ownsRow base e size v n xs)
    (ad : Addr) (m c : Nat) (news : List Value) (hx : a.eval x = .slice (some ad) m c) (hl : news.length = m * size) (hnews : ∀ j u, news[j]? = some u → w.cell? (ad.add j) = some u) (h1 : ∀ u ∈ news, u.oneCell' = true)
    (h63 : n + m ≤ maxLen) (hbytes : (n + m) * bytes ≤ 140737488355328) (hbase : base ≤ w.heap.size)
    (h : ∀ v' w', w'.ownsRow base e size v' (n + m) (xs ++ news) → w.grownBy w' v.ownBlock → (v'.ownBlock = v.ownBlock ∨ v'.ownBlock = some w.heap.size) → wpList P ops Q rest (a.put o.dst v') w') : wpList P ops Q (o :: rest) a w := by
  refine wpList_plain hgd fun K hK => ?_
  obtain ⟨v', w', hr, h2, h3, h4⟩ := run_app w base t o.type e i z size bytes ht hi hz hsize hby hzs hsz v n xs hown ad m c news hl hnews h1 h63 hbytes hbase
  unfold Oper.wp
  simp [execOp, ho, resolve, invoke, builtin, hs, hx, hr, Result.andThen]
  exact hK _ _ (h v' w' h2 h3 h4)
theorem run_app_none (w : World) (base : Nat) (t ty e : TypeId) (i : TypeInfo) (size : Nat) (ht : P.underlying t = some (.slice e)) (hi : P.info? e = some i) (v : Value) (n : Nat) (xs : List Value) (hown : w.ownsRow base e size v n xs) (c : Nat) :
    (Builtin.append_ #[t, t] ty #[v, .slice none 0 c]).run P w = .ok v w := by
  rcases hown.2 with ⟨rfl, rfl⟩ | ⟨g, cap, cur, rfl, _, _, hnc, _⟩
  · simp [Builtin.append_, run_underlying ht, sizeOf, typeInfo, hi, Builtin.lenOf, Builtin.firstCells]
  · simp [Builtin.append_, run_underlying ht, sizeOf, typeInfo, hi, Builtin.lenOf, Builtin.firstCells, hnc, storeCells]
/-- append, whatever is appended: a nil slice, or one that lies somewhere -/
theorem run_appS (w : World) (base : Nat) (t ty e : TypeId) (i : TypeInfo) (z : Value) (size bytes : Nat) (ht : P.underlying t = some (.slice e)) (hi : P.info? e = some i) (hz : i.zero = some z)
    (hsize : i.size = size) (hby : i.bytes = bytes) (hzs : z.cells.size = size) (hsz : 0 < size)
    (v : Value) (n : Nat) (xs : List Value) (hown : w.ownsRow base e size v n xs)
    (xo : Option Addr) (m c : Nat) (news : List Value) (hxo : xo = none → m = 0) (hl : news.length = m * size) (hnews : ∀ ad, xo = some ad → ∀ j u, news[j]? = some u → w.cell? (ad.add j) = some u) (h1 : ∀ u ∈ news, u.oneCell' = true)
    (h63 : n + m ≤ maxLen) (hbytes : (n + m) * bytes ≤ 140737488355328) (hbase : base ≤ w.heap.size) :
    ∃ v' w', (Builtin.append_ #[t, t] ty #[v, .slice xo m c]).run P w = .ok v' w' ∧ w'.ownsRow base e size v' (n + m) (xs ++ news) ∧ w.grownBy w' v.ownBlock ∧
      (v'.ownBlock = v.ownBlock ∨ v'.ownBlock = some w.heap.size) := by
  cases xo with
  | none =>
    obtain rfl := hxo rfl
    obtain rfl : news = [] := List.eq_nil_of_length_eq_zero (by simpa using hl)
    refine ⟨v, w, run_app_none w base t ty e i size ht hi v n xs hown c, by simpa using hown, ⟨rfl, rfl, rfl, Nat.le_refl _, fun _ _ _ => rfl⟩, .inl rfl⟩
  | some a => exact run_app w base t ty e i z size bytes ht hi hz hsize hby hzs hsz v n xs hown a m c news hl (hnews a rfl) h1 h63 hbytes hbase
theorem wpList_appS {w : World} {ops : Array Oper} {rest : List Oper} {o : Oper} {a : Act} {Q : Exit → Act → World → Prop} (hgd : o.guard = none) (s x : Operand) (t : TypeId)
    (ho : o.op = .call { callee := .builtin .append, args := #[s, x], argTypes := #[t, t] })
    (base : Nat) (e : TypeId) (i : TypeInfo) (z : Value) (size bytes : Nat) (ht : P.underlying t = some (.slice e)) (hi : P.info? e = some i) (hz : i.zero = some z)
    (hsize : i.size = size) (hby : i.bytes = bytes) (hzs : z.cells.size = size) (hsz : 0 < size)
    (v : Value) (n : Nat) (xs : List Value) (hs : a.eval s = v) (hown : w.ownsRow base e size v n xs)
    (xo : Option Addr) (m c : Nat) (news : List Value) (hx : a.eval x = .slice xo m c) (hxo : xo = none → m = 0) (hl : news.length = m * size) (hnews : ∀ ad, xo = some ad → ∀ j u, news[j]? = some u → w.cell? (ad.add j) = some u) (h1 : ∀ u ∈ news, u.oneCell' = true)
    (h63 : n + m ≤ maxLen) (hbytes : (n + m) * bytes ≤ 140737488355328) (hbase : base ≤ w.heap.size)
    (h : ∀ v' w', w'.ownsRow base e size v' (n + m) (xs ++ news) → w.grownBy w' v.ownBlock → (v'.ownBlock = v.ownBlock ∨ v'.ownBlock = some w.heap.size) → wpList P ops Q rest (a.put o.dst v') w') : wpList P ops Q (o :: rest) a w := by
  refine wpList_plain hgd fun K hK => ?_
  obtain ⟨v', w', hr, h2, h3, h4⟩ := run_appS w base t o.type e i z size bytes ht hi hz hsize hby hzs hsz v n xs hown xo m c news hxo hl hnews h1 h63 hbytes hbase
  unfold Oper.wp
  simp [execOp, ho, resolve, invoke, builtin, hs, hx, hr, Result.andThen]
  exact hK _ _ (h v' w' h2 h3 h4)
end App
namespace Rep
def IntsS (w : World) (S : Nat → Prop) (v : Value) (l : List Int) : Prop := Row 1 (fun b o (z : Int) => S b ∧ w.cell? ⟨b, o, none⟩ = .some (.int .i64 z)) v l
structure InsS {α : Type} (w : World) (S : Nat → Prop) (sub : Value → α → Prop) (bk o : Nat) (x : Ins α) : Prop where
  op : w.cell? ⟨bk, o, none⟩ = .some (.int .i64 x.op)
  a : w.cell? ⟨bk, o + 1, none⟩ = .some (.int .i64 x.a)
  b : w.cell? ⟨bk, o + 2, none⟩ = .some (.int .i64 x.b)
  n : w.cell? ⟨bk, o + 3, none⟩ = .some (.int .i64 x.n)
  labels : ∃ v, w.cell? ⟨bk, o + 4, none⟩ = .some v ∧ IntsS w S v x.labels
  body : ∃ v, w.cell? ⟨bk, o + 5, none⟩ = .some v ∧ sub v x.body
  els : ∃ v, w.cell? ⟨bk, o + 6, none⟩ = .some v ∧ sub v x.els
def AtS (w : World) (S : Nat → Prop) : (d : Nat) → Value → IL d → Prop
  | 0, v, _ => ∃ o cap, v = .slice o 0 cap
  | d + 1, v, l => Row 7 (fun b o (x : Ins (IL d)) => S b ∧ InsS w S (AtS w S d) b o x) v l
theorem IntsS.at {w : World} {S : Nat → Prop} {v : Value} {l : List Int} (h : IntsS w S v l) : Ints w v l := Row.imp h fun _ _ _ _ h => h.2
theorem AtS.at {w : World} {S : Nat → Prop} : ∀ (d : Nat) (v : Value) (l : IL d), AtS w S d v l → At w d v l
  | 0, _, _, h => h
  | d + 1, _, _, h => Row.imp (α := Ins (IL d)) h fun _ _ _ _ ⟨_, h⟩ => ⟨h.op, h.a, h.b, h.n, let ⟨v, a, b⟩ := h.labels; ⟨v, a, b.at⟩, let ⟨v, a, b⟩ := h.body; ⟨v, a, AtS.at d v _ b⟩, let ⟨v, a, b⟩ := h.els; ⟨v, a, AtS.at d v _ b⟩⟩
theorem cell_keep {w w' : World} {S S' : Nat → Prop} (hk : ∀ k, S k → S' k ∧ w'.heap[k]? = w.heap[k]?) {b o : Nat} {u : Value} (hb : S b) (h : w.cell? ⟨b, o, none⟩ = .some u) : w'.cell? ⟨b, o, none⟩ = .some u :=
  (World.cell?_of_block (a := ⟨b, o, none⟩) (hk b hb).2).trans h
theorem IntsS.keep {w w' : World} {S S' : Nat → Prop} (hk : ∀ k, S k → S' k ∧ w'.heap[k]? = w.heap[k]?) {v : Value} {l : List Int} (h : IntsS w S v l) : IntsS w' S' v l :=
  Row.imp h fun b _ _ _ h => ⟨(hk b h.1).1, cell_keep hk h.1 h.2⟩
theorem AtS.keep {w w' : World} {S S' : Nat → Prop} (hk : ∀ k, S k → S' k ∧ w'.heap[k]? = w.heap[k]?) : ∀ (d : Nat) (v : Value) (l : IL d), AtS w S d v l → AtS w' S' d v l
  | 0, _, _, h => h
  | d + 1, _, _, h => Row.imp (α := Ins (IL d)) h fun b _ _ _ ⟨hb, h⟩ => ⟨(hk b hb).1, cell_keep hk hb h.op, cell_keep hk hb h.a, cell_keep hk hb h.b, cell_keep hk hb h.n, let ⟨v, a, c⟩ := h.labels; ⟨v, cell_keep hk hb a, c.keep hk⟩, let ⟨v, a, c⟩ := h.body; ⟨v, cell_keep hk hb a, AtS.keep hk d v _ c⟩, let ⟨v, a, c⟩ := h.els; ⟨v, cell_keep hk hb a, AtS.keep hk d v _ c⟩⟩
/-- the blocks made since, but for one's own row -/
def Since (B : Nat) (w : World) (row : Option Nat) (k : Nat) : Prop := B ≤ k ∧ k < w.heap.size ∧ some k ≠ row
theorem since_below {B : Nat} {w w' : World} {row : Option Nat} (hb : Below w.heap.size w w') : ∀ k, Since B w row k → Since B w' row k ∧ w'.heap[k]? = w.heap[k]? := fun k hk =>
  ⟨⟨hk.1, Nat.lt_of_lt_of_le hk.2.1 hb.size, hk.2.2⟩, hb.block k hk.2.1⟩
theorem since_grown {B : Nat} {w w' : World} {v v' : Value} (hg : w.grownBy w' v.ownBlock) (hv : v'.ownBlock = v.ownBlock ∨ v'.ownBlock = some w.heap.size) : ∀ k, Since B w v.ownBlock k → Since B w' v'.ownBlock k ∧ w'.heap[k]? = w.heap[k]? := fun k hk => by
  refine ⟨⟨hk.1, Nat.lt_of_lt_of_le hk.2.1 hg.size, ?_⟩, hg.block k hk.2.1 hk.2.2⟩
  rcases hv with h | h
  · rw [h]; exact hk.2.2
  · rw [h]
    intro e
    injection e with e
    have := hk.2.1
    omega
end Rep
end Go.Proofs.YtagoajoaojakhaaDoor
