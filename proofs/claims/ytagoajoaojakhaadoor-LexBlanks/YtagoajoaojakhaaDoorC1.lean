/- Memory cut down to some of its blocks; rows of one's own that are filled piece by piece. -/
import Derived.Test.YtagoajoaojakhaaDoorC0
import Derived.Test.YtagoajoaojakhaaDoorK1
namespace Go.Proofs.YtagoajoaojakhaaDoor
open Go.RowKit Rep
set_option linter.unusedVariables false
namespace Rep
/-- what reads in the one world reads so in the other -/
def Sub (w w' : World) : Prop := ∀ b o u, w.cell? ⟨b, o, none⟩ = .some u → w'.cell? ⟨b, o, none⟩ = .some u
theorem Sub.refl (w : World) : Sub w w := fun _ _ _ h => h
theorem Sub.trans {w1 w2 w3 : World} (h : Sub w1 w2) (h' : Sub w2 w3) : Sub w1 w3 := fun b o u e => h' b o u (h b o u e)
section On
variable {w w' : World} (hb : Sub w w')
theorem Ints.sub (hb : Sub w w') {v : Value} {l : List Int} (h : Ints w v l) : Ints w' v l := Row.imp h fun _ _ _ _ h => hb _ _ _ h
theorem InsAt.sub (hb : Sub w w') {α : Type} {f g : Value → α → Prop} (hfg : ∀ v x, f v x → g v x) {b o : Nat} {x : Ins α} (h : InsAt w f b o x) : InsAt w' g b o x :=
  ⟨hb _ _ _ h.op, hb _ _ _ h.a, hb _ _ _ h.b, hb _ _ _ h.n,
   let ⟨v, h1, h2⟩ := h.labels; ⟨v, hb _ _ _ h1, h2.sub hb⟩,
   let ⟨v, h1, h2⟩ := h.body; ⟨v, hb _ _ _ h1, hfg _ _ h2⟩,
   let ⟨v, h1, h2⟩ := h.els; ⟨v, hb _ _ _ h1, hfg _ _ h2⟩⟩
theorem At.sub (hb : Sub w w') : ∀ (d : Nat) (v : Value) (l : IL d), At w d v l → At w' d v l
  | 0, _, _, h => h
  | d + 1, _, _, h => Row.imp (α := Ins (IL d)) h fun _ _ _ _ h => h.sub hb (At.sub hb d)
theorem FTAt.sub (hb : Sub w w') {bk o : Nat} {x : FT} (h : FTAt w bk o x) : FTAt w' bk o x :=
  ⟨let ⟨v, a, b⟩ := h.params; ⟨v, hb _ _ _ a, b.sub hb⟩, let ⟨v, a, b⟩ := h.results; ⟨v, hb _ _ _ a, b.sub hb⟩⟩
theorem ImpAt.sub (hb : Sub w w') {bk o : Nat} {x : Imp} (h : ImpAt w bk o x) : ImpAt w' bk o x := ⟨hb _ _ _ h.mod, hb _ _ _ h.name, hb _ _ _ h.type⟩
theorem FunAt.sub (hb : Sub w w') {d bk o : Nat} {x : Fun d} (h : FunAt w d bk o x) : FunAt w' d bk o x :=
  ⟨hb _ _ _ h.type, let ⟨v, a, b⟩ := h.locals; ⟨v, hb _ _ _ a, b.sub hb⟩, let ⟨v, a, b⟩ := h.body; ⟨v, hb _ _ _ a, At.sub hb d v _ b⟩⟩
theorem LimAt.sub (hb : Sub w w') {bk o : Nat} {x : Lim} (h : LimAt w bk o x) : LimAt w' bk o x := ⟨hb _ _ _ h.min, hb _ _ _ h.max, hb _ _ _ h.has⟩
theorem GloAt.sub (hb : Sub w w') {d bk o : Nat} {x : Glo d} (h : GloAt w d bk o x) : GloAt w' d bk o x := ⟨hb _ _ _ h.type, hb _ _ _ h.mtb, h.init.sub hb (At.sub hb d)⟩
theorem ExpAt.sub (hb : Sub w w') {bk o : Nat} {x : Exp} (h : ExpAt w bk o x) : ExpAt w' bk o x := ⟨hb _ _ _ h.name, hb _ _ _ h.kind, hb _ _ _ h.index⟩
theorem ElmAt.sub (hb : Sub w w') {d bk o : Nat} {x : Elm d} (h : ElmAt w d bk o x) : ElmAt w' d bk o x := ⟨h.offset.sub hb (At.sub hb d), let ⟨v, a, b⟩ := h.funcs; ⟨v, hb _ _ _ a, b.sub hb⟩⟩
theorem DatAt.sub (hb : Sub w w') {d bk o : Nat} {x : Dat d} (h : DatAt w d bk o x) : DatAt w' d bk o x := ⟨h.offset.sub hb (At.sub hb d), hb _ _ _ h.bytes⟩
end On
/-- only some blocks of a world -/
def only (w : World) (S : Nat → Bool) : World := { w with heap := w.heap.mapIdx fun i x => if S i then x else .cells #[] 0 (0, 0) }
theorem only_block (w : World) (S : Nat → Bool) (k : Nat) : (only w S).heap[k]? = (w.heap[k]?).map fun x => if S k then x else .cells #[] 0 (0, 0) := by
  unfold only; simp [Array.getElem?_mapIdx]
theorem only_cell {w : World} {S : Nat → Bool} {b o : Nat} {u : Value} : (only w S).cell? ⟨b, o, none⟩ = .some u ↔ S b = true ∧ w.cell? ⟨b, o, none⟩ = .some u := by
  unfold World.cell?
  rw [only_block]
  cases hs : S b with
  | true => simp
  | false =>
    cases w.heap[b]? with
    | none => simp
    | some x => simp
theorem only_sub (w : World) (S : Nat → Bool) : Sub (only w S) w := fun b o u h => (only_cell.1 h).2
theorem sub_only {w w' : World} {S S' : Nat → Bool} (h : ∀ k, k < w.heap.size → S k = true → S' k = true ∧ w'.heap[k]? = w.heap[k]?) : Sub (only w S) (only w' S') := fun b o u hu => by
  obtain ⟨h1, h2⟩ := only_cell.1 hu
  obtain ⟨h3, h4⟩ := h b (World.block_lt_of_cell? _ _ h2) h1
  exact only_cell.2 ⟨h3, (World.cell?_of_block (a := ⟨b, o, none⟩) h4).trans h2⟩
theorem ints_only {w : World} {S' : Nat → Prop} {S : Nat → Bool} (hS : ∀ k, S' k → S k = true) {v : Value} {l : List Int} (h : IntsS w S' v l) : Ints (only w S) v l :=
  Row.imp h fun b _ _ _ h => only_cell.2 ⟨hS b h.1, h.2⟩
theorem at_only {w : World} {S' : Nat → Prop} {S : Nat → Bool} (hS : ∀ k, S' k → S k = true) : ∀ (d : Nat) (v : Value) (l : IL d), AtS w S' d v l → At (only w S) d v l
  | 0, _, _, h => h
  | d + 1, _, _, h => Row.imp (α := Ins (IL d)) h fun b _ _ _ ⟨hb, h⟩ => ⟨only_cell.2 ⟨hS b hb, h.op⟩, only_cell.2 ⟨hS b hb, h.a⟩, only_cell.2 ⟨hS b hb, h.b⟩, only_cell.2 ⟨hS b hb, h.n⟩, let ⟨v, a, c⟩ := h.labels; ⟨v, only_cell.2 ⟨hS b hb, a⟩, ints_only hS c⟩, let ⟨v, a, c⟩ := h.body; ⟨v, only_cell.2 ⟨hS b hb, a⟩, at_only hS d v _ c⟩, let ⟨v, a, c⟩ := h.els; ⟨v, only_cell.2 ⟨hS b hb, a⟩, at_only hS d v _ c⟩⟩
/-- a thing whose cells are these, wherever they come to lie -/
structure Piece {α : Type} (R : World) (c : Nat) (f : World → Nat → Nat → α → Prop) (x : α) (cs : List Value) : Prop where
  len : cs.length = c
  one : ∀ u ∈ cs, u.oneCell' = true
  lay : ∀ R' b o, Sub R R' → (∀ k u, cs[k]? = .some u → R'.cell? ⟨b, o + k, none⟩ = .some u) → f R' b o x
theorem Piece.sub {α : Type} {R R2 : World} {c : Nat} {f : World → Nat → Nat → α → Prop} {x : α} {cs : List Value} (h : Piece R c f x cs) (hs : Sub R R2) : Piece R2 c f x cs :=
  ⟨h.len, h.one, fun R' b o h' hc => h.lay R' b o (hs.trans h') hc⟩
def flat {α : Type} (ps : List (α × List Value)) : List Value := ps.flatMap (·.2)
theorem flat_snoc {α : Type} (ps : List (α × List Value)) (p : α × List Value) : flat (ps ++ [p]) = flat ps ++ p.2 := by
  unfold flat; rw [List.flatMap_append]; simp
theorem flat_len {α : Type} {c : Nat} : ∀ ps : List (α × List Value), (∀ p ∈ ps, p.2.length = c) → (flat ps).length = ps.length * c
  | [], _ => by simp [flat]
  | p :: r, h => by
    show (p.2 ++ flat r).length = (r.length + 1) * c
    rw [List.length_append, flat_len r fun q hq => h q (List.mem_cons_of_mem _ hq), h p (List.mem_cons_self ..), Nat.add_mul]
    omega
theorem flat_get {α : Type} {c : Nat} : ∀ (ps : List (α × List Value)), (∀ p ∈ ps, p.2.length = c) → ∀ (i : Nat) (p : α × List Value), ps[i]? = .some p → ∀ k u, p.2[k]? = .some u → (flat ps)[i * c + k]? = .some u
  | [], _, _, _, h, _, _, _ => by simp at h
  | q :: r, hl, 0, p, h, k, u, hu => by
    have : q = p := by simpa using h
    subst this
    show (q.2 ++ flat r)[0 * c + k]? = .some u
    have hk : k < q.2.length := (List.getElem?_eq_some_iff.1 hu).1
    rw [Nat.zero_mul, Nat.zero_add, List.getElem?_append_left hk]
    exact hu
  | q :: r, hl, i + 1, p, h, k, u, hu => by
    have h' : r[i]? = .some p := by simpa using h
    have hq : q.2.length = c := hl q (List.mem_cons_self ..)
    show (q.2 ++ flat r)[(i + 1) * c + k]? = .some u
    have e : (i + 1) * c + k = c + (i * c + k) := by rw [Nat.add_mul]; omega
    rw [List.getElem?_append_right (by omega), show (i + 1) * c + k - q.2.length = i * c + k by omega]
    exact flat_get r (fun p hp => hl p (List.mem_cons_of_mem _ hp)) i p h' k u hu
theorem flat_one {α : Type} {R : World} {c : Nat} {f : World → Nat → Nat → α → Prop} (ps : List (α × List Value)) (h : ∀ p ∈ ps, Piece R c f p.1 p.2) : ∀ u ∈ flat ps, u.oneCell' = true := fun u hu => by
  obtain ⟨p, hp, hu⟩ := List.mem_flatMap.1 hu
  exact (h p hp).one u hu
/-- a row of one's own that is full of pieces reads as their list -/
theorem row_of_own {α : Type} {w : World} {B : Nat} {e : TypeId} {c : Nat} {t : Value} {f : World → Nat → Nat → α → Prop} {S S' : Nat → Bool} (ps : List (α × List Value)) (ho : w.ownsRow B e c t ps.length (flat ps)) (hp : ∀ p ∈ ps, Piece (only w S) c f p.1 p.2)
    (hS : ∀ k, S k = true → S' k = true) (ht : ∀ g, t.ownBlock = some g → S' g = true) (hn : ps.length ≤ 9223372036854775807) : Row c (f (only w S')) t (ps.map (·.1)) := by
  refine ⟨by rw [List.length_map]; exact hn, ?_⟩
  rcases ho.2 with ⟨rfl, h0⟩ | ⟨g, cap, cur, rfl, hbg, hg, _, _, _, _⟩
  · have : ps = [] := List.length_eq_zero_iff.1 h0
    subst this
    exact .inl ⟨rfl, none, 0, rfl⟩
  · refine .inr ⟨g, 0, cap, by rw [List.length_map], fun i x hx => ?_⟩
    rw [List.getElem?_map] at hx
    obtain ⟨p, hpi, rfl⟩ := Option.map_eq_some_iff.1 hx
    refine (hp p (List.mem_of_getElem? hpi)).lay _ _ _ (sub_only fun k _ hk => ⟨hS k hk, rfl⟩) fun k u hu => ?_
    have := ho.cells (g := g) rfl (i * c + k) u (flat_get ps (fun p hp' => (hp p hp').len) i p hpi k u hu)
    rw [add_addr] at this
    refine only_cell.2 ⟨ht g rfl, ?_⟩
    rw [Nat.add_assoc]; exact this
/-- the blocks made since, but for that of the new module and that of the row under way -/
def sel (B b : Nat) (t : Value) (k : Nat) : Bool := decide (B ≤ k) && (k != b) && (t.ownBlock != some k)
theorem sel_iff {B b : Nat} {t : Value} {k : Nat} : sel B b t k = true ↔ B ≤ k ∧ k ≠ b ∧ t.ownBlock ≠ some k := by
  unfold sel; simp [and_assoc]
theorem sub_below {B b : Nat} {t : Value} {w w' : World} (hb : Below w.heap.size w w') : Sub (only w (sel B b t)) (only w' (sel B b t)) := sub_only fun k hk hs => ⟨hs, hb.block k hk⟩
theorem sub_set {B b i : Nat} {t u : Value} {w : World} : Sub (only w (sel B b t)) (only (w.setCell ⟨b, i, none⟩ u) (sel B b t)) := sub_only fun k hk hs => ⟨hs, Below.heap_setCell _ _ _ _ (by show k ≠ b; exact (sel_iff.1 hs).2.1)⟩
theorem sub_grown {B b : Nat} {t t' : Value} {w w' : World} (hg : w.grownBy w' t.ownBlock) (hv : t'.ownBlock = t.ownBlock ∨ t'.ownBlock = some w.heap.size) : Sub (only w (sel B b t)) (only w' (sel B b t')) := sub_only fun k hk hs => by
  obtain ⟨h1, h2, h3⟩ := sel_iff.1 hs
  refine ⟨sel_iff.2 ⟨h1, h2, ?_⟩, hg.block k hk (fun e => h3 e.symm)⟩
  rcases hv with h | h
  · rw [h]; exact h3
  · rw [h]; intro e; injection e with e; omega
section App
variable {P : Program}
/-- append to a row just made, of no room: new memory alone -/
theorem run_app0 (w : World) (base g : Nat) (t ty e : TypeId) (i : TypeInfo) (z : Value) (size bytes : Nat) (ht : P.underlying t = some (.slice e)) (hi : P.info? e = some i) (hz : i.zero = some z)
    (hsize : i.size = size) (hby : i.bytes = bytes) (hzs : z.cells.size = size) (hsz : 0 < size) (hb : base ≤ g) (hg : w.heap[g]? = some (.cells #[] e (0, 0)))
    (xo : Option Addr) (m c : Nat) (news : List Value) (hxo : xo = none → m = 0) (hl : news.length = m * size) (hnews : ∀ ad, xo = some ad → ∀ j u, news[j]? = some u → w.cell? (ad.add j) = some u) (h1 : ∀ u ∈ news, u.oneCell' = true)
    (h63 : m ≤ maxLen) (hbytes : m * bytes ≤ 140737488355328) :
    ∃ v' w', (Builtin.append_ #[t, t] ty #[.slice (some ⟨g, 0, none⟩) 0 0, .slice xo m c]).run P w = .ok v' w' ∧ w'.ownsRow base e size v' m news ∧ Below w.heap.size w w' := by
  have hgl : g < w.heap.size := (Array.getElem?_eq_some_iff.1 hg).1
  have hown : w.ownsRow base e size (.slice (some ⟨g, 0, none⟩) 0 0) 0 [] := ⟨by simp, .inr ⟨g, 0, #[], rfl, hb, hg, Nat.le_refl _, by unfold maxLen; omega, by simp, by simp⟩⟩
  obtain ⟨v', w', hr, ho, _, _⟩ := run_appS (P := P) w base t ty e i z size bytes ht hi hz hsize hby hzs hsz _ 0 [] hown xo m c news hxo hl hnews h1 (by omega) (by simpa using hbytes) (by omega)
  refine ⟨v', w', hr, by simpa using ho, ?_⟩
  subst hsize
  subst hby
  cases xo with
  | none =>
    obtain rfl := hxo rfl
    rw [run_app_none w base t ty e i i.size ht hi _ 0 [] hown c] at hr
    injection hr with _ hw
    subst hw
    exact Below.refl _ _
  | some a =>
    by_cases hm : m = 0
    · subst hm
      obtain rfl : news = [] := List.eq_nil_of_length_eq_zero (by simpa using hl)
      rw [run_append_room (P := P) w t ty e i ht hi g 0 0 #[] hg a 0 c [] (by simp) (by simp) (by simp) (Nat.le_refl _) (by simp)] at hr
      injection hr with _ hw
      rw [← hw]
      have he : (List.take (0 * i.size) (#[] : Array Value).toList ++ [] ++ List.drop (0 * i.size + ([] : List Value).length) (#[] : Array Value).toList).toArray = #[] := by simp
      rw [he, setRow_self w g #[] e (0, 0) hg]
      exact Below.refl _ _
    · unfold maxLen at h63
      rw [run_append_grow (P := P) w t ty e i z ht hi hz ⟨g, 0, none⟩ 0 0 [] (by simp) (by simp) a m c news hl (hnews a rfl) (by omega) (by omega) (growslice_fits (by omega) (by simpa using hbytes))] at hr
      injection hr with _ hw
      rw [← hw]
      exact ⟨rfl, rfl, rfl, by simp, fun k hk => Below.heap_alloc w.drew _ k hk⟩
end App
end Rep
end Go.Proofs.YtagoajoaojakhaaDoor
