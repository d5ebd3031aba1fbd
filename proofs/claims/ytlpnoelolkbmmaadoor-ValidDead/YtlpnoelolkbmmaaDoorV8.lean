/- A frame is begun: it is put behind the others. -/
import Derived.Test.YtlpnoelolkbmmaaDoorV7
import Derived.Test.YtlpnoelolkbmmaaDoorE1b
namespace Go.Proofs.YtlpnoelolkbmmaaDoor
open Go.RowKit Rep Val
set_option linter.unusedVariables false
theorem frInfo : (Tryd.prog.info? 62).map (fun i => (i.zero, i.size, i.bytes)) = some (some (.agg #[.slice none 0 0, .slice none 0 0, .int .i64 0, .bool false]), 4, 64) := by kernel_rfl
namespace Val
theorem grown_tr {w u u' : World} {r : Option Nat} {s : Option Nat} (h : w.grownBy u r) (h' : u.grownBy u' s) (hs : s = none ∨ s = r) : w.grownBy u' r :=
  ⟨h'.os.trans h.os, h'.tape.trans h.tape, h'.output.trans h.output, Nat.le_trans h.size h'.size, fun k hk hr => (h'.block k (Nat.lt_of_lt_of_le hk h.size) (by rcases hs with e | e; rw [e]; simp; rw [e]; exact hr)).trans (h.block k hk hr)⟩
theorem grown_id (w : World) (r : Option Nat) : w.grownBy w r := ⟨rfl, rfl, rfl, Nat.le_refl _, fun _ _ _ => rfl⟩
theorem op_appS {P : Program} {w : World} {o : Oper} {a : Act} {next : Act → World → Prop} {Q : Exit → Act → World → Prop} (s x : Operand) (t : TypeId)
    (ho : o.op = .call { callee := .builtin .append, args := #[s, x], argTypes := #[t, t] })
    (base : Nat) (e : TypeId) (i : TypeInfo) (z : Value) (size bytes : Nat) (ht : P.underlying t = some (.slice e)) (hi : P.info? e = some i) (hz : i.zero = some z)
    (hsize : i.size = size) (hby : i.bytes = bytes) (hzs : z.cells.size = size) (hsz : 0 < size)
    (v : Value) (n : Nat) (xs : List Value) (hs : a.eval s = v) (hown : w.ownsRow base e size v n xs)
    (xo : Option Addr) (m c : Nat) (news : List Value) (hx : a.eval x = .slice xo m c) (hxo : xo = none → m = 0) (hl : news.length = m * size) (hnews : ∀ ad, xo = some ad → ∀ j u, news[j]? = some u → w.cell? (ad.add j) = some u) (h1 : ∀ u ∈ news, u.oneCell' = true)
    (h63 : n + m ≤ maxLen) (hbytes : (n + m) * bytes ≤ 140737488355328) (hbase : base ≤ w.heap.size)
    (h : ∀ v' w', w'.ownsRow base e size v' (n + m) (xs ++ news) → w.grownBy w' v.ownBlock → (v'.ownBlock = v.ownBlock ∨ v'.ownBlock = some w.heap.size) → next (a.put o.dst v') w') : o.wp P a w next Q := by
  obtain ⟨v', w', hr, h2, h3, h4⟩ := run_appS w base t o.type e i z size bytes ht hi hz hsize hby hzs hsz v n xs hown xo m c news hxo hl hnews h1 h63 hbytes hbase
  unfold Oper.wp
  simp [execOp, ho, resolve, invoke, builtin, hs, hx, hr, Result.andThen]
  exact h v' w' h2 h3 h4
def wfp (vf : Value) (i : Nat) : Option Nat := if i = 7 then vf.ownBlock else none
def wG (p : Nat) (vf tv ev : Value) (ht : Nat) (d : Bool) (w : World) (n : Nat) (xs : List Value) (i : Nat) (v : Value) (u : World) : Prop :=
  match i with
  | 3 => v = .pointer (some ⟨p, 12, none⟩)
  | 4 => v = vf
  | 5 => v = .agg #[tv, ev, .int .i64 ht, .bool d]
  | 6 => ∃ b, v = .slice (some ⟨b, 0, none⟩) 1 1 ∧ w.heap.size ≤ b ∧ u.heap[b]? = some (.cells #[tv, ev, .int .i64 ht, .bool d] 62 (0, 0))
  | 7 => u.ownsRow (p + 1) 62 4 v (n + 1) (xs ++ [tv, ev, .int .i64 ht, .bool d]) ∧ (v.ownBlock = vf.ownBlock ∨ ∃ k, v.ownBlock = some k ∧ w.heap.size ≤ k)
  | 9 => v = .pointer (some ⟨p, 12, none⟩)
  | _ => v = .pointer (some ⟨p, 0, none⟩)
theorem TS.pushF {w0 w u : World} {p : Nat} {c : Nat → Value} {loc : Value} {st : List Int} {fs : List Fv} {vs vf v9 tv ev : Value} {pf : PF} (h : TS w0 p c loc st fs vs vf w) (hg : w.grownBy u vf.ownBlock) (ho : u.ownsRow (p + 1) 62 4 v9 (fs.length + 1) (flat4 fs ++ [tv, ev, .int .i64 pf.height, .bool pf.dead])) (hv : v9.ownBlock = vf.ownBlock ∨ ∃ k, v9.ownBlock = some k ∧ w.heap.size ≤ k)
    (ht : IntsS w (Kp p vs vf w) tv pf.types) (he : IntsS w (Kp p vs vf w) ev pf.ends) :
    u.heap[p]? = w.heap[p]? ∧ TS w0 p c loc st (fs ++ [(pf, tv, ev)]) vs v9 (u.setCell ⟨p, 12, none⟩ v9) ∧ Gr p vs vf w vs v9 (u.setCell ⟨p, 12, none⟩ v9) := by
  have hp : u.heap[p]? = w.heap[p]? := hg.block p h.lt (fun e => by have := (h.hf.lt p e.symm).1; omega)
  have hb : ∀ k, k ≠ p → (u.setCell ⟨p, 12, none⟩ v9).heap[k]? = u.heap[k]? := fun k hk => Below.heap_setCell _ _ _ _ hk
  have hgr : Gr p vs vf w vs v9 (u.setCell ⟨p, 12, none⟩ v9) := by
    refine ⟨by simpa using hg.size, fun k hk => ⟨⟨by simpa using Nat.lt_of_lt_of_le hk.1 hg.size, hk.2.1, hk.2.2.1, fun e => ?_⟩, (hb k hk.2.1).trans (hg.block k hk.1 hk.2.2.2)⟩⟩
    rcases hv with hv | ⟨q, hv, hq⟩
    · rw [hv] at e; exact hk.2.2.2 e
    · rw [hv] at e; injection e with e; have := hk.1; omega
  have grown : u.grownBy (u.setCell ⟨p, 12, none⟩ v9) (some p) := ⟨rfl, rfl, rfl, by simp, fun k _ hk => hb k (fun e => hk (by rw [e]))⟩
  have hne : ∀ (v : Value) (e : TypeId) (n m : Nat) (xs : List Value), u.ownsRow (p + 1) e n v m xs → v.ownBlock = none ∨ v.ownBlock ≠ some p := fun v e n m xs h => by
    cases hq : v.ownBlock with
    | none => exact .inl rfl
    | some q => have := (h.lt q hq).1; exact .inr (by simp; omega)
  have hs9 : u.ownsRow (p + 1) 3 1 vs st.length (st.map fun z => Value.int .i64 z) := h.hs.kept hg (by
    cases hq : vs.ownBlock with
    | none => exact .inl rfl
    | some q => exact .inr (fun e => h.ne q hq e.symm))
  have ho' : u.ownsRow (p + 1) 62 4 v9 (fs ++ [(pf, tv, ev)]).length (flat4 (fs ++ [(pf, tv, ev)])) := by rw [List.length_append, flat4_app]; exact ho
  refine ⟨hp, ⟨(h.below.grown hg h.below.size (fun q hq => by have := (h.hf.lt q hq).1; have := h.base; omega)).setCell h.base _, h.base, heap_setCell_same u p 12 _ _ _ (hp.trans h.blk), hs9.kept grown (hne _ _ _ _ _ hs9), ho'.kept grown (hne _ _ _ _ _ ho'), fun f hf => ?_⟩, hgr⟩
  rcases List.mem_append.1 hf with hf | hf
  · exact ⟨(h.ints f hf).1.keep hgr.keep, (h.ints f hf).2.keep hgr.keep⟩
  · rw [List.mem_singleton.1 hf]; exact ⟨ht.keep hgr.keep, he.keep hgr.keep⟩
end Val
end Go.Proofs.YtlpnoelolkbmmaaDoor
