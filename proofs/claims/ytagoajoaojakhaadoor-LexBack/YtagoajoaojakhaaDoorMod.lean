/- Whole modules as they lie in memory. -/
import Derived.Test.YtagoajoaojakhaaDoorRep
namespace Go.Proofs.YtagoajoaojakhaaDoor
open Go.RowKit Rep
namespace Rep

structure FT where
  params : List Int
  results : List Int
structure Imp where
  mod : ByteArray
  name : ByteArray
  type : Int
structure Fun (d : Nat) where
  type : Int
  locals : List Int
  body : IL d
structure Lim where
  min : Int
  max : Int
  has : Bool
structure Glo (d : Nat) where
  type : Int
  mtb : Bool
  init : Ins (IL d)
structure Exp where
  name : ByteArray
  kind : Int
  index : Int
structure Elm (d : Nat) where
  offset : Ins (IL d)
  funcs : List Int
structure Dat (d : Nat) where
  offset : Ins (IL d)
  bytes : ByteArray
structure Mod (d : Nat) where
  types : List FT
  imports : List Imp
  funcs : List (Fun d)
  tables : List Lim
  mems : List Lim
  globals : List (Glo d)
  exports : List Exp
  start : List Int
  elems : List (Elm d)
  datas : List (Dat d)

structure FTAt (w : World) (bk o : Nat) (x : FT) : Prop where
  params : ∃ v, w.cell? ⟨bk, o, none⟩ = .some v ∧ Ints w v x.params
  results : ∃ v, w.cell? ⟨bk, o + 1, none⟩ = .some v ∧ Ints w v x.results
structure ImpAt (w : World) (bk o : Nat) (x : Imp) : Prop where
  mod : w.cell? ⟨bk, o, none⟩ = .some (.string x.mod)
  name : w.cell? ⟨bk, o + 1, none⟩ = .some (.string x.name)
  type : w.cell? ⟨bk, o + 2, none⟩ = .some (.int .i64 x.type)
structure FunAt (w : World) (d : Nat) (bk o : Nat) (x : Fun d) : Prop where
  type : w.cell? ⟨bk, o, none⟩ = .some (.int .i64 x.type)
  locals : ∃ v, w.cell? ⟨bk, o + 1, none⟩ = .some v ∧ Ints w v x.locals
  body : ∃ v, w.cell? ⟨bk, o + 2, none⟩ = .some v ∧ At w d v x.body
structure LimAt (w : World) (bk o : Nat) (x : Lim) : Prop where
  min : w.cell? ⟨bk, o, none⟩ = .some (.int .i64 x.min)
  max : w.cell? ⟨bk, o + 1, none⟩ = .some (.int .i64 x.max)
  has : w.cell? ⟨bk, o + 2, none⟩ = .some (.bool x.has)
structure GloAt (w : World) (d : Nat) (bk o : Nat) (x : Glo d) : Prop where
  type : w.cell? ⟨bk, o, none⟩ = .some (.int .i64 x.type)
  mtb : w.cell? ⟨bk, o + 1, none⟩ = .some (.bool x.mtb)
  init : InsAt w (At w d) bk (o + 2) x.init
structure ExpAt (w : World) (bk o : Nat) (x : Exp) : Prop where
  name : w.cell? ⟨bk, o, none⟩ = .some (.string x.name)
  kind : w.cell? ⟨bk, o + 1, none⟩ = .some (.int .i64 x.kind)
  index : w.cell? ⟨bk, o + 2, none⟩ = .some (.int .i64 x.index)
structure ElmAt (w : World) (d : Nat) (bk o : Nat) (x : Elm d) : Prop where
  offset : InsAt w (At w d) bk o x.offset
  funcs : ∃ v, w.cell? ⟨bk, o + 7, none⟩ = .some v ∧ Ints w v x.funcs
structure DatAt (w : World) (d : Nat) (bk o : Nat) (x : Dat d) : Prop where
  offset : InsAt w (At w d) bk o x.offset
  bytes : w.cell? ⟨bk, o + 7, none⟩ = .some (.string x.bytes)

/-- the ten lists of a module, each behind its value -/
structure ModAt (w : World) (d : Nat) (v0 v1 v2 v3 v4 v5 v6 v7 v8 v9 : Value) (m : Mod d) : Prop where
  types : Row 2 (FTAt w) v0 m.types
  imports : Row 3 (ImpAt w) v1 m.imports
  funcs : Row 3 (FunAt w d) v2 m.funcs
  tables : Row 3 (LimAt w) v3 m.tables
  mems : Row 3 (LimAt w) v4 m.mems
  globals : Row 9 (GloAt w d) v5 m.globals
  exports : Row 3 (ExpAt w) v6 m.exports
  start : Ints w v7 m.start
  elems : Row 8 (ElmAt w d) v8 m.elems
  datas : Row 8 (DatAt w d) v9 m.datas

section On
variable {w w' : World} (hb : Below w.heap.size w w')
theorem FTAt.on (hb : Below w.heap.size w w') {bk o : Nat} {x : FT} (h : FTAt w bk o x) : FTAt w' bk o x :=
  ⟨let ⟨v, a, b⟩ := h.params; ⟨v, cell_on hb a, b.on hb⟩, let ⟨v, a, b⟩ := h.results; ⟨v, cell_on hb a, b.on hb⟩⟩
theorem ImpAt.on (hb : Below w.heap.size w w') {bk o : Nat} {x : Imp} (h : ImpAt w bk o x) : ImpAt w' bk o x := ⟨cell_on hb h.mod, cell_on hb h.name, cell_on hb h.type⟩
theorem FunAt.on (hb : Below w.heap.size w w') {d bk o : Nat} {x : Fun d} (h : FunAt w d bk o x) : FunAt w' d bk o x :=
  ⟨cell_on hb h.type, let ⟨v, a, b⟩ := h.locals; ⟨v, cell_on hb a, b.on hb⟩, let ⟨v, a, b⟩ := h.body; ⟨v, cell_on hb a, At.on hb d v _ b⟩⟩
theorem LimAt.on (hb : Below w.heap.size w w') {bk o : Nat} {x : Lim} (h : LimAt w bk o x) : LimAt w' bk o x := ⟨cell_on hb h.min, cell_on hb h.max, cell_on hb h.has⟩
theorem GloAt.on (hb : Below w.heap.size w w') {d bk o : Nat} {x : Glo d} (h : GloAt w d bk o x) : GloAt w' d bk o x := ⟨cell_on hb h.type, cell_on hb h.mtb, h.init.on hb (At.on hb d)⟩
theorem ExpAt.on (hb : Below w.heap.size w w') {bk o : Nat} {x : Exp} (h : ExpAt w bk o x) : ExpAt w' bk o x := ⟨cell_on hb h.name, cell_on hb h.kind, cell_on hb h.index⟩
theorem ElmAt.on (hb : Below w.heap.size w w') {d bk o : Nat} {x : Elm d} (h : ElmAt w d bk o x) : ElmAt w' d bk o x := ⟨h.offset.on hb (At.on hb d), let ⟨v, a, b⟩ := h.funcs; ⟨v, cell_on hb a, b.on hb⟩⟩
theorem DatAt.on (hb : Below w.heap.size w w') {d bk o : Nat} {x : Dat d} (h : DatAt w d bk o x) : DatAt w' d bk o x := ⟨h.offset.on hb (At.on hb d), cell_on hb h.bytes⟩
theorem ModAt.on (hb : Below w.heap.size w w') {d : Nat} {v0 v1 v2 v3 v4 v5 v6 v7 v8 v9 : Value} {m : Mod d} (h : ModAt w d v0 v1 v2 v3 v4 v5 v6 v7 v8 v9 m) : ModAt w' d v0 v1 v2 v3 v4 v5 v6 v7 v8 v9 m :=
  ⟨h.types.imp fun _ _ _ _ => FTAt.on hb, h.imports.imp fun _ _ _ _ => ImpAt.on hb, h.funcs.imp fun _ _ _ _ => FunAt.on hb, h.tables.imp fun _ _ _ _ => LimAt.on hb, h.mems.imp fun _ _ _ _ => LimAt.on hb,
   h.globals.imp fun _ _ _ _ => GloAt.on hb, h.exports.imp fun _ _ _ _ => ExpAt.on hb, h.start.on hb, h.elems.imp fun _ _ _ _ => ElmAt.on hb, h.datas.imp fun _ _ _ _ => DatAt.on hb⟩
end On

/-- how many instructions stand in a list of them -/
def size : (d : Nat) → IL d → Nat
  | 0, _ => 0
  | _ + 1, l => List.length l
theorem At.len {w : World} : ∀ (d : Nat) (v : Value) (l : IL d), At w d v l → ∃ o cap, v = .slice o (size d l) cap
  | 0, _, _, h => h
  | _ + 1, _, _, h => Row.len h
theorem At.bound {w : World} : ∀ (d : Nat) (v : Value) (l : IL d), At w d v l → size d l ≤ 9223372036854775807
  | 0, _, _, _ => by show 0 ≤ _; omega
  | _ + 1, _, _, h => h.1
end Rep
end Go.Proofs.YtagoajoaojakhaaDoor
