/- Texts that the claim needs. -/
import Derived.Test.YtlcpagiljfpbpaaDoorQEJo29
namespace Go.Proofs.YtlcpagiljfpbpaaDoor
open Go.RowKit Rep Enc Go.Lib
set_option linter.unusedVariables false
namespace Enc
structure Wr {d:Nat} (m:Mod d):Prop where
 types:∀x ∈ m.types,x.params.length<=1000000/\x.results.length<=1000000
 imports:∀x ∈ m.imports,x.mod.size<=1000000/\x.name.size<=1000000/\0<=x.type/\x.type<=4294967295
 funcs:∀x ∈ m.funcs,(0<=x.type/\x.type<=4294967295)/\Rg d x.body/\x.locals.length<=1000000
 tables:∀x ∈ m.tables,(0<=x.min/\x.min<=4294967295)/\0<=x.max/\x.max<=4294967295
 mems:∀x ∈ m.mems,(0<=x.min/\x.min<=4294967295)/\0<=x.max/\x.max<=4294967295
 globals:∀x ∈ m.globals,Rg1 (Rg d) x.init
 exports:∀x ∈ m.exports,x.name.size<=1000000/\0<=x.index/\x.index<=4294967295
 start:∀x ∈ m.start,0<=x/\x<=4294967295
 elems:∀x ∈ m.elems,Rg1 (Rg d) x.offset/\(∀y ∈ x.funcs,0<=y/\y<=4294967295)/\x.funcs.length<=1000000
 datas:∀x ∈ m.datas,Rg1 (Rg d) x.offset/\x.bytes.size<=1000000
 few:m.types.length<=1000000/\m.imports.length<=1000000/\m.funcs.length<=1000000/\m.tables.length<=1000000/\m.mems.length<=1000000/\m.globals.length<=1000000/\m.exports.length<=1000000/\m.start.length<=1000000/\m.elems.length<=1000000/\m.datas.length<=1000000
 short:(modB m).length<=38000000000000
 typs:∀x ∈ m.funcs,∀y ∈ x.locals,y=126\/y=127
 once:m.start.length<=1
def ent {α:Type} (l:List α) (g:α->List Int) (i:Nat):List Int:=((l[i]?).map g).getD []
theorem ent_at {α:Type} {l:List α} {g:α->List Int} {i:Nat} {x:α} (h:l[i]?=some x):ent l g i=g x:=by unfold ent;rw [h];rfl
theorem ent_fst {α:Type} (l:List α) (g:α->List Int):∀j,j<=l.length->fstB (ent l g) j=(l.take j).flatMap g
 | 0,_=>by simp [fstB]
 | j+1,h=>by
  obtain ⟨x,hx⟩:∃x,l[j]?=some x:=⟨_,List.getElem?_eq_getElem (by omega)⟩
  show fstB (ent l g) j++ent l g j=_
  rw [ent_fst l g j (by omega),ent_at hx,fm_take hx]
theorem ent_all {α:Type} (l:List α) (g:α->List Int):fstB (ent l g) l.length=l.flatMap g:=by
 rw [ent_fst l g _ (Nat.le_refl _),List.take_of_length_le (Nat.le_refl _)]
theorem inside_lis {α:Type} (id:Int) (hid:id≠8) (l:List α) (g:α->List Int):insideB id l.length (ent l g)=lisB g l:=by
 unfold insideB lisB
 rw [if_neg hid,ent_all]
theorem inside_st {α:Type} (l:List α) (g:α->List Int):insideB 8 l.length (ent l g)=l.flatMap g:=by
 unfold insideB
 rw [if_pos rfl,ent_all];simp
def sb {d:Nat} (m:Mod d):Nat->List Int
 | 0=>secB 1 m.types.length (lisB ftB m.types)
 | 1=>secB 2 m.imports.length (lisB impB m.imports)
 | 2=>secB 3 m.funcs.length (lisB (fun x=>Leb.uB x.type) m.funcs)
 | 3=>secB 4 m.tables.length (lisB (fun x=>[112]++limB x) m.tables)
 | 4=>secB 5 m.mems.length (lisB limB m.mems)
 | 5=>secB 6 m.globals.length (lisB gloB m.globals)
 | 6=>secB 7 m.exports.length (lisB expB m.exports)
 | 7=>secB 8 m.start.length (m.start.flatMap Leb.uB)
 | 8=>secB 9 m.elems.length (lisB elmB m.elems)
 | 9=>secB 10 m.funcs.length (lisB (fun x=>sizB (codB x)) m.funcs)
 | 10=>secB 11 m.datas.length (lisB datB m.datas)
 | _=>[]
theorem modB_sb {d:Nat} (m:Mod d):modB m=headB++fstB (sb m) 11:=by
 show modB m=headB++(((((((((((([]:List Int)++sb m 0)++sb m 1)++sb m 2)++sb m 3)++sb m 4)++sb m 5)++sb m 6)++sb m 7)++sb m 8)++sb m 9)++sb m 10)
 simp only [List.nil_append,<- List.append_assoc]
 rfl
def ln {d:Nat} (m:Mod d):Nat->Nat
 | 0=>m.types.length
 | 1=>m.imports.length
 | 2=>m.funcs.length
 | 3=>m.tables.length
 | 4=>m.mems.length
 | 5=>m.globals.length
 | 6=>m.exports.length
 | 7=>m.start.length
 | 8=>m.elems.length
 | 9=>m.datas.length
 | _=>0
end Enc
theorem sec1 {I:World->Prop} (C:FormC I) (w0:World) (hI:I w0) (p:Nat) (c:Nat->Value) (d:Nat) (m:Mod d) (hM:ModAt w0 d (c 0) (c 1) (c 2) (c 3) (c 4) (c 5) (c 6) (c 7) (c 8) (c 9) m) (W:Wr m):SecIn w0 p c 1 m.types.length 34 (ent m.types ftB):=fun v bs qS qW w h hS hW n1 n2 n3 n4 hlen =>
 wSec1 w0 p c v bs m.types.length (ent m.types ftB) qS qW w h (fun i v bs w hi h hl=>by
  obtain ⟨x,hx⟩:∃x,m.types[i]?=some x:=⟨_,List.getElem?_eq_getElem hi⟩
  have r:=W.types x (List.mem_of_getElem? hx)
  rw [ent_at hx]
  exact (eType w0 p c v bs d m w h hM i x hx r.1 r.2 (by omega)).mono fun _ _ h=>DoesA.of h) hS hW n1 n2 n3 n4 (by have:=W.few;omega) hlen
theorem sec2 {I:World->Prop} (C:FormC I) (w0:World) (hI:I w0) (p:Nat) (c:Nat->Value) (d:Nat) (m:Mod d) (hM:ModAt w0 d (c 0) (c 1) (c 2) (c 3) (c 4) (c 5) (c 6) (c 7) (c 8) (c 9) m) (W:Wr m):SecIn w0 p c 2 m.imports.length 35 (ent m.imports impB):=fun v bs qS qW w h hS hW n1 n2 n3 n4 hlen =>
 wSec2 w0 p c v bs m.imports.length (ent m.imports impB) qS qW w h (fun i v bs w hi h hl=>by
  obtain ⟨x,hx⟩:∃x,m.imports[i]?=some x:=⟨_,List.getElem?_eq_getElem hi⟩
  have r:=W.imports x (List.mem_of_getElem? hx)
  rw [ent_at hx]
  exact (eImp w0 p c v bs d m w h hM i x hx r.1 r.2.1 r.2.2 (by omega)).mono fun _ _ h=>DoesA.of h) hS hW n1 n2 n3 n4 (by have:=W.few;omega) hlen
theorem sec3 {I:World->Prop} (C:FormC I) (w0:World) (hI:I w0) (p:Nat) (c:Nat->Value) (d:Nat) (m:Mod d) (hM:ModAt w0 d (c 0) (c 1) (c 2) (c 3) (c 4) (c 5) (c 6) (c 7) (c 8) (c 9) m) (W:Wr m):SecIn w0 p c 3 m.funcs.length 36 (ent m.funcs (fun x=>Leb.uB x.type)):=fun v bs qS qW w h hS hW n1 n2 n3 n4 hlen =>
 wSec3 w0 p c v bs m.funcs.length (ent m.funcs (fun x=>Leb.uB x.type)) qS qW w h (fun i v bs w hi h hl=>by
  obtain ⟨x,hx⟩:∃x,m.funcs[i]?=some x:=⟨_,List.getElem?_eq_getElem hi⟩
  have r:=W.funcs x (List.mem_of_getElem? hx)
  rw [ent_at hx]
  exact (eFun w0 p c v bs d m w h hM i x hx r.1 (by omega)).mono fun _ _ h=>DoesA.of h) hS hW n1 n2 n3 n4 (by have:=W.few;omega) hlen
theorem sec4 {I:World->Prop} (C:FormC I) (w0:World) (hI:I w0) (p:Nat) (c:Nat->Value) (d:Nat) (m:Mod d) (hM:ModAt w0 d (c 0) (c 1) (c 2) (c 3) (c 4) (c 5) (c 6) (c 7) (c 8) (c 9) m) (W:Wr m):SecIn w0 p c 4 m.tables.length 37 (ent m.tables (fun x=>[112]++limB x)):=fun v bs qS qW w h hS hW n1 n2 n3 n4 hlen =>
 wSec4 w0 p c v bs m.tables.length (ent m.tables (fun x=>[112]++limB x)) qS qW w h (fun i v bs w hi h hl=>by
  obtain ⟨x,hx⟩:∃x,m.tables[i]?=some x:=⟨_,List.getElem?_eq_getElem hi⟩
  have r:=W.tables x (List.mem_of_getElem? hx)
  rw [ent_at hx]
  exact (eTab w0 p c v bs d m w h hM i x hx r.1 r.2 (by omega)).mono fun _ _ h=>DoesA.of h) hS hW n1 n2 n3 n4 (by have:=W.few;omega) hlen
theorem sec5 {I:World->Prop} (C:FormC I) (w0:World) (hI:I w0) (p:Nat) (c:Nat->Value) (d:Nat) (m:Mod d) (hM:ModAt w0 d (c 0) (c 1) (c 2) (c 3) (c 4) (c 5) (c 6) (c 7) (c 8) (c 9) m) (W:Wr m):SecIn w0 p c 5 m.mems.length 38 (ent m.mems limB):=fun v bs qS qW w h hS hW n1 n2 n3 n4 hlen =>
 wSec5 w0 p c v bs m.mems.length (ent m.mems limB) qS qW w h (fun i v bs w hi h hl=>by
  obtain ⟨x,hx⟩:∃x,m.mems[i]?=some x:=⟨_,List.getElem?_eq_getElem hi⟩
  have r:=W.mems x (List.mem_of_getElem? hx)
  rw [ent_at hx]
  exact (eMem w0 p c v bs d m w h hM i x hx r.1 r.2 (by omega)).mono fun _ _ h=>DoesA.of h) hS hW n1 n2 n3 n4 (by have:=W.few;omega) hlen
theorem sec6 {I:World->Prop} (C:FormC I) (w0:World) (hI:I w0) (p:Nat) (c:Nat->Value) (d:Nat) (m:Mod d) (hM:ModAt w0 d (c 0) (c 1) (c 2) (c 3) (c 4) (c 5) (c 6) (c 7) (c 8) (c 9) m) (W:Wr m):SecIn w0 p c 6 m.globals.length 39 (ent m.globals gloB):=fun v bs qS qW w h hS hW n1 n2 n3 n4 hlen =>
 wSec6 w0 p c v bs m.globals.length (ent m.globals gloB) qS qW w h (fun i v bs w hi h hl=>by
  obtain ⟨x,hx⟩:∃x,m.globals[i]?=some x:=⟨_,List.getElem?_eq_getElem hi⟩
  have r:=W.globals x (List.mem_of_getElem? hx)
  rw [ent_at hx]
  exact eGlo C w0 hI p c v bs d m w h hM i x hx r (by rw [ent_at hx] at hl;unfold gloB at hl;omega)) hS hW n1 n2 n3 n4 (by have:=W.few;omega) hlen
theorem sec7 {I:World->Prop} (C:FormC I) (w0:World) (hI:I w0) (p:Nat) (c:Nat->Value) (d:Nat) (m:Mod d) (hM:ModAt w0 d (c 0) (c 1) (c 2) (c 3) (c 4) (c 5) (c 6) (c 7) (c 8) (c 9) m) (W:Wr m):SecIn w0 p c 7 m.exports.length 40 (ent m.exports expB):=fun v bs qS qW w h hS hW n1 n2 n3 n4 hlen =>
 wSec7 w0 p c v bs m.exports.length (ent m.exports expB) qS qW w h (fun i v bs w hi h hl=>by
  obtain ⟨x,hx⟩:∃x,m.exports[i]?=some x:=⟨_,List.getElem?_eq_getElem hi⟩
  have r:=W.exports x (List.mem_of_getElem? hx)
  rw [ent_at hx]
  exact (eExp w0 p c v bs d m w h hM i x hx r.1 r.2 (by omega)).mono fun _ _ h=>DoesA.of h) hS hW n1 n2 n3 n4 (by have:=W.few;omega) hlen
theorem sec8 {I:World->Prop} (C:FormC I) (w0:World) (hI:I w0) (p:Nat) (c:Nat->Value) (d:Nat) (m:Mod d) (hM:ModAt w0 d (c 0) (c 1) (c 2) (c 3) (c 4) (c 5) (c 6) (c 7) (c 8) (c 9) m) (W:Wr m):SecIn w0 p c 8 m.start.length 41 (ent m.start Leb.uB):=fun v bs qS qW w h hS hW n1 n2 n3 n4 hlen =>
 wSec8 w0 p c v bs m.start.length (ent m.start Leb.uB) qS qW w h (fun i v bs w hi h hl=>by
  obtain ⟨x,hx⟩:∃x,m.start[i]?=some x:=⟨_,List.getElem?_eq_getElem hi⟩
  have r:=W.start x (List.mem_of_getElem? hx)
  rw [ent_at hx]
  exact (eStart w0 p c v bs d m w h hM i x hx r (by omega)).mono fun _ _ h=>DoesA.of h) hS hW n1 n2 n3 n4 (by have:=W.few;omega) hlen
theorem sec9 {I:World->Prop} (C:FormC I) (w0:World) (hI:I w0) (p:Nat) (c:Nat->Value) (d:Nat) (m:Mod d) (hM:ModAt w0 d (c 0) (c 1) (c 2) (c 3) (c 4) (c 5) (c 6) (c 7) (c 8) (c 9) m) (W:Wr m):SecIn w0 p c 9 m.elems.length 42 (ent m.elems elmB):=fun v bs qS qW w h hS hW n1 n2 n3 n4 hlen =>
 wSec9 w0 p c v bs m.elems.length (ent m.elems elmB) qS qW w h (fun i v bs w hi h hl=>by
  obtain ⟨x,hx⟩:∃x,m.elems[i]?=some x:=⟨_,List.getElem?_eq_getElem hi⟩
  have r:=W.elems x (List.mem_of_getElem? hx)
  rw [ent_at hx]
  exact eElm C w0 hI p c v bs d m w h hM i x hx r.1 r.2.1 r.2.2 (by rw [ent_at hx] at hl;unfold elmB at hl;omega)) hS hW n1 n2 n3 n4 (by have:=W.few;omega) hlen
theorem sec10 {I:World->Prop} (C:FormC I) (w0:World) (hI:I w0) (p:Nat) (c:Nat->Value) (d:Nat) (m:Mod d) (hM:ModAt w0 d (c 0) (c 1) (c 2) (c 3) (c 4) (c 5) (c 6) (c 7) (c 8) (c 9) m) (W:Wr m):SecIn w0 p c 10 m.funcs.length 43 (ent m.funcs (fun x=>sizB (codB x))):=fun v bs qS qW w h hS hW n1 n2 n3 n4 hlen =>
 wSec10 w0 p c v bs m.funcs.length (ent m.funcs (fun x=>sizB (codB x))) qS qW w h (fun i v bs w hi h hl=>by
  obtain ⟨x,hx⟩:∃x,m.funcs[i]?=some x:=⟨_,List.getElem?_eq_getElem hi⟩
  have r:=W.funcs x (List.mem_of_getElem? hx)
  rw [ent_at hx]
  exact eCode C w0 hI p c v bs d m w h hM i x hx r.2.1 r.2.2 (by rw [ent_at hx] at hl;unfold sizB at hl;rw [List.length_append] at hl;omega)) hS hW n1 n2 n3 n4 (by have:=W.few;omega) hlen
theorem sec11 {I:World->Prop} (C:FormC I) (w0:World) (hI:I w0) (p:Nat) (c:Nat->Value) (d:Nat) (m:Mod d) (hM:ModAt w0 d (c 0) (c 1) (c 2) (c 3) (c 4) (c 5) (c 6) (c 7) (c 8) (c 9) m) (W:Wr m):SecIn w0 p c 11 m.datas.length 44 (ent m.datas datB):=fun v bs qS qW w h hS hW n1 n2 n3 n4 hlen =>
 wSec11 w0 p c v bs m.datas.length (ent m.datas datB) qS qW w h (fun i v bs w hi h hl=>by
  obtain ⟨x,hx⟩:∃x,m.datas[i]?=some x:=⟨_,List.getElem?_eq_getElem hi⟩
  have r:=W.datas x (List.mem_of_getElem? hx)
  rw [ent_at hx]
  exact eDat C w0 hI p c v bs d m w h hM i x hx r.1 r.2 (by rw [ent_at hx] at hl;unfold datB texB at hl;omega)) hS hW n1 n2 n3 n4 (by have:=W.few;omega) hlen
theorem secs_ok {I:World->Prop} (C:FormC I) (w0:World) (hI:I w0) (p:Nat) (c:Nat->Value) (d:Nat) (m:Mod d) (hM:ModAt w0 d (c 0) (c 1) (c 2) (c 3) (c 4) (c 5) (c 6) (c 7) (c 8) (c 9) m) (W:Wr m) (j:Nat) (hj:j<11):∃(id:Int) (n:Nat) (F:FuncId) (f:Nat->List Int),(secCells p (ln m))[j*3]?=some (.int .i64 id)/\(secCells p (ln m))[j*3+1]?=some (.int .i64 (n:Nat))/\(secCells p (ln m))[j*3+2]?=some (.func (.func F) #[.pointer (some ⟨p,0,none⟩)] #[])/\(0<=id/\id<=255)/\SecIn w0 p c id n F f/\sb m j=secB id n (insideB id n f) :=
 match j,hj with
 | 0,_=>⟨1,m.types.length,34,ent m.types ftB,rfl,rfl,rfl,by omega,sec1 C w0 hI p c d m hM W,by rw [inside_lis 1 (by decide) _ _];rfl⟩
 | 1,_=>⟨2,m.imports.length,35,ent m.imports impB,rfl,rfl,rfl,by omega,sec2 C w0 hI p c d m hM W,by rw [inside_lis 2 (by decide) _ _];rfl⟩
 | 2,_=>⟨3,m.funcs.length,36,ent m.funcs (fun x=>Leb.uB x.type),rfl,rfl,rfl,by omega,sec3 C w0 hI p c d m hM W,by rw [inside_lis 3 (by decide) _ _];rfl⟩
 | 3,_=>⟨4,m.tables.length,37,ent m.tables (fun x=>[112]++limB x),rfl,rfl,rfl,by omega,sec4 C w0 hI p c d m hM W,by rw [inside_lis 4 (by decide) _ _];rfl⟩
 | 4,_=>⟨5,m.mems.length,38,ent m.mems limB,rfl,rfl,rfl,by omega,sec5 C w0 hI p c d m hM W,by rw [inside_lis 5 (by decide) _ _];rfl⟩
 | 5,_=>⟨6,m.globals.length,39,ent m.globals gloB,rfl,rfl,rfl,by omega,sec6 C w0 hI p c d m hM W,by rw [inside_lis 6 (by decide) _ _];rfl⟩
 | 6,_=>⟨7,m.exports.length,40,ent m.exports expB,rfl,rfl,rfl,by omega,sec7 C w0 hI p c d m hM W,by rw [inside_lis 7 (by decide) _ _];rfl⟩
 | 7,_=>⟨8,m.start.length,41,ent m.start Leb.uB,rfl,rfl,rfl,by omega,sec8 C w0 hI p c d m hM W,by rw [inside_st _ _];rfl⟩
 | 8,_=>⟨9,m.elems.length,42,ent m.elems elmB,rfl,rfl,rfl,by omega,sec9 C w0 hI p c d m hM W,by rw [inside_lis 9 (by decide) _ _];rfl⟩
 | 9,_=>⟨10,m.funcs.length,43,ent m.funcs (fun x=>sizB (codB x)),rfl,rfl,rfl,by omega,sec10 C w0 hI p c d m hM W,by rw [inside_lis 10 (by decide) _ _];rfl⟩
 | 10,_=>⟨11,m.datas.length,44,ent m.datas datB,rfl,rfl,rfl,by omega,sec11 C w0 hI p c d m hM W,by rw [inside_lis 11 (by decide) _ _];rfl⟩
end Go.Proofs.YtlcpagiljfpbpaaDoor

