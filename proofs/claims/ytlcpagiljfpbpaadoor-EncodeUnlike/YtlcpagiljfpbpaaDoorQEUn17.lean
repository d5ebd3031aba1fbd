/- Texts that the claim needs. -/
import Derived.Test.YtlcpagiljfpbpaaDoorQEUn16
import Derived.Deep.CutRange
import Derived.Deep.RegionLaw
namespace Go.Proofs.YtlcpagiljfpbpaaDoor
open Go.RowKit Rep
set_option linter.unusedVariables false
namespace Rep
def S0 (j p1 p2 b1 b2 off1 off2 n ka kb y1 y2 z1 z2 s1 s2 t1 t2:Nat) (q1 q2 r1 r2:Option Addr) (C1 C2 e1 e2:Bool) (x y:FT):Nat->Stab
 | 0=>sEq (.pointer (some ⟨p1,0,none⟩))
 | 1=>sEq (.slice (some ⟨b1,off1,none⟩) n ka)
 | 2=>sEq (.int .i64 j)
 | 3=>sEq (.pointer (some ⟨b1,off1+j*2,none⟩))
 | 4=>sEq (.pointer (some ⟨b1,off1+j*2,none⟩))
 | 5=>sEq (.slice q1 y1 z1)
 | 6=>sEq (.pointer (some ⟨p2,0,none⟩))
 | 7=>sEq (.slice (some ⟨b2,off2,none⟩) n kb)
 | 8=>sEq (.int .i64 j)
 | 9=>sEq (.pointer (some ⟨b2,off2+j*2,none⟩))
 | 10=>sEq (.pointer (some ⟨b2,off2+j*2,none⟩))
 | 11=>sEq (.slice r1 s1 t1)
 | 12=>sEq (.bool e1)
 | 13=>sEq (.bool (!C1))
 | 14=>sEq (.bool (!C1))
 | 15=>sIf C1 (.pointer (some ⟨p1,0,none⟩))
 | 16=>sIf C1 (.slice (some ⟨b1,off1,none⟩) n ka)
 | 17=>sIf C1 (.int .i64 j)
 | 18=>sIf C1 (.pointer (some ⟨b1,off1+j*2,none⟩))
 | 19=>sIf C1 (.pointer (some ⟨b1,off1+j*2+1,none⟩))
 | 20=>sIf C1 (.slice q2 y2 z2)
 | 21=>sIf C1 (.pointer (some ⟨p2,0,none⟩))
 | 22=>sIf C1 (.slice (some ⟨b2,off2,none⟩) n kb)
 | 23=>sIf C1 (.int .i64 j)
 | 24=>sIf C1 (.pointer (some ⟨b2,off2+j*2,none⟩))
 | 25=>sIf C1 (.pointer (some ⟨b2,off2+j*2+1,none⟩))
 | 26=>sIf C1 (.slice r2 s2 t2)
 | 27=>sIf C1 (.bool e2)
 | 28=>sIf C1 (.bool (!e2))
 | 29=>sEq (.bool (!C2))
 | _=>sEq undef
def S1 (j p1 p2 b1 b2 off1 off2 n ka kb:Nat) (C1 e1:Bool) (x y:Imp):Nat->Stab
 | 0=>sEq (.pointer (some ⟨p1,1,none⟩))
 | 1=>sEq (.slice (some ⟨b1,off1,none⟩) n ka)
 | 2=>sEq (.int .i64 j)
 | 3=>sEq (.pointer (some ⟨b1,off1+j*3,none⟩))
 | 4=>sEq (.agg #[.string x.mod,.string x.name,.int .i64 x.type])
 | 5=>sEq (.pointer (some ⟨p2,1,none⟩))
 | 6=>sEq (.slice (some ⟨b2,off2,none⟩) n kb)
 | 7=>sEq (.int .i64 j)
 | 8=>sEq (.pointer (some ⟨b2,off2+j*3,none⟩))
 | 9=>sEq (.agg #[.string y.mod,.string y.name,.int .i64 y.type])
 | 10=>sEq (.bool (!C1))
 | _=>sEq undef
def S2 {d:Nat} (j p1 p2 b1 b2 off1 off2 n ka kb y1 y2 z1 z2 s1 s2 t1 t2:Nat) (q1 q2 r1 r2:Option Addr) (C1 C2 C3 e1 e2 e3:Bool) (x y:Fun d):Nat->Stab
 | 0=>sEq (.pointer (some ⟨p1,2,none⟩))
 | 1=>sEq (.slice (some ⟨b1,off1,none⟩) n ka)
 | 2=>sEq (.int .i64 j)
 | 3=>sEq (.pointer (some ⟨b1,off1+j*3,none⟩))
 | 4=>sEq (.pointer (some ⟨b1,off1+j*3,none⟩))
 | 5=>sEq (.int .i64 x.type)
 | 6=>sEq (.pointer (some ⟨p2,2,none⟩))
 | 7=>sEq (.slice (some ⟨b2,off2,none⟩) n kb)
 | 8=>sEq (.int .i64 j)
 | 9=>sEq (.pointer (some ⟨b2,off2+j*3,none⟩))
 | 10=>sEq (.pointer (some ⟨b2,off2+j*3,none⟩))
 | 11=>sEq (.int .i64 y.type)
 | 12=>sEq (.bool (!C1))
 | 13=>sEq (.bool (!C1))
 | 14=>sIf C1 (.pointer (some ⟨p1,2,none⟩))
 | 15=>sIf C1 (.slice (some ⟨b1,off1,none⟩) n ka)
 | 16=>sIf C1 (.int .i64 j)
 | 17=>sIf C1 (.pointer (some ⟨b1,off1+j*3,none⟩))
 | 18=>sIf C1 (.pointer (some ⟨b1,off1+j*3+1,none⟩))
 | 19=>sIf C1 (.slice q1 y1 z1)
 | 20=>sIf C1 (.pointer (some ⟨p2,2,none⟩))
 | 21=>sIf C1 (.slice (some ⟨b2,off2,none⟩) n kb)
 | 22=>sIf C1 (.int .i64 j)
 | 23=>sIf C1 (.pointer (some ⟨b2,off2+j*3,none⟩))
 | 24=>sIf C1 (.pointer (some ⟨b2,off2+j*3+1,none⟩))
 | 25=>sIf C1 (.slice r1 s1 t1)
 | 26=>sIf C1 (.bool e2)
 | 27=>sIf C1 (.bool (!e2))
 | 28=>sEq (.bool (!C2))
 | 29=>sEq (.bool (!C2))
 | 30=>sIf C2 (.pointer (some ⟨p1,2,none⟩))
 | 31=>sIf C2 (.slice (some ⟨b1,off1,none⟩) n ka)
 | 32=>sIf C2 (.int .i64 j)
 | 33=>sIf C2 (.pointer (some ⟨b1,off1+j*3,none⟩))
 | 34=>sIf C2 (.pointer (some ⟨b1,off1+j*3+2,none⟩))
 | 35=>sIf C2 (.slice q2 y2 z2)
 | 36=>sIf C2 (.pointer (some ⟨p2,2,none⟩))
 | 37=>sIf C2 (.slice (some ⟨b2,off2,none⟩) n kb)
 | 38=>sIf C2 (.int .i64 j)
 | 39=>sIf C2 (.pointer (some ⟨b2,off2+j*3,none⟩))
 | 40=>sIf C2 (.pointer (some ⟨b2,off2+j*3+2,none⟩))
 | 41=>sIf C2 (.slice r2 s2 t2)
 | 42=>sIf C2 (.bool e3)
 | 43=>sIf C2 (.bool (!e3))
 | 44=>sEq (.bool (!C3))
 | _=>sEq undef
def S3 (j p1 p2 b1 b2 off1 off2 n ka kb:Nat) (C1 e1:Bool) (x y:Lim):Nat->Stab
 | 0=>sEq (.pointer (some ⟨p1,3,none⟩))
 | 1=>sEq (.slice (some ⟨b1,off1,none⟩) n ka)
 | 2=>sEq (.int .i64 j)
 | 3=>sEq (.pointer (some ⟨b1,off1+j*3,none⟩))
 | 4=>sEq (.agg #[.int .i64 x.min,.int .i64 x.max,.bool x.has])
 | 5=>sEq (.pointer (some ⟨p2,3,none⟩))
 | 6=>sEq (.slice (some ⟨b2,off2,none⟩) n kb)
 | 7=>sEq (.int .i64 j)
 | 8=>sEq (.pointer (some ⟨b2,off2+j*3,none⟩))
 | 9=>sEq (.agg #[.int .i64 y.min,.int .i64 y.max,.bool y.has])
 | 10=>sEq (.bool (!C1))
 | _=>sEq undef
def S4 (j p1 p2 b1 b2 off1 off2 n ka kb:Nat) (C1 e1:Bool) (x y:Lim):Nat->Stab
 | 0=>sEq (.pointer (some ⟨p1,4,none⟩))
 | 1=>sEq (.slice (some ⟨b1,off1,none⟩) n ka)
 | 2=>sEq (.int .i64 j)
 | 3=>sEq (.pointer (some ⟨b1,off1+j*3,none⟩))
 | 4=>sEq (.agg #[.int .i64 x.min,.int .i64 x.max,.bool x.has])
 | 5=>sEq (.pointer (some ⟨p2,4,none⟩))
 | 6=>sEq (.slice (some ⟨b2,off2,none⟩) n kb)
 | 7=>sEq (.int .i64 j)
 | 8=>sEq (.pointer (some ⟨b2,off2+j*3,none⟩))
 | 9=>sEq (.agg #[.int .i64 y.min,.int .i64 y.max,.bool y.has])
 | 10=>sEq (.bool (!C1))
 | _=>sEq undef
def S5 {d:Nat} (j p1 p2 b1 b2 off1 off2 n ka kb y4 y5 y6 z4 z5 z6 s4 s5 s6 t4 t5 t6:Nat) (q4 q5 q6 r4 r5 r6:Option Addr) (C1 C2 C3 e1 e2 e3:Bool) (x y:Glo d):Nat->Stab
 | 0=>sEq (.pointer (some ⟨p1,5,none⟩))
 | 1=>sEq (.slice (some ⟨b1,off1,none⟩) n ka)
 | 2=>sEq (.int .i64 j)
 | 3=>sEq (.pointer (some ⟨b1,off1+j*9,none⟩))
 | 4=>sEq (.pointer (some ⟨b1,off1+j*9,none⟩))
 | 5=>sEq (.int .i64 x.type)
 | 6=>sEq (.pointer (some ⟨p2,5,none⟩))
 | 7=>sEq (.slice (some ⟨b2,off2,none⟩) n kb)
 | 8=>sEq (.int .i64 j)
 | 9=>sEq (.pointer (some ⟨b2,off2+j*9,none⟩))
 | 10=>sEq (.pointer (some ⟨b2,off2+j*9,none⟩))
 | 11=>sEq (.int .i64 y.type)
 | 12=>sEq (.bool (!C1))
 | 13=>sEq (.bool (!C1))
 | 14=>sIf C1 (.pointer (some ⟨p1,5,none⟩))
 | 15=>sIf C1 (.slice (some ⟨b1,off1,none⟩) n ka)
 | 16=>sIf C1 (.int .i64 j)
 | 17=>sIf C1 (.pointer (some ⟨b1,off1+j*9,none⟩))
 | 18=>sIf C1 (.pointer (some ⟨b1,off1+j*9+1,none⟩))
 | 19=>sIf C1 (.bool x.mtb)
 | 20=>sIf C1 (.pointer (some ⟨p2,5,none⟩))
 | 21=>sIf C1 (.slice (some ⟨b2,off2,none⟩) n kb)
 | 22=>sIf C1 (.int .i64 j)
 | 23=>sIf C1 (.pointer (some ⟨b2,off2+j*9,none⟩))
 | 24=>sIf C1 (.pointer (some ⟨b2,off2+j*9+1,none⟩))
 | 25=>sIf C1 (.bool y.mtb)
 | 26=>sIf C1 (.bool (!e2))
 | 27=>sEq (.bool (!C2))
 | 28=>sEq (.bool (!C2))
 | 29=>sIf C2 (.pointer (some ⟨p1,5,none⟩))
 | 30=>sIf C2 (.slice (some ⟨b1,off1,none⟩) n ka)
 | 31=>sIf C2 (.int .i64 j)
 | 32=>sIf C2 (.pointer (some ⟨b1,off1+j*9,none⟩))
 | 33=>sIf C2 (.pointer (some ⟨b1,off1+j*9+2,none⟩))
 | 34=>sIf C2 (.agg #[.int .i64 x.init.op,.int .i64 x.init.a,.int .i64 x.init.b,.int .i64 x.init.n,.slice q4 y4 z4,.slice q5 y5 z5,.slice q6 y6 z6])
 | 35=>sIf C2 (.pointer (some ⟨p2,5,none⟩))
 | 36=>sIf C2 (.slice (some ⟨b2,off2,none⟩) n kb)
 | 37=>sIf C2 (.int .i64 j)
 | 38=>sIf C2 (.pointer (some ⟨b2,off2+j*9,none⟩))
 | 39=>sIf C2 (.pointer (some ⟨b2,off2+j*9+2,none⟩))
 | 40=>sIf C2 (.agg #[.int .i64 y.init.op,.int .i64 y.init.a,.int .i64 y.init.b,.int .i64 y.init.n,.slice r4 s4 t4,.slice r5 s5 t5,.slice r6 s6 t6])
 | 41=>sIf C2 (.bool e3)
 | 42=>sIf C2 (.bool (!e3))
 | 43=>sEq (.bool (!C3))
 | _=>sEq undef
def S6 (j p1 p2 b1 b2 off1 off2 n ka kb:Nat) (C1 e1:Bool) (x y:Exp):Nat->Stab
 | 0=>sEq (.pointer (some ⟨p1,6,none⟩))
 | 1=>sEq (.slice (some ⟨b1,off1,none⟩) n ka)
 | 2=>sEq (.int .i64 j)
 | 3=>sEq (.pointer (some ⟨b1,off1+j*3,none⟩))
 | 4=>sEq (.agg #[.string x.name,.int .i64 x.kind,.int .i64 x.index])
 | 5=>sEq (.pointer (some ⟨p2,6,none⟩))
 | 6=>sEq (.slice (some ⟨b2,off2,none⟩) n kb)
 | 7=>sEq (.int .i64 j)
 | 8=>sEq (.pointer (some ⟨b2,off2+j*3,none⟩))
 | 9=>sEq (.agg #[.string y.name,.int .i64 y.kind,.int .i64 y.index])
 | 10=>sEq (.bool (!C1))
 | _=>sEq undef
def S8 {d:Nat} (j p1 p2 b1 b2 off1 off2 n ka kb y4 y5 y6 y7 z4 z5 z6 z7 s4 s5 s6 s7 t4 t5 t6 t7:Nat) (q4 q5 q6 q7 r4 r5 r6 r7:Option Addr) (C1 C2 e1 e2:Bool) (x y:Elm d):Nat->Stab
 | 0=>sEq (.pointer (some ⟨p1,8,none⟩))
 | 1=>sEq (.slice (some ⟨b1,off1,none⟩) n ka)
 | 2=>sEq (.int .i64 j)
 | 3=>sEq (.pointer (some ⟨b1,off1+j*8,none⟩))
 | 4=>sEq (.pointer (some ⟨b1,off1+j*8,none⟩))
 | 5=>sEq (.agg #[.int .i64 x.offset.op,.int .i64 x.offset.a,.int .i64 x.offset.b,.int .i64 x.offset.n,.slice q4 y4 z4,.slice q5 y5 z5,.slice q6 y6 z6])
 | 6=>sEq (.pointer (some ⟨p2,8,none⟩))
 | 7=>sEq (.slice (some ⟨b2,off2,none⟩) n kb)
 | 8=>sEq (.int .i64 j)
 | 9=>sEq (.pointer (some ⟨b2,off2+j*8,none⟩))
 | 10=>sEq (.pointer (some ⟨b2,off2+j*8,none⟩))
 | 11=>sEq (.agg #[.int .i64 y.offset.op,.int .i64 y.offset.a,.int .i64 y.offset.b,.int .i64 y.offset.n,.slice r4 s4 t4,.slice r5 s5 t5,.slice r6 s6 t6])
 | 12=>sEq (.bool e1)
 | 13=>sEq (.bool (!C1))
 | 14=>sEq (.bool (!C1))
 | 15=>sIf C1 (.pointer (some ⟨p1,8,none⟩))
 | 16=>sIf C1 (.slice (some ⟨b1,off1,none⟩) n ka)
 | 17=>sIf C1 (.int .i64 j)
 | 18=>sIf C1 (.pointer (some ⟨b1,off1+j*8,none⟩))
 | 19=>sIf C1 (.pointer (some ⟨b1,off1+j*8+7,none⟩))
 | 20=>sIf C1 (.slice q7 y7 z7)
 | 21=>sIf C1 (.pointer (some ⟨p2,8,none⟩))
 | 22=>sIf C1 (.slice (some ⟨b2,off2,none⟩) n kb)
 | 23=>sIf C1 (.int .i64 j)
 | 24=>sIf C1 (.pointer (some ⟨b2,off2+j*8,none⟩))
 | 25=>sIf C1 (.pointer (some ⟨b2,off2+j*8+7,none⟩))
 | 26=>sIf C1 (.slice r7 s7 t7)
 | 27=>sIf C1 (.bool e2)
 | 28=>sIf C1 (.bool (!e2))
 | 29=>sEq (.bool (!C2))
 | _=>sEq undef
def S9 {d:Nat} (j p1 p2 b1 b2 off1 off2 n ka kb y4 y5 y6 z4 z5 z6 s4 s5 s6 t4 t5 t6:Nat) (q4 q5 q6 r4 r5 r6:Option Addr) (C1 C2 e1 e2:Bool) (x y:Dat d):Nat->Stab
 | 0=>sEq (.pointer (some ⟨p1,9,none⟩))
 | 1=>sEq (.slice (some ⟨b1,off1,none⟩) n ka)
 | 2=>sEq (.int .i64 j)
 | 3=>sEq (.pointer (some ⟨b1,off1+j*8,none⟩))
 | 4=>sEq (.pointer (some ⟨b1,off1+j*8+7,none⟩))
 | 5=>sEq (.string x.bytes)
 | 6=>sEq (.pointer (some ⟨p2,9,none⟩))
 | 7=>sEq (.slice (some ⟨b2,off2,none⟩) n kb)
 | 8=>sEq (.int .i64 j)
 | 9=>sEq (.pointer (some ⟨b2,off2+j*8,none⟩))
 | 10=>sEq (.pointer (some ⟨b2,off2+j*8+7,none⟩))
 | 11=>sEq (.string y.bytes)
 | 12=>sEq (.bool (!C1))
 | 13=>sEq (.bool (!C1))
 | 14=>sIf C1 (.pointer (some ⟨p1,9,none⟩))
 | 15=>sIf C1 (.slice (some ⟨b1,off1,none⟩) n ka)
 | 16=>sIf C1 (.int .i64 j)
 | 17=>sIf C1 (.pointer (some ⟨b1,off1+j*8,none⟩))
 | 18=>sIf C1 (.pointer (some ⟨b1,off1+j*8,none⟩))
 | 19=>sIf C1 (.agg #[.int .i64 x.offset.op,.int .i64 x.offset.a,.int .i64 x.offset.b,.int .i64 x.offset.n,.slice q4 y4 z4,.slice q5 y5 z5,.slice q6 y6 z6])
 | 20=>sIf C1 (.pointer (some ⟨p2,9,none⟩))
 | 21=>sIf C1 (.slice (some ⟨b2,off2,none⟩) n kb)
 | 22=>sIf C1 (.int .i64 j)
 | 23=>sIf C1 (.pointer (some ⟨b2,off2+j*8,none⟩))
 | 24=>sIf C1 (.pointer (some ⟨b2,off2+j*8,none⟩))
 | 25=>sIf C1 (.agg #[.int .i64 y.offset.op,.int .i64 y.offset.a,.int .i64 y.offset.b,.int .i64 y.offset.n,.slice r4 s4 t4,.slice r5 s5 t5,.slice r6 s6 t6])
 | 26=>sIf C1 (.bool e2)
 | 27=>sIf C1 (.bool (!e2))
 | 28=>sEq (.bool (!C2))
 | _=>sEq undef
theorem slen30 {x:List Value} (h:x.length=30):∃x0 x1 x2 x3 x4 x5 x6 x7 x8 x9 x10 x11 x12 x13 x14 x15 x16 x17 x18 x19 x20 x21 x22 x23 x24 x25 x26 x27 x28 x29,x = [x0,x1,x2,x3,x4,x5,x6,x7,x8,x9,x10,x11,x12,x13,x14,x15,x16,x17,x18,x19,x20,x21,x22,x23,x24,x25,x26,x27,x28,x29]:=by
 match x,h with
 | [x0,x1,x2,x3,x4,x5,x6,x7,x8,x9,x10,x11,x12,x13,x14,x15,x16,x17,x18,x19,x20,x21,x22,x23,x24,x25,x26,x27,x28,x29],_=>exact ⟨x0,x1,x2,x3,x4,x5,x6,x7,x8,x9,x10,x11,x12,x13,x14,x15,x16,x17,x18,x19,x20,x21,x22,x23,x24,x25,x26,x27,x28,x29,rfl⟩
theorem slen11 {x:List Value} (h:x.length=11):∃x0 x1 x2 x3 x4 x5 x6 x7 x8 x9 x10,x = [x0,x1,x2,x3,x4,x5,x6,x7,x8,x9,x10]:=by
 match x,h with
 | [x0,x1,x2,x3,x4,x5,x6,x7,x8,x9,x10],_=>exact ⟨x0,x1,x2,x3,x4,x5,x6,x7,x8,x9,x10,rfl⟩
theorem slen25 {x:List Value} (h:x.length=25):∃x0 x1 x2 x3 x4 x5 x6 x7 x8 x9 x10 x11 x12 x13 x14 x15 x16 x17 x18 x19 x20 x21 x22 x23 x24,x = [x0,x1,x2,x3,x4,x5,x6,x7,x8,x9,x10,x11,x12,x13,x14,x15,x16,x17,x18,x19,x20,x21,x22,x23,x24]:=by
 match x,h with
 | [x0,x1,x2,x3,x4,x5,x6,x7,x8,x9,x10,x11,x12,x13,x14,x15,x16,x17,x18,x19,x20,x21,x22,x23,x24],_=>exact ⟨x0,x1,x2,x3,x4,x5,x6,x7,x8,x9,x10,x11,x12,x13,x14,x15,x16,x17,x18,x19,x20,x21,x22,x23,x24,rfl⟩
theorem slen20 {x:List Value} (h:x.length=20):∃x0 x1 x2 x3 x4 x5 x6 x7 x8 x9 x10 x11 x12 x13 x14 x15 x16 x17 x18 x19,x = [x0,x1,x2,x3,x4,x5,x6,x7,x8,x9,x10,x11,x12,x13,x14,x15,x16,x17,x18,x19]:=by
 match x,h with
 | [x0,x1,x2,x3,x4,x5,x6,x7,x8,x9,x10,x11,x12,x13,x14,x15,x16,x17,x18,x19],_=>exact ⟨x0,x1,x2,x3,x4,x5,x6,x7,x8,x9,x10,x11,x12,x13,x14,x15,x16,x17,x18,x19,rfl⟩
theorem slen45 {x:List Value} (h:x.length=45):∃x0 x1 x2 x3 x4 x5 x6 x7 x8 x9 x10 x11 x12 x13 x14 x15 x16 x17 x18 x19 x20 x21 x22 x23 x24 x25 x26 x27 x28 x29 x30 x31 x32 x33 x34 x35 x36 x37 x38 x39 x40 x41 x42 x43 x44,x = [x0,x1,x2,x3,x4,x5,x6,x7,x8,x9,x10,x11,x12,x13,x14,x15,x16,x17,x18,x19,x20,x21,x22,x23,x24,x25,x26,x27,x28,x29,x30,x31,x32,x33,x34,x35,x36,x37,x38,x39,x40,x41,x42,x43,x44]:=by
 obtain ⟨x0,x1,x2,x3,x4,x5,x6,x7,x8,x9,x10,x11,x12,x13,x14,x15,x16,x17,x18,x19,x20,x21,x22,x23,x24,h1⟩:=slen25 (x:=x.take 25) (by rw [List.length_take,h];rfl)
 obtain ⟨x25,x26,x27,x28,x29,x30,x31,x32,x33,x34,x35,x36,x37,x38,x39,x40,x41,x42,x43,x44,h2⟩:=slen20 (x:=x.drop 25) (by rw [List.length_drop,h])
 exact ⟨x0,x1,x2,x3,x4,x5,x6,x7,x8,x9,x10,x11,x12,x13,x14,x15,x16,x17,x18,x19,x20,x21,x22,x23,x24,x25,x26,x27,x28,x29,x30,x31,x32,x33,x34,x35,x36,x37,x38,x39,x40,x41,x42,x43,x44,by rw [<- List.take_append_drop 25 x,h1,h2];rfl⟩
theorem slen19 {x:List Value} (h:x.length=19):∃x0 x1 x2 x3 x4 x5 x6 x7 x8 x9 x10 x11 x12 x13 x14 x15 x16 x17 x18,x = [x0,x1,x2,x3,x4,x5,x6,x7,x8,x9,x10,x11,x12,x13,x14,x15,x16,x17,x18]:=by
 match x,h with
 | [x0,x1,x2,x3,x4,x5,x6,x7,x8,x9,x10,x11,x12,x13,x14,x15,x16,x17,x18],_=>exact ⟨x0,x1,x2,x3,x4,x5,x6,x7,x8,x9,x10,x11,x12,x13,x14,x15,x16,x17,x18,rfl⟩
theorem slen44 {x:List Value} (h:x.length=44):∃x0 x1 x2 x3 x4 x5 x6 x7 x8 x9 x10 x11 x12 x13 x14 x15 x16 x17 x18 x19 x20 x21 x22 x23 x24 x25 x26 x27 x28 x29 x30 x31 x32 x33 x34 x35 x36 x37 x38 x39 x40 x41 x42 x43,x = [x0,x1,x2,x3,x4,x5,x6,x7,x8,x9,x10,x11,x12,x13,x14,x15,x16,x17,x18,x19,x20,x21,x22,x23,x24,x25,x26,x27,x28,x29,x30,x31,x32,x33,x34,x35,x36,x37,x38,x39,x40,x41,x42,x43]:=by
 obtain ⟨x0,x1,x2,x3,x4,x5,x6,x7,x8,x9,x10,x11,x12,x13,x14,x15,x16,x17,x18,x19,x20,x21,x22,x23,x24,h1⟩:=slen25 (x:=x.take 25) (by rw [List.length_take,h];rfl)
 obtain ⟨x25,x26,x27,x28,x29,x30,x31,x32,x33,x34,x35,x36,x37,x38,x39,x40,x41,x42,x43,h2⟩:=slen19 (x:=x.drop 25) (by rw [List.length_drop,h])
 exact ⟨x0,x1,x2,x3,x4,x5,x6,x7,x8,x9,x10,x11,x12,x13,x14,x15,x16,x17,x18,x19,x20,x21,x22,x23,x24,x25,x26,x27,x28,x29,x30,x31,x32,x33,x34,x35,x36,x37,x38,x39,x40,x41,x42,x43,by rw [<- List.take_append_drop 25 x,h1,h2];rfl⟩
theorem slen29 {x:List Value} (h:x.length=29):∃x0 x1 x2 x3 x4 x5 x6 x7 x8 x9 x10 x11 x12 x13 x14 x15 x16 x17 x18 x19 x20 x21 x22 x23 x24 x25 x26 x27 x28,x = [x0,x1,x2,x3,x4,x5,x6,x7,x8,x9,x10,x11,x12,x13,x14,x15,x16,x17,x18,x19,x20,x21,x22,x23,x24,x25,x26,x27,x28]:=by
 match x,h with
 | [x0,x1,x2,x3,x4,x5,x6,x7,x8,x9,x10,x11,x12,x13,x14,x15,x16,x17,x18,x19,x20,x21,x22,x23,x24,x25,x26,x27,x28],_=>exact ⟨x0,x1,x2,x3,x4,x5,x6,x7,x8,x9,x10,x11,x12,x13,x14,x15,x16,x17,x18,x19,x20,x21,x22,x23,x24,x25,x26,x27,x28,rfl⟩
theorem slen4 {x:List Value} (h:x.length=4):∃x0 x1 x2 x3,x = [x0,x1,x2,x3]:=by
 match x,h with
 | [x0,x1,x2,x3],_=>exact ⟨x0,x1,x2,x3,rfl⟩
def Y1 (z:Bool) (n0 k0 h0 n1 k1 h1 n2 k2 h2 n3 k3 h3 n4 k4 h4 n5 k5 h5 n6 k6 h6 n7 k7 h7 n8 k8 h8 n9 k9 h9 m0 m1 m2 m3 m4 m5 m6 m7 m8 m9:Nat) (o0 g0 o1 g1 o2 g2 o3 g3 o4 g4 o5 g5 o6 g6 o7 g7 o8 g8 o9 g9:Option Addr):Nat->Stab
 | 0=>sEq (.agg #[.slice o0 n0 k0,.slice o1 n1 k1,.slice o2 n2 k2,.slice o3 n3 k3,.slice o4 n4 k4,.slice o5 n5 k5,.slice o6 n6 k6,.slice o7 n7 k7,.slice o8 n8 k8,.slice o9 n9 k9])
 | 1=>sEq (.agg #[.slice g0 m0 h0,.slice g1 m1 h1,.slice g2 m2 h2,.slice g3 m3 h3,.slice g4 m4 h4,.slice g5 m5 h5,.slice g6 m6 h6,.slice g7 m7 h7,.slice g8 m8 h8,.slice g9 m9 h9])
 | 2=>sEq (.bool z)
 | 3=>sEq (.bool (!z))
 | _=>sEq undef
theorem szs_len {d:Nat} {m k:Mod d} (h:szs m k=true):k.types.length=m.types.length/\k.imports.length=m.imports.length/\k.funcs.length=m.funcs.length/\k.tables.length=m.tables.length/\k.mems.length=m.mems.length/\k.globals.length=m.globals.length/\k.exports.length=m.exports.length/\k.start.length=m.start.length/\k.elems.length=m.elems.length/\k.datas.length=m.datas.length:=by
 unfold szs at h
 simp only [Bool.and_eq_true,lq_iff,decide_eq_true_eq] at h
 obtain ⟨⟨⟨⟨⟨⟨⟨⟨⟨h0,h1⟩,h2⟩,h3⟩,h4⟩,h5⟩,h6⟩,h7⟩,h8⟩,h9⟩:=h
 exact ⟨h0.symm,h1.symm,h2.symm,h3.symm,h4.symm,h5.symm,h6.symm,by rw [h7],h8.symm,h9.symm⟩
end Rep
set_option maxRecDepth 100000 in
set_option maxHeartbeats 32000000 in
theorem refSameF (d:Nat) (v0 v1 v2 v3 v4 v5 v6 v7 v8 v9 u0 u1 u2 u3 u4 u5 u6 u7 u8 u9:Value) (m k:Mod d) (w:World) (hM:ModAt w d v0 v1 v2 v3 v4 v5 v6 v7 v8 v9 m) (hK:ModAt w d u0 u1 u2 u3 u4 u5 u6 u7 u8 u9 k) (hz:szs m k=false):Calls Tryd.prog 9 #[.agg #[v0,v1,v2,v3,v4,v5,v6,v7,v8,v9],.agg #[u0,u1,u2,u3,u4,u5,u6,u7,u8,u9]] w (fun e w'=>e=.returned (.bool (samM m k))/\Below w.heap.size w w'):=by
 obtain ⟨o0,k0,rfl⟩:=Row.len hM.types
 obtain ⟨o1,k1,rfl⟩:=Row.len hM.imports
 obtain ⟨o2,k2,rfl⟩:=Row.len hM.funcs
 obtain ⟨o3,k3,rfl⟩:=Row.len hM.tables
 obtain ⟨o4,k4,rfl⟩:=Row.len hM.mems
 obtain ⟨o5,k5,rfl⟩:=Row.len hM.globals
 obtain ⟨o6,k6,rfl⟩:=Row.len hM.exports
 obtain ⟨o7,k7,rfl⟩:=Row.len hM.start
 obtain ⟨o8,k8,rfl⟩:=Row.len hM.elems
 obtain ⟨o9,k9,rfl⟩:=Row.len hM.datas
 obtain ⟨g0,h0,rfl⟩:=Row.len hK.types
 obtain ⟨g1,h1,rfl⟩:=Row.len hK.imports
 obtain ⟨g2,h2,rfl⟩:=Row.len hK.funcs
 obtain ⟨g3,h3,rfl⟩:=Row.len hK.tables
 obtain ⟨g4,h4,rfl⟩:=Row.len hK.mems
 obtain ⟨g5,h5,rfl⟩:=Row.len hK.globals
 obtain ⟨g6,h6,rfl⟩:=Row.len hK.exports
 obtain ⟨g7,h7,rfl⟩:=Row.len hK.start
 obtain ⟨g8,h8,rfl⟩:=Row.len hK.elems
 obtain ⟨g9,h9,rfl⟩:=Row.len hK.datas
 have HSZ0:=fun (w2:World) (hq2:ModAt w2 d (.slice o0 m.types.length k0) (.slice o1 m.imports.length k1) (.slice o2 m.funcs.length k2) (.slice o3 m.tables.length k3) (.slice o4 m.mems.length k4) (.slice o5 m.globals.length k5) (.slice o6 m.exports.length k6) (.slice o7 m.start.length k7) (.slice o8 m.elems.length k8) (.slice o9 m.datas.length k9) m) (hq3:ModAt w2 d (.slice g0 k.types.length h0) (.slice g1 k.imports.length h1) (.slice g2 k.funcs.length h2) (.slice g3 k.tables.length h3) (.slice g4 k.mems.length h4) (.slice g5 k.globals.length h5) (.slice g6 k.exports.length h6) (.slice g7 k.start.length h7) (.slice g8 k.elems.length h8) (.slice g9 k.datas.length h9) k)=>refSizes d _ _ _ _ _ _ _ _ _ _ _ _ _ _ _ _ _ _ _ _ m k w2 hq2 hq3
 rw [hz] at HSZ0
 have hR:samM m k=false:=by unfold samM;rw [hz];rfl
 rw [hR]
 clear hR
 have HM:=hideR hM
 have HK:=hideR hK
 have HS0:=hideR HSZ0
 clear hM hK HSZ0 hz
 generalize m.types.length=n0 at *
 generalize m.imports.length=n1 at *
 generalize m.funcs.length=n2 at *
 generalize m.tables.length=n3 at *
 generalize m.mems.length=n4 at *
 generalize m.globals.length=n5 at *
 generalize m.exports.length=n6 at *
 generalize m.start.length=n7 at *
 generalize m.elems.length=n8 at *
 generalize m.datas.length=n9 at *
 generalize k.types.length=m0 at *
 generalize k.imports.length=m1 at *
 generalize k.funcs.length=m2 at *
 generalize k.tables.length=m3 at *
 generalize k.mems.length=m4 at *
 generalize k.globals.length=m5 at *
 generalize k.exports.length=m6 at *
 generalize k.start.length=m7 at *
 generalize k.elems.length=m8 at *
 generalize k.datas.length=m9 at *
 go_enter Tryd.func9,Tryd.ntmps9
 go_upto_region 1 with fail
 obtain ⟨u1,hu1⟩:∃u1,u1=(w.alloc (.cells #[.slice o0 n0 k0,.slice o1 n1 k1,.slice o2 n2 k2,.slice o3 n3 k3,.slice o4 n4 k4,.slice o5 n5 k5,.slice o6 n6 k6,.slice o7 n7 k7,.slice o8 n8 k8,.slice o9 n9 k9] 32)).alloc (.cells #[.slice g0 m0 h0,.slice g1 m1 h1,.slice g2 m2 h2,.slice g3 m3 h3,.slice g4 m4 h4,.slice g5 m5 h5,.slice g6 m6 h6,.slice g7 m7 h7,.slice g8 m8 h8,.slice g9 m9 h9] 32):=⟨_,rfl⟩
 have HB1:Hid (BlkM u1 w.heap.size (.slice o0 n0 k0) (.slice o1 n1 k1) (.slice o2 n2 k2) (.slice o3 n3 k3) (.slice o4 n4 k4) (.slice o5 n5 k5) (.slice o6 n6 k6) (.slice o7 n7 k7) (.slice o8 n8 k8) (.slice o9 n9 k9)):=hideR (by rw [hu1];exact (BlkM.new rfl).on (new_on' _ _))
 have HB2:Hid (BlkM u1 (w.heap.size+1) (.slice g0 m0 h0) (.slice g1 m1 h1) (.slice g2 m2 h2) (.slice g3 m3 h3) (.slice g4 m4 h4) (.slice g5 m5 h5) (.slice g6 m6 h6) (.slice g7 m7 h7) (.slice g8 m8 h8) (.slice g9 m9 h9)):=hideR (by rw [hu1];exact BlkM.new (by simp))
 have HU:Hid (Below w.heap.size w u1):=hideR (by rw [hu1];exact below_go' (new_on' _ _) (new_on' _ _))
 have HMU:=hideR (HM.out.on HU.out)
 have HKU:=hideR (HK.out.on HU.out)
 rw [<- hu1]
 clear hu1
 have HP:∀w2,Below u1.heap.size u1 w2->Hid (BlkM w2 w.heap.size (.slice o0 n0 k0) (.slice o1 n1 k1) (.slice o2 n2 k2) (.slice o3 n3 k3) (.slice o4 n4 k4) (.slice o5 n5 k5) (.slice o6 n6 k6) (.slice o7 n7 k7) (.slice o8 n8 k8) (.slice o9 n9 k9)):=fun w2 hb=>hideR (HB1.out.on hb)
 have HQ:∀w2,Below u1.heap.size u1 w2->Hid (BlkM w2 (w.heap.size+1) (.slice g0 m0 h0) (.slice g1 m1 h1) (.slice g2 m2 h2) (.slice g3 m3 h3) (.slice g4 m4 h4) (.slice g5 m5 h5) (.slice g6 m6 h6) (.slice g7 m7 h7) (.slice g8 m8 h8) (.slice g9 m9 h9)):=fun w2 hb=>hideR (HB2.out.on hb)
 clear HB1 HB2
 obtain ⟨p2,hp2⟩:∃p2,p2=w.heap.size+1:=⟨_,rfl⟩
 rw [<- hp2] at HQ ⊢
 clear hp2
 generalize hp1:w.heap.size=p1 at HP ⊢
 have HSZ:=hideR (fun w2 (hb:Below u1.heap.size u1 w2)=>HS0.out w2 (HMU.out.on hb) (HKU.out.on hb))
 clear HS0 HMU HKU HM HK
 refine Reg.wp_region_allq 4 (fun i=>14+i) (fun i=>(Y1 false n0 k0 h0 n1 k1 h1 n2 k2 h2 n3 k3 h3 n4 k4 h4 n5 k5 h5 n6 k6 h6 n7 k7 h7 n8 k8 h8 n9 k9 h9 m0 m1 m2 m3 m4 m5 m6 m7 m8 m9 o0 g0 o1 g1 o2 g2 o3 g3 o4 g4 o5 g5 o6 g6 o7 g7 o8 g8 o9 g9 i).1) ?hn (fun i j h1 h2 h=>by have h':14+i=14+j:=h;omega) (Reg.dst_okG (size:=303) (by kernel_rfl)) (fun i v w w' _ h hb=>(Y1 false n0 k0 h0 n1 k1 h1 n2 k2 h2 n3 k3 h3 n4 k4 h4 n5 k5 h5 n6 k6 h6 n7 k7 h7 n8 k8 h8 n9 k9 h9 m0 m1 m2 m3 m4 m5 m6 m7 m8 m9 o0 g0 o1 g1 o2 g2 o3 g3 o4 g4 o5 g5 o6 g6 o7 g7 o8 g8 o9 g9 i).2 v w w' h hb) ?hstep ?htail
 case hn=>simp
 case hstep =>
  intro i o a w hi ho hF hB hd
  have f2:a.tmps[2]?.getD undef=.pointer (some ⟨p1,0,none⟩):=Reg.ev_get (hF.eval 2 (fun i hi=>by show 14+i≠2;omega))
  have f3:a.tmps[3]?.getD undef=.pointer (some ⟨p2,0,none⟩):=Reg.ev_get (hF.eval 3 (fun i hi=>by show 14+i≠3;omega))
  have c0:=(HP w hB).out.cell 0 _ rfl
  have c1:=(HP w hB).out.cell 1 _ rfl
  have c2:=(HP w hB).out.cell 2 _ rfl
  have c3:=(HP w hB).out.cell 3 _ rfl
  have c4:=(HP w hB).out.cell 4 _ rfl
  have c5:=(HP w hB).out.cell 5 _ rfl
  have c6:=(HP w hB).out.cell 6 _ rfl
  have c7:=(HP w hB).out.cell 7 _ rfl
  have c8:=(HP w hB).out.cell 8 _ rfl
  have c9:=(HP w hB).out.cell 9 _ rfl
  have d0:=(HQ w hB).out.cell 0 _ rfl
  have d1:=(HQ w hB).out.cell 1 _ rfl
  have d2:=(HQ w hB).out.cell 2 _ rfl
  have d3:=(HQ w hB).out.cell 3 _ rfl
  have d4:=(HQ w hB).out.cell 4 _ rfl
  have d5:=(HQ w hB).out.cell 5 _ rfl
  have d6:=(HQ w hB).out.cell 6 _ rfl
  have d7:=(HQ w hB).out.cell 7 _ rfl
  have d8:=(HQ w hB).out.cell 8 _ rfl
  have d9:=(HQ w hB).out.cell 9 _ rfl
  have hcase:i=0\/i=1\/i=2\/i=3:=by omega
  clear hi
  rcases hcase with rfl|rfl|rfl|rfl
  all_goals (simp only [List.getElem?_toArray,List.getElem?_cons_succ,List.getElem?_cons_zero,Option.some.injEq] at ho;subst ho)
  ·refine Reg.Does.go rfl (Reg.step_k fun K hK=>?_)
   go_simp
   exact hK _ _ ⟨_,rfl,Below.refl _ _,rfl⟩
  ·refine Reg.Does.go rfl (Reg.step_k fun K hK=>?_)
   go_simp
   exact hK _ _ ⟨_,rfl,Below.refl _ _,rfl⟩
  ·have q0:a.tmps[14]?.getD undef=.agg #[.slice o0 n0 k0,.slice o1 n1 k1,.slice o2 n2 k2,.slice o3 n3 k3,.slice o4 n4 k4,.slice o5 n5 k5,.slice o6 n6 k6,.slice o7 n7 k7,.slice o8 n8 k8,.slice o9 n9 k9]:=Reg.ev_get (hd 0 (by decide))
   have q1:a.tmps[15]?.getD undef=.agg #[.slice g0 m0 h0,.slice g1 m1 h1,.slice g2 m2 h2,.slice g3 m3 h3,.slice g4 m4 h4,.slice g5 m5 h5,.slice g6 m6 h6,.slice g7 m7 h7,.slice g8 m8 h8,.slice g9 m9 h9]:=Reg.ev_get (hd 1 (by decide))
   refine Reg.Does.go rfl (Reg.step_k fun K hK=>?_)
   have HKK:=hideR hK
   clear hK
   go_simp
   refine (HSZ.out w hB).mono ?_
   rintro e w' ⟨rfl,hw⟩
   exact HKK.out _ _ ⟨_,rfl,hw,rfl⟩
  ·have q0:a.tmps[16]?.getD undef=.bool false:=Reg.ev_get (hd 2 (by decide))
   refine Reg.Does.go rfl (Reg.step_k fun K hK=>?_)
   go_simp
   exact hK _ _ ⟨_,rfl,Below.refl _ _,rfl⟩
 case htail =>
  intro a w2 hF hB hG
  have gl:a.eval (.tmp 17)=.bool (!false):=hG 3 (by omega)
  have HWR:=hideR hB
  rw [List.drop_eq_nil_of_le (by simp)]
  refine wpList_nil ?_
  obtain ⟨xl,hxl,rfl,hev⟩:=hF.lit (by simp)
  rw [hev 3 (by omega)] at gl
  obtain ⟨x0,x1,x2,x3,rfl⟩:=slen4 hxl
  obtain rfl:x3=.bool (!false):=gl
  clear hev hxl hF hG hB HSZ
  simp only [List.take_succ_cons,List.take_zero,List.drop_succ_cons,List.drop_zero,List.cons_append,List.nil_append]
  go_wp2
  go_ret
  exact ⟨rfl,hp1 ▸ below_go' HU.out HWR.out⟩
set_option maxRecDepth 100000 in
set_option maxHeartbeats 32000000 in
theorem refSameT (d:Nat) (v0 v1 v2 v3 v4 v5 v6 v7 v8 v9 u0 u1 u2 u3 u4 u5 u6 u7 u8 u9:Value) (m k:Mod d) (w:World) (hM:ModAt w d v0 v1 v2 v3 v4 v5 v6 v7 v8 v9 m) (hK:ModAt w d u0 u1 u2 u3 u4 u5 u6 u7 u8 u9 k) (hz:szs m k=true):Calls Tryd.prog 9 #[.agg #[v0,v1,v2,v3,v4,v5,v6,v7,v8,v9],.agg #[u0,u1,u2,u3,u4,u5,u6,u7,u8,u9]] w (fun e w'=>e=.returned (.bool (samM m k))/\Below w.heap.size w w'):=by
 obtain ⟨q0,q1,q2,q3,q4,q5,q6,q7,q8,q9⟩:=szs_len hz
 obtain ⟨o0,k0,rfl⟩:=Row.len hM.types
 obtain ⟨o1,k1,rfl⟩:=Row.len hM.imports
 obtain ⟨o2,k2,rfl⟩:=Row.len hM.funcs
 obtain ⟨o3,k3,rfl⟩:=Row.len hM.tables
 obtain ⟨o4,k4,rfl⟩:=Row.len hM.mems
 obtain ⟨o5,k5,rfl⟩:=Row.len hM.globals
 obtain ⟨o6,k6,rfl⟩:=Row.len hM.exports
 obtain ⟨o7,k7,rfl⟩:=Row.len hM.start
 obtain ⟨o8,k8,rfl⟩:=Row.len hM.elems
 obtain ⟨o9,k9,rfl⟩:=Row.len hM.datas
 obtain ⟨g0,h0,rfl⟩:=Row.len hK.types
 obtain ⟨g1,h1,rfl⟩:=Row.len hK.imports
 obtain ⟨g2,h2,rfl⟩:=Row.len hK.funcs
 obtain ⟨g3,h3,rfl⟩:=Row.len hK.tables
 obtain ⟨g4,h4,rfl⟩:=Row.len hK.mems
 obtain ⟨g5,h5,rfl⟩:=Row.len hK.globals
 obtain ⟨g6,h6,rfl⟩:=Row.len hK.exports
 obtain ⟨g7,h7,rfl⟩:=Row.len hK.start
 obtain ⟨g8,h8,rfl⟩:=Row.len hK.elems
 obtain ⟨g9,h9,rfl⟩:=Row.len hK.datas
 have HSZ0:=fun (w2:World) (hq2:ModAt w2 d (.slice o0 m.types.length k0) (.slice o1 m.imports.length k1) (.slice o2 m.funcs.length k2) (.slice o3 m.tables.length k3) (.slice o4 m.mems.length k4) (.slice o5 m.globals.length k5) (.slice o6 m.exports.length k6) (.slice o7 m.start.length k7) (.slice o8 m.elems.length k8) (.slice o9 m.datas.length k9) m) (hq3:ModAt w2 d (.slice g0 k.types.length h0) (.slice g1 k.imports.length h1) (.slice g2 k.funcs.length h2) (.slice g3 k.tables.length h3) (.slice g4 k.mems.length h4) (.slice g5 k.globals.length h5) (.slice g6 k.exports.length h6) (.slice g7 k.start.length h7) (.slice g8 k.elems.length h8) (.slice g9 k.datas.length h9) k)=>refSizes d _ _ _ _ _ _ _ _ _ _ _ _ _ _ _ _ _ _ _ _ m k w2 hq2 hq3
 rw [hz] at HSZ0
 rw [q0,q1,q2,q3,q4,q5,q6,q7,q8,q9] at hK HSZ0 ⊢
 obtain ⟨R,hR⟩:∃R,R=samM m k:=⟨_,rfl⟩
 rw [<- hR]
 unfold samM at hR
 rw [hz,Bool.true_and] at hR
 have HR:Hid (R=(samB fT (m.types.drop 0) (k.types.drop 0) && (samB fI m.imports k.imports && (samB fF m.funcs k.funcs && (samB fL m.tables k.tables && (samB fL m.mems k.mems && (samB fG m.globals k.globals && (samB fX m.exports k.exports && (samB fE m.elems k.elems && (samB fD m.datas k.datas && true)))))))))):=hideR hR
 have HM:=hideR hM
 have HK:=hideR hK
 have HS0:=hideR HSZ0
 clear hM hK hR hz HSZ0
 generalize hn0:m.types.length=n0 at *
 generalize hn1:m.imports.length=n1 at *
 generalize hn2:m.funcs.length=n2 at *
 generalize hn3:m.tables.length=n3 at *
 generalize hn4:m.mems.length=n4 at *
 generalize hn5:m.globals.length=n5 at *
 generalize hn6:m.exports.length=n6 at *
 generalize hn7:m.start.length=n7 at *
 generalize hn8:m.elems.length=n8 at *
 generalize hn9:m.datas.length=n9 at *
 go_enter Tryd.func9,Tryd.ntmps9
 go_upto_region 1 with fail
 obtain ⟨u1,hu1⟩:∃u1,u1=(w.alloc (.cells #[.slice o0 n0 k0,.slice o1 n1 k1,.slice o2 n2 k2,.slice o3 n3 k3,.slice o4 n4 k4,.slice o5 n5 k5,.slice o6 n6 k6,.slice o7 n7 k7,.slice o8 n8 k8,.slice o9 n9 k9] 32)).alloc (.cells #[.slice g0 n0 h0,.slice g1 n1 h1,.slice g2 n2 h2,.slice g3 n3 h3,.slice g4 n4 h4,.slice g5 n5 h5,.slice g6 n6 h6,.slice g7 n7 h7,.slice g8 n8 h8,.slice g9 n9 h9] 32):=⟨_,rfl⟩
 have HB1:Hid (BlkM u1 w.heap.size (.slice o0 n0 k0) (.slice o1 n1 k1) (.slice o2 n2 k2) (.slice o3 n3 k3) (.slice o4 n4 k4) (.slice o5 n5 k5) (.slice o6 n6 k6) (.slice o7 n7 k7) (.slice o8 n8 k8) (.slice o9 n9 k9)):=hideR (by rw [hu1];exact (BlkM.new rfl).on (new_on' _ _))
 have HB2:Hid (BlkM u1 (w.heap.size+1) (.slice g0 n0 h0) (.slice g1 n1 h1) (.slice g2 n2 h2) (.slice g3 n3 h3) (.slice g4 n4 h4) (.slice g5 n5 h5) (.slice g6 n6 h6) (.slice g7 n7 h7) (.slice g8 n8 h8) (.slice g9 n9 h9)):=hideR (by rw [hu1];exact BlkM.new (by simp))
 have HU:Hid (Below w.heap.size w u1):=hideR (by rw [hu1];exact below_go' (new_on' _ _) (new_on' _ _))
 have HMU:=hideR (HM.out.on HU.out)
 have HKU:=hideR (HK.out.on HU.out)
 rw [<- hu1]
 clear hu1
 have HP:∀w2,Below u1.heap.size u1 w2->Hid (BlkM w2 w.heap.size (.slice o0 n0 k0) (.slice o1 n1 k1) (.slice o2 n2 k2) (.slice o3 n3 k3) (.slice o4 n4 k4) (.slice o5 n5 k5) (.slice o6 n6 k6) (.slice o7 n7 k7) (.slice o8 n8 k8) (.slice o9 n9 k9)):=fun w2 hb=>hideR (HB1.out.on hb)
 have HQ:∀w2,Below u1.heap.size u1 w2->Hid (BlkM w2 (w.heap.size+1) (.slice g0 n0 h0) (.slice g1 n1 h1) (.slice g2 n2 h2) (.slice g3 n3 h3) (.slice g4 n4 h4) (.slice g5 n5 h5) (.slice g6 n6 h6) (.slice g7 n7 h7) (.slice g8 n8 h8) (.slice g9 n9 h9)):=fun w2 hb=>hideR (HB2.out.on hb)
 clear HB1 HB2
 obtain ⟨p2,hp2⟩:∃p2,p2=w.heap.size+1:=⟨_,rfl⟩
 rw [<- hp2] at HQ ⊢
 clear hp2
 generalize hp1:w.heap.size=p1 at HP ⊢
 have HSZ:=hideR (fun w2 (hb:Below u1.heap.size u1 w2)=>HS0.out w2 (HMU.out.on hb) (HKU.out.on hb))
 clear HS0
 have l0:=HM.out.types.1
 have l1:=HM.out.imports.1
 have l2:=HM.out.funcs.1
 have l3:=HM.out.tables.1
 have l4:=HM.out.mems.1
 have l5:=HM.out.globals.1
 have l6:=HM.out.exports.1
 have l7:=HM.out.start.1
 have l8:=HM.out.elems.1
 have l9:=HM.out.datas.1
 refine Reg.wp_region_allq 4 (fun i=>14+i) (fun i=>(Y1 true n0 k0 h0 n1 k1 h1 n2 k2 h2 n3 k3 h3 n4 k4 h4 n5 k5 h5 n6 k6 h6 n7 k7 h7 n8 k8 h8 n9 k9 h9 n0 n1 n2 n3 n4 n5 n6 n7 n8 n9 o0 g0 o1 g1 o2 g2 o3 g3 o4 g4 o5 g5 o6 g6 o7 g7 o8 g8 o9 g9 i).1) ?hn (fun i j h1 h2 h=>by have h':14+i=14+j:=h;omega) (Reg.dst_okG (size:=303) (by kernel_rfl)) (fun i v w w' _ h hb=>(Y1 true n0 k0 h0 n1 k1 h1 n2 k2 h2 n3 k3 h3 n4 k4 h4 n5 k5 h5 n6 k6 h6 n7 k7 h7 n8 k8 h8 n9 k9 h9 n0 n1 n2 n3 n4 n5 n6 n7 n8 n9 o0 g0 o1 g1 o2 g2 o3 g3 o4 g4 o5 g5 o6 g6 o7 g7 o8 g8 o9 g9 i).2 v w w' h hb) ?hstep ?htail
 case hn=>simp
 case hstep =>
  intro i o a w hi ho hF hB hd
  have f2:a.tmps[2]?.getD undef=.pointer (some ⟨p1,0,none⟩):=Reg.ev_get (hF.eval 2 (fun i hi=>by show 14+i≠2;omega))
  have f3:a.tmps[3]?.getD undef=.pointer (some ⟨p2,0,none⟩):=Reg.ev_get (hF.eval 3 (fun i hi=>by show 14+i≠3;omega))
  have c0:=(HP w hB).out.cell 0 _ rfl
  have c1:=(HP w hB).out.cell 1 _ rfl
  have c2:=(HP w hB).out.cell 2 _ rfl
  have c3:=(HP w hB).out.cell 3 _ rfl
  have c4:=(HP w hB).out.cell 4 _ rfl
  have c5:=(HP w hB).out.cell 5 _ rfl
  have c6:=(HP w hB).out.cell 6 _ rfl
  have c7:=(HP w hB).out.cell 7 _ rfl
  have c8:=(HP w hB).out.cell 8 _ rfl
  have c9:=(HP w hB).out.cell 9 _ rfl
  have d0:=(HQ w hB).out.cell 0 _ rfl
  have d1:=(HQ w hB).out.cell 1 _ rfl
  have d2:=(HQ w hB).out.cell 2 _ rfl
  have d3:=(HQ w hB).out.cell 3 _ rfl
  have d4:=(HQ w hB).out.cell 4 _ rfl
  have d5:=(HQ w hB).out.cell 5 _ rfl
  have d6:=(HQ w hB).out.cell 6 _ rfl
  have d7:=(HQ w hB).out.cell 7 _ rfl
  have d8:=(HQ w hB).out.cell 8 _ rfl
  have d9:=(HQ w hB).out.cell 9 _ rfl
  have hcase:i=0\/i=1\/i=2\/i=3:=by omega
  clear hi
  rcases hcase with rfl|rfl|rfl|rfl
  all_goals (simp only [List.getElem?_toArray,List.getElem?_cons_succ,List.getElem?_cons_zero,Option.some.injEq] at ho;subst ho)
  ·refine Reg.Does.go rfl (Reg.step_k fun K hK=>?_)
   go_simp
   exact hK _ _ ⟨_,rfl,Below.refl _ _,rfl⟩
  ·refine Reg.Does.go rfl (Reg.step_k fun K hK=>?_)
   go_simp
   exact hK _ _ ⟨_,rfl,Below.refl _ _,rfl⟩
  ·have q0:a.tmps[14]?.getD undef=.agg #[.slice o0 n0 k0,.slice o1 n1 k1,.slice o2 n2 k2,.slice o3 n3 k3,.slice o4 n4 k4,.slice o5 n5 k5,.slice o6 n6 k6,.slice o7 n7 k7,.slice o8 n8 k8,.slice o9 n9 k9]:=Reg.ev_get (hd 0 (by decide))
   have q1:a.tmps[15]?.getD undef=.agg #[.slice g0 n0 h0,.slice g1 n1 h1,.slice g2 n2 h2,.slice g3 n3 h3,.slice g4 n4 h4,.slice g5 n5 h5,.slice g6 n6 h6,.slice g7 n7 h7,.slice g8 n8 h8,.slice g9 n9 h9]:=Reg.ev_get (hd 1 (by decide))
   refine Reg.Does.go rfl (Reg.step_k fun K hK=>?_)
   have HKK:=hideR hK
   clear hK
   go_simp
   refine (HSZ.out w hB).mono ?_
   rintro e w' ⟨rfl,hw⟩
   exact HKK.out _ _ ⟨_,rfl,hw,rfl⟩
  ·have q0:a.tmps[16]?.getD undef=.bool true:=Reg.ev_get (hd 2 (by decide))
   refine Reg.Does.go rfl (Reg.step_k fun K hK=>?_)
   go_simp
   exact hK _ _ ⟨_,rfl,Below.refl _ _,rfl⟩
 case htail =>
  intro a w2 hF hB hG
  have gl:a.eval (.tmp 17)=.bool (!true):=hG 3 (by omega)
  have HWR:=hideR hB
  rw [List.drop_eq_nil_of_le (by simp)]
  refine wpList_nil ?_
  obtain ⟨xl,hxl,rfl,hev⟩:=hF.lit (by simp)
  rw [hev 3 (by omega)] at gl
  obtain ⟨x0,x1,x2,x3,rfl⟩:=slen4 hxl
  obtain rfl:x3=.bool (!true):=gl
  clear hev hxl hF hG hB HSZ
  simp only [List.take_succ_cons,List.take_zero,List.drop_succ_cons,List.drop_zero,List.cons_append,List.nil_append]
  go_wp2_with fail
  go_loopw [5] (fun i wr=>∃j:Nat,j<=n0/\i=.int .i64 j/\Hid (R=(samB fT (m.types.drop j) (k.types.drop j) && (samB fI m.imports k.imports && (samB fF m.funcs k.funcs && (samB fL m.tables k.tables && (samB fL m.mems k.mems && (samB fG m.globals k.globals && (samB fX m.exports k.exports && (samB fE m.elems k.elems && (samB fD m.datas k.datas && true))))))))))/\Hid (Below u1.heap.size u1 wr)) (fun i _=>n0-(intOf i).toNat)
  case atStart=>exact ⟨0,by omega,rfl,HR,HWR⟩
  case round =>
   clear HR HWR
   obtain ⟨j,hj,rfl,HRJ,HWR⟩:=hrel
   have kp:=(HP _ HWR.out).out.cell 0 _ rfl
   by_cases hgo:j<n0
   ·obtain ⟨b1,off1,cap1,hv1,hx1⟩:=Row.some HMU.out.types (by omega)
    injection hv1 with ho1 e11 e12
    subst ho1
    clear e11 e12
    obtain ⟨b2,off2,cap2,hv2,hx2⟩:=Row.some HKU.out.types (by omega)
    injection hv2 with ho2 e21 e22
    subst ho2
    clear e21 e22
    obtain ⟨x,hxk⟩:∃x,m.types[j]?=some x:=⟨_,List.getElem?_eq_getElem (by omega)⟩
    obtain ⟨y,hyk⟩:∃y,k.types[j]?=some y:=⟨_,List.getElem?_eq_getElem (by omega)⟩
    have HX:=hideR ((hx1 j x hxk).on HWR.out)
    have HY:=hideR ((hx2 j y hyk).on HWR.out)
    have HRN:=hideR (samB_on hxk hyk HRJ.out)
    clear hx1 hx2 hxk hyk HRJ HMU HKU HM HK
    obtain ⟨⟨v1,cx0,a1⟩,⟨v2,cx1,a2⟩⟩:=HX.out
    obtain ⟨q1,z1,rfl⟩:=Row.len a1
    have AX1:=hideR a1
    clear a1
    obtain ⟨q2,z2,rfl⟩:=Row.len a2
    have AX2:=hideR a2
    clear a2
    generalize hy1:x.params.length=y1 at *
    generalize hy2:x.results.length=y2 at *
    obtain ⟨⟨v1,cy0,a1⟩,⟨v2,cy1,a2⟩⟩:=HY.out
    obtain ⟨r1,t1,rfl⟩:=Row.len a1
    have AY1:=hideR a1
    clear a1
    obtain ⟨r2,t2,rfl⟩:=Row.len a2
    have AY2:=hideR a2
    clear a2
    generalize hs1:y.params.length=s1 at *
    generalize hs2:y.results.length=s2 at *
    obtain ⟨e1,HE10⟩:∃e,e=decide (x.params=y.params):=⟨_,rfl⟩
    have HE1:=hideR HE10
    clear HE10
    obtain ⟨e2,HE20⟩:∃e,e=decide (x.results=y.results):=⟨_,rfl⟩
    have HE2:=hideR HE20
    clear HE20
    obtain ⟨C1,HC10⟩:∃c,c=e1:=⟨_,rfl⟩
    have HC1:=hideR HC10
    clear HC10
    obtain ⟨C2,HC20⟩:∃c,c=(C1 && e2):=⟨_,rfl⟩
    have HC2:=hideR HC20
    clear HC20
    have HFX:Hid (fT x y=C2):=hideR (by rw [HC2.out,HC1.out,HE1.out,HE2.out]<;>rfl)
    rw [HFX.out] at HRN
    clear HFX
    go_upto_region 6 with fail
    refine Reg.wp_region_all 30 (fun i=>25+i) (fun i=>(S0 j p1 p2 b1 b2 off1 off2 n0 k0 h0 y1 y2 z1 z2 s1 s2 t1 t2 q1 q2 r1 r2 C1 C2 e1 e2 x y i).1) (by kernel_rfl) (by kernel_rfl) (fun i j h1 h2 h=>by have h':25+i=25+j:=h;omega) (Reg.dst_okG (size:=303) (by kernel_rfl)) (fun i v w w' _ h hb=>(S0 j p1 p2 b1 b2 off1 off2 n0 k0 h0 y1 y2 z1 z2 s1 s2 t1 t2 q1 q2 r1 r2 C1 C2 e1 e2 x y i).2 v w w' h hb) ?hstep ?hend
    case hstep =>
     intro i o a w hi ho hF hB hd
     have kq1:=(HP w (HWR.out.trans (hB.mono HWR.out.size))).out.cell 0 _ rfl
     have kq2:=(HQ w (HWR.out.trans (hB.mono HWR.out.size))).out.cell 0 _ rfl
     have kx0:=cell_on hB cx0
     have kx1:=cell_on hB cx1
     have ky0:=cell_on hB cy0
     have ky1:=cell_on hB cy1
     have f2:a.tmps[2]?.getD undef=.pointer (some ⟨p1,0,none⟩):=Reg.ev_get (hF.eval 2 (fun i hi=>by show 25+i≠2;omega))
     have f3:a.tmps[3]?.getD undef=.pointer (some ⟨p2,0,none⟩):=Reg.ev_get (hF.eval 3 (fun i hi=>by show 25+i≠3;omega))
     have f5:a.tmps[5]?.getD undef=.int .i64 j:=Reg.ev_get (hF.eval 5 (fun i hi=>by show 25+i≠5;omega))
     have hcase:i=0\/i=1\/i=2\/i=3\/i=4\/i=5\/i=6\/i=7\/i=8\/i=9\/i=10\/i=11\/i=12\/i=13\/i=14\/i=15\/i=16\/i=17\/i=18\/i=19\/i=20\/i=21\/i=22\/i=23\/i=24\/i=25\/i=26\/i=27\/i=28\/i=29:=by omega
     clear hi
     rcases hcase with rfl|rfl|rfl|rfl|rfl|rfl|rfl|rfl|rfl|rfl|rfl|rfl|rfl|rfl|rfl|rfl|rfl|rfl|rfl|rfl|rfl|rfl|rfl|rfl|rfl|rfl|rfl|rfl|rfl|rfl
     all_goals (simp only [List.getElem?_toArray,List.getElem?_cons_succ,List.getElem?_cons_zero,Option.some.injEq] at ho;subst ho)
     ·refine Reg.Does.go rfl (Reg.step_k fun K hK=>?_)
      go_simp
      exact hK _ _ ⟨_,rfl,Below.refl _ _,rfl⟩
     ·have q0:a.tmps[25]?.getD undef=.pointer (some ⟨p1,0,none⟩):=Reg.ev_get (hd 0 (by decide))
      refine Reg.Does.go rfl (Reg.step_k fun K hK=>?_)
      go_simp
      exact hK _ _ ⟨_,rfl,Below.refl _ _,rfl⟩
     ·refine Reg.Does.go rfl (Reg.step_k fun K hK=>?_)
      go_simp
      exact hK _ _ ⟨_,rfl,Below.refl _ _,rfl⟩
     ·have q0:a.tmps[26]?.getD undef=.slice (some ⟨b1,off1,none⟩) n0 k0:=Reg.ev_get (hd 1 (by decide))
      have q1:a.tmps[27]?.getD undef=.int .i64 j:=Reg.ev_get (hd 2 (by decide))
      refine Reg.Does.go rfl (Reg.step_k fun K hK=>?_)
      go_simp
      exact hK _ _ ⟨_,rfl,Below.refl _ _,rfl⟩
     ·have q0:a.tmps[28]?.getD undef=.pointer (some ⟨b1,off1+j*2,none⟩):=Reg.ev_get (hd 3 (by decide))
      refine Reg.Does.go rfl (Reg.step_k fun K hK=>?_)
      go_simp
      exact hK _ _ ⟨_,rfl,Below.refl _ _,rfl⟩
     ·have q0:a.tmps[29]?.getD undef=.pointer (some ⟨b1,off1+j*2,none⟩):=Reg.ev_get (hd 4 (by decide))
      refine Reg.Does.go rfl (Reg.step_k fun K hK=>?_)
      go_simp
      exact hK _ _ ⟨_,rfl,Below.refl _ _,rfl⟩
     ·refine Reg.Does.go rfl (Reg.step_k fun K hK=>?_)
      go_simp
      exact hK _ _ ⟨_,rfl,Below.refl _ _,rfl⟩
     ·have q0:a.tmps[31]?.getD undef=.pointer (some ⟨p2,0,none⟩):=Reg.ev_get (hd 6 (by decide))
      refine Reg.Does.go rfl (Reg.step_k fun K hK=>?_)
      go_simp
      exact hK _ _ ⟨_,rfl,Below.refl _ _,rfl⟩
     ·refine Reg.Does.go rfl (Reg.step_k fun K hK=>?_)
      go_simp
      exact hK _ _ ⟨_,rfl,Below.refl _ _,rfl⟩
     ·have q0:a.tmps[32]?.getD undef=.slice (some ⟨b2,off2,none⟩) n0 h0:=Reg.ev_get (hd 7 (by decide))
      have q1:a.tmps[33]?.getD undef=.int .i64 j:=Reg.ev_get (hd 8 (by decide))
      refine Reg.Does.go rfl (Reg.step_k fun K hK=>?_)
      go_simp
      exact hK _ _ ⟨_,rfl,Below.refl _ _,rfl⟩
     ·have q0:a.tmps[34]?.getD undef=.pointer (some ⟨b2,off2+j*2,none⟩):=Reg.ev_get (hd 9 (by decide))
      refine Reg.Does.go rfl (Reg.step_k fun K hK=>?_)
      go_simp
      exact hK _ _ ⟨_,rfl,Below.refl _ _,rfl⟩
     ·have q0:a.tmps[35]?.getD undef=.pointer (some ⟨b2,off2+j*2,none⟩):=Reg.ev_get (hd 10 (by decide))
      refine Reg.Does.go rfl (Reg.step_k fun K hK=>?_)
      go_simp
      exact hK _ _ ⟨_,rfl,Below.refl _ _,rfl⟩
     ·have q0:a.tmps[30]?.getD undef=.slice q1 y1 z1:=Reg.ev_get (hd 5 (by decide))
      have q1:a.tmps[36]?.getD undef=.slice r1 s1 t1:=Reg.ev_get (hd 11 (by decide))
      refine Reg.Does.go rfl (Reg.step_k fun K hK=>?_)
      have HKK:=hideR hK
      clear hK
      go_simp
      refine (refKeep _ _ _ _ w (AX1.out.on hB) (AY1.out.on hB)).mono ?_
      rintro e w' ⟨rfl,hw⟩
      exact HKK.out _ _ ⟨_,rfl,by obtain ⟨n,rfl⟩:=hw;exact below_drewN' w n,by rw [HE1.out];rfl⟩
     ·have q0:a.tmps[37]?.getD undef=.bool e1:=Reg.ev_get (hd 12 (by decide))
      refine Reg.Does.go rfl (Reg.step_k fun K hK=>?_)
      go_simp
      exact hK _ _ ⟨_,rfl,Below.refl _ _,congrArg (fun c=>Value.bool (!c)) HC1.out.symm⟩
     ·have q0:a.tmps[38]?.getD undef=.bool (!C1):=Reg.ev_get (hd 13 (by decide))
      refine Reg.Does.go rfl (Reg.step_k fun K hK=>?_)
      go_simp
      exact hK _ _ ⟨_,rfl,Below.refl _ _,rfl⟩
     ·have qg:a.eval (.tmp 39)=.bool (!C1):=hd 14 (by decide)
      cases C1
      ·exact Reg.Does.skip rfl rfl rfl qg rfl
      ·refine Reg.Does.wanted rfl rfl rfl qg (Reg.step_k fun K hK=>?_)
       clear qg
       go_simp
       exact hK _ _ ⟨_,rfl,Below.refl _ _,rfl⟩
     ·have qg:a.eval (.tmp 39)=.bool (!C1):=hd 14 (by decide)
      cases C1
      ·exact Reg.Does.skip rfl rfl rfl qg rfl
      ·refine Reg.Does.wanted rfl rfl rfl qg (Reg.step_k fun K hK=>?_)
       clear qg
       have q0:a.tmps[40]?.getD undef=.pointer (some ⟨p1,0,none⟩):=Reg.ev_get (hd 15 (by decide))
       go_simp
       exact hK _ _ ⟨_,rfl,Below.refl _ _,rfl⟩
     ·have qg:a.eval (.tmp 39)=.bool (!C1):=hd 14 (by decide)
      cases C1
      ·exact Reg.Does.skip rfl rfl rfl qg rfl
      ·refine Reg.Does.wanted rfl rfl rfl qg (Reg.step_k fun K hK=>?_)
       clear qg
       go_simp
       exact hK _ _ ⟨_,rfl,Below.refl _ _,rfl⟩
     ·have qg:a.eval (.tmp 39)=.bool (!C1):=hd 14 (by decide)
      cases C1
      ·exact Reg.Does.skip rfl rfl rfl qg rfl
      ·refine Reg.Does.wanted rfl rfl rfl qg (Reg.step_k fun K hK=>?_)
       clear qg
       have q0:a.tmps[41]?.getD undef=.slice (some ⟨b1,off1,none⟩) n0 k0:=Reg.ev_get (hd 16 (by decide))
       have q1:a.tmps[42]?.getD undef=.int .i64 j:=Reg.ev_get (hd 17 (by decide))
       go_simp
       exact hK _ _ ⟨_,rfl,Below.refl _ _,rfl⟩
     ·have qg:a.eval (.tmp 39)=.bool (!C1):=hd 14 (by decide)
      cases C1
      ·exact Reg.Does.skip rfl rfl rfl qg rfl
      ·refine Reg.Does.wanted rfl rfl rfl qg (Reg.step_k fun K hK=>?_)
       clear qg
       have q0:a.tmps[43]?.getD undef=.pointer (some ⟨b1,off1+j*2,none⟩):=Reg.ev_get (hd 18 (by decide))
       go_simp
       exact hK _ _ ⟨_,rfl,Below.refl _ _,rfl⟩
     ·have qg:a.eval (.tmp 39)=.bool (!C1):=hd 14 (by decide)
      cases C1
      ·exact Reg.Does.skip rfl rfl rfl qg rfl
      ·refine Reg.Does.wanted rfl rfl rfl qg (Reg.step_k fun K hK=>?_)
       clear qg
       have q0:a.tmps[44]?.getD undef=.pointer (some ⟨b1,off1+j*2+1,none⟩):=Reg.ev_get (hd 19 (by decide))
       go_simp
       exact hK _ _ ⟨_,rfl,Below.refl _ _,rfl⟩
     ·have qg:a.eval (.tmp 39)=.bool (!C1):=hd 14 (by decide)
      cases C1
      ·exact Reg.Does.skip rfl rfl rfl qg rfl
      ·refine Reg.Does.wanted rfl rfl rfl qg (Reg.step_k fun K hK=>?_)
       clear qg
       go_simp
       exact hK _ _ ⟨_,rfl,Below.refl _ _,rfl⟩
     ·have qg:a.eval (.tmp 39)=.bool (!C1):=hd 14 (by decide)
      cases C1
      ·exact Reg.Does.skip rfl rfl rfl qg rfl
      ·refine Reg.Does.wanted rfl rfl rfl qg (Reg.step_k fun K hK=>?_)
       clear qg
       have q0:a.tmps[46]?.getD undef=.pointer (some ⟨p2,0,none⟩):=Reg.ev_get (hd 21 (by decide))
       go_simp
       exact hK _ _ ⟨_,rfl,Below.refl _ _,rfl⟩
     ·have qg:a.eval (.tmp 39)=.bool (!C1):=hd 14 (by decide)
      cases C1
      ·exact Reg.Does.skip rfl rfl rfl qg rfl
      ·refine Reg.Does.wanted rfl rfl rfl qg (Reg.step_k fun K hK=>?_)
       clear qg
       go_simp
       exact hK _ _ ⟨_,rfl,Below.refl _ _,rfl⟩
     ·have qg:a.eval (.tmp 39)=.bool (!C1):=hd 14 (by decide)
      cases C1
      ·exact Reg.Does.skip rfl rfl rfl qg rfl
      ·refine Reg.Does.wanted rfl rfl rfl qg (Reg.step_k fun K hK=>?_)
       clear qg
       have q0:a.tmps[47]?.getD undef=.slice (some ⟨b2,off2,none⟩) n0 h0:=Reg.ev_get (hd 22 (by decide))
       have q1:a.tmps[48]?.getD undef=.int .i64 j:=Reg.ev_get (hd 23 (by decide))
       go_simp
       exact hK _ _ ⟨_,rfl,Below.refl _ _,rfl⟩
     ·have qg:a.eval (.tmp 39)=.bool (!C1):=hd 14 (by decide)
      cases C1
      ·exact Reg.Does.skip rfl rfl rfl qg rfl
      ·refine Reg.Does.wanted rfl rfl rfl qg (Reg.step_k fun K hK=>?_)
       clear qg
       have q0:a.tmps[49]?.getD undef=.pointer (some ⟨b2,off2+j*2,none⟩):=Reg.ev_get (hd 24 (by decide))
       go_simp
       exact hK _ _ ⟨_,rfl,Below.refl _ _,rfl⟩
     ·have qg:a.eval (.tmp 39)=.bool (!C1):=hd 14 (by decide)
      cases C1
      ·exact Reg.Does.skip rfl rfl rfl qg rfl
      ·refine Reg.Does.wanted rfl rfl rfl qg (Reg.step_k fun K hK=>?_)
       clear qg
       have q0:a.tmps[50]?.getD undef=.pointer (some ⟨b2,off2+j*2+1,none⟩):=Reg.ev_get (hd 25 (by decide))
       go_simp
       exact hK _ _ ⟨_,rfl,Below.refl _ _,rfl⟩
     ·have qg:a.eval (.tmp 39)=.bool (!C1):=hd 14 (by decide)
      cases C1
      ·exact Reg.Does.skip rfl rfl rfl qg rfl
      ·refine Reg.Does.wanted rfl rfl rfl qg (Reg.step_k fun K hK=>?_)
       clear qg
       have q0:a.tmps[45]?.getD undef=.slice q2 y2 z2:=Reg.ev_get (hd 20 (by decide))
       have q1:a.tmps[51]?.getD undef=.slice r2 s2 t2:=Reg.ev_get (hd 26 (by decide))
       have HKK:=hideR hK
       clear hK
       go_simp
       refine (refKeep _ _ _ _ w (AX2.out.on hB) (AY2.out.on hB)).mono ?_
       rintro e w' ⟨rfl,hw⟩
       exact HKK.out _ _ ⟨_,rfl,by obtain ⟨n,rfl⟩:=hw;exact below_drewN' w n,by rw [HE2.out];rfl⟩
     ·have qg:a.eval (.tmp 39)=.bool (!C1):=hd 14 (by decide)
      cases C1
      ·exact Reg.Does.skip rfl rfl rfl qg rfl
      ·refine Reg.Does.wanted rfl rfl rfl qg (Reg.step_k fun K hK=>?_)
       clear qg
       have q0:a.tmps[52]?.getD undef=.bool e2:=Reg.ev_get (hd 27 (by decide))
       go_simp
       exact hK _ _ ⟨_,rfl,Below.refl _ _,rfl⟩
     ·have qc:a.tmps[39]?.getD undef=.bool (!C1):=Reg.ev_get (hd 14 (by decide))
      have qe:a.tmps[53]?.getD undef=if C1 then .bool (!e2) else undef:=Reg.ev_get (hd 28 (by decide))
      refine Reg.Does.go rfl (Reg.step_k fun K hK=>?_)
      have HCN:=HC2
      cases C1
      ·simp only [Bool.not_false,Bool.false_eq_true,if_false] at qc qe
       go_simp
       exact hK _ _ ⟨_,rfl,Below.refl _ _,by rw [HCN.out];rfl⟩
      ·simp only [Bool.not_true,if_true] at qc qe
       go_simp
       exact hK _ _ ⟨_,rfl,Below.refl _ _,by rw [HCN.out];rfl⟩
    case hend =>
     intro a w2 hF hB hG
     have gl:a.eval (.tmp 54)=.bool (!C2):=hG 29 (by omega)
     have HW2:=hideR (HWR.out.trans (hB.mono HWR.out.size))
     obtain ⟨xl,hxl,rfl,hev⟩:=hF.lit (by simp)
     rw [hev 29 (by omega)] at gl
     obtain ⟨x0,x1,x2,x3,x4,x5,x6,x7,x8,x9,x10,x11,x12,x13,x14,x15,x16,x17,x18,x19,x20,x21,x22,x23,x24,x25,x26,x27,x28,x29,rfl⟩:=slen30 hxl
     obtain rfl:x29=.bool (!C2):=gl
     clear hev hxl hF hG hB HE1 HC1 HE2 HC2
     simp only [List.take_succ_cons,List.take_zero,List.drop_succ_cons,List.drop_zero,List.cons_append,List.nil_append]
     cases C2
     ·have HRF:Hid (R=false):=hideR HRN.out
      clear HRN
      go_wp2
      go_ret
      exact ⟨by rw [HRF.out];rfl,below_go' HU.out HW2.out⟩
     ·have HRT:Hid (R=(samB fT (m.types.drop (j+1)) (k.types.drop (j+1)) && (samB fI m.imports k.imports && (samB fF m.funcs k.funcs && (samB fL m.tables k.tables && (samB fL m.mems k.mems && (samB fG m.globals k.globals && (samB fX m.exports k.exports && (samB fE m.elems k.elems && (samB fD m.datas k.datas && true)))))))))):=hideR HRN.out
      clear HRN
      go_wp2
      go_roundw
      case rel=>exact ⟨j+1,by omega,by go_num,HRT,HW2⟩
      case measure=>simp [intOf];omega
   ·obtain rfl:n0=j:=by omega
    have HR:=hideR (samB_end (by omega) (by omega) HRJ.out)
    clear HRJ
    go_wp2_with fail
    go_loopw [6] (fun i wr=>∃j:Nat,j<=n1/\i=.int .i64 j/\Hid (R=(samB fI (m.imports.drop j) (k.imports.drop j) && (samB fF m.funcs k.funcs && (samB fL m.tables k.tables && (samB fL m.mems k.mems && (samB fG m.globals k.globals && (samB fX m.exports k.exports && (samB fE m.elems k.elems && (samB fD m.datas k.datas && true)))))))))/\Hid (Below u1.heap.size u1 wr)) (fun i _=>n1-(intOf i).toNat)
    case atStart=>exact ⟨0,by omega,rfl,HR,HWR⟩
    case round =>
     clear HR HWR
     obtain ⟨j,hj,rfl,HRJ,HWR⟩:=hrel
     have kp:=(HP _ HWR.out).out.cell 1 _ rfl
     by_cases hgo:j<n1
     ·obtain ⟨b1,off1,cap1,hv1,hx1⟩:=Row.some HMU.out.imports (by omega)
      injection hv1 with ho1 e11 e12
      subst ho1
      clear e11 e12
      obtain ⟨b2,off2,cap2,hv2,hx2⟩:=Row.some HKU.out.imports (by omega)
      injection hv2 with ho2 e21 e22
      subst ho2
      clear e21 e22
      obtain ⟨x,hxk⟩:∃x,m.imports[j]?=some x:=⟨_,List.getElem?_eq_getElem (by omega)⟩
      obtain ⟨y,hyk⟩:∃y,k.imports[j]?=some y:=⟨_,List.getElem?_eq_getElem (by omega)⟩
      have HX:=hideR ((hx1 j x hxk).on HWR.out)
      have HY:=hideR ((hx2 j y hyk).on HWR.out)
      have HRN:=hideR (samB_on hxk hyk HRJ.out)
      clear hx1 hx2 hxk hyk HRJ HMU HKU HM HK
      obtain ⟨cx0,cx1,cx2⟩:=HX.out
      obtain ⟨cy0,cy1,cy2⟩:=HY.out
      obtain ⟨e1,HE10⟩:∃e,e=fI x y:=⟨_,rfl⟩
      have HE1:=hideR HE10
      clear HE10
      obtain ⟨C1,HC10⟩:∃c,c=e1:=⟨_,rfl⟩
      have HC1:=hideR HC10
      clear HC10
      have HFX:Hid (fI x y=C1):=hideR (by rw [HC1.out,HE1.out]<;>rfl)
      rw [HFX.out] at HRN
      clear HFX
      go_upto_region 11 with fail
      refine Reg.wp_region_all 11 (fun i=>62+i) (fun i=>(S1 j p1 p2 b1 b2 off1 off2 n1 k1 h1 C1 e1 x y i).1) (by kernel_rfl) (by kernel_rfl) (fun i j h1 h2 h=>by have h':62+i=62+j:=h;omega) (Reg.dst_okG (size:=303) (by kernel_rfl)) (fun i v w w' _ h hb=>(S1 j p1 p2 b1 b2 off1 off2 n1 k1 h1 C1 e1 x y i).2 v w w' h hb) ?hstep ?hend
      case hstep =>
       intro i o a w hi ho hF hB hd
       have kq1:=(HP w (HWR.out.trans (hB.mono HWR.out.size))).out.cell 1 _ rfl
       have kq2:=(HQ w (HWR.out.trans (hB.mono HWR.out.size))).out.cell 1 _ rfl
       have kx0:=cell_on hB cx0
       have kx1:=cell_on hB cx1
       have kx2:=cell_on hB cx2
       have ky0:=cell_on hB cy0
       have ky1:=cell_on hB cy1
       have ky2:=cell_on hB cy2
       have f2:a.tmps[2]?.getD undef=.pointer (some ⟨p1,0,none⟩):=Reg.ev_get (hF.eval 2 (fun i hi=>by show 62+i≠2;omega))
       have f3:a.tmps[3]?.getD undef=.pointer (some ⟨p2,0,none⟩):=Reg.ev_get (hF.eval 3 (fun i hi=>by show 62+i≠3;omega))
       have f6:a.tmps[6]?.getD undef=.int .i64 j:=Reg.ev_get (hF.eval 6 (fun i hi=>by show 62+i≠6;omega))
       have hcase:i=0\/i=1\/i=2\/i=3\/i=4\/i=5\/i=6\/i=7\/i=8\/i=9\/i=10:=by omega
       clear hi
       rcases hcase with rfl|rfl|rfl|rfl|rfl|rfl|rfl|rfl|rfl|rfl|rfl
       all_goals (simp only [List.getElem?_toArray,List.getElem?_cons_succ,List.getElem?_cons_zero,Option.some.injEq] at ho;subst ho)
       ·refine Reg.Does.go rfl (Reg.step_k fun K hK=>?_)
        go_simp
        exact hK _ _ ⟨_,rfl,Below.refl _ _,rfl⟩
       ·have q0:a.tmps[62]?.getD undef=.pointer (some ⟨p1,1,none⟩):=Reg.ev_get (hd 0 (by decide))
        refine Reg.Does.go rfl (Reg.step_k fun K hK=>?_)
        go_simp
        exact hK _ _ ⟨_,rfl,Below.refl _ _,rfl⟩
       ·refine Reg.Does.go rfl (Reg.step_k fun K hK=>?_)
        go_simp
        exact hK _ _ ⟨_,rfl,Below.refl _ _,rfl⟩
       ·have q0:a.tmps[63]?.getD undef=.slice (some ⟨b1,off1,none⟩) n1 k1:=Reg.ev_get (hd 1 (by decide))
        have q1:a.tmps[64]?.getD undef=.int .i64 j:=Reg.ev_get (hd 2 (by decide))
        refine Reg.Does.go rfl (Reg.step_k fun K hK=>?_)
        go_simp
        exact hK _ _ ⟨_,rfl,Below.refl _ _,rfl⟩
       ·have q0:a.tmps[65]?.getD undef=.pointer (some ⟨b1,off1+j*3,none⟩):=Reg.ev_get (hd 3 (by decide))
        refine Reg.Does.go rfl (Reg.step_k fun K hK=>?_)
        go_simp
        exact hK _ _ ⟨_,rfl,Below.refl _ _,rfl⟩
       ·refine Reg.Does.go rfl (Reg.step_k fun K hK=>?_)
        go_simp
        exact hK _ _ ⟨_,rfl,Below.refl _ _,rfl⟩
       ·have q0:a.tmps[67]?.getD undef=.pointer (some ⟨p2,1,none⟩):=Reg.ev_get (hd 5 (by decide))
        refine Reg.Does.go rfl (Reg.step_k fun K hK=>?_)
        go_simp
        exact hK _ _ ⟨_,rfl,Below.refl _ _,rfl⟩
       ·refine Reg.Does.go rfl (Reg.step_k fun K hK=>?_)
        go_simp
        exact hK _ _ ⟨_,rfl,Below.refl _ _,rfl⟩
       ·have q0:a.tmps[68]?.getD undef=.slice (some ⟨b2,off2,none⟩) n1 h1:=Reg.ev_get (hd 6 (by decide))
        have q1:a.tmps[69]?.getD undef=.int .i64 j:=Reg.ev_get (hd 7 (by decide))
        refine Reg.Does.go rfl (Reg.step_k fun K hK=>?_)
        go_simp
        exact hK _ _ ⟨_,rfl,Below.refl _ _,rfl⟩
       ·have q0:a.tmps[70]?.getD undef=.pointer (some ⟨b2,off2+j*3,none⟩):=Reg.ev_get (hd 8 (by decide))
        refine Reg.Does.go rfl (Reg.step_k fun K hK=>?_)
        go_simp
        exact hK _ _ ⟨_,rfl,Below.refl _ _,rfl⟩
       ·have q0:a.tmps[66]?.getD undef=.agg #[.string x.mod,.string x.name,.int .i64 x.type]:=Reg.ev_get (hd 4 (by decide))
        have q1:a.tmps[71]?.getD undef=.agg #[.string y.mod,.string y.name,.int .i64 y.type]:=Reg.ev_get (hd 9 (by decide))
        refine Reg.Does.go rfl (Reg.step_k fun K hK=>?_)
        rcases Decidable.em (x.mod.toList=y.mod.toList) with h0|h0<;>rcases Decidable.em (x.name.toList=y.name.toList) with h1|h1<;>rcases Decidable.em (x.type=y.type) with h2|h2<;>(go_simp;exact hK _ _ ⟨_,rfl,Below.refl _ _,by show Value.bool _=Value.bool (!C1);rw [HC1.out,HE1.out];simp [fI,h0,h1,h2]⟩)
      case hend =>
       intro a w2 hF hB hG
       have gl:a.eval (.tmp 72)=.bool (!C1):=hG 10 (by omega)
       have HW2:=hideR (HWR.out.trans (hB.mono HWR.out.size))
       obtain ⟨xl,hxl,rfl,hev⟩:=hF.lit (by simp)
       rw [hev 10 (by omega)] at gl
       obtain ⟨x0,x1,x2,x3,x4,x5,x6,x7,x8,x9,x10,rfl⟩:=slen11 hxl
       obtain rfl:x10=.bool (!C1):=gl
       clear hev hxl hF hG hB HE1 HC1
       simp only [List.take_succ_cons,List.take_zero,List.drop_succ_cons,List.drop_zero,List.cons_append,List.nil_append]
       cases C1
       ·have HRF:Hid (R=false):=hideR HRN.out
        clear HRN
        go_wp2
        go_ret
        exact ⟨by rw [HRF.out];rfl,below_go' HU.out HW2.out⟩
       ·have HRT:Hid (R=(samB fI (m.imports.drop (j+1)) (k.imports.drop (j+1)) && (samB fF m.funcs k.funcs && (samB fL m.tables k.tables && (samB fL m.mems k.mems && (samB fG m.globals k.globals && (samB fX m.exports k.exports && (samB fE m.elems k.elems && (samB fD m.datas k.datas && true))))))))):=hideR HRN.out
        clear HRN
        go_wp2
        go_roundw
        case rel=>exact ⟨j+1,by omega,by go_num,HRT,HW2⟩
        case measure=>simp [intOf];omega
     ·obtain rfl:n1=j:=by omega
      have HR:=hideR (samB_end (by omega) (by omega) HRJ.out)
      clear HRJ
      go_wp2_with fail
      go_loopw [7] (fun i wr=>∃j:Nat,j<=n2/\i=.int .i64 j/\Hid (R=(samB fF (m.funcs.drop j) (k.funcs.drop j) && (samB fL m.tables k.tables && (samB fL m.mems k.mems && (samB fG m.globals k.globals && (samB fX m.exports k.exports && (samB fE m.elems k.elems && (samB fD m.datas k.datas && true))))))))/\Hid (Below u1.heap.size u1 wr)) (fun i _=>n2-(intOf i).toNat)
      case atStart=>exact ⟨0,by omega,rfl,HR,HWR⟩
      case round =>
       clear HR HWR
       obtain ⟨j,hj,rfl,HRJ,HWR⟩:=hrel
       have kp:=(HP _ HWR.out).out.cell 2 _ rfl
       by_cases hgo:j<n2
       ·obtain ⟨b1,off1,cap1,hv1,hx1⟩:=Row.some HMU.out.funcs (by omega)
        injection hv1 with ho1 e11 e12
        subst ho1
        clear e11 e12
        obtain ⟨b2,off2,cap2,hv2,hx2⟩:=Row.some HKU.out.funcs (by omega)
        injection hv2 with ho2 e21 e22
        subst ho2
        clear e21 e22
        obtain ⟨x,hxk⟩:∃x,m.funcs[j]?=some x:=⟨_,List.getElem?_eq_getElem (by omega)⟩
        obtain ⟨y,hyk⟩:∃y,k.funcs[j]?=some y:=⟨_,List.getElem?_eq_getElem (by omega)⟩
        have HX:=hideR ((hx1 j x hxk).on HWR.out)
        have HY:=hideR ((hx2 j y hyk).on HWR.out)
        have HRN:=hideR (samB_on hxk hyk HRJ.out)
        clear hx1 hx2 hxk hyk HRJ HMU HKU HM HK
        obtain ⟨cx0,⟨v1,cx1,a1⟩,⟨v2,cx2,a2⟩⟩:=HX.out
        obtain ⟨q1,z1,rfl⟩:=Row.len a1
        have AX1:=hideR a1
        clear a1
        obtain ⟨q2,z2,rfl⟩:=At.len d _ _ a2
        have AX2:=hideR a2
        clear a2
        generalize hy1:x.locals.length=y1 at *
        generalize hy2:size d x.body=y2 at *
        obtain ⟨cy0,⟨v1,cy1,a1⟩,⟨v2,cy2,a2⟩⟩:=HY.out
        obtain ⟨r1,t1,rfl⟩:=Row.len a1
        have AY1:=hideR a1
        clear a1
        obtain ⟨r2,t2,rfl⟩:=At.len d _ _ a2
        have AY2:=hideR a2
        clear a2
        generalize hs1:y.locals.length=s1 at *
        generalize hs2:size d y.body=s2 at *
        obtain ⟨e1,HE10⟩:∃e,e=(x.type == y.type):=⟨_,rfl⟩
        have HE1:=hideR HE10
        clear HE10
        obtain ⟨e2,HE20⟩:∃e,e=decide (x.locals=y.locals):=⟨_,rfl⟩
        have HE2:=hideR HE20
        clear HE20
        obtain ⟨e3,HE30⟩:∃e,e=samI d x.body y.body:=⟨_,rfl⟩
        have HE3:=hideR HE30
        clear HE30
        obtain ⟨C1,HC10⟩:∃c,c=e1:=⟨_,rfl⟩
        have HC1:=hideR HC10
        clear HC10
        obtain ⟨C2,HC20⟩:∃c,c=(C1 && e2):=⟨_,rfl⟩
        have HC2:=hideR HC20
        clear HC20
        obtain ⟨C3,HC30⟩:∃c,c=(C2 && e3):=⟨_,rfl⟩
        have HC3:=hideR HC30
        clear HC30
        have HFX:Hid (fF x y=C3):=hideR (by rw [HC3.out,HC2.out,HC1.out,HE1.out,HE2.out,HE3.out]<;>rfl)
        rw [HFX.out] at HRN
        clear HFX
        go_upto_region 16 with fail
        refine Reg.wp_region_all 45 (fun i=>80+i) (fun i=>(S2 j p1 p2 b1 b2 off1 off2 n2 k2 h2 y1 y2 z1 z2 s1 s2 t1 t2 q1 q2 r1 r2 C1 C2 C3 e1 e2 e3 x y i).1) (by kernel_rfl) (by kernel_rfl) (fun i j h1 h2 h=>by have h':80+i=80+j:=h;omega) (Reg.dst_okG (size:=303) (by kernel_rfl)) (fun i v w w' _ h hb=>(S2 j p1 p2 b1 b2 off1 off2 n2 k2 h2 y1 y2 z1 z2 s1 s2 t1 t2 q1 q2 r1 r2 C1 C2 C3 e1 e2 e3 x y i).2 v w w' h hb) ?hstep ?hend
        case hstep =>
         intro i o a w hi ho hF hB hd
         have kq1:=(HP w (HWR.out.trans (hB.mono HWR.out.size))).out.cell 2 _ rfl
         have kq2:=(HQ w (HWR.out.trans (hB.mono HWR.out.size))).out.cell 2 _ rfl
         have kx0:=cell_on hB cx0
         have kx1:=cell_on hB cx1
         have kx2:=cell_on hB cx2
         have ky0:=cell_on hB cy0
         have ky1:=cell_on hB cy1
         have ky2:=cell_on hB cy2
         have f2:a.tmps[2]?.getD undef=.pointer (some ⟨p1,0,none⟩):=Reg.ev_get (hF.eval 2 (fun i hi=>by show 80+i≠2;omega))
         have f3:a.tmps[3]?.getD undef=.pointer (some ⟨p2,0,none⟩):=Reg.ev_get (hF.eval 3 (fun i hi=>by show 80+i≠3;omega))
         have f7:a.tmps[7]?.getD undef=.int .i64 j:=Reg.ev_get (hF.eval 7 (fun i hi=>by show 80+i≠7;omega))
         have hcase:i=0\/i=1\/i=2\/i=3\/i=4\/i=5\/i=6\/i=7\/i=8\/i=9\/i=10\/i=11\/i=12\/i=13\/i=14\/i=15\/i=16\/i=17\/i=18\/i=19\/i=20\/i=21\/i=22\/i=23\/i=24\/i=25\/i=26\/i=27\/i=28\/i=29\/i=30\/i=31\/i=32\/i=33\/i=34\/i=35\/i=36\/i=37\/i=38\/i=39\/i=40\/i=41\/i=42\/i=43\/i=44:=by omega
         clear hi
         rcases hcase with rfl|rfl|rfl|rfl|rfl|rfl|rfl|rfl|rfl|rfl|rfl|rfl|rfl|rfl|rfl|rfl|rfl|rfl|rfl|rfl|rfl|rfl|rfl|rfl|rfl|rfl|rfl|rfl|rfl|rfl|rfl|rfl|rfl|rfl|rfl|rfl|rfl|rfl|rfl|rfl|rfl|rfl|rfl|rfl|rfl
         all_goals (simp only [List.getElem?_toArray,List.getElem?_cons_succ,List.getElem?_cons_zero,Option.some.injEq] at ho;subst ho)
         ·refine Reg.Does.go rfl (Reg.step_k fun K hK=>?_)
          go_simp
          exact hK _ _ ⟨_,rfl,Below.refl _ _,rfl⟩
         ·have q0:a.tmps[80]?.getD undef=.pointer (some ⟨p1,2,none⟩):=Reg.ev_get (hd 0 (by decide))
          refine Reg.Does.go rfl (Reg.step_k fun K hK=>?_)
          go_simp
          exact hK _ _ ⟨_,rfl,Below.refl _ _,rfl⟩
         ·refine Reg.Does.go rfl (Reg.step_k fun K hK=>?_)
          go_simp
          exact hK _ _ ⟨_,rfl,Below.refl _ _,rfl⟩
         ·have q0:a.tmps[81]?.getD undef=.slice (some ⟨b1,off1,none⟩) n2 k2:=Reg.ev_get (hd 1 (by decide))
          have q1:a.tmps[82]?.getD undef=.int .i64 j:=Reg.ev_get (hd 2 (by decide))
          refine Reg.Does.go rfl (Reg.step_k fun K hK=>?_)
          go_simp
          exact hK _ _ ⟨_,rfl,Below.refl _ _,rfl⟩
         ·have q0:a.tmps[83]?.getD undef=.pointer (some ⟨b1,off1+j*3,none⟩):=Reg.ev_get (hd 3 (by decide))
          refine Reg.Does.go rfl (Reg.step_k fun K hK=>?_)
          go_simp
          exact hK _ _ ⟨_,rfl,Below.refl _ _,rfl⟩
         ·have q0:a.tmps[84]?.getD undef=.pointer (some ⟨b1,off1+j*3,none⟩):=Reg.ev_get (hd 4 (by decide))
          refine Reg.Does.go rfl (Reg.step_k fun K hK=>?_)
          go_simp
          exact hK _ _ ⟨_,rfl,Below.refl _ _,rfl⟩
         ·refine Reg.Does.go rfl (Reg.step_k fun K hK=>?_)
          go_simp
          exact hK _ _ ⟨_,rfl,Below.refl _ _,rfl⟩
         ·have q0:a.tmps[86]?.getD undef=.pointer (some ⟨p2,2,none⟩):=Reg.ev_get (hd 6 (by decide))
          refine Reg.Does.go rfl (Reg.step_k fun K hK=>?_)
          go_simp
          exact hK _ _ ⟨_,rfl,Below.refl _ _,rfl⟩
         ·refine Reg.Does.go rfl (Reg.step_k fun K hK=>?_)
          go_simp
          exact hK _ _ ⟨_,rfl,Below.refl _ _,rfl⟩
         ·have q0:a.tmps[87]?.getD undef=.slice (some ⟨b2,off2,none⟩) n2 h2:=Reg.ev_get (hd 7 (by decide))
          have q1:a.tmps[88]?.getD undef=.int .i64 j:=Reg.ev_get (hd 8 (by decide))
          refine Reg.Does.go rfl (Reg.step_k fun K hK=>?_)
          go_simp
          exact hK _ _ ⟨_,rfl,Below.refl _ _,rfl⟩
         ·have q0:a.tmps[89]?.getD undef=.pointer (some ⟨b2,off2+j*3,none⟩):=Reg.ev_get (hd 9 (by decide))
          refine Reg.Does.go rfl (Reg.step_k fun K hK=>?_)
          go_simp
          exact hK _ _ ⟨_,rfl,Below.refl _ _,rfl⟩
         ·have q0:a.tmps[90]?.getD undef=.pointer (some ⟨b2,off2+j*3,none⟩):=Reg.ev_get (hd 10 (by decide))
          refine Reg.Does.go rfl (Reg.step_k fun K hK=>?_)
          go_simp
          exact hK _ _ ⟨_,rfl,Below.refl _ _,rfl⟩
         ·have q0:a.tmps[85]?.getD undef=.int .i64 x.type:=Reg.ev_get (hd 5 (by decide))
          have q1:a.tmps[91]?.getD undef=.int .i64 y.type:=Reg.ev_get (hd 11 (by decide))
          refine Reg.Does.go rfl (Reg.step_k fun K hK=>?_)
          go_simp
          exact hK _ _ ⟨_,rfl,Below.refl _ _,congrArg (fun c=>Value.bool (!c)) (HC1.out.trans HE1.out).symm⟩
         ·have q0:a.tmps[92]?.getD undef=.bool (!C1):=Reg.ev_get (hd 12 (by decide))
          refine Reg.Does.go rfl (Reg.step_k fun K hK=>?_)
          go_simp
          exact hK _ _ ⟨_,rfl,Below.refl _ _,rfl⟩
         ·have qg:a.eval (.tmp 93)=.bool (!C1):=hd 13 (by decide)
          cases C1
          ·exact Reg.Does.skip rfl rfl rfl qg rfl
          ·refine Reg.Does.wanted rfl rfl rfl qg (Reg.step_k fun K hK=>?_)
           clear qg
           go_simp
           exact hK _ _ ⟨_,rfl,Below.refl _ _,rfl⟩
         ·have qg:a.eval (.tmp 93)=.bool (!C1):=hd 13 (by decide)
          cases C1
          ·exact Reg.Does.skip rfl rfl rfl qg rfl
          ·refine Reg.Does.wanted rfl rfl rfl qg (Reg.step_k fun K hK=>?_)
           clear qg
           have q0:a.tmps[94]?.getD undef=.pointer (some ⟨p1,2,none⟩):=Reg.ev_get (hd 14 (by decide))
           go_simp
           exact hK _ _ ⟨_,rfl,Below.refl _ _,rfl⟩
         ·have qg:a.eval (.tmp 93)=.bool (!C1):=hd 13 (by decide)
          cases C1
          ·exact Reg.Does.skip rfl rfl rfl qg rfl
          ·refine Reg.Does.wanted rfl rfl rfl qg (Reg.step_k fun K hK=>?_)
           clear qg
           go_simp
           exact hK _ _ ⟨_,rfl,Below.refl _ _,rfl⟩
         ·have qg:a.eval (.tmp 93)=.bool (!C1):=hd 13 (by decide)
          cases C1
          ·exact Reg.Does.skip rfl rfl rfl qg rfl
          ·refine Reg.Does.wanted rfl rfl rfl qg (Reg.step_k fun K hK=>?_)
           clear qg
           have q0:a.tmps[95]?.getD undef=.slice (some ⟨b1,off1,none⟩) n2 k2:=Reg.ev_get (hd 15 (by decide))
           have q1:a.tmps[96]?.getD undef=.int .i64 j:=Reg.ev_get (hd 16 (by decide))
           go_simp
           exact hK _ _ ⟨_,rfl,Below.refl _ _,rfl⟩
         ·have qg:a.eval (.tmp 93)=.bool (!C1):=hd 13 (by decide)
          cases C1
          ·exact Reg.Does.skip rfl rfl rfl qg rfl
          ·refine Reg.Does.wanted rfl rfl rfl qg (Reg.step_k fun K hK=>?_)
           clear qg
           have q0:a.tmps[97]?.getD undef=.pointer (some ⟨b1,off1+j*3,none⟩):=Reg.ev_get (hd 17 (by decide))
           go_simp
           exact hK _ _ ⟨_,rfl,Below.refl _ _,rfl⟩
         ·have qg:a.eval (.tmp 93)=.bool (!C1):=hd 13 (by decide)
          cases C1
          ·exact Reg.Does.skip rfl rfl rfl qg rfl
          ·refine Reg.Does.wanted rfl rfl rfl qg (Reg.step_k fun K hK=>?_)
           clear qg
           have q0:a.tmps[98]?.getD undef=.pointer (some ⟨b1,off1+j*3+1,none⟩):=Reg.ev_get (hd 18 (by decide))
           go_simp
           exact hK _ _ ⟨_,rfl,Below.refl _ _,rfl⟩
         ·have qg:a.eval (.tmp 93)=.bool (!C1):=hd 13 (by decide)
          cases C1
          ·exact Reg.Does.skip rfl rfl rfl qg rfl
          ·refine Reg.Does.wanted rfl rfl rfl qg (Reg.step_k fun K hK=>?_)
           clear qg
           go_simp
           exact hK _ _ ⟨_,rfl,Below.refl _ _,rfl⟩
         ·have qg:a.eval (.tmp 93)=.bool (!C1):=hd 13 (by decide)
          cases C1
          ·exact Reg.Does.skip rfl rfl rfl qg rfl
          ·refine Reg.Does.wanted rfl rfl rfl qg (Reg.step_k fun K hK=>?_)
           clear qg
           have q0:a.tmps[100]?.getD undef=.pointer (some ⟨p2,2,none⟩):=Reg.ev_get (hd 20 (by decide))
           go_simp
           exact hK _ _ ⟨_,rfl,Below.refl _ _,rfl⟩
         ·have qg:a.eval (.tmp 93)=.bool (!C1):=hd 13 (by decide)
          cases C1
          ·exact Reg.Does.skip rfl rfl rfl qg rfl
          ·refine Reg.Does.wanted rfl rfl rfl qg (Reg.step_k fun K hK=>?_)
           clear qg
           go_simp
           exact hK _ _ ⟨_,rfl,Below.refl _ _,rfl⟩
         ·have qg:a.eval (.tmp 93)=.bool (!C1):=hd 13 (by decide)
          cases C1
          ·exact Reg.Does.skip rfl rfl rfl qg rfl
          ·refine Reg.Does.wanted rfl rfl rfl qg (Reg.step_k fun K hK=>?_)
           clear qg
           have q0:a.tmps[101]?.getD undef=.slice (some ⟨b2,off2,none⟩) n2 h2:=Reg.ev_get (hd 21 (by decide))
           have q1:a.tmps[102]?.getD undef=.int .i64 j:=Reg.ev_get (hd 22 (by decide))
           go_simp
           exact hK _ _ ⟨_,rfl,Below.refl _ _,rfl⟩
         ·have qg:a.eval (.tmp 93)=.bool (!C1):=hd 13 (by decide)
          cases C1
          ·exact Reg.Does.skip rfl rfl rfl qg rfl
          ·refine Reg.Does.wanted rfl rfl rfl qg (Reg.step_k fun K hK=>?_)
           clear qg
           have q0:a.tmps[103]?.getD undef=.pointer (some ⟨b2,off2+j*3,none⟩):=Reg.ev_get (hd 23 (by decide))
           go_simp
           exact hK _ _ ⟨_,rfl,Below.refl _ _,rfl⟩
         ·have qg:a.eval (.tmp 93)=.bool (!C1):=hd 13 (by decide)
          cases C1
          ·exact Reg.Does.skip rfl rfl rfl qg rfl
          ·refine Reg.Does.wanted rfl rfl rfl qg (Reg.step_k fun K hK=>?_)
           clear qg
           have q0:a.tmps[104]?.getD undef=.pointer (some ⟨b2,off2+j*3+1,none⟩):=Reg.ev_get (hd 24 (by decide))
           go_simp
           exact hK _ _ ⟨_,rfl,Below.refl _ _,rfl⟩
         ·have qg:a.eval (.tmp 93)=.bool (!C1):=hd 13 (by decide)
          cases C1
          ·exact Reg.Does.skip rfl rfl rfl qg rfl
          ·refine Reg.Does.wanted rfl rfl rfl qg (Reg.step_k fun K hK=>?_)
           clear qg
           have q0:a.tmps[99]?.getD undef=.slice q1 y1 z1:=Reg.ev_get (hd 19 (by decide))
           have q1:a.tmps[105]?.getD undef=.slice r1 s1 t1:=Reg.ev_get (hd 25 (by decide))
           have HKK:=hideR hK
           clear hK
           go_simp
           refine (refKeep _ _ _ _ w (AX1.out.on hB) (AY1.out.on hB)).mono ?_
           rintro e w' ⟨rfl,hw⟩
           exact HKK.out _ _ ⟨_,rfl,by obtain ⟨n,rfl⟩:=hw;exact below_drewN' w n,by rw [HE2.out];rfl⟩
         ·have qg:a.eval (.tmp 93)=.bool (!C1):=hd 13 (by decide)
          cases C1
          ·exact Reg.Does.skip rfl rfl rfl qg rfl
          ·refine Reg.Does.wanted rfl rfl rfl qg (Reg.step_k fun K hK=>?_)
           clear qg
           have q0:a.tmps[106]?.getD undef=.bool e2:=Reg.ev_get (hd 26 (by decide))
           go_simp
           exact hK _ _ ⟨_,rfl,Below.refl _ _,rfl⟩
         ·have qc:a.tmps[93]?.getD undef=.bool (!C1):=Reg.ev_get (hd 13 (by decide))
          have qe:a.tmps[107]?.getD undef=if C1 then .bool (!e2) else undef:=Reg.ev_get (hd 27 (by decide))
          refine Reg.Does.go rfl (Reg.step_k fun K hK=>?_)
          have HCN:=HC2
          cases C1
          ·simp only [Bool.not_false,Bool.false_eq_true,if_false] at qc qe
           go_simp
           exact hK _ _ ⟨_,rfl,Below.refl _ _,by rw [HCN.out];rfl⟩
          ·simp only [Bool.not_true,if_true] at qc qe
           go_simp
           exact hK _ _ ⟨_,rfl,Below.refl _ _,by rw [HCN.out];rfl⟩
         ·have q0:a.tmps[108]?.getD undef=.bool (!C2):=Reg.ev_get (hd 28 (by decide))
          refine Reg.Does.go rfl (Reg.step_k fun K hK=>?_)
          go_simp
          exact hK _ _ ⟨_,rfl,Below.refl _ _,rfl⟩
         ·have qg:a.eval (.tmp 109)=.bool (!C2):=hd 29 (by decide)
          cases C2
          ·exact Reg.Does.skip rfl rfl rfl qg rfl
          ·refine Reg.Does.wanted rfl rfl rfl qg (Reg.step_k fun K hK=>?_)
           clear qg
           go_simp
           exact hK _ _ ⟨_,rfl,Below.refl _ _,rfl⟩
         ·have qg:a.eval (.tmp 109)=.bool (!C2):=hd 29 (by decide)
          cases C2
          ·exact Reg.Does.skip rfl rfl rfl qg rfl
          ·refine Reg.Does.wanted rfl rfl rfl qg (Reg.step_k fun K hK=>?_)
           clear qg
           have q0:a.tmps[110]?.getD undef=.pointer (some ⟨p1,2,none⟩):=Reg.ev_get (hd 30 (by decide))
           go_simp
           exact hK _ _ ⟨_,rfl,Below.refl _ _,rfl⟩
         ·have qg:a.eval (.tmp 109)=.bool (!C2):=hd 29 (by decide)
          cases C2
          ·exact Reg.Does.skip rfl rfl rfl qg rfl
          ·refine Reg.Does.wanted rfl rfl rfl qg (Reg.step_k fun K hK=>?_)
           clear qg
           go_simp
           exact hK _ _ ⟨_,rfl,Below.refl _ _,rfl⟩
         ·have qg:a.eval (.tmp 109)=.bool (!C2):=hd 29 (by decide)
          cases C2
          ·exact Reg.Does.skip rfl rfl rfl qg rfl
          ·refine Reg.Does.wanted rfl rfl rfl qg (Reg.step_k fun K hK=>?_)
           clear qg
           have q0:a.tmps[111]?.getD undef=.slice (some ⟨b1,off1,none⟩) n2 k2:=Reg.ev_get (hd 31 (by decide))
           have q1:a.tmps[112]?.getD undef=.int .i64 j:=Reg.ev_get (hd 32 (by decide))
           go_simp
           exact hK _ _ ⟨_,rfl,Below.refl _ _,rfl⟩
         ·have qg:a.eval (.tmp 109)=.bool (!C2):=hd 29 (by decide)
          cases C2
          ·exact Reg.Does.skip rfl rfl rfl qg rfl
          ·refine Reg.Does.wanted rfl rfl rfl qg (Reg.step_k fun K hK=>?_)
           clear qg
           have q0:a.tmps[113]?.getD undef=.pointer (some ⟨b1,off1+j*3,none⟩):=Reg.ev_get (hd 33 (by decide))
           go_simp
           exact hK _ _ ⟨_,rfl,Below.refl _ _,rfl⟩
         ·have qg:a.eval (.tmp 109)=.bool (!C2):=hd 29 (by decide)
          cases C2
          ·exact Reg.Does.skip rfl rfl rfl qg rfl
          ·refine Reg.Does.wanted rfl rfl rfl qg (Reg.step_k fun K hK=>?_)
           clear qg
           have q0:a.tmps[114]?.getD undef=.pointer (some ⟨b1,off1+j*3+2,none⟩):=Reg.ev_get (hd 34 (by decide))
           go_simp
           exact hK _ _ ⟨_,rfl,Below.refl _ _,rfl⟩
         ·have qg:a.eval (.tmp 109)=.bool (!C2):=hd 29 (by decide)
          cases C2
          ·exact Reg.Does.skip rfl rfl rfl qg rfl
          ·refine Reg.Does.wanted rfl rfl rfl qg (Reg.step_k fun K hK=>?_)
           clear qg
           go_simp
           exact hK _ _ ⟨_,rfl,Below.refl _ _,rfl⟩
         ·have qg:a.eval (.tmp 109)=.bool (!C2):=hd 29 (by decide)
          cases C2
          ·exact Reg.Does.skip rfl rfl rfl qg rfl
          ·refine Reg.Does.wanted rfl rfl rfl qg (Reg.step_k fun K hK=>?_)
           clear qg
           have q0:a.tmps[116]?.getD undef=.pointer (some ⟨p2,2,none⟩):=Reg.ev_get (hd 36 (by decide))
           go_simp
           exact hK _ _ ⟨_,rfl,Below.refl _ _,rfl⟩
         ·have qg:a.eval (.tmp 109)=.bool (!C2):=hd 29 (by decide)
          cases C2
          ·exact Reg.Does.skip rfl rfl rfl qg rfl
          ·refine Reg.Does.wanted rfl rfl rfl qg (Reg.step_k fun K hK=>?_)
           clear qg
           go_simp
           exact hK _ _ ⟨_,rfl,Below.refl _ _,rfl⟩
         ·have qg:a.eval (.tmp 109)=.bool (!C2):=hd 29 (by decide)
          cases C2
          ·exact Reg.Does.skip rfl rfl rfl qg rfl
          ·refine Reg.Does.wanted rfl rfl rfl qg (Reg.step_k fun K hK=>?_)
           clear qg
           have q0:a.tmps[117]?.getD undef=.slice (some ⟨b2,off2,none⟩) n2 h2:=Reg.ev_get (hd 37 (by decide))
           have q1:a.tmps[118]?.getD undef=.int .i64 j:=Reg.ev_get (hd 38 (by decide))
           go_simp
           exact hK _ _ ⟨_,rfl,Below.refl _ _,rfl⟩
         ·have qg:a.eval (.tmp 109)=.bool (!C2):=hd 29 (by decide)
          cases C2
          ·exact Reg.Does.skip rfl rfl rfl qg rfl
          ·refine Reg.Does.wanted rfl rfl rfl qg (Reg.step_k fun K hK=>?_)
           clear qg
           have q0:a.tmps[119]?.getD undef=.pointer (some ⟨b2,off2+j*3,none⟩):=Reg.ev_get (hd 39 (by decide))
           go_simp
           exact hK _ _ ⟨_,rfl,Below.refl _ _,rfl⟩
         ·have qg:a.eval (.tmp 109)=.bool (!C2):=hd 29 (by decide)
          cases C2
          ·exact Reg.Does.skip rfl rfl rfl qg rfl
          ·refine Reg.Does.wanted rfl rfl rfl qg (Reg.step_k fun K hK=>?_)
           clear qg
           have q0:a.tmps[120]?.getD undef=.pointer (some ⟨b2,off2+j*3+2,none⟩):=Reg.ev_get (hd 40 (by decide))
           go_simp
           exact hK _ _ ⟨_,rfl,Below.refl _ _,rfl⟩
         ·have qg:a.eval (.tmp 109)=.bool (!C2):=hd 29 (by decide)
          cases C2
          ·exact Reg.Does.skip rfl rfl rfl qg rfl
          ·refine Reg.Does.wanted rfl rfl rfl qg (Reg.step_k fun K hK=>?_)
           clear qg
           have q0:a.tmps[115]?.getD undef=.slice q2 y2 z2:=Reg.ev_get (hd 35 (by decide))
           have q1:a.tmps[121]?.getD undef=.slice r2 s2 t2:=Reg.ev_get (hd 41 (by decide))
           have HKK:=hideR hK
           clear hK
           go_simp
           refine (refInstrs d _ _ _ _ w (At.on hB d _ _ AX2.out) (At.on hB d _ _ AY2.out)).mono ?_
           rintro e w' ⟨rfl,hw⟩
           exact HKK.out _ _ ⟨_,rfl,hw,by rw [HE3.out];rfl⟩
         ·have qg:a.eval (.tmp 109)=.bool (!C2):=hd 29 (by decide)
          cases C2
          ·exact Reg.Does.skip rfl rfl rfl qg rfl
          ·refine Reg.Does.wanted rfl rfl rfl qg (Reg.step_k fun K hK=>?_)
           clear qg
           have q0:a.tmps[122]?.getD undef=.bool e3:=Reg.ev_get (hd 42 (by decide))
           go_simp
           exact hK _ _ ⟨_,rfl,Below.refl _ _,rfl⟩
         ·have qc:a.tmps[109]?.getD undef=.bool (!C2):=Reg.ev_get (hd 29 (by decide))
          have qe:a.tmps[123]?.getD undef=if C2 then .bool (!e3) else undef:=Reg.ev_get (hd 43 (by decide))
          refine Reg.Does.go rfl (Reg.step_k fun K hK=>?_)
          have HCN:=HC3
          cases C2
          ·simp only [Bool.not_false,Bool.false_eq_true,if_false] at qc qe
           go_simp
           exact hK _ _ ⟨_,rfl,Below.refl _ _,by rw [HCN.out];rfl⟩
          ·simp only [Bool.not_true,if_true] at qc qe
           go_simp
           exact hK _ _ ⟨_,rfl,Below.refl _ _,by rw [HCN.out];rfl⟩
        case hend =>
         intro a w2 hF hB hG
         have gl:a.eval (.tmp 124)=.bool (!C3):=hG 44 (by omega)
         have HW2:=hideR (HWR.out.trans (hB.mono HWR.out.size))
         obtain ⟨xl,hxl,rfl,hev⟩:=hF.lit (by simp)
         rw [hev 44 (by omega)] at gl
         obtain ⟨x0,x1,x2,x3,x4,x5,x6,x7,x8,x9,x10,x11,x12,x13,x14,x15,x16,x17,x18,x19,x20,x21,x22,x23,x24,x25,x26,x27,x28,x29,x30,x31,x32,x33,x34,x35,x36,x37,x38,x39,x40,x41,x42,x43,x44,rfl⟩:=slen45 hxl
         obtain rfl:x44=.bool (!C3):=gl
         clear hev hxl hF hG hB HE1 HC1 HE2 HC2 HE3 HC3
         simp only [List.take_succ_cons,List.take_zero,List.drop_succ_cons,List.drop_zero,List.cons_append,List.nil_append]
         cases C3
         ·have HRF:Hid (R=false):=hideR HRN.out
          clear HRN
          go_wp2
          go_ret
          exact ⟨by rw [HRF.out];rfl,below_go' HU.out HW2.out⟩
         ·have HRT:Hid (R=(samB fF (m.funcs.drop (j+1)) (k.funcs.drop (j+1)) && (samB fL m.tables k.tables && (samB fL m.mems k.mems && (samB fG m.globals k.globals && (samB fX m.exports k.exports && (samB fE m.elems k.elems && (samB fD m.datas k.datas && true)))))))):=hideR HRN.out
          clear HRN
          go_wp2
          go_roundw
          case rel=>exact ⟨j+1,by omega,by go_num,HRT,HW2⟩
          case measure=>simp [intOf];omega
       ·obtain rfl:n2=j:=by omega
        have HR:=hideR (samB_end (by omega) (by omega) HRJ.out)
        clear HRJ
        go_wp2_with fail
        go_loopw [8] (fun i wr=>∃j:Nat,j<=n3/\i=.int .i64 j/\Hid (R=(samB fL (m.tables.drop j) (k.tables.drop j) && (samB fL m.mems k.mems && (samB fG m.globals k.globals && (samB fX m.exports k.exports && (samB fE m.elems k.elems && (samB fD m.datas k.datas && true)))))))/\Hid (Below u1.heap.size u1 wr)) (fun i _=>n3-(intOf i).toNat)
        case atStart=>exact ⟨0,by omega,rfl,HR,HWR⟩
        case round =>
         clear HR HWR
         obtain ⟨j,hj,rfl,HRJ,HWR⟩:=hrel
         have kp:=(HP _ HWR.out).out.cell 3 _ rfl
         by_cases hgo:j<n3
         ·obtain ⟨b1,off1,cap1,hv1,hx1⟩:=Row.some HMU.out.tables (by omega)
          injection hv1 with ho1 e11 e12
          subst ho1
          clear e11 e12
          obtain ⟨b2,off2,cap2,hv2,hx2⟩:=Row.some HKU.out.tables (by omega)
          injection hv2 with ho2 e21 e22
          subst ho2
          clear e21 e22
          obtain ⟨x,hxk⟩:∃x,m.tables[j]?=some x:=⟨_,List.getElem?_eq_getElem (by omega)⟩
          obtain ⟨y,hyk⟩:∃y,k.tables[j]?=some y:=⟨_,List.getElem?_eq_getElem (by omega)⟩
          have HX:=hideR ((hx1 j x hxk).on HWR.out)
          have HY:=hideR ((hx2 j y hyk).on HWR.out)
          have HRN:=hideR (samB_on hxk hyk HRJ.out)
          clear hx1 hx2 hxk hyk HRJ HMU HKU HM HK
          obtain ⟨cx0,cx1,cx2⟩:=HX.out
          obtain ⟨cy0,cy1,cy2⟩:=HY.out
          obtain ⟨e1,HE10⟩:∃e,e=fL x y:=⟨_,rfl⟩
          have HE1:=hideR HE10
          clear HE10
          obtain ⟨C1,HC10⟩:∃c,c=e1:=⟨_,rfl⟩
          have HC1:=hideR HC10
          clear HC10
          have HFX:Hid (fL x y=C1):=hideR (by rw [HC1.out,HE1.out]<;>rfl)
          rw [HFX.out] at HRN
          clear HFX
          go_upto_region 21 with fail
          refine Reg.wp_region_all 11 (fun i=>132+i) (fun i=>(S3 j p1 p2 b1 b2 off1 off2 n3 k3 h3 C1 e1 x y i).1) (by kernel_rfl) (by kernel_rfl) (fun i j h1 h2 h=>by have h':132+i=132+j:=h;omega) (Reg.dst_okG (size:=303) (by kernel_rfl)) (fun i v w w' _ h hb=>(S3 j p1 p2 b1 b2 off1 off2 n3 k3 h3 C1 e1 x y i).2 v w w' h hb) ?hstep ?hend
          case hstep =>
           intro i o a w hi ho hF hB hd
           have kq1:=(HP w (HWR.out.trans (hB.mono HWR.out.size))).out.cell 3 _ rfl
           have kq2:=(HQ w (HWR.out.trans (hB.mono HWR.out.size))).out.cell 3 _ rfl
           have kx0:=cell_on hB cx0
           have kx1:=cell_on hB cx1
           have kx2:=cell_on hB cx2
           have ky0:=cell_on hB cy0
           have ky1:=cell_on hB cy1
           have ky2:=cell_on hB cy2
           have f2:a.tmps[2]?.getD undef=.pointer (some ⟨p1,0,none⟩):=Reg.ev_get (hF.eval 2 (fun i hi=>by show 132+i≠2;omega))
           have f3:a.tmps[3]?.getD undef=.pointer (some ⟨p2,0,none⟩):=Reg.ev_get (hF.eval 3 (fun i hi=>by show 132+i≠3;omega))
           have f8:a.tmps[8]?.getD undef=.int .i64 j:=Reg.ev_get (hF.eval 8 (fun i hi=>by show 132+i≠8;omega))
           have hcase:i=0\/i=1\/i=2\/i=3\/i=4\/i=5\/i=6\/i=7\/i=8\/i=9\/i=10:=by omega
           clear hi
           rcases hcase with rfl|rfl|rfl|rfl|rfl|rfl|rfl|rfl|rfl|rfl|rfl
           all_goals (simp only [List.getElem?_toArray,List.getElem?_cons_succ,List.getElem?_cons_zero,Option.some.injEq] at ho;subst ho)
           ·refine Reg.Does.go rfl (Reg.step_k fun K hK=>?_)
            go_simp
            exact hK _ _ ⟨_,rfl,Below.refl _ _,rfl⟩
           ·have q0:a.tmps[132]?.getD undef=.pointer (some ⟨p1,3,none⟩):=Reg.ev_get (hd 0 (by decide))
            refine Reg.Does.go rfl (Reg.step_k fun K hK=>?_)
            go_simp
            exact hK _ _ ⟨_,rfl,Below.refl _ _,rfl⟩
           ·refine Reg.Does.go rfl (Reg.step_k fun K hK=>?_)
            go_simp
            exact hK _ _ ⟨_,rfl,Below.refl _ _,rfl⟩
           ·have q0:a.tmps[133]?.getD undef=.slice (some ⟨b1,off1,none⟩) n3 k3:=Reg.ev_get (hd 1 (by decide))
            have q1:a.tmps[134]?.getD undef=.int .i64 j:=Reg.ev_get (hd 2 (by decide))
            refine Reg.Does.go rfl (Reg.step_k fun K hK=>?_)
            go_simp
            exact hK _ _ ⟨_,rfl,Below.refl _ _,rfl⟩
           ·have q0:a.tmps[135]?.getD undef=.pointer (some ⟨b1,off1+j*3,none⟩):=Reg.ev_get (hd 3 (by decide))
            refine Reg.Does.go rfl (Reg.step_k fun K hK=>?_)
            go_simp
            exact hK _ _ ⟨_,rfl,Below.refl _ _,rfl⟩
           ·refine Reg.Does.go rfl (Reg.step_k fun K hK=>?_)
            go_simp
            exact hK _ _ ⟨_,rfl,Below.refl _ _,rfl⟩
           ·have q0:a.tmps[137]?.getD undef=.pointer (some ⟨p2,3,none⟩):=Reg.ev_get (hd 5 (by decide))
            refine Reg.Does.go rfl (Reg.step_k fun K hK=>?_)
            go_simp
            exact hK _ _ ⟨_,rfl,Below.refl _ _,rfl⟩
           ·refine Reg.Does.go rfl (Reg.step_k fun K hK=>?_)
            go_simp
            exact hK _ _ ⟨_,rfl,Below.refl _ _,rfl⟩
           ·have q0:a.tmps[138]?.getD undef=.slice (some ⟨b2,off2,none⟩) n3 h3:=Reg.ev_get (hd 6 (by decide))
            have q1:a.tmps[139]?.getD undef=.int .i64 j:=Reg.ev_get (hd 7 (by decide))
            refine Reg.Does.go rfl (Reg.step_k fun K hK=>?_)
            go_simp
            exact hK _ _ ⟨_,rfl,Below.refl _ _,rfl⟩
           ·have q0:a.tmps[140]?.getD undef=.pointer (some ⟨b2,off2+j*3,none⟩):=Reg.ev_get (hd 8 (by decide))
            refine Reg.Does.go rfl (Reg.step_k fun K hK=>?_)
            go_simp
            exact hK _ _ ⟨_,rfl,Below.refl _ _,rfl⟩
           ·have q0:a.tmps[136]?.getD undef=.agg #[.int .i64 x.min,.int .i64 x.max,.bool x.has]:=Reg.ev_get (hd 4 (by decide))
            have q1:a.tmps[141]?.getD undef=.agg #[.int .i64 y.min,.int .i64 y.max,.bool y.has]:=Reg.ev_get (hd 9 (by decide))
            refine Reg.Does.go rfl (Reg.step_k fun K hK=>?_)
            rcases Decidable.em (x.min=y.min) with h0|h0<;>rcases Decidable.em (x.max=y.max) with h1|h1<;>rcases Decidable.em (x.has=y.has) with h2|h2<;>(go_simp;exact hK _ _ ⟨_,rfl,Below.refl _ _,by show Value.bool _=Value.bool (!C1);rw [HC1.out,HE1.out];simp [fL,h0,h1,h2]⟩)
          case hend =>
           intro a w2 hF hB hG
           have gl:a.eval (.tmp 142)=.bool (!C1):=hG 10 (by omega)
           have HW2:=hideR (HWR.out.trans (hB.mono HWR.out.size))
           obtain ⟨xl,hxl,rfl,hev⟩:=hF.lit (by simp)
           rw [hev 10 (by omega)] at gl
           obtain ⟨x0,x1,x2,x3,x4,x5,x6,x7,x8,x9,x10,rfl⟩:=slen11 hxl
           obtain rfl:x10=.bool (!C1):=gl
           clear hev hxl hF hG hB HE1 HC1
           simp only [List.take_succ_cons,List.take_zero,List.drop_succ_cons,List.drop_zero,List.cons_append,List.nil_append]
           cases C1
           ·have HRF:Hid (R=false):=hideR HRN.out
            clear HRN
            go_wp2
            go_ret
            exact ⟨by rw [HRF.out];rfl,below_go' HU.out HW2.out⟩
           ·have HRT:Hid (R=(samB fL (m.tables.drop (j+1)) (k.tables.drop (j+1)) && (samB fL m.mems k.mems && (samB fG m.globals k.globals && (samB fX m.exports k.exports && (samB fE m.elems k.elems && (samB fD m.datas k.datas && true))))))):=hideR HRN.out
            clear HRN
            go_wp2
            go_roundw
            case rel=>exact ⟨j+1,by omega,by go_num,HRT,HW2⟩
            case measure=>simp [intOf];omega
         ·obtain rfl:n3=j:=by omega
          have HR:=hideR (samB_end (by omega) (by omega) HRJ.out)
          clear HRJ
          go_wp2_with fail
          go_loopw [9] (fun i wr=>∃j:Nat,j<=n4/\i=.int .i64 j/\Hid (R=(samB fL (m.mems.drop j) (k.mems.drop j) && (samB fG m.globals k.globals && (samB fX m.exports k.exports && (samB fE m.elems k.elems && (samB fD m.datas k.datas && true))))))/\Hid (Below u1.heap.size u1 wr)) (fun i _=>n4-(intOf i).toNat)
          case atStart=>exact ⟨0,by omega,rfl,HR,HWR⟩
          case round =>
           clear HR HWR
           obtain ⟨j,hj,rfl,HRJ,HWR⟩:=hrel
           have kp:=(HP _ HWR.out).out.cell 4 _ rfl
           by_cases hgo:j<n4
           ·obtain ⟨b1,off1,cap1,hv1,hx1⟩:=Row.some HMU.out.mems (by omega)
            injection hv1 with ho1 e11 e12
            subst ho1
            clear e11 e12
            obtain ⟨b2,off2,cap2,hv2,hx2⟩:=Row.some HKU.out.mems (by omega)
            injection hv2 with ho2 e21 e22
            subst ho2
            clear e21 e22
            obtain ⟨x,hxk⟩:∃x,m.mems[j]?=some x:=⟨_,List.getElem?_eq_getElem (by omega)⟩
            obtain ⟨y,hyk⟩:∃y,k.mems[j]?=some y:=⟨_,List.getElem?_eq_getElem (by omega)⟩
            have HX:=hideR ((hx1 j x hxk).on HWR.out)
            have HY:=hideR ((hx2 j y hyk).on HWR.out)
            have HRN:=hideR (samB_on hxk hyk HRJ.out)
            clear hx1 hx2 hxk hyk HRJ HMU HKU HM HK
            obtain ⟨cx0,cx1,cx2⟩:=HX.out
            obtain ⟨cy0,cy1,cy2⟩:=HY.out
            obtain ⟨e1,HE10⟩:∃e,e=fL x y:=⟨_,rfl⟩
            have HE1:=hideR HE10
            clear HE10
            obtain ⟨C1,HC10⟩:∃c,c=e1:=⟨_,rfl⟩
            have HC1:=hideR HC10
            clear HC10
            have HFX:Hid (fL x y=C1):=hideR (by rw [HC1.out,HE1.out]<;>rfl)
            rw [HFX.out] at HRN
            clear HFX
            go_upto_region 26 with fail
            refine Reg.wp_region_all 11 (fun i=>150+i) (fun i=>(S4 j p1 p2 b1 b2 off1 off2 n4 k4 h4 C1 e1 x y i).1) (by kernel_rfl) (by kernel_rfl) (fun i j h1 h2 h=>by have h':150+i=150+j:=h;omega) (Reg.dst_okG (size:=303) (by kernel_rfl)) (fun i v w w' _ h hb=>(S4 j p1 p2 b1 b2 off1 off2 n4 k4 h4 C1 e1 x y i).2 v w w' h hb) ?hstep ?hend
            case hstep =>
             intro i o a w hi ho hF hB hd
             have kq1:=(HP w (HWR.out.trans (hB.mono HWR.out.size))).out.cell 4 _ rfl
             have kq2:=(HQ w (HWR.out.trans (hB.mono HWR.out.size))).out.cell 4 _ rfl
             have kx0:=cell_on hB cx0
             have kx1:=cell_on hB cx1
             have kx2:=cell_on hB cx2
             have ky0:=cell_on hB cy0
             have ky1:=cell_on hB cy1
             have ky2:=cell_on hB cy2
             have f2:a.tmps[2]?.getD undef=.pointer (some ⟨p1,0,none⟩):=Reg.ev_get (hF.eval 2 (fun i hi=>by show 150+i≠2;omega))
             have f3:a.tmps[3]?.getD undef=.pointer (some ⟨p2,0,none⟩):=Reg.ev_get (hF.eval 3 (fun i hi=>by show 150+i≠3;omega))
             have f9:a.tmps[9]?.getD undef=.int .i64 j:=Reg.ev_get (hF.eval 9 (fun i hi=>by show 150+i≠9;omega))
             have hcase:i=0\/i=1\/i=2\/i=3\/i=4\/i=5\/i=6\/i=7\/i=8\/i=9\/i=10:=by omega
             clear hi
             rcases hcase with rfl|rfl|rfl|rfl|rfl|rfl|rfl|rfl|rfl|rfl|rfl
             all_goals (simp only [List.getElem?_toArray,List.getElem?_cons_succ,List.getElem?_cons_zero,Option.some.injEq] at ho;subst ho)
             ·refine Reg.Does.go rfl (Reg.step_k fun K hK=>?_)
              go_simp
              exact hK _ _ ⟨_,rfl,Below.refl _ _,rfl⟩
             ·have q0:a.tmps[150]?.getD undef=.pointer (some ⟨p1,4,none⟩):=Reg.ev_get (hd 0 (by decide))
              refine Reg.Does.go rfl (Reg.step_k fun K hK=>?_)
              go_simp
              exact hK _ _ ⟨_,rfl,Below.refl _ _,rfl⟩
             ·refine Reg.Does.go rfl (Reg.step_k fun K hK=>?_)
              go_simp
              exact hK _ _ ⟨_,rfl,Below.refl _ _,rfl⟩
             ·have q0:a.tmps[151]?.getD undef=.slice (some ⟨b1,off1,none⟩) n4 k4:=Reg.ev_get (hd 1 (by decide))
              have q1:a.tmps[152]?.getD undef=.int .i64 j:=Reg.ev_get (hd 2 (by decide))
              refine Reg.Does.go rfl (Reg.step_k fun K hK=>?_)
              go_simp
              exact hK _ _ ⟨_,rfl,Below.refl _ _,rfl⟩
             ·have q0:a.tmps[153]?.getD undef=.pointer (some ⟨b1,off1+j*3,none⟩):=Reg.ev_get (hd 3 (by decide))
              refine Reg.Does.go rfl (Reg.step_k fun K hK=>?_)
              go_simp
              exact hK _ _ ⟨_,rfl,Below.refl _ _,rfl⟩
             ·refine Reg.Does.go rfl (Reg.step_k fun K hK=>?_)
              go_simp
              exact hK _ _ ⟨_,rfl,Below.refl _ _,rfl⟩
             ·have q0:a.tmps[155]?.getD undef=.pointer (some ⟨p2,4,none⟩):=Reg.ev_get (hd 5 (by decide))
              refine Reg.Does.go rfl (Reg.step_k fun K hK=>?_)
              go_simp
              exact hK _ _ ⟨_,rfl,Below.refl _ _,rfl⟩
             ·refine Reg.Does.go rfl (Reg.step_k fun K hK=>?_)
              go_simp
              exact hK _ _ ⟨_,rfl,Below.refl _ _,rfl⟩
             ·have q0:a.tmps[156]?.getD undef=.slice (some ⟨b2,off2,none⟩) n4 h4:=Reg.ev_get (hd 6 (by decide))
              have q1:a.tmps[157]?.getD undef=.int .i64 j:=Reg.ev_get (hd 7 (by decide))
              refine Reg.Does.go rfl (Reg.step_k fun K hK=>?_)
              go_simp
              exact hK _ _ ⟨_,rfl,Below.refl _ _,rfl⟩
             ·have q0:a.tmps[158]?.getD undef=.pointer (some ⟨b2,off2+j*3,none⟩):=Reg.ev_get (hd 8 (by decide))
              refine Reg.Does.go rfl (Reg.step_k fun K hK=>?_)
              go_simp
              exact hK _ _ ⟨_,rfl,Below.refl _ _,rfl⟩
             ·have q0:a.tmps[154]?.getD undef=.agg #[.int .i64 x.min,.int .i64 x.max,.bool x.has]:=Reg.ev_get (hd 4 (by decide))
              have q1:a.tmps[159]?.getD undef=.agg #[.int .i64 y.min,.int .i64 y.max,.bool y.has]:=Reg.ev_get (hd 9 (by decide))
              refine Reg.Does.go rfl (Reg.step_k fun K hK=>?_)
              rcases Decidable.em (x.min=y.min) with h0|h0<;>rcases Decidable.em (x.max=y.max) with h1|h1<;>rcases Decidable.em (x.has=y.has) with h2|h2<;>(go_simp;exact hK _ _ ⟨_,rfl,Below.refl _ _,by show Value.bool _=Value.bool (!C1);rw [HC1.out,HE1.out];simp [fL,h0,h1,h2]⟩)
            case hend =>
             intro a w2 hF hB hG
             have gl:a.eval (.tmp 160)=.bool (!C1):=hG 10 (by omega)
             have HW2:=hideR (HWR.out.trans (hB.mono HWR.out.size))
             obtain ⟨xl,hxl,rfl,hev⟩:=hF.lit (by simp)
             rw [hev 10 (by omega)] at gl
             obtain ⟨x0,x1,x2,x3,x4,x5,x6,x7,x8,x9,x10,rfl⟩:=slen11 hxl
             obtain rfl:x10=.bool (!C1):=gl
             clear hev hxl hF hG hB HE1 HC1
             simp only [List.take_succ_cons,List.take_zero,List.drop_succ_cons,List.drop_zero,List.cons_append,List.nil_append]
             cases C1
             ·have HRF:Hid (R=false):=hideR HRN.out
              clear HRN
              go_wp2
              go_ret
              exact ⟨by rw [HRF.out];rfl,below_go' HU.out HW2.out⟩
             ·have HRT:Hid (R=(samB fL (m.mems.drop (j+1)) (k.mems.drop (j+1)) && (samB fG m.globals k.globals && (samB fX m.exports k.exports && (samB fE m.elems k.elems && (samB fD m.datas k.datas && true)))))):=hideR HRN.out
              clear HRN
              go_wp2
              go_roundw
              case rel=>exact ⟨j+1,by omega,by go_num,HRT,HW2⟩
              case measure=>simp [intOf];omega
           ·obtain rfl:n4=j:=by omega
            have HR:=hideR (samB_end (by omega) (by omega) HRJ.out)
            clear HRJ
            go_wp2_with fail
            go_loopw [10] (fun i wr=>∃j:Nat,j<=n5/\i=.int .i64 j/\Hid (R=(samB fG (m.globals.drop j) (k.globals.drop j) && (samB fX m.exports k.exports && (samB fE m.elems k.elems && (samB fD m.datas k.datas && true)))))/\Hid (Below u1.heap.size u1 wr)) (fun i _=>n5-(intOf i).toNat)
            case atStart=>exact ⟨0,by omega,rfl,HR,HWR⟩
            case round =>
             clear HR HWR
             obtain ⟨j,hj,rfl,HRJ,HWR⟩:=hrel
             have kp:=(HP _ HWR.out).out.cell 5 _ rfl
             by_cases hgo:j<n5
             ·obtain ⟨b1,off1,cap1,hv1,hx1⟩:=Row.some HMU.out.globals (by omega)
              injection hv1 with ho1 e11 e12
              subst ho1
              clear e11 e12
              obtain ⟨b2,off2,cap2,hv2,hx2⟩:=Row.some HKU.out.globals (by omega)
              injection hv2 with ho2 e21 e22
              subst ho2
              clear e21 e22
              obtain ⟨x,hxk⟩:∃x,m.globals[j]?=some x:=⟨_,List.getElem?_eq_getElem (by omega)⟩
              obtain ⟨y,hyk⟩:∃y,k.globals[j]?=some y:=⟨_,List.getElem?_eq_getElem (by omega)⟩
              have HX:=hideR ((hx1 j x hxk).on HWR.out)
              have HY:=hideR ((hx2 j y hyk).on HWR.out)
              have HRN:=hideR (samB_on hxk hyk HRJ.out)
              clear hx1 hx2 hxk hyk HRJ HMU HKU HM HK
              obtain ⟨cx0,cx1,⟨cx2,cx3,cx4,cx5,⟨v4,cx6,a4⟩,⟨v5,cx7,a5⟩,⟨v6,cx8,a6⟩⟩⟩:=HX.out
              obtain ⟨q4,z4,rfl⟩:=Row.len a4
              have AX4:=hideR a4
              clear a4
              obtain ⟨q5,z5,rfl⟩:=At.len d _ _ a5
              have AX5:=hideR a5
              clear a5
              obtain ⟨q6,z6,rfl⟩:=At.len d _ _ a6
              have AX6:=hideR a6
              clear a6
              generalize hy4:x.init.labels.length=y4 at *
              generalize hy5:size d x.init.body=y5 at *
              generalize hy6:size d x.init.els=y6 at *
              obtain ⟨cy0,cy1,⟨cy2,cy3,cy4,cy5,⟨v4,cy6,a4⟩,⟨v5,cy7,a5⟩,⟨v6,cy8,a6⟩⟩⟩:=HY.out
              obtain ⟨r4,t4,rfl⟩:=Row.len a4
              have AY4:=hideR a4
              clear a4
              obtain ⟨r5,t5,rfl⟩:=At.len d _ _ a5
              have AY5:=hideR a5
              clear a5
              obtain ⟨r6,t6,rfl⟩:=At.len d _ _ a6
              have AY6:=hideR a6
              clear a6
              generalize hs4:y.init.labels.length=s4 at *
              generalize hs5:size d y.init.body=s5 at *
              generalize hs6:size d y.init.els=s6 at *
              obtain ⟨e1,HE10⟩:∃e,e=(x.type == y.type):=⟨_,rfl⟩
              have HE1:=hideR HE10
              clear HE10
              obtain ⟨e2,HE20⟩:∃e,e=(x.mtb == y.mtb):=⟨_,rfl⟩
              have HE2:=hideR HE20
              clear HE20
              obtain ⟨e3,HE30⟩:∃e,e=sam1 (samI d) x.init y.init:=⟨_,rfl⟩
              have HE3:=hideR HE30
              clear HE30
              obtain ⟨C1,HC10⟩:∃c,c=e1:=⟨_,rfl⟩
              have HC1:=hideR HC10
              clear HC10
              obtain ⟨C2,HC20⟩:∃c,c=(C1 && e2):=⟨_,rfl⟩
              have HC2:=hideR HC20
              clear HC20
              obtain ⟨C3,HC30⟩:∃c,c=(C2 && e3):=⟨_,rfl⟩
              have HC3:=hideR HC30
              clear HC30
              have HFX:Hid (fG x y=C3):=hideR (by rw [HC3.out,HC2.out,HC1.out,HE1.out,HE2.out,HE3.out]<;>rfl)
              rw [HFX.out] at HRN
              clear HFX
              go_upto_region 31 with fail
              refine Reg.wp_region_all 44 (fun i=>168+i) (fun i=>(S5 j p1 p2 b1 b2 off1 off2 n5 k5 h5 y4 y5 y6 z4 z5 z6 s4 s5 s6 t4 t5 t6 q4 q5 q6 r4 r5 r6 C1 C2 C3 e1 e2 e3 x y i).1) (by kernel_rfl) (by kernel_rfl) (fun i j h1 h2 h=>by have h':168+i=168+j:=h;omega) (Reg.dst_okG (size:=303) (by kernel_rfl)) (fun i v w w' _ h hb=>(S5 j p1 p2 b1 b2 off1 off2 n5 k5 h5 y4 y5 y6 z4 z5 z6 s4 s5 s6 t4 t5 t6 q4 q5 q6 r4 r5 r6 C1 C2 C3 e1 e2 e3 x y i).2 v w w' h hb) ?hstep ?hend
              case hstep =>
               intro i o a w hi ho hF hB hd
               have kq1:=(HP w (HWR.out.trans (hB.mono HWR.out.size))).out.cell 5 _ rfl
               have kq2:=(HQ w (HWR.out.trans (hB.mono HWR.out.size))).out.cell 5 _ rfl
               have kx0:=cell_on hB cx0
               have kx1:=cell_on hB cx1
               have kx2:=cell_on hB cx2
               have kx3:=cell_on hB cx3
               have kx4:=cell_on hB cx4
               have kx5:=cell_on hB cx5
               have kx6:=cell_on hB cx6
               have kx7:=cell_on hB cx7
               have kx8:=cell_on hB cx8
               have ky0:=cell_on hB cy0
               have ky1:=cell_on hB cy1
               have ky2:=cell_on hB cy2
               have ky3:=cell_on hB cy3
               have ky4:=cell_on hB cy4
               have ky5:=cell_on hB cy5
               have ky6:=cell_on hB cy6
               have ky7:=cell_on hB cy7
               have ky8:=cell_on hB cy8
               have f2:a.tmps[2]?.getD undef=.pointer (some ⟨p1,0,none⟩):=Reg.ev_get (hF.eval 2 (fun i hi=>by show 168+i≠2;omega))
               have f3:a.tmps[3]?.getD undef=.pointer (some ⟨p2,0,none⟩):=Reg.ev_get (hF.eval 3 (fun i hi=>by show 168+i≠3;omega))
               have f10:a.tmps[10]?.getD undef=.int .i64 j:=Reg.ev_get (hF.eval 10 (fun i hi=>by show 168+i≠10;omega))
               have hcase:i=0\/i=1\/i=2\/i=3\/i=4\/i=5\/i=6\/i=7\/i=8\/i=9\/i=10\/i=11\/i=12\/i=13\/i=14\/i=15\/i=16\/i=17\/i=18\/i=19\/i=20\/i=21\/i=22\/i=23\/i=24\/i=25\/i=26\/i=27\/i=28\/i=29\/i=30\/i=31\/i=32\/i=33\/i=34\/i=35\/i=36\/i=37\/i=38\/i=39\/i=40\/i=41\/i=42\/i=43:=by omega
               clear hi
               rcases hcase with rfl|rfl|rfl|rfl|rfl|rfl|rfl|rfl|rfl|rfl|rfl|rfl|rfl|rfl|rfl|rfl|rfl|rfl|rfl|rfl|rfl|rfl|rfl|rfl|rfl|rfl|rfl|rfl|rfl|rfl|rfl|rfl|rfl|rfl|rfl|rfl|rfl|rfl|rfl|rfl|rfl|rfl|rfl|rfl
               all_goals (simp only [List.getElem?_toArray,List.getElem?_cons_succ,List.getElem?_cons_zero,Option.some.injEq] at ho;subst ho)
               ·refine Reg.Does.go rfl (Reg.step_k fun K hK=>?_)
                go_simp
                exact hK _ _ ⟨_,rfl,Below.refl _ _,rfl⟩
               ·have q0:a.tmps[168]?.getD undef=.pointer (some ⟨p1,5,none⟩):=Reg.ev_get (hd 0 (by decide))
                refine Reg.Does.go rfl (Reg.step_k fun K hK=>?_)
                go_simp
                exact hK _ _ ⟨_,rfl,Below.refl _ _,rfl⟩
               ·refine Reg.Does.go rfl (Reg.step_k fun K hK=>?_)
                go_simp
                exact hK _ _ ⟨_,rfl,Below.refl _ _,rfl⟩
               ·have q0:a.tmps[169]?.getD undef=.slice (some ⟨b1,off1,none⟩) n5 k5:=Reg.ev_get (hd 1 (by decide))
                have q1:a.tmps[170]?.getD undef=.int .i64 j:=Reg.ev_get (hd 2 (by decide))
                refine Reg.Does.go rfl (Reg.step_k fun K hK=>?_)
                go_simp
                exact hK _ _ ⟨_,rfl,Below.refl _ _,rfl⟩
               ·have q0:a.tmps[171]?.getD undef=.pointer (some ⟨b1,off1+j*9,none⟩):=Reg.ev_get (hd 3 (by decide))
                refine Reg.Does.go rfl (Reg.step_k fun K hK=>?_)
                go_simp
                exact hK _ _ ⟨_,rfl,Below.refl _ _,rfl⟩
               ·have q0:a.tmps[172]?.getD undef=.pointer (some ⟨b1,off1+j*9,none⟩):=Reg.ev_get (hd 4 (by decide))
                refine Reg.Does.go rfl (Reg.step_k fun K hK=>?_)
                go_simp
                exact hK _ _ ⟨_,rfl,Below.refl _ _,rfl⟩
               ·refine Reg.Does.go rfl (Reg.step_k fun K hK=>?_)
                go_simp
                exact hK _ _ ⟨_,rfl,Below.refl _ _,rfl⟩
               ·have q0:a.tmps[174]?.getD undef=.pointer (some ⟨p2,5,none⟩):=Reg.ev_get (hd 6 (by decide))
                refine Reg.Does.go rfl (Reg.step_k fun K hK=>?_)
                go_simp
                exact hK _ _ ⟨_,rfl,Below.refl _ _,rfl⟩
               ·refine Reg.Does.go rfl (Reg.step_k fun K hK=>?_)
                go_simp
                exact hK _ _ ⟨_,rfl,Below.refl _ _,rfl⟩
               ·have q0:a.tmps[175]?.getD undef=.slice (some ⟨b2,off2,none⟩) n5 h5:=Reg.ev_get (hd 7 (by decide))
                have q1:a.tmps[176]?.getD undef=.int .i64 j:=Reg.ev_get (hd 8 (by decide))
                refine Reg.Does.go rfl (Reg.step_k fun K hK=>?_)
                go_simp
                exact hK _ _ ⟨_,rfl,Below.refl _ _,rfl⟩
               ·have q0:a.tmps[177]?.getD undef=.pointer (some ⟨b2,off2+j*9,none⟩):=Reg.ev_get (hd 9 (by decide))
                refine Reg.Does.go rfl (Reg.step_k fun K hK=>?_)
                go_simp
                exact hK _ _ ⟨_,rfl,Below.refl _ _,rfl⟩
               ·have q0:a.tmps[178]?.getD undef=.pointer (some ⟨b2,off2+j*9,none⟩):=Reg.ev_get (hd 10 (by decide))
                refine Reg.Does.go rfl (Reg.step_k fun K hK=>?_)
                go_simp
                exact hK _ _ ⟨_,rfl,Below.refl _ _,rfl⟩
               ·have q0:a.tmps[173]?.getD undef=.int .i64 x.type:=Reg.ev_get (hd 5 (by decide))
                have q1:a.tmps[179]?.getD undef=.int .i64 y.type:=Reg.ev_get (hd 11 (by decide))
                refine Reg.Does.go rfl (Reg.step_k fun K hK=>?_)
                go_simp
                exact hK _ _ ⟨_,rfl,Below.refl _ _,congrArg (fun c=>Value.bool (!c)) (HC1.out.trans HE1.out).symm⟩
               ·have q0:a.tmps[180]?.getD undef=.bool (!C1):=Reg.ev_get (hd 12 (by decide))
                refine Reg.Does.go rfl (Reg.step_k fun K hK=>?_)
                go_simp
                exact hK _ _ ⟨_,rfl,Below.refl _ _,rfl⟩
               ·have qg:a.eval (.tmp 181)=.bool (!C1):=hd 13 (by decide)
                cases C1
                ·exact Reg.Does.skip rfl rfl rfl qg rfl
                ·refine Reg.Does.wanted rfl rfl rfl qg (Reg.step_k fun K hK=>?_)
                 clear qg
                 go_simp
                 exact hK _ _ ⟨_,rfl,Below.refl _ _,rfl⟩
               ·have qg:a.eval (.tmp 181)=.bool (!C1):=hd 13 (by decide)
                cases C1
                ·exact Reg.Does.skip rfl rfl rfl qg rfl
                ·refine Reg.Does.wanted rfl rfl rfl qg (Reg.step_k fun K hK=>?_)
                 clear qg
                 have q0:a.tmps[182]?.getD undef=.pointer (some ⟨p1,5,none⟩):=Reg.ev_get (hd 14 (by decide))
                 go_simp
                 exact hK _ _ ⟨_,rfl,Below.refl _ _,rfl⟩
               ·have qg:a.eval (.tmp 181)=.bool (!C1):=hd 13 (by decide)
                cases C1
                ·exact Reg.Does.skip rfl rfl rfl qg rfl
                ·refine Reg.Does.wanted rfl rfl rfl qg (Reg.step_k fun K hK=>?_)
                 clear qg
                 go_simp
                 exact hK _ _ ⟨_,rfl,Below.refl _ _,rfl⟩
               ·have qg:a.eval (.tmp 181)=.bool (!C1):=hd 13 (by decide)
                cases C1
                ·exact Reg.Does.skip rfl rfl rfl qg rfl
                ·refine Reg.Does.wanted rfl rfl rfl qg (Reg.step_k fun K hK=>?_)
                 clear qg
                 have q0:a.tmps[183]?.getD undef=.slice (some ⟨b1,off1,none⟩) n5 k5:=Reg.ev_get (hd 15 (by decide))
                 have q1:a.tmps[184]?.getD undef=.int .i64 j:=Reg.ev_get (hd 16 (by decide))
                 go_simp
                 exact hK _ _ ⟨_,rfl,Below.refl _ _,rfl⟩
               ·have qg:a.eval (.tmp 181)=.bool (!C1):=hd 13 (by decide)
                cases C1
                ·exact Reg.Does.skip rfl rfl rfl qg rfl
                ·refine Reg.Does.wanted rfl rfl rfl qg (Reg.step_k fun K hK=>?_)
                 clear qg
                 have q0:a.tmps[185]?.getD undef=.pointer (some ⟨b1,off1+j*9,none⟩):=Reg.ev_get (hd 17 (by decide))
                 go_simp
                 exact hK _ _ ⟨_,rfl,Below.refl _ _,rfl⟩
               ·have qg:a.eval (.tmp 181)=.bool (!C1):=hd 13 (by decide)
                cases C1
                ·exact Reg.Does.skip rfl rfl rfl qg rfl
                ·refine Reg.Does.wanted rfl rfl rfl qg (Reg.step_k fun K hK=>?_)
                 clear qg
                 have q0:a.tmps[186]?.getD undef=.pointer (some ⟨b1,off1+j*9+1,none⟩):=Reg.ev_get (hd 18 (by decide))
                 go_simp
                 exact hK _ _ ⟨_,rfl,Below.refl _ _,rfl⟩
               ·have qg:a.eval (.tmp 181)=.bool (!C1):=hd 13 (by decide)
                cases C1
                ·exact Reg.Does.skip rfl rfl rfl qg rfl
                ·refine Reg.Does.wanted rfl rfl rfl qg (Reg.step_k fun K hK=>?_)
                 clear qg
                 go_simp
                 exact hK _ _ ⟨_,rfl,Below.refl _ _,rfl⟩
               ·have qg:a.eval (.tmp 181)=.bool (!C1):=hd 13 (by decide)
                cases C1
                ·exact Reg.Does.skip rfl rfl rfl qg rfl
                ·refine Reg.Does.wanted rfl rfl rfl qg (Reg.step_k fun K hK=>?_)
                 clear qg
                 have q0:a.tmps[188]?.getD undef=.pointer (some ⟨p2,5,none⟩):=Reg.ev_get (hd 20 (by decide))
                 go_simp
                 exact hK _ _ ⟨_,rfl,Below.refl _ _,rfl⟩
               ·have qg:a.eval (.tmp 181)=.bool (!C1):=hd 13 (by decide)
                cases C1
                ·exact Reg.Does.skip rfl rfl rfl qg rfl
                ·refine Reg.Does.wanted rfl rfl rfl qg (Reg.step_k fun K hK=>?_)
                 clear qg
                 go_simp
                 exact hK _ _ ⟨_,rfl,Below.refl _ _,rfl⟩
               ·have qg:a.eval (.tmp 181)=.bool (!C1):=hd 13 (by decide)
                cases C1
                ·exact Reg.Does.skip rfl rfl rfl qg rfl
                ·refine Reg.Does.wanted rfl rfl rfl qg (Reg.step_k fun K hK=>?_)
                 clear qg
                 have q0:a.tmps[189]?.getD undef=.slice (some ⟨b2,off2,none⟩) n5 h5:=Reg.ev_get (hd 21 (by decide))
                 have q1:a.tmps[190]?.getD undef=.int .i64 j:=Reg.ev_get (hd 22 (by decide))
                 go_simp
                 exact hK _ _ ⟨_,rfl,Below.refl _ _,rfl⟩
               ·have qg:a.eval (.tmp 181)=.bool (!C1):=hd 13 (by decide)
                cases C1
                ·exact Reg.Does.skip rfl rfl rfl qg rfl
                ·refine Reg.Does.wanted rfl rfl rfl qg (Reg.step_k fun K hK=>?_)
                 clear qg
                 have q0:a.tmps[191]?.getD undef=.pointer (some ⟨b2,off2+j*9,none⟩):=Reg.ev_get (hd 23 (by decide))
                 go_simp
                 exact hK _ _ ⟨_,rfl,Below.refl _ _,rfl⟩
               ·have qg:a.eval (.tmp 181)=.bool (!C1):=hd 13 (by decide)
                cases C1
                ·exact Reg.Does.skip rfl rfl rfl qg rfl
                ·refine Reg.Does.wanted rfl rfl rfl qg (Reg.step_k fun K hK=>?_)
                 clear qg
                 have q0:a.tmps[192]?.getD undef=.pointer (some ⟨b2,off2+j*9+1,none⟩):=Reg.ev_get (hd 24 (by decide))
                 go_simp
                 exact hK _ _ ⟨_,rfl,Below.refl _ _,rfl⟩
               ·have qg:a.eval (.tmp 181)=.bool (!C1):=hd 13 (by decide)
                cases C1
                ·exact Reg.Does.skip rfl rfl rfl qg rfl
                ·refine Reg.Does.wanted rfl rfl rfl qg (Reg.step_k fun K hK=>?_)
                 clear qg
                 have q0:a.tmps[187]?.getD undef=.bool x.mtb:=Reg.ev_get (hd 19 (by decide))
                 have q1:a.tmps[193]?.getD undef=.bool y.mtb:=Reg.ev_get (hd 25 (by decide))
                 go_simp
                 exact hK _ _ ⟨_,rfl,Below.refl _ _,congrArg (fun c=>Value.bool (!c)) (HE2.out).symm⟩
               ·have qc:a.tmps[181]?.getD undef=.bool (!C1):=Reg.ev_get (hd 13 (by decide))
                have qe:a.tmps[194]?.getD undef=if C1 then .bool (!e2) else undef:=Reg.ev_get (hd 26 (by decide))
                refine Reg.Does.go rfl (Reg.step_k fun K hK=>?_)
                have HCN:=HC2
                cases C1
                ·simp only [Bool.not_false,Bool.false_eq_true,if_false] at qc qe
                 go_simp
                 exact hK _ _ ⟨_,rfl,Below.refl _ _,by rw [HCN.out];rfl⟩
                ·simp only [Bool.not_true,if_true] at qc qe
                 go_simp
                 exact hK _ _ ⟨_,rfl,Below.refl _ _,by rw [HCN.out];rfl⟩
               ·have q0:a.tmps[195]?.getD undef=.bool (!C2):=Reg.ev_get (hd 27 (by decide))
                refine Reg.Does.go rfl (Reg.step_k fun K hK=>?_)
                go_simp
                exact hK _ _ ⟨_,rfl,Below.refl _ _,rfl⟩
               ·have qg:a.eval (.tmp 196)=.bool (!C2):=hd 28 (by decide)
                cases C2
                ·exact Reg.Does.skip rfl rfl rfl qg rfl
                ·refine Reg.Does.wanted rfl rfl rfl qg (Reg.step_k fun K hK=>?_)
                 clear qg
                 go_simp
                 exact hK _ _ ⟨_,rfl,Below.refl _ _,rfl⟩
               ·have qg:a.eval (.tmp 196)=.bool (!C2):=hd 28 (by decide)
                cases C2
                ·exact Reg.Does.skip rfl rfl rfl qg rfl
                ·refine Reg.Does.wanted rfl rfl rfl qg (Reg.step_k fun K hK=>?_)
                 clear qg
                 have q0:a.tmps[197]?.getD undef=.pointer (some ⟨p1,5,none⟩):=Reg.ev_get (hd 29 (by decide))
                 go_simp
                 exact hK _ _ ⟨_,rfl,Below.refl _ _,rfl⟩
               ·have qg:a.eval (.tmp 196)=.bool (!C2):=hd 28 (by decide)
                cases C2
                ·exact Reg.Does.skip rfl rfl rfl qg rfl
                ·refine Reg.Does.wanted rfl rfl rfl qg (Reg.step_k fun K hK=>?_)
                 clear qg
                 go_simp
                 exact hK _ _ ⟨_,rfl,Below.refl _ _,rfl⟩
               ·have qg:a.eval (.tmp 196)=.bool (!C2):=hd 28 (by decide)
                cases C2
                ·exact Reg.Does.skip rfl rfl rfl qg rfl
                ·refine Reg.Does.wanted rfl rfl rfl qg (Reg.step_k fun K hK=>?_)
                 clear qg
                 have q0:a.tmps[198]?.getD undef=.slice (some ⟨b1,off1,none⟩) n5 k5:=Reg.ev_get (hd 30 (by decide))
                 have q1:a.tmps[199]?.getD undef=.int .i64 j:=Reg.ev_get (hd 31 (by decide))
                 go_simp
                 exact hK _ _ ⟨_,rfl,Below.refl _ _,rfl⟩
               ·have qg:a.eval (.tmp 196)=.bool (!C2):=hd 28 (by decide)
                cases C2
                ·exact Reg.Does.skip rfl rfl rfl qg rfl
                ·refine Reg.Does.wanted rfl rfl rfl qg (Reg.step_k fun K hK=>?_)
                 clear qg
                 have q0:a.tmps[200]?.getD undef=.pointer (some ⟨b1,off1+j*9,none⟩):=Reg.ev_get (hd 32 (by decide))
                 go_simp
                 exact hK _ _ ⟨_,rfl,Below.refl _ _,rfl⟩
               ·have qg:a.eval (.tmp 196)=.bool (!C2):=hd 28 (by decide)
                cases C2
                ·exact Reg.Does.skip rfl rfl rfl qg rfl
                ·refine Reg.Does.wanted rfl rfl rfl qg (Reg.step_k fun K hK=>?_)
                 clear qg
                 have q0:a.tmps[201]?.getD undef=.pointer (some ⟨b1,off1+j*9+2,none⟩):=Reg.ev_get (hd 33 (by decide))
                 go_simp
                 exact hK _ _ ⟨_,rfl,Below.refl _ _,rfl⟩
               ·have qg:a.eval (.tmp 196)=.bool (!C2):=hd 28 (by decide)
                cases C2
                ·exact Reg.Does.skip rfl rfl rfl qg rfl
                ·refine Reg.Does.wanted rfl rfl rfl qg (Reg.step_k fun K hK=>?_)
                 clear qg
                 go_simp
                 exact hK _ _ ⟨_,rfl,Below.refl _ _,rfl⟩
               ·have qg:a.eval (.tmp 196)=.bool (!C2):=hd 28 (by decide)
                cases C2
                ·exact Reg.Does.skip rfl rfl rfl qg rfl
                ·refine Reg.Does.wanted rfl rfl rfl qg (Reg.step_k fun K hK=>?_)
                 clear qg
                 have q0:a.tmps[203]?.getD undef=.pointer (some ⟨p2,5,none⟩):=Reg.ev_get (hd 35 (by decide))
                 go_simp
                 exact hK _ _ ⟨_,rfl,Below.refl _ _,rfl⟩
               ·have qg:a.eval (.tmp 196)=.bool (!C2):=hd 28 (by decide)
                cases C2
                ·exact Reg.Does.skip rfl rfl rfl qg rfl
                ·refine Reg.Does.wanted rfl rfl rfl qg (Reg.step_k fun K hK=>?_)
                 clear qg
                 go_simp
                 exact hK _ _ ⟨_,rfl,Below.refl _ _,rfl⟩
               ·have qg:a.eval (.tmp 196)=.bool (!C2):=hd 28 (by decide)
                cases C2
                ·exact Reg.Does.skip rfl rfl rfl qg rfl
                ·refine Reg.Does.wanted rfl rfl rfl qg (Reg.step_k fun K hK=>?_)
                 clear qg
                 have q0:a.tmps[204]?.getD undef=.slice (some ⟨b2,off2,none⟩) n5 h5:=Reg.ev_get (hd 36 (by decide))
                 have q1:a.tmps[205]?.getD undef=.int .i64 j:=Reg.ev_get (hd 37 (by decide))
                 go_simp
                 exact hK _ _ ⟨_,rfl,Below.refl _ _,rfl⟩
               ·have qg:a.eval (.tmp 196)=.bool (!C2):=hd 28 (by decide)
                cases C2
                ·exact Reg.Does.skip rfl rfl rfl qg rfl
                ·refine Reg.Does.wanted rfl rfl rfl qg (Reg.step_k fun K hK=>?_)
                 clear qg
                 have q0:a.tmps[206]?.getD undef=.pointer (some ⟨b2,off2+j*9,none⟩):=Reg.ev_get (hd 38 (by decide))
                 go_simp
                 exact hK _ _ ⟨_,rfl,Below.refl _ _,rfl⟩
               ·have qg:a.eval (.tmp 196)=.bool (!C2):=hd 28 (by decide)
                cases C2
                ·exact Reg.Does.skip rfl rfl rfl qg rfl
                ·refine Reg.Does.wanted rfl rfl rfl qg (Reg.step_k fun K hK=>?_)
                 clear qg
                 have q0:a.tmps[207]?.getD undef=.pointer (some ⟨b2,off2+j*9+2,none⟩):=Reg.ev_get (hd 39 (by decide))
                 go_simp
                 exact hK _ _ ⟨_,rfl,Below.refl _ _,rfl⟩
               ·have qg:a.eval (.tmp 196)=.bool (!C2):=hd 28 (by decide)
                cases C2
                ·exact Reg.Does.skip rfl rfl rfl qg rfl
                ·refine Reg.Does.wanted rfl rfl rfl qg (Reg.step_k fun K hK=>?_)
                 clear qg
                 have q0:a.tmps[202]?.getD undef=.agg #[.int .i64 x.init.op,.int .i64 x.init.a,.int .i64 x.init.b,.int .i64 x.init.n,.slice q4 y4 z4,.slice q5 y5 z5,.slice q6 y6 z6]:=Reg.ev_get (hd 34 (by decide))
                 have q1:a.tmps[208]?.getD undef=.agg #[.int .i64 y.init.op,.int .i64 y.init.a,.int .i64 y.init.b,.int .i64 y.init.n,.slice r4 s4 t4,.slice r5 s5 t5,.slice r6 s6 t6]:=Reg.ev_get (hd 40 (by decide))
                 have HKK:=hideR hK
                 clear hK
                 go_simp
                 refine (refInstr d _ _ _ _ _ _ _ _ _ _ _ _ _ _ _ _ _ _ _ _ w (AX4.out.on hB) (At.on hB d _ _ AX5.out) (At.on hB d _ _ AX6.out) (AY4.out.on hB) (At.on hB d _ _ AY5.out) (At.on hB d _ _ AY6.out)).mono ?_
                 rintro e w' ⟨rfl,hw⟩
                 exact HKK.out _ _ ⟨_,rfl,hw,by rw [HE3.out];rfl⟩
               ·have qg:a.eval (.tmp 196)=.bool (!C2):=hd 28 (by decide)
                cases C2
                ·exact Reg.Does.skip rfl rfl rfl qg rfl
                ·refine Reg.Does.wanted rfl rfl rfl qg (Reg.step_k fun K hK=>?_)
                 clear qg
                 have q0:a.tmps[209]?.getD undef=.bool e3:=Reg.ev_get (hd 41 (by decide))
                 go_simp
                 exact hK _ _ ⟨_,rfl,Below.refl _ _,rfl⟩
               ·have qc:a.tmps[196]?.getD undef=.bool (!C2):=Reg.ev_get (hd 28 (by decide))
                have qe:a.tmps[210]?.getD undef=if C2 then .bool (!e3) else undef:=Reg.ev_get (hd 42 (by decide))
                refine Reg.Does.go rfl (Reg.step_k fun K hK=>?_)
                have HCN:=HC3
                cases C2
                ·simp only [Bool.not_false,Bool.false_eq_true,if_false] at qc qe
                 go_simp
                 exact hK _ _ ⟨_,rfl,Below.refl _ _,by rw [HCN.out];rfl⟩
                ·simp only [Bool.not_true,if_true] at qc qe
                 go_simp
                 exact hK _ _ ⟨_,rfl,Below.refl _ _,by rw [HCN.out];rfl⟩
              case hend =>
               intro a w2 hF hB hG
               have gl:a.eval (.tmp 211)=.bool (!C3):=hG 43 (by omega)
               have HW2:=hideR (HWR.out.trans (hB.mono HWR.out.size))
               obtain ⟨xl,hxl,rfl,hev⟩:=hF.lit (by simp)
               rw [hev 43 (by omega)] at gl
               obtain ⟨x0,x1,x2,x3,x4,x5,x6,x7,x8,x9,x10,x11,x12,x13,x14,x15,x16,x17,x18,x19,x20,x21,x22,x23,x24,x25,x26,x27,x28,x29,x30,x31,x32,x33,x34,x35,x36,x37,x38,x39,x40,x41,x42,x43,rfl⟩:=slen44 hxl
               obtain rfl:x43=.bool (!C3):=gl
               clear hev hxl hF hG hB HE1 HC1 HE2 HC2 HE3 HC3
               simp only [List.take_succ_cons,List.take_zero,List.drop_succ_cons,List.drop_zero,List.cons_append,List.nil_append]
               cases C3
               ·have HRF:Hid (R=false):=hideR HRN.out
                clear HRN
                go_wp2
                go_ret
                exact ⟨by rw [HRF.out];rfl,below_go' HU.out HW2.out⟩
               ·have HRT:Hid (R=(samB fG (m.globals.drop (j+1)) (k.globals.drop (j+1)) && (samB fX m.exports k.exports && (samB fE m.elems k.elems && (samB fD m.datas k.datas && true))))):=hideR HRN.out
                clear HRN
                go_wp2
                go_roundw
                case rel=>exact ⟨j+1,by omega,by go_num,HRT,HW2⟩
                case measure=>simp [intOf];omega
             ·obtain rfl:n5=j:=by omega
              have HR:=hideR (samB_end (by omega) (by omega) HRJ.out)
              clear HRJ
              go_wp2_with fail
              go_loopw [11] (fun i wr=>∃j:Nat,j<=n6/\i=.int .i64 j/\Hid (R=(samB fX (m.exports.drop j) (k.exports.drop j) && (samB fE m.elems k.elems && (samB fD m.datas k.datas && true))))/\Hid (Below u1.heap.size u1 wr)) (fun i _=>n6-(intOf i).toNat)
              case atStart=>exact ⟨0,by omega,rfl,HR,HWR⟩
              case round =>
               clear HR HWR
               obtain ⟨j,hj,rfl,HRJ,HWR⟩:=hrel
               have kp:=(HP _ HWR.out).out.cell 6 _ rfl
               by_cases hgo:j<n6
               ·obtain ⟨b1,off1,cap1,hv1,hx1⟩:=Row.some HMU.out.exports (by omega)
                injection hv1 with ho1 e11 e12
                subst ho1
                clear e11 e12
                obtain ⟨b2,off2,cap2,hv2,hx2⟩:=Row.some HKU.out.exports (by omega)
                injection hv2 with ho2 e21 e22
                subst ho2
                clear e21 e22
                obtain ⟨x,hxk⟩:∃x,m.exports[j]?=some x:=⟨_,List.getElem?_eq_getElem (by omega)⟩
                obtain ⟨y,hyk⟩:∃y,k.exports[j]?=some y:=⟨_,List.getElem?_eq_getElem (by omega)⟩
                have HX:=hideR ((hx1 j x hxk).on HWR.out)
                have HY:=hideR ((hx2 j y hyk).on HWR.out)
                have HRN:=hideR (samB_on hxk hyk HRJ.out)
                clear hx1 hx2 hxk hyk HRJ HMU HKU HM HK
                obtain ⟨cx0,cx1,cx2⟩:=HX.out
                obtain ⟨cy0,cy1,cy2⟩:=HY.out
                obtain ⟨e1,HE10⟩:∃e,e=fX x y:=⟨_,rfl⟩
                have HE1:=hideR HE10
                clear HE10
                obtain ⟨C1,HC10⟩:∃c,c=e1:=⟨_,rfl⟩
                have HC1:=hideR HC10
                clear HC10
                have HFX:Hid (fX x y=C1):=hideR (by rw [HC1.out,HE1.out]<;>rfl)
                rw [HFX.out] at HRN
                clear HFX
                go_upto_region 36 with fail
                refine Reg.wp_region_all 11 (fun i=>219+i) (fun i=>(S6 j p1 p2 b1 b2 off1 off2 n6 k6 h6 C1 e1 x y i).1) (by kernel_rfl) (by kernel_rfl) (fun i j h1 h2 h=>by have h':219+i=219+j:=h;omega) (Reg.dst_okG (size:=303) (by kernel_rfl)) (fun i v w w' _ h hb=>(S6 j p1 p2 b1 b2 off1 off2 n6 k6 h6 C1 e1 x y i).2 v w w' h hb) ?hstep ?hend
                case hstep =>
                 intro i o a w hi ho hF hB hd
                 have kq1:=(HP w (HWR.out.trans (hB.mono HWR.out.size))).out.cell 6 _ rfl
                 have kq2:=(HQ w (HWR.out.trans (hB.mono HWR.out.size))).out.cell 6 _ rfl
                 have kx0:=cell_on hB cx0
                 have kx1:=cell_on hB cx1
                 have kx2:=cell_on hB cx2
                 have ky0:=cell_on hB cy0
                 have ky1:=cell_on hB cy1
                 have ky2:=cell_on hB cy2
                 have f2:a.tmps[2]?.getD undef=.pointer (some ⟨p1,0,none⟩):=Reg.ev_get (hF.eval 2 (fun i hi=>by show 219+i≠2;omega))
                 have f3:a.tmps[3]?.getD undef=.pointer (some ⟨p2,0,none⟩):=Reg.ev_get (hF.eval 3 (fun i hi=>by show 219+i≠3;omega))
                 have f11:a.tmps[11]?.getD undef=.int .i64 j:=Reg.ev_get (hF.eval 11 (fun i hi=>by show 219+i≠11;omega))
                 have hcase:i=0\/i=1\/i=2\/i=3\/i=4\/i=5\/i=6\/i=7\/i=8\/i=9\/i=10:=by omega
                 clear hi
                 rcases hcase with rfl|rfl|rfl|rfl|rfl|rfl|rfl|rfl|rfl|rfl|rfl
                 all_goals (simp only [List.getElem?_toArray,List.getElem?_cons_succ,List.getElem?_cons_zero,Option.some.injEq] at ho;subst ho)
                 ·refine Reg.Does.go rfl (Reg.step_k fun K hK=>?_)
                  go_simp
                  exact hK _ _ ⟨_,rfl,Below.refl _ _,rfl⟩
                 ·have q0:a.tmps[219]?.getD undef=.pointer (some ⟨p1,6,none⟩):=Reg.ev_get (hd 0 (by decide))
                  refine Reg.Does.go rfl (Reg.step_k fun K hK=>?_)
                  go_simp
                  exact hK _ _ ⟨_,rfl,Below.refl _ _,rfl⟩
                 ·refine Reg.Does.go rfl (Reg.step_k fun K hK=>?_)
                  go_simp
                  exact hK _ _ ⟨_,rfl,Below.refl _ _,rfl⟩
                 ·have q0:a.tmps[220]?.getD undef=.slice (some ⟨b1,off1,none⟩) n6 k6:=Reg.ev_get (hd 1 (by decide))
                  have q1:a.tmps[221]?.getD undef=.int .i64 j:=Reg.ev_get (hd 2 (by decide))
                  refine Reg.Does.go rfl (Reg.step_k fun K hK=>?_)
                  go_simp
                  exact hK _ _ ⟨_,rfl,Below.refl _ _,rfl⟩
                 ·have q0:a.tmps[222]?.getD undef=.pointer (some ⟨b1,off1+j*3,none⟩):=Reg.ev_get (hd 3 (by decide))
                  refine Reg.Does.go rfl (Reg.step_k fun K hK=>?_)
                  go_simp
                  exact hK _ _ ⟨_,rfl,Below.refl _ _,rfl⟩
                 ·refine Reg.Does.go rfl (Reg.step_k fun K hK=>?_)
                  go_simp
                  exact hK _ _ ⟨_,rfl,Below.refl _ _,rfl⟩
                 ·have q0:a.tmps[224]?.getD undef=.pointer (some ⟨p2,6,none⟩):=Reg.ev_get (hd 5 (by decide))
                  refine Reg.Does.go rfl (Reg.step_k fun K hK=>?_)
                  go_simp
                  exact hK _ _ ⟨_,rfl,Below.refl _ _,rfl⟩
                 ·refine Reg.Does.go rfl (Reg.step_k fun K hK=>?_)
                  go_simp
                  exact hK _ _ ⟨_,rfl,Below.refl _ _,rfl⟩
                 ·have q0:a.tmps[225]?.getD undef=.slice (some ⟨b2,off2,none⟩) n6 h6:=Reg.ev_get (hd 6 (by decide))
                  have q1:a.tmps[226]?.getD undef=.int .i64 j:=Reg.ev_get (hd 7 (by decide))
                  refine Reg.Does.go rfl (Reg.step_k fun K hK=>?_)
                  go_simp
                  exact hK _ _ ⟨_,rfl,Below.refl _ _,rfl⟩
                 ·have q0:a.tmps[227]?.getD undef=.pointer (some ⟨b2,off2+j*3,none⟩):=Reg.ev_get (hd 8 (by decide))
                  refine Reg.Does.go rfl (Reg.step_k fun K hK=>?_)
                  go_simp
                  exact hK _ _ ⟨_,rfl,Below.refl _ _,rfl⟩
                 ·have q0:a.tmps[223]?.getD undef=.agg #[.string x.name,.int .i64 x.kind,.int .i64 x.index]:=Reg.ev_get (hd 4 (by decide))
                  have q1:a.tmps[228]?.getD undef=.agg #[.string y.name,.int .i64 y.kind,.int .i64 y.index]:=Reg.ev_get (hd 9 (by decide))
                  refine Reg.Does.go rfl (Reg.step_k fun K hK=>?_)
                  rcases Decidable.em (x.name.toList=y.name.toList) with h0|h0<;>rcases Decidable.em (x.kind=y.kind) with h1|h1<;>rcases Decidable.em (x.index=y.index) with h2|h2<;>(go_simp;exact hK _ _ ⟨_,rfl,Below.refl _ _,by show Value.bool _=Value.bool (!C1);rw [HC1.out,HE1.out];simp [fX,h0,h1,h2]⟩)
                case hend =>
                 intro a w2 hF hB hG
                 have gl:a.eval (.tmp 229)=.bool (!C1):=hG 10 (by omega)
                 have HW2:=hideR (HWR.out.trans (hB.mono HWR.out.size))
                 obtain ⟨xl,hxl,rfl,hev⟩:=hF.lit (by simp)
                 rw [hev 10 (by omega)] at gl
                 obtain ⟨x0,x1,x2,x3,x4,x5,x6,x7,x8,x9,x10,rfl⟩:=slen11 hxl
                 obtain rfl:x10=.bool (!C1):=gl
                 clear hev hxl hF hG hB HE1 HC1
                 simp only [List.take_succ_cons,List.take_zero,List.drop_succ_cons,List.drop_zero,List.cons_append,List.nil_append]
                 cases C1
                 ·have HRF:Hid (R=false):=hideR HRN.out
                  clear HRN
                  go_wp2
                  go_ret
                  exact ⟨by rw [HRF.out];rfl,below_go' HU.out HW2.out⟩
                 ·have HRT:Hid (R=(samB fX (m.exports.drop (j+1)) (k.exports.drop (j+1)) && (samB fE m.elems k.elems && (samB fD m.datas k.datas && true)))):=hideR HRN.out
                  clear HRN
                  go_wp2
                  go_roundw
                  case rel=>exact ⟨j+1,by omega,by go_num,HRT,HW2⟩
                  case measure=>simp [intOf];omega
               ·obtain rfl:n6=j:=by omega
                have HR:=hideR (samB_end (by omega) (by omega) HRJ.out)
                clear HRJ
                go_wp2_with fail
                go_loopw [12] (fun i wr=>∃j:Nat,j<=n8/\i=.int .i64 j/\Hid (R=(samB fE (m.elems.drop j) (k.elems.drop j) && (samB fD m.datas k.datas && true)))/\Hid (Below u1.heap.size u1 wr)) (fun i _=>n8-(intOf i).toNat)
                case atStart=>exact ⟨0,by omega,rfl,HR,HWR⟩
                case round =>
                 clear HR HWR
                 obtain ⟨j,hj,rfl,HRJ,HWR⟩:=hrel
                 have kp:=(HP _ HWR.out).out.cell 8 _ rfl
                 by_cases hgo:j<n8
                 ·obtain ⟨b1,off1,cap1,hv1,hx1⟩:=Row.some HMU.out.elems (by omega)
                  injection hv1 with ho1 e11 e12
                  subst ho1
                  clear e11 e12
                  obtain ⟨b2,off2,cap2,hv2,hx2⟩:=Row.some HKU.out.elems (by omega)
                  injection hv2 with ho2 e21 e22
                  subst ho2
                  clear e21 e22
                  obtain ⟨x,hxk⟩:∃x,m.elems[j]?=some x:=⟨_,List.getElem?_eq_getElem (by omega)⟩
                  obtain ⟨y,hyk⟩:∃y,k.elems[j]?=some y:=⟨_,List.getElem?_eq_getElem (by omega)⟩
                  have HX:=hideR ((hx1 j x hxk).on HWR.out)
                  have HY:=hideR ((hx2 j y hyk).on HWR.out)
                  have HRN:=hideR (samB_on hxk hyk HRJ.out)
                  clear hx1 hx2 hxk hyk HRJ HMU HKU HM HK
                  obtain ⟨⟨cx0,cx1,cx2,cx3,⟨v4,cx4,a4⟩,⟨v5,cx5,a5⟩,⟨v6,cx6,a6⟩⟩,⟨v7,cx7,a7⟩⟩:=HX.out
                  obtain ⟨q4,z4,rfl⟩:=Row.len a4
                  have AX4:=hideR a4
                  clear a4
                  obtain ⟨q5,z5,rfl⟩:=At.len d _ _ a5
                  have AX5:=hideR a5
                  clear a5
                  obtain ⟨q6,z6,rfl⟩:=At.len d _ _ a6
                  have AX6:=hideR a6
                  clear a6
                  obtain ⟨q7,z7,rfl⟩:=Row.len a7
                  have AX7:=hideR a7
                  clear a7
                  generalize hy4:x.offset.labels.length=y4 at *
                  generalize hy5:size d x.offset.body=y5 at *
                  generalize hy6:size d x.offset.els=y6 at *
                  generalize hy7:x.funcs.length=y7 at *
                  obtain ⟨⟨cy0,cy1,cy2,cy3,⟨v4,cy4,a4⟩,⟨v5,cy5,a5⟩,⟨v6,cy6,a6⟩⟩,⟨v7,cy7,a7⟩⟩:=HY.out
                  obtain ⟨r4,t4,rfl⟩:=Row.len a4
                  have AY4:=hideR a4
                  clear a4
                  obtain ⟨r5,t5,rfl⟩:=At.len d _ _ a5
                  have AY5:=hideR a5
                  clear a5
                  obtain ⟨r6,t6,rfl⟩:=At.len d _ _ a6
                  have AY6:=hideR a6
                  clear a6
                  obtain ⟨r7,t7,rfl⟩:=Row.len a7
                  have AY7:=hideR a7
                  clear a7
                  generalize hs4:y.offset.labels.length=s4 at *
                  generalize hs5:size d y.offset.body=s5 at *
                  generalize hs6:size d y.offset.els=s6 at *
                  generalize hs7:y.funcs.length=s7 at *
                  obtain ⟨e1,HE10⟩:∃e,e=sam1 (samI d) x.offset y.offset:=⟨_,rfl⟩
                  have HE1:=hideR HE10
                  clear HE10
                  obtain ⟨e2,HE20⟩:∃e,e=decide (x.funcs=y.funcs):=⟨_,rfl⟩
                  have HE2:=hideR HE20
                  clear HE20
                  obtain ⟨C1,HC10⟩:∃c,c=e1:=⟨_,rfl⟩
                  have HC1:=hideR HC10
                  clear HC10
                  obtain ⟨C2,HC20⟩:∃c,c=(C1 && e2):=⟨_,rfl⟩
                  have HC2:=hideR HC20
                  clear HC20
                  have HFX:Hid (fE x y=C2):=hideR (by rw [HC2.out,HC1.out,HE1.out,HE2.out]<;>rfl)
                  rw [HFX.out] at HRN
                  clear HFX
                  go_upto_region 41 with fail
                  refine Reg.wp_region_all 30 (fun i=>237+i) (fun i=>(S8 j p1 p2 b1 b2 off1 off2 n8 k8 h8 y4 y5 y6 y7 z4 z5 z6 z7 s4 s5 s6 s7 t4 t5 t6 t7 q4 q5 q6 q7 r4 r5 r6 r7 C1 C2 e1 e2 x y i).1) (by kernel_rfl) (by kernel_rfl) (fun i j h1 h2 h=>by have h':237+i=237+j:=h;omega) (Reg.dst_okG (size:=303) (by kernel_rfl)) (fun i v w w' _ h hb=>(S8 j p1 p2 b1 b2 off1 off2 n8 k8 h8 y4 y5 y6 y7 z4 z5 z6 z7 s4 s5 s6 s7 t4 t5 t6 t7 q4 q5 q6 q7 r4 r5 r6 r7 C1 C2 e1 e2 x y i).2 v w w' h hb) ?hstep ?hend
                  case hstep =>
                   intro i o a w hi ho hF hB hd
                   have kq1:=(HP w (HWR.out.trans (hB.mono HWR.out.size))).out.cell 8 _ rfl
                   have kq2:=(HQ w (HWR.out.trans (hB.mono HWR.out.size))).out.cell 8 _ rfl
                   have kx0:=cell_on hB cx0
                   have kx1:=cell_on hB cx1
                   have kx2:=cell_on hB cx2
                   have kx3:=cell_on hB cx3
                   have kx4:=cell_on hB cx4
                   have kx5:=cell_on hB cx5
                   have kx6:=cell_on hB cx6
                   have kx7:=cell_on hB cx7
                   have ky0:=cell_on hB cy0
                   have ky1:=cell_on hB cy1
                   have ky2:=cell_on hB cy2
                   have ky3:=cell_on hB cy3
                   have ky4:=cell_on hB cy4
                   have ky5:=cell_on hB cy5
                   have ky6:=cell_on hB cy6
                   have ky7:=cell_on hB cy7
                   have f2:a.tmps[2]?.getD undef=.pointer (some ⟨p1,0,none⟩):=Reg.ev_get (hF.eval 2 (fun i hi=>by show 237+i≠2;omega))
                   have f3:a.tmps[3]?.getD undef=.pointer (some ⟨p2,0,none⟩):=Reg.ev_get (hF.eval 3 (fun i hi=>by show 237+i≠3;omega))
                   have f12:a.tmps[12]?.getD undef=.int .i64 j:=Reg.ev_get (hF.eval 12 (fun i hi=>by show 237+i≠12;omega))
                   have hcase:i=0\/i=1\/i=2\/i=3\/i=4\/i=5\/i=6\/i=7\/i=8\/i=9\/i=10\/i=11\/i=12\/i=13\/i=14\/i=15\/i=16\/i=17\/i=18\/i=19\/i=20\/i=21\/i=22\/i=23\/i=24\/i=25\/i=26\/i=27\/i=28\/i=29:=by omega
                   clear hi
                   rcases hcase with rfl|rfl|rfl|rfl|rfl|rfl|rfl|rfl|rfl|rfl|rfl|rfl|rfl|rfl|rfl|rfl|rfl|rfl|rfl|rfl|rfl|rfl|rfl|rfl|rfl|rfl|rfl|rfl|rfl|rfl
                   all_goals (simp only [List.getElem?_toArray,List.getElem?_cons_succ,List.getElem?_cons_zero,Option.some.injEq] at ho;subst ho)
                   ·refine Reg.Does.go rfl (Reg.step_k fun K hK=>?_)
                    go_simp
                    exact hK _ _ ⟨_,rfl,Below.refl _ _,rfl⟩
                   ·have q0:a.tmps[237]?.getD undef=.pointer (some ⟨p1,8,none⟩):=Reg.ev_get (hd 0 (by decide))
                    refine Reg.Does.go rfl (Reg.step_k fun K hK=>?_)
                    go_simp
                    exact hK _ _ ⟨_,rfl,Below.refl _ _,rfl⟩
                   ·refine Reg.Does.go rfl (Reg.step_k fun K hK=>?_)
                    go_simp
                    exact hK _ _ ⟨_,rfl,Below.refl _ _,rfl⟩
                   ·have q0:a.tmps[238]?.getD undef=.slice (some ⟨b1,off1,none⟩) n8 k8:=Reg.ev_get (hd 1 (by decide))
                    have q1:a.tmps[239]?.getD undef=.int .i64 j:=Reg.ev_get (hd 2 (by decide))
                    refine Reg.Does.go rfl (Reg.step_k fun K hK=>?_)
                    go_simp
                    exact hK _ _ ⟨_,rfl,Below.refl _ _,rfl⟩
                   ·have q0:a.tmps[240]?.getD undef=.pointer (some ⟨b1,off1+j*8,none⟩):=Reg.ev_get (hd 3 (by decide))
                    refine Reg.Does.go rfl (Reg.step_k fun K hK=>?_)
                    go_simp
                    exact hK _ _ ⟨_,rfl,Below.refl _ _,rfl⟩
                   ·have q0:a.tmps[241]?.getD undef=.pointer (some ⟨b1,off1+j*8,none⟩):=Reg.ev_get (hd 4 (by decide))
                    refine Reg.Does.go rfl (Reg.step_k fun K hK=>?_)
                    go_simp
                    exact hK _ _ ⟨_,rfl,Below.refl _ _,rfl⟩
                   ·refine Reg.Does.go rfl (Reg.step_k fun K hK=>?_)
                    go_simp
                    exact hK _ _ ⟨_,rfl,Below.refl _ _,rfl⟩
                   ·have q0:a.tmps[243]?.getD undef=.pointer (some ⟨p2,8,none⟩):=Reg.ev_get (hd 6 (by decide))
                    refine Reg.Does.go rfl (Reg.step_k fun K hK=>?_)
                    go_simp
                    exact hK _ _ ⟨_,rfl,Below.refl _ _,rfl⟩
                   ·refine Reg.Does.go rfl (Reg.step_k fun K hK=>?_)
                    go_simp
                    exact hK _ _ ⟨_,rfl,Below.refl _ _,rfl⟩
                   ·have q0:a.tmps[244]?.getD undef=.slice (some ⟨b2,off2,none⟩) n8 h8:=Reg.ev_get (hd 7 (by decide))
                    have q1:a.tmps[245]?.getD undef=.int .i64 j:=Reg.ev_get (hd 8 (by decide))
                    refine Reg.Does.go rfl (Reg.step_k fun K hK=>?_)
                    go_simp
                    exact hK _ _ ⟨_,rfl,Below.refl _ _,rfl⟩
                   ·have q0:a.tmps[246]?.getD undef=.pointer (some ⟨b2,off2+j*8,none⟩):=Reg.ev_get (hd 9 (by decide))
                    refine Reg.Does.go rfl (Reg.step_k fun K hK=>?_)
                    go_simp
                    exact hK _ _ ⟨_,rfl,Below.refl _ _,rfl⟩
                   ·have q0:a.tmps[247]?.getD undef=.pointer (some ⟨b2,off2+j*8,none⟩):=Reg.ev_get (hd 10 (by decide))
                    refine Reg.Does.go rfl (Reg.step_k fun K hK=>?_)
                    go_simp
                    exact hK _ _ ⟨_,rfl,Below.refl _ _,rfl⟩
                   ·have q0:a.tmps[242]?.getD undef=.agg #[.int .i64 x.offset.op,.int .i64 x.offset.a,.int .i64 x.offset.b,.int .i64 x.offset.n,.slice q4 y4 z4,.slice q5 y5 z5,.slice q6 y6 z6]:=Reg.ev_get (hd 5 (by decide))
                    have q1:a.tmps[248]?.getD undef=.agg #[.int .i64 y.offset.op,.int .i64 y.offset.a,.int .i64 y.offset.b,.int .i64 y.offset.n,.slice r4 s4 t4,.slice r5 s5 t5,.slice r6 s6 t6]:=Reg.ev_get (hd 11 (by decide))
                    refine Reg.Does.go rfl (Reg.step_k fun K hK=>?_)
                    have HKK:=hideR hK
                    clear hK
                    go_simp
                    refine (refInstr d _ _ _ _ _ _ _ _ _ _ _ _ _ _ _ _ _ _ _ _ w (AX4.out.on hB) (At.on hB d _ _ AX5.out) (At.on hB d _ _ AX6.out) (AY4.out.on hB) (At.on hB d _ _ AY5.out) (At.on hB d _ _ AY6.out)).mono ?_
                    rintro e w' ⟨rfl,hw⟩
                    exact HKK.out _ _ ⟨_,rfl,hw,by rw [HE1.out];rfl⟩
                   ·have q0:a.tmps[249]?.getD undef=.bool e1:=Reg.ev_get (hd 12 (by decide))
                    refine Reg.Does.go rfl (Reg.step_k fun K hK=>?_)
                    go_simp
                    exact hK _ _ ⟨_,rfl,Below.refl _ _,congrArg (fun c=>Value.bool (!c)) HC1.out.symm⟩
                   ·have q0:a.tmps[250]?.getD undef=.bool (!C1):=Reg.ev_get (hd 13 (by decide))
                    refine Reg.Does.go rfl (Reg.step_k fun K hK=>?_)
                    go_simp
                    exact hK _ _ ⟨_,rfl,Below.refl _ _,rfl⟩
                   ·have qg:a.eval (.tmp 251)=.bool (!C1):=hd 14 (by decide)
                    cases C1
                    ·exact Reg.Does.skip rfl rfl rfl qg rfl
                    ·refine Reg.Does.wanted rfl rfl rfl qg (Reg.step_k fun K hK=>?_)
                     clear qg
                     go_simp
                     exact hK _ _ ⟨_,rfl,Below.refl _ _,rfl⟩
                   ·have qg:a.eval (.tmp 251)=.bool (!C1):=hd 14 (by decide)
                    cases C1
                    ·exact Reg.Does.skip rfl rfl rfl qg rfl
                    ·refine Reg.Does.wanted rfl rfl rfl qg (Reg.step_k fun K hK=>?_)
                     clear qg
                     have q0:a.tmps[252]?.getD undef=.pointer (some ⟨p1,8,none⟩):=Reg.ev_get (hd 15 (by decide))
                     go_simp
                     exact hK _ _ ⟨_,rfl,Below.refl _ _,rfl⟩
                   ·have qg:a.eval (.tmp 251)=.bool (!C1):=hd 14 (by decide)
                    cases C1
                    ·exact Reg.Does.skip rfl rfl rfl qg rfl
                    ·refine Reg.Does.wanted rfl rfl rfl qg (Reg.step_k fun K hK=>?_)
                     clear qg
                     go_simp
                     exact hK _ _ ⟨_,rfl,Below.refl _ _,rfl⟩
                   ·have qg:a.eval (.tmp 251)=.bool (!C1):=hd 14 (by decide)
                    cases C1
                    ·exact Reg.Does.skip rfl rfl rfl qg rfl
                    ·refine Reg.Does.wanted rfl rfl rfl qg (Reg.step_k fun K hK=>?_)
                     clear qg
                     have q0:a.tmps[253]?.getD undef=.slice (some ⟨b1,off1,none⟩) n8 k8:=Reg.ev_get (hd 16 (by decide))
                     have q1:a.tmps[254]?.getD undef=.int .i64 j:=Reg.ev_get (hd 17 (by decide))
                     go_simp
                     exact hK _ _ ⟨_,rfl,Below.refl _ _,rfl⟩
                   ·have qg:a.eval (.tmp 251)=.bool (!C1):=hd 14 (by decide)
                    cases C1
                    ·exact Reg.Does.skip rfl rfl rfl qg rfl
                    ·refine Reg.Does.wanted rfl rfl rfl qg (Reg.step_k fun K hK=>?_)
                     clear qg
                     have q0:a.tmps[255]?.getD undef=.pointer (some ⟨b1,off1+j*8,none⟩):=Reg.ev_get (hd 18 (by decide))
                     go_simp
                     exact hK _ _ ⟨_,rfl,Below.refl _ _,rfl⟩
                   ·have qg:a.eval (.tmp 251)=.bool (!C1):=hd 14 (by decide)
                    cases C1
                    ·exact Reg.Does.skip rfl rfl rfl qg rfl
                    ·refine Reg.Does.wanted rfl rfl rfl qg (Reg.step_k fun K hK=>?_)
                     clear qg
                     have q0:a.tmps[256]?.getD undef=.pointer (some ⟨b1,off1+j*8+7,none⟩):=Reg.ev_get (hd 19 (by decide))
                     go_simp
                     exact hK _ _ ⟨_,rfl,Below.refl _ _,rfl⟩
                   ·have qg:a.eval (.tmp 251)=.bool (!C1):=hd 14 (by decide)
                    cases C1
                    ·exact Reg.Does.skip rfl rfl rfl qg rfl
                    ·refine Reg.Does.wanted rfl rfl rfl qg (Reg.step_k fun K hK=>?_)
                     clear qg
                     go_simp
                     exact hK _ _ ⟨_,rfl,Below.refl _ _,rfl⟩
                   ·have qg:a.eval (.tmp 251)=.bool (!C1):=hd 14 (by decide)
                    cases C1
                    ·exact Reg.Does.skip rfl rfl rfl qg rfl
                    ·refine Reg.Does.wanted rfl rfl rfl qg (Reg.step_k fun K hK=>?_)
                     clear qg
                     have q0:a.tmps[258]?.getD undef=.pointer (some ⟨p2,8,none⟩):=Reg.ev_get (hd 21 (by decide))
                     go_simp
                     exact hK _ _ ⟨_,rfl,Below.refl _ _,rfl⟩
                   ·have qg:a.eval (.tmp 251)=.bool (!C1):=hd 14 (by decide)
                    cases C1
                    ·exact Reg.Does.skip rfl rfl rfl qg rfl
                    ·refine Reg.Does.wanted rfl rfl rfl qg (Reg.step_k fun K hK=>?_)
                     clear qg
                     go_simp
                     exact hK _ _ ⟨_,rfl,Below.refl _ _,rfl⟩
                   ·have qg:a.eval (.tmp 251)=.bool (!C1):=hd 14 (by decide)
                    cases C1
                    ·exact Reg.Does.skip rfl rfl rfl qg rfl
                    ·refine Reg.Does.wanted rfl rfl rfl qg (Reg.step_k fun K hK=>?_)
                     clear qg
                     have q0:a.tmps[259]?.getD undef=.slice (some ⟨b2,off2,none⟩) n8 h8:=Reg.ev_get (hd 22 (by decide))
                     have q1:a.tmps[260]?.getD undef=.int .i64 j:=Reg.ev_get (hd 23 (by decide))
                     go_simp
                     exact hK _ _ ⟨_,rfl,Below.refl _ _,rfl⟩
                   ·have qg:a.eval (.tmp 251)=.bool (!C1):=hd 14 (by decide)
                    cases C1
                    ·exact Reg.Does.skip rfl rfl rfl qg rfl
                    ·refine Reg.Does.wanted rfl rfl rfl qg (Reg.step_k fun K hK=>?_)
                     clear qg
                     have q0:a.tmps[261]?.getD undef=.pointer (some ⟨b2,off2+j*8,none⟩):=Reg.ev_get (hd 24 (by decide))
                     go_simp
                     exact hK _ _ ⟨_,rfl,Below.refl _ _,rfl⟩
                   ·have qg:a.eval (.tmp 251)=.bool (!C1):=hd 14 (by decide)
                    cases C1
                    ·exact Reg.Does.skip rfl rfl rfl qg rfl
                    ·refine Reg.Does.wanted rfl rfl rfl qg (Reg.step_k fun K hK=>?_)
                     clear qg
                     have q0:a.tmps[262]?.getD undef=.pointer (some ⟨b2,off2+j*8+7,none⟩):=Reg.ev_get (hd 25 (by decide))
                     go_simp
                     exact hK _ _ ⟨_,rfl,Below.refl _ _,rfl⟩
                   ·have qg:a.eval (.tmp 251)=.bool (!C1):=hd 14 (by decide)
                    cases C1
                    ·exact Reg.Does.skip rfl rfl rfl qg rfl
                    ·refine Reg.Does.wanted rfl rfl rfl qg (Reg.step_k fun K hK=>?_)
                     clear qg
                     have q0:a.tmps[257]?.getD undef=.slice q7 y7 z7:=Reg.ev_get (hd 20 (by decide))
                     have q1:a.tmps[263]?.getD undef=.slice r7 s7 t7:=Reg.ev_get (hd 26 (by decide))
                     have HKK:=hideR hK
                     clear hK
                     go_simp
                     refine (refKeep _ _ _ _ w (AX7.out.on hB) (AY7.out.on hB)).mono ?_
                     rintro e w' ⟨rfl,hw⟩
                     exact HKK.out _ _ ⟨_,rfl,by obtain ⟨n,rfl⟩:=hw;exact below_drewN' w n,by rw [HE2.out];rfl⟩
                   ·have qg:a.eval (.tmp 251)=.bool (!C1):=hd 14 (by decide)
                    cases C1
                    ·exact Reg.Does.skip rfl rfl rfl qg rfl
                    ·refine Reg.Does.wanted rfl rfl rfl qg (Reg.step_k fun K hK=>?_)
                     clear qg
                     have q0:a.tmps[264]?.getD undef=.bool e2:=Reg.ev_get (hd 27 (by decide))
                     go_simp
                     exact hK _ _ ⟨_,rfl,Below.refl _ _,rfl⟩
                   ·have qc:a.tmps[251]?.getD undef=.bool (!C1):=Reg.ev_get (hd 14 (by decide))
                    have qe:a.tmps[265]?.getD undef=if C1 then .bool (!e2) else undef:=Reg.ev_get (hd 28 (by decide))
                    refine Reg.Does.go rfl (Reg.step_k fun K hK=>?_)
                    have HCN:=HC2
                    cases C1
                    ·simp only [Bool.not_false,Bool.false_eq_true,if_false] at qc qe
                     go_simp
                     exact hK _ _ ⟨_,rfl,Below.refl _ _,by rw [HCN.out];rfl⟩
                    ·simp only [Bool.not_true,if_true] at qc qe
                     go_simp
                     exact hK _ _ ⟨_,rfl,Below.refl _ _,by rw [HCN.out];rfl⟩
                  case hend =>
                   intro a w2 hF hB hG
                   have gl:a.eval (.tmp 266)=.bool (!C2):=hG 29 (by omega)
                   have HW2:=hideR (HWR.out.trans (hB.mono HWR.out.size))
                   obtain ⟨xl,hxl,rfl,hev⟩:=hF.lit (by simp)
                   rw [hev 29 (by omega)] at gl
                   obtain ⟨x0,x1,x2,x3,x4,x5,x6,x7,x8,x9,x10,x11,x12,x13,x14,x15,x16,x17,x18,x19,x20,x21,x22,x23,x24,x25,x26,x27,x28,x29,rfl⟩:=slen30 hxl
                   obtain rfl:x29=.bool (!C2):=gl
                   clear hev hxl hF hG hB HE1 HC1 HE2 HC2
                   simp only [List.take_succ_cons,List.take_zero,List.drop_succ_cons,List.drop_zero,List.cons_append,List.nil_append]
                   cases C2
                   ·have HRF:Hid (R=false):=hideR HRN.out
                    clear HRN
                    go_wp2
                    go_ret
                    exact ⟨by rw [HRF.out];rfl,below_go' HU.out HW2.out⟩
                   ·have HRT:Hid (R=(samB fE (m.elems.drop (j+1)) (k.elems.drop (j+1)) && (samB fD m.datas k.datas && true))):=hideR HRN.out
                    clear HRN
                    go_wp2
                    go_roundw
                    case rel=>exact ⟨j+1,by omega,by go_num,HRT,HW2⟩
                    case measure=>simp [intOf];omega
                 ·obtain rfl:n8=j:=by omega
                  have HR:=hideR (samB_end (by omega) (by omega) HRJ.out)
                  clear HRJ
                  go_wp2_with fail
                  go_loopw [13] (fun i wr=>∃j:Nat,j<=n9/\i=.int .i64 j/\Hid (R=(samB fD (m.datas.drop j) (k.datas.drop j) && true))/\Hid (Below u1.heap.size u1 wr)) (fun i _=>n9-(intOf i).toNat)
                  case atStart=>exact ⟨0,by omega,rfl,HR,HWR⟩
                  case round =>
                   clear HR HWR
                   obtain ⟨j,hj,rfl,HRJ,HWR⟩:=hrel
                   have kp:=(HP _ HWR.out).out.cell 9 _ rfl
                   by_cases hgo:j<n9
                   ·obtain ⟨b1,off1,cap1,hv1,hx1⟩:=Row.some HMU.out.datas (by omega)
                    injection hv1 with ho1 e11 e12
                    subst ho1
                    clear e11 e12
                    obtain ⟨b2,off2,cap2,hv2,hx2⟩:=Row.some HKU.out.datas (by omega)
                    injection hv2 with ho2 e21 e22
                    subst ho2
                    clear e21 e22
                    obtain ⟨x,hxk⟩:∃x,m.datas[j]?=some x:=⟨_,List.getElem?_eq_getElem (by omega)⟩
                    obtain ⟨y,hyk⟩:∃y,k.datas[j]?=some y:=⟨_,List.getElem?_eq_getElem (by omega)⟩
                    have HX:=hideR ((hx1 j x hxk).on HWR.out)
                    have HY:=hideR ((hx2 j y hyk).on HWR.out)
                    have HRN:=hideR (samB_on hxk hyk HRJ.out)
                    clear hx1 hx2 hxk hyk HRJ HMU HKU HM HK
                    obtain ⟨⟨cx0,cx1,cx2,cx3,⟨v4,cx4,a4⟩,⟨v5,cx5,a5⟩,⟨v6,cx6,a6⟩⟩,cx7⟩:=HX.out
                    obtain ⟨q4,z4,rfl⟩:=Row.len a4
                    have AX4:=hideR a4
                    clear a4
                    obtain ⟨q5,z5,rfl⟩:=At.len d _ _ a5
                    have AX5:=hideR a5
                    clear a5
                    obtain ⟨q6,z6,rfl⟩:=At.len d _ _ a6
                    have AX6:=hideR a6
                    clear a6
                    generalize hy4:x.offset.labels.length=y4 at *
                    generalize hy5:size d x.offset.body=y5 at *
                    generalize hy6:size d x.offset.els=y6 at *
                    obtain ⟨⟨cy0,cy1,cy2,cy3,⟨v4,cy4,a4⟩,⟨v5,cy5,a5⟩,⟨v6,cy6,a6⟩⟩,cy7⟩:=HY.out
                    obtain ⟨r4,t4,rfl⟩:=Row.len a4
                    have AY4:=hideR a4
                    clear a4
                    obtain ⟨r5,t5,rfl⟩:=At.len d _ _ a5
                    have AY5:=hideR a5
                    clear a5
                    obtain ⟨r6,t6,rfl⟩:=At.len d _ _ a6
                    have AY6:=hideR a6
                    clear a6
                    generalize hs4:y.offset.labels.length=s4 at *
                    generalize hs5:size d y.offset.body=s5 at *
                    generalize hs6:size d y.offset.els=s6 at *
                    obtain ⟨e1,HE10⟩:∃e,e=(x.bytes.toList == y.bytes.toList):=⟨_,rfl⟩
                    have HE1:=hideR HE10
                    clear HE10
                    obtain ⟨e2,HE20⟩:∃e,e=sam1 (samI d) x.offset y.offset:=⟨_,rfl⟩
                    have HE2:=hideR HE20
                    clear HE20
                    obtain ⟨C1,HC10⟩:∃c,c=e1:=⟨_,rfl⟩
                    have HC1:=hideR HC10
                    clear HC10
                    obtain ⟨C2,HC20⟩:∃c,c=(C1 && e2):=⟨_,rfl⟩
                    have HC2:=hideR HC20
                    clear HC20
                    have HFX:Hid (fD x y=C2):=hideR (by rw [HC2.out,HC1.out,HE1.out,HE2.out]<;>rfl)
                    rw [HFX.out] at HRN
                    clear HFX
                    go_upto_region 46 with fail
                    refine Reg.wp_region_all 29 (fun i=>274+i) (fun i=>(S9 j p1 p2 b1 b2 off1 off2 n9 k9 h9 y4 y5 y6 z4 z5 z6 s4 s5 s6 t4 t5 t6 q4 q5 q6 r4 r5 r6 C1 C2 e1 e2 x y i).1) (by kernel_rfl) (by kernel_rfl) (fun i j h1 h2 h=>by have h':274+i=274+j:=h;omega) (Reg.dst_okG (size:=303) (by kernel_rfl)) (fun i v w w' _ h hb=>(S9 j p1 p2 b1 b2 off1 off2 n9 k9 h9 y4 y5 y6 z4 z5 z6 s4 s5 s6 t4 t5 t6 q4 q5 q6 r4 r5 r6 C1 C2 e1 e2 x y i).2 v w w' h hb) ?hstep ?hend
                    case hstep =>
                     intro i o a w hi ho hF hB hd
                     have kq1:=(HP w (HWR.out.trans (hB.mono HWR.out.size))).out.cell 9 _ rfl
                     have kq2:=(HQ w (HWR.out.trans (hB.mono HWR.out.size))).out.cell 9 _ rfl
                     have kx0:=cell_on hB cx0
                     have kx1:=cell_on hB cx1
                     have kx2:=cell_on hB cx2
                     have kx3:=cell_on hB cx3
                     have kx4:=cell_on hB cx4
                     have kx5:=cell_on hB cx5
                     have kx6:=cell_on hB cx6
                     have kx7:=cell_on hB cx7
                     have ky0:=cell_on hB cy0
                     have ky1:=cell_on hB cy1
                     have ky2:=cell_on hB cy2
                     have ky3:=cell_on hB cy3
                     have ky4:=cell_on hB cy4
                     have ky5:=cell_on hB cy5
                     have ky6:=cell_on hB cy6
                     have ky7:=cell_on hB cy7
                     have f2:a.tmps[2]?.getD undef=.pointer (some ⟨p1,0,none⟩):=Reg.ev_get (hF.eval 2 (fun i hi=>by show 274+i≠2;omega))
                     have f3:a.tmps[3]?.getD undef=.pointer (some ⟨p2,0,none⟩):=Reg.ev_get (hF.eval 3 (fun i hi=>by show 274+i≠3;omega))
                     have f13:a.tmps[13]?.getD undef=.int .i64 j:=Reg.ev_get (hF.eval 13 (fun i hi=>by show 274+i≠13;omega))
                     have hcase:i=0\/i=1\/i=2\/i=3\/i=4\/i=5\/i=6\/i=7\/i=8\/i=9\/i=10\/i=11\/i=12\/i=13\/i=14\/i=15\/i=16\/i=17\/i=18\/i=19\/i=20\/i=21\/i=22\/i=23\/i=24\/i=25\/i=26\/i=27\/i=28:=by omega
                     clear hi
                     rcases hcase with rfl|rfl|rfl|rfl|rfl|rfl|rfl|rfl|rfl|rfl|rfl|rfl|rfl|rfl|rfl|rfl|rfl|rfl|rfl|rfl|rfl|rfl|rfl|rfl|rfl|rfl|rfl|rfl|rfl
                     all_goals (simp only [List.getElem?_toArray,List.getElem?_cons_succ,List.getElem?_cons_zero,Option.some.injEq] at ho;subst ho)
                     ·refine Reg.Does.go rfl (Reg.step_k fun K hK=>?_)
                      go_simp
                      exact hK _ _ ⟨_,rfl,Below.refl _ _,rfl⟩
                     ·have q0:a.tmps[274]?.getD undef=.pointer (some ⟨p1,9,none⟩):=Reg.ev_get (hd 0 (by decide))
                      refine Reg.Does.go rfl (Reg.step_k fun K hK=>?_)
                      go_simp
                      exact hK _ _ ⟨_,rfl,Below.refl _ _,rfl⟩
                     ·refine Reg.Does.go rfl (Reg.step_k fun K hK=>?_)
                      go_simp
                      exact hK _ _ ⟨_,rfl,Below.refl _ _,rfl⟩
                     ·have q0:a.tmps[275]?.getD undef=.slice (some ⟨b1,off1,none⟩) n9 k9:=Reg.ev_get (hd 1 (by decide))
                      have q1:a.tmps[276]?.getD undef=.int .i64 j:=Reg.ev_get (hd 2 (by decide))
                      refine Reg.Does.go rfl (Reg.step_k fun K hK=>?_)
                      go_simp
                      exact hK _ _ ⟨_,rfl,Below.refl _ _,rfl⟩
                     ·have q0:a.tmps[277]?.getD undef=.pointer (some ⟨b1,off1+j*8,none⟩):=Reg.ev_get (hd 3 (by decide))
                      refine Reg.Does.go rfl (Reg.step_k fun K hK=>?_)
                      go_simp
                      exact hK _ _ ⟨_,rfl,Below.refl _ _,rfl⟩
                     ·have q0:a.tmps[278]?.getD undef=.pointer (some ⟨b1,off1+j*8+7,none⟩):=Reg.ev_get (hd 4 (by decide))
                      refine Reg.Does.go rfl (Reg.step_k fun K hK=>?_)
                      go_simp
                      exact hK _ _ ⟨_,rfl,Below.refl _ _,rfl⟩
                     ·refine Reg.Does.go rfl (Reg.step_k fun K hK=>?_)
                      go_simp
                      exact hK _ _ ⟨_,rfl,Below.refl _ _,rfl⟩
                     ·have q0:a.tmps[280]?.getD undef=.pointer (some ⟨p2,9,none⟩):=Reg.ev_get (hd 6 (by decide))
                      refine Reg.Does.go rfl (Reg.step_k fun K hK=>?_)
                      go_simp
                      exact hK _ _ ⟨_,rfl,Below.refl _ _,rfl⟩
                     ·refine Reg.Does.go rfl (Reg.step_k fun K hK=>?_)
                      go_simp
                      exact hK _ _ ⟨_,rfl,Below.refl _ _,rfl⟩
                     ·have q0:a.tmps[281]?.getD undef=.slice (some ⟨b2,off2,none⟩) n9 h9:=Reg.ev_get (hd 7 (by decide))
                      have q1:a.tmps[282]?.getD undef=.int .i64 j:=Reg.ev_get (hd 8 (by decide))
                      refine Reg.Does.go rfl (Reg.step_k fun K hK=>?_)
                      go_simp
                      exact hK _ _ ⟨_,rfl,Below.refl _ _,rfl⟩
                     ·have q0:a.tmps[283]?.getD undef=.pointer (some ⟨b2,off2+j*8,none⟩):=Reg.ev_get (hd 9 (by decide))
                      refine Reg.Does.go rfl (Reg.step_k fun K hK=>?_)
                      go_simp
                      exact hK _ _ ⟨_,rfl,Below.refl _ _,rfl⟩
                     ·have q0:a.tmps[284]?.getD undef=.pointer (some ⟨b2,off2+j*8+7,none⟩):=Reg.ev_get (hd 10 (by decide))
                      refine Reg.Does.go rfl (Reg.step_k fun K hK=>?_)
                      go_simp
                      exact hK _ _ ⟨_,rfl,Below.refl _ _,rfl⟩
                     ·have q0:a.tmps[279]?.getD undef=.string x.bytes:=Reg.ev_get (hd 5 (by decide))
                      have q1:a.tmps[285]?.getD undef=.string y.bytes:=Reg.ev_get (hd 11 (by decide))
                      refine Reg.Does.go rfl (Reg.step_k fun K hK=>?_)
                      go_simp
                      exact hK _ _ ⟨_,rfl,Below.refl _ _,congrArg (fun c=>Value.bool (!c)) (HC1.out.trans HE1.out).symm⟩
                     ·have q0:a.tmps[286]?.getD undef=.bool (!C1):=Reg.ev_get (hd 12 (by decide))
                      refine Reg.Does.go rfl (Reg.step_k fun K hK=>?_)
                      go_simp
                      exact hK _ _ ⟨_,rfl,Below.refl _ _,rfl⟩
                     ·have qg:a.eval (.tmp 287)=.bool (!C1):=hd 13 (by decide)
                      cases C1
                      ·exact Reg.Does.skip rfl rfl rfl qg rfl
                      ·refine Reg.Does.wanted rfl rfl rfl qg (Reg.step_k fun K hK=>?_)
                       clear qg
                       go_simp
                       exact hK _ _ ⟨_,rfl,Below.refl _ _,rfl⟩
                     ·have qg:a.eval (.tmp 287)=.bool (!C1):=hd 13 (by decide)
                      cases C1
                      ·exact Reg.Does.skip rfl rfl rfl qg rfl
                      ·refine Reg.Does.wanted rfl rfl rfl qg (Reg.step_k fun K hK=>?_)
                       clear qg
                       have q0:a.tmps[288]?.getD undef=.pointer (some ⟨p1,9,none⟩):=Reg.ev_get (hd 14 (by decide))
                       go_simp
                       exact hK _ _ ⟨_,rfl,Below.refl _ _,rfl⟩
                     ·have qg:a.eval (.tmp 287)=.bool (!C1):=hd 13 (by decide)
                      cases C1
                      ·exact Reg.Does.skip rfl rfl rfl qg rfl
                      ·refine Reg.Does.wanted rfl rfl rfl qg (Reg.step_k fun K hK=>?_)
                       clear qg
                       go_simp
                       exact hK _ _ ⟨_,rfl,Below.refl _ _,rfl⟩
                     ·have qg:a.eval (.tmp 287)=.bool (!C1):=hd 13 (by decide)
                      cases C1
                      ·exact Reg.Does.skip rfl rfl rfl qg rfl
                      ·refine Reg.Does.wanted rfl rfl rfl qg (Reg.step_k fun K hK=>?_)
                       clear qg
                       have q0:a.tmps[289]?.getD undef=.slice (some ⟨b1,off1,none⟩) n9 k9:=Reg.ev_get (hd 15 (by decide))
                       have q1:a.tmps[290]?.getD undef=.int .i64 j:=Reg.ev_get (hd 16 (by decide))
                       go_simp
                       exact hK _ _ ⟨_,rfl,Below.refl _ _,rfl⟩
                     ·have qg:a.eval (.tmp 287)=.bool (!C1):=hd 13 (by decide)
                      cases C1
                      ·exact Reg.Does.skip rfl rfl rfl qg rfl
                      ·refine Reg.Does.wanted rfl rfl rfl qg (Reg.step_k fun K hK=>?_)
                       clear qg
                       have q0:a.tmps[291]?.getD undef=.pointer (some ⟨b1,off1+j*8,none⟩):=Reg.ev_get (hd 17 (by decide))
                       go_simp
                       exact hK _ _ ⟨_,rfl,Below.refl _ _,rfl⟩
                     ·have qg:a.eval (.tmp 287)=.bool (!C1):=hd 13 (by decide)
                      cases C1
                      ·exact Reg.Does.skip rfl rfl rfl qg rfl
                      ·refine Reg.Does.wanted rfl rfl rfl qg (Reg.step_k fun K hK=>?_)
                       clear qg
                       have q0:a.tmps[292]?.getD undef=.pointer (some ⟨b1,off1+j*8,none⟩):=Reg.ev_get (hd 18 (by decide))
                       go_simp
                       exact hK _ _ ⟨_,rfl,Below.refl _ _,rfl⟩
                     ·have qg:a.eval (.tmp 287)=.bool (!C1):=hd 13 (by decide)
                      cases C1
                      ·exact Reg.Does.skip rfl rfl rfl qg rfl
                      ·refine Reg.Does.wanted rfl rfl rfl qg (Reg.step_k fun K hK=>?_)
                       clear qg
                       go_simp
                       exact hK _ _ ⟨_,rfl,Below.refl _ _,rfl⟩
                     ·have qg:a.eval (.tmp 287)=.bool (!C1):=hd 13 (by decide)
                      cases C1
                      ·exact Reg.Does.skip rfl rfl rfl qg rfl
                      ·refine Reg.Does.wanted rfl rfl rfl qg (Reg.step_k fun K hK=>?_)
                       clear qg
                       have q0:a.tmps[294]?.getD undef=.pointer (some ⟨p2,9,none⟩):=Reg.ev_get (hd 20 (by decide))
                       go_simp
                       exact hK _ _ ⟨_,rfl,Below.refl _ _,rfl⟩
                     ·have qg:a.eval (.tmp 287)=.bool (!C1):=hd 13 (by decide)
                      cases C1
                      ·exact Reg.Does.skip rfl rfl rfl qg rfl
                      ·refine Reg.Does.wanted rfl rfl rfl qg (Reg.step_k fun K hK=>?_)
                       clear qg
                       go_simp
                       exact hK _ _ ⟨_,rfl,Below.refl _ _,rfl⟩
                     ·have qg:a.eval (.tmp 287)=.bool (!C1):=hd 13 (by decide)
                      cases C1
                      ·exact Reg.Does.skip rfl rfl rfl qg rfl
                      ·refine Reg.Does.wanted rfl rfl rfl qg (Reg.step_k fun K hK=>?_)
                       clear qg
                       have q0:a.tmps[295]?.getD undef=.slice (some ⟨b2,off2,none⟩) n9 h9:=Reg.ev_get (hd 21 (by decide))
                       have q1:a.tmps[296]?.getD undef=.int .i64 j:=Reg.ev_get (hd 22 (by decide))
                       go_simp
                       exact hK _ _ ⟨_,rfl,Below.refl _ _,rfl⟩
                     ·have qg:a.eval (.tmp 287)=.bool (!C1):=hd 13 (by decide)
                      cases C1
                      ·exact Reg.Does.skip rfl rfl rfl qg rfl
                      ·refine Reg.Does.wanted rfl rfl rfl qg (Reg.step_k fun K hK=>?_)
                       clear qg
                       have q0:a.tmps[297]?.getD undef=.pointer (some ⟨b2,off2+j*8,none⟩):=Reg.ev_get (hd 23 (by decide))
                       go_simp
                       exact hK _ _ ⟨_,rfl,Below.refl _ _,rfl⟩
                     ·have qg:a.eval (.tmp 287)=.bool (!C1):=hd 13 (by decide)
                      cases C1
                      ·exact Reg.Does.skip rfl rfl rfl qg rfl
                      ·refine Reg.Does.wanted rfl rfl rfl qg (Reg.step_k fun K hK=>?_)
                       clear qg
                       have q0:a.tmps[298]?.getD undef=.pointer (some ⟨b2,off2+j*8,none⟩):=Reg.ev_get (hd 24 (by decide))
                       go_simp
                       exact hK _ _ ⟨_,rfl,Below.refl _ _,rfl⟩
                     ·have qg:a.eval (.tmp 287)=.bool (!C1):=hd 13 (by decide)
                      cases C1
                      ·exact Reg.Does.skip rfl rfl rfl qg rfl
                      ·refine Reg.Does.wanted rfl rfl rfl qg (Reg.step_k fun K hK=>?_)
                       clear qg
                       have q0:a.tmps[293]?.getD undef=.agg #[.int .i64 x.offset.op,.int .i64 x.offset.a,.int .i64 x.offset.b,.int .i64 x.offset.n,.slice q4 y4 z4,.slice q5 y5 z5,.slice q6 y6 z6]:=Reg.ev_get (hd 19 (by decide))
                       have q1:a.tmps[299]?.getD undef=.agg #[.int .i64 y.offset.op,.int .i64 y.offset.a,.int .i64 y.offset.b,.int .i64 y.offset.n,.slice r4 s4 t4,.slice r5 s5 t5,.slice r6 s6 t6]:=Reg.ev_get (hd 25 (by decide))
                       have HKK:=hideR hK
                       clear hK
                       go_simp
                       refine (refInstr d _ _ _ _ _ _ _ _ _ _ _ _ _ _ _ _ _ _ _ _ w (AX4.out.on hB) (At.on hB d _ _ AX5.out) (At.on hB d _ _ AX6.out) (AY4.out.on hB) (At.on hB d _ _ AY5.out) (At.on hB d _ _ AY6.out)).mono ?_
                       rintro e w' ⟨rfl,hw⟩
                       exact HKK.out _ _ ⟨_,rfl,hw,by rw [HE2.out];rfl⟩
                     ·have qg:a.eval (.tmp 287)=.bool (!C1):=hd 13 (by decide)
                      cases C1
                      ·exact Reg.Does.skip rfl rfl rfl qg rfl
                      ·refine Reg.Does.wanted rfl rfl rfl qg (Reg.step_k fun K hK=>?_)
                       clear qg
                       have q0:a.tmps[300]?.getD undef=.bool e2:=Reg.ev_get (hd 26 (by decide))
                       go_simp
                       exact hK _ _ ⟨_,rfl,Below.refl _ _,rfl⟩
                     ·have qc:a.tmps[287]?.getD undef=.bool (!C1):=Reg.ev_get (hd 13 (by decide))
                      have qe:a.tmps[301]?.getD undef=if C1 then .bool (!e2) else undef:=Reg.ev_get (hd 27 (by decide))
                      refine Reg.Does.go rfl (Reg.step_k fun K hK=>?_)
                      have HCN:=HC2
                      cases C1
                      ·simp only [Bool.not_false,Bool.false_eq_true,if_false] at qc qe
                       go_simp
                       exact hK _ _ ⟨_,rfl,Below.refl _ _,by rw [HCN.out];rfl⟩
                      ·simp only [Bool.not_true,if_true] at qc qe
                       go_simp
                       exact hK _ _ ⟨_,rfl,Below.refl _ _,by rw [HCN.out];rfl⟩
                    case hend =>
                     intro a w2 hF hB hG
                     have gl:a.eval (.tmp 302)=.bool (!C2):=hG 28 (by omega)
                     have HW2:=hideR (HWR.out.trans (hB.mono HWR.out.size))
                     obtain ⟨xl,hxl,rfl,hev⟩:=hF.lit (by simp)
                     rw [hev 28 (by omega)] at gl
                     obtain ⟨x0,x1,x2,x3,x4,x5,x6,x7,x8,x9,x10,x11,x12,x13,x14,x15,x16,x17,x18,x19,x20,x21,x22,x23,x24,x25,x26,x27,x28,rfl⟩:=slen29 hxl
                     obtain rfl:x28=.bool (!C2):=gl
                     clear hev hxl hF hG hB HE1 HC1 HE2 HC2
                     simp only [List.take_succ_cons,List.take_zero,List.drop_succ_cons,List.drop_zero,List.cons_append,List.nil_append]
                     cases C2
                     ·have HRF:Hid (R=false):=hideR HRN.out
                      clear HRN
                      go_wp2
                      go_ret
                      exact ⟨by rw [HRF.out];rfl,below_go' HU.out HW2.out⟩
                     ·have HRT:Hid (R=(samB fD (m.datas.drop (j+1)) (k.datas.drop (j+1)) && true)):=hideR HRN.out
                      clear HRN
                      go_wp2
                      go_roundw
                      case rel=>exact ⟨j+1,by omega,by go_num,HRT,HW2⟩
                      case measure=>simp [intOf];omega
                   ·obtain rfl:n9=j:=by omega
                    have HR:=hideR (samB_end (by omega) (by omega) HRJ.out)
                    clear HRJ
                    go_wp2
                    go_ret
                    exact ⟨by rw [HR.out];rfl,below_go' HU.out HWR.out⟩
theorem refSame (d:Nat) (v0 v1 v2 v3 v4 v5 v6 v7 v8 v9 u0 u1 u2 u3 u4 u5 u6 u7 u8 u9:Value) (m k:Mod d) (w:World) (hM:ModAt w d v0 v1 v2 v3 v4 v5 v6 v7 v8 v9 m) (hK:ModAt w d u0 u1 u2 u3 u4 u5 u6 u7 u8 u9 k):Calls Tryd.prog 9 #[.agg #[v0,v1,v2,v3,v4,v5,v6,v7,v8,v9],.agg #[u0,u1,u2,u3,u4,u5,u6,u7,u8,u9]] w (fun e w'=>e=.returned (.bool (samM m k))/\Below w.heap.size w w'):=by
 cases hz:szs m k with
 | true=>exact refSameT d _ _ _ _ _ _ _ _ _ _ _ _ _ _ _ _ _ _ _ _ m k w hM hK hz
 | false=>exact refSameF d _ _ _ _ _ _ _ _ _ _ _ _ _ _ _ _ _ _ _ _ m k w hM hK hz
end Go.Proofs.YtlcpagiljfpbpaaDoor

