/- Texts that the claim needs. -/
import Derived.Test.YtmfcojpjpgldhaaGreatDoorQEBy10
namespace Go.Proofs.YtmfcojpjpgldhaaGreatDoor
open Go.RowKit aA Go.Proofs.Tryz
set_option linter.unusedVariables false
set_option maxHeartbeats 1000000
namespace aA
def iD (w:World) (b:Nat) (c0 c1 c2 c3 c4 c5 c6 c7 c8:Value):Prop:=w.heap[b]?=some (.cells #[c0,c1,c2,c3,c4,c5,c6,c7,c8] 55 (0,0))
section
variable {w w':World} {b:Nat} {c0 c1 c2 c3 c4 c5 c6 c7 c8:Value}
theorem iD.cell (h:iD w b c0 c1 c2 c3 c4 c5 c6 c7 c8) (i:Nat) (v:Value) (hv:#[c0,c1,c2,c3,c4,c5,c6,c7,c8][i]?=some v):w.cell? ⟨b,i,none⟩=some v:=by
 unfold World.cell?;rw [h];exact hv
theorem iD.fM (h:iD w b c0 c1 c2 c3 c4 c5 c6 c7 c8) (i:Nat):w.frozen? ⟨b,i,none⟩=false:=by
 unfold World.frozen?;rw [h];simp
theorem iD.lt (h:iD w b c0 c1 c2 c3 c4 c5 c6 c7 c8):b<w.heap.size:=(kD.1 h).1
theorem iD.on (h:iD w b c0 c1 c2 c3 c4 c5 c6 c7 c8) (hb:Below w.heap.size w w'):iD w' b c0 c1 c2 c3 c4 c5 c6 c7 c8:=by
 have:=h.lt
 unfold iD at *;rw [hb.block b this];exact h
theorem iD.new (hp:b=w.heap.size):iD (w.alloc (.cells #[c0,c1,c2,c3,c4,c5,c6,c7,c8] 55)) b c0 c1 c2 c3 c4 c5 c6 c7 c8:=by
 subst hp;exact heap_alloc_new w _
end
def xY (w:World) (b:Nat) (d0 d1 d2 d3 d4 d5 d6 d7 d8:Value):World:=((((((((w.setCell ⟨b,0,none⟩ d0).setCell ⟨b,1,none⟩ d1).setCell ⟨b,2,none⟩ d2).setCell ⟨b,3,none⟩ d3).setCell ⟨b,4,none⟩ d4).setCell ⟨b,5,none⟩ d5).setCell ⟨b,6,none⟩ d6).setCell ⟨b,7,none⟩ d7).setCell ⟨b,8,none⟩ d8
theorem iD.xY {w:World} {b:Nat} {c0 c1 c2 c3 c4 c5 c6 c7 c8:Value} (h:iD w b c0 c1 c2 c3 c4 c5 c6 c7 c8) (d0 d1 d2 d3 d4 d5 d6 d7 d8:Value):iD (xY w b d0 d1 d2 d3 d4 d5 d6 d7 d8) b d0 d1 d2 d3 d4 d5 d6 d7 d8:=by
 have h0:iD _ b d0 c1 c2 c3 c4 c5 c6 c7 c8:=heap_setCell_same _ b 0 _ _ d0 h;have h1:iD _ b d0 d1 c2 c3 c4 c5 c6 c7 c8:=heap_setCell_same _ b 1 _ _ d1 h0;have h2:iD _ b d0 d1 d2 c3 c4 c5 c6 c7 c8:=heap_setCell_same _ b 2 _ _ d2 h1;have h3:iD _ b d0 d1 d2 d3 c4 c5 c6 c7 c8:=heap_setCell_same _ b 3 _ _ d3 h2;have h4:iD _ b d0 d1 d2 d3 d4 c5 c6 c7 c8:=heap_setCell_same _ b 4 _ _ d4 h3;have h5:iD _ b d0 d1 d2 d3 d4 d5 c6 c7 c8:=heap_setCell_same _ b 5 _ _ d5 h4;have h6:iD _ b d0 d1 d2 d3 d4 d5 d6 c7 c8:=heap_setCell_same _ b 6 _ _ d6 h5;have h7:iD _ b d0 d1 d2 d3 d4 d5 d6 d7 c8:=heap_setCell_same _ b 7 _ _ d7 h6;exact heap_setCell_same _ b 8 _ _ d8 h7
theorem Pm {w:World} {b:Nat} {B:Nat} {w0:World} (h:Below B w0 w) (hb:B<=b) (d0 d1 d2 d3 d4 d5 d6 d7 d8:Value):Below B w0 (xY w b d0 d1 d2 d3 d4 d5 d6 d7 d8):=by
 unfold xY
 repeat refine Below.setCell ?_ hb _
 exact h
def tz (w:World) (b:Nat) (d2 d3 d4 d5 d6 d7 d8:Value):World:=((((((w.setCell ⟨b,2,none⟩ d2).setCell ⟨b,3,none⟩ d3).setCell ⟨b,4,none⟩ d4).setCell ⟨b,5,none⟩ d5).setCell ⟨b,6,none⟩ d6).setCell ⟨b,7,none⟩ d7).setCell ⟨b,8,none⟩ d8
theorem iD.tz {w:World} {b:Nat} {c0 c1 c2 c3 c4 c5 c6 c7 c8:Value} (h:iD w b c0 c1 c2 c3 c4 c5 c6 c7 c8) (d2 d3 d4 d5 d6 d7 d8:Value):iD (tz w b d2 d3 d4 d5 d6 d7 d8) b c0 c1 d2 d3 d4 d5 d6 d7 d8:=by
 have h2:iD _ b c0 c1 d2 c3 c4 c5 c6 c7 c8:=heap_setCell_same _ b 2 _ _ d2 h;have h3:iD _ b c0 c1 d2 d3 c4 c5 c6 c7 c8:=heap_setCell_same _ b 3 _ _ d3 h2;have h4:iD _ b c0 c1 d2 d3 d4 c5 c6 c7 c8:=heap_setCell_same _ b 4 _ _ d4 h3;have h5:iD _ b c0 c1 d2 d3 d4 d5 c6 c7 c8:=heap_setCell_same _ b 5 _ _ d5 h4;have h6:iD _ b c0 c1 d2 d3 d4 d5 d6 c7 c8:=heap_setCell_same _ b 6 _ _ d6 h5;have h7:iD _ b c0 c1 d2 d3 d4 d5 d6 d7 c8:=heap_setCell_same _ b 7 _ _ d7 h6;exact heap_setCell_same _ b 8 _ _ d8 h7
theorem Pq {w:World} {b:Nat} (d2 d3 d4 d5 d6 d7 d8:Value) (k:Nat) (hk:k≠b):(tz w b d2 d3 d4 d5 d6 d7 d8).heap[k]?=w.heap[k]?:=by
 unfold tz
 repeat rw [Below.heap_setCell _ _ _ _ (by show k≠b;exact hk)]
theorem Pp {w:World} {b:Nat} {B:Nat} {w0:World} (h:Below B w0 w) (hb:B<=b) (d2 d3 d4 d5 d6 d7 d8:Value):Below B w0 (tz w b d2 d3 d4 d5 d6 d7 d8):=by
 unfold tz
 repeat refine Below.setCell ?_ hb _
 exact h
theorem Fq {a:Act} {w:World} {K:Act->World->Prop} {Q:Exit->Act->World->Prop} {s t:Nat} {ty:TypeId} {pos:String} {af:Array Edge} {b:Nat} {c0 c1 c2 c3 c4 c5 c6 c7 c8 c9:Value} {a0 a1 a2 a3 a4 a5 a6 a7 a8 a9:Option Addr} {n0 n1 n2 n3 n4 n5 n6 n7 n8 n9 b0 b1 b2 b3 b4 b5 b6 b7 b8 b9:Nat}
  (h3:a.tmps[s]?.getD undef=.pointer (some ⟨b,0,none⟩)) (h4:a.tmps[t]?.getD undef=.agg #[.slice a0 n0 b0,.slice a1 n1 b1,.slice a2 n2 b2,.slice a3 n3 b3,.slice a4 n4 b4,.slice a5 n5 b5,.slice a6 n6 b6,.slice a7 n7 b7,.slice a8 n8 b8,.slice a9 n9 b9])
  (hb:bG w b c0 c1 c2 c3 c4 c5 c6 c7 c8 c9) (hK:K a (qZ w b (.slice a0 n0 b0) (.slice a1 n1 b1) (.slice a2 n2 b2) (.slice a3 n3 b3) (.slice a4 n4 b4) (.slice a5 n5 b5) (.slice a6 n6 b6) (.slice a7 n7 b7) (.slice a8 n8 b8) (.slice a9 n9 b9))) :
  Oper.wp prog { dst:=none,op:=.store 32 (.tmp s) (.tmp t),type:=ty,pos:=pos,after:=af,guard:=none } a w K Q:=by
 have e0:=hb.cell 0 _ rfl;have f0:=hb.fM 0;have e1:=hb.cell 1 _ rfl;have f1:=hb.fM 1;have e2:=hb.cell 2 _ rfl;have f2:=hb.fM 2;have e3:=hb.cell 3 _ rfl;have f3:=hb.fM 3;have e4:=hb.cell 4 _ rfl;have f4:=hb.fM 4;have e5:=hb.cell 5 _ rfl;have f5:=hb.fM 5;have e6:=hb.cell 6 _ rfl;have f6:=hb.fM 6;have e7:=hb.cell 7 _ rfl;have f7:=hb.fM 7;have e8:=hb.cell 8 _ rfl;have f8:=hb.fM 8;have e9:=hb.cell 9 _ rfl;have f9:=hb.fM 9;unfold qZ at hK;clear hb;go_simp;exact hK
theorem Pn {a:Act} {w:World} {K:Act->World->Prop} {Q:Exit->Act->World->Prop} {s t:Nat} {ty:TypeId} {pos:String} {af:Array Edge} {b:Nat} {c0 c1 c2 c3 c4 c5 c6 c7 c8:Value} {i9:Int} {bb:Bool} {i0 i1 i2 i3:Int} {a0 a1 a2:Option Addr} {n0 n1 n2 b0 b1 b2:Nat}
  (h3:a.tmps[s]?.getD undef=.pointer (some ⟨b,0,none⟩)) (h4:a.tmps[t]?.getD undef=.agg #[.int .i64 i9,.bool bb,.int .i64 i0,.int .i64 i1,.int .i64 i2,.int .i64 i3,.slice a0 n0 b0,.slice a1 n1 b1,.slice a2 n2 b2])
  (hb:iD w b c0 c1 c2 c3 c4 c5 c6 c7 c8) (hK:K a (xY w b (.int .i64 i9) (.bool bb) (.int .i64 i0) (.int .i64 i1) (.int .i64 i2) (.int .i64 i3) (.slice a0 n0 b0) (.slice a1 n1 b1) (.slice a2 n2 b2))) :
  Oper.wp prog { dst:=none,op:=.store 55 (.tmp s) (.tmp t),type:=ty,pos:=pos,after:=af,guard:=none } a w K Q:=by
 have e0:=hb.cell 0 _ rfl;have f0:=hb.fM 0;have e1:=hb.cell 1 _ rfl;have f1:=hb.fM 1;have e2:=hb.cell 2 _ rfl;have f2:=hb.fM 2;have e3:=hb.cell 3 _ rfl;have f3:=hb.fM 3;have e4:=hb.cell 4 _ rfl;have f4:=hb.fM 4;have e5:=hb.cell 5 _ rfl;have f5:=hb.fM 5;have e6:=hb.cell 6 _ rfl;have f6:=hb.fM 6;have e7:=hb.cell 7 _ rfl;have f7:=hb.fM 7;have e8:=hb.cell 8 _ rfl;have f8:=hb.fM 8;unfold xY at hK;clear hb;go_simp;exact hK
theorem Pt {a:Act} {w:World} {K:Act->World->Prop} {Q:Exit->Act->World->Prop} {s t:Nat} {ty:TypeId} {pos:String} {af:Array Edge} {b:Nat} {c0 c1 c2 c3 c4 c5 c6 c7 c8:Value} {i0 i1 i2 i3:Int} {a0 a1 a2:Option Addr} {n0 n1 n2 b0 b1 b2:Nat}
  (h3:a.tmps[s]?.getD undef=.pointer (some ⟨b,2,none⟩)) (h4:a.tmps[t]?.getD undef=.agg #[.int .i64 i0,.int .i64 i1,.int .i64 i2,.int .i64 i3,.slice a0 n0 b0,.slice a1 n1 b1,.slice a2 n2 b2])
  (hb:iD w b c0 c1 c2 c3 c4 c5 c6 c7 c8) (hK:K a (tz w b (.int .i64 i0) (.int .i64 i1) (.int .i64 i2) (.int .i64 i3) (.slice a0 n0 b0) (.slice a1 n1 b1) (.slice a2 n2 b2))) :
  Oper.wp prog { dst:=none,op:=.store 49 (.tmp s) (.tmp t),type:=ty,pos:=pos,after:=af,guard:=none } a w K Q:=by
 have e2:=hb.cell 2 _ rfl;have f2:=hb.fM 2;have e3:=hb.cell 3 _ rfl;have f3:=hb.fM 3;have e4:=hb.cell 4 _ rfl;have f4:=hb.fM 4;have e5:=hb.cell 5 _ rfl;have f5:=hb.fM 5;have e6:=hb.cell 6 _ rfl;have f6:=hb.fM 6;have e7:=hb.cell 7 _ rfl;have f7:=hb.fM 7;have e8:=hb.cell 8 _ rfl;have f8:=hb.fM 8;unfold tz at hK;clear hb;go_simp;exact hK
def I6 {α:Type} (B:Nat) (f:World->Nat->Nat->α->Prop) (x:α):jK:=⟨λv w=>∃x0 x1,v=.agg #[x0,x1]/\Piece (only w (ge B)) 2 f x [x0,x1],λv w w' ⟨x0,x1,h1,h2⟩ hb=>⟨x0,x1,h1,h2.sub (qw hb)⟩⟩
def I7 {α:Type} (B:Nat) (f:World->Nat->Nat->α->Prop) (x:α):jK:=⟨λv w=>∃x0 x1 x2,v=.agg #[x0,x1,x2]/\Piece (only w (ge B)) 3 f x [x0,x1,x2],λv w w' ⟨x0,x1,x2,h1,h2⟩ hb=>⟨x0,x1,x2,h1,h2.sub (qw hb)⟩⟩
def Dm {α:Type} (B:Nat) (f:World->Nat->Nat->α->Prop) (x:α):jK:=⟨λv w=>∃x0 x1 x2 x3 x4 x5 x6 x7,v=.agg #[x0,x1,x2,x3,x4,x5,x6,x7]/\Piece (only w (ge B)) 8 f x [x0,x1,x2,x3,x4,x5,x6,x7],λv w w' ⟨x0,x1,x2,x3,x4,x5,x6,x7,h1,h2⟩ hb=>⟨x0,x1,x2,x3,x4,x5,x6,x7,h1,h2.sub (qw hb)⟩⟩
def Jc {α:Type} (B:Nat) (f:World->Nat->Nat->α->Prop) (x:α):jK:=⟨λv w=>∃x0 x1 x2 x3 x4 x5 x6 x7 x8,v=.agg #[x0,x1,x2,x3,x4,x5,x6,x7,x8]/\Piece (only w (ge B)) 9 f x [x0,x1,x2,x3,x4,x5,x6,x7,x8],λv w w' ⟨x0,x1,x2,x3,x4,x5,x6,x7,x8,h1,h2⟩ hb=>⟨x0,x1,x2,x3,x4,x5,x6,x7,x8,h1,h2.sub (qw hb)⟩⟩
theorem Pb {Q:Exit->Act->World->Prop} {ops:Array Oper} {a0 a:Act} {w:World} {wR wT wV:TypeId} {wW wX wY:String} {wZ xa xb:Array Edge} {b g j cT B:Nat} {oT:Option Addr} {cs xs:List Value} {c1 c2 c3 c4 c5 c6 c7 c8 c9:Value} (hF:ai.Fr a0 (λi=>38+i) 20 a) (hsz:a0.tmps.size=180)
  (e3:a.tmps[3]?.getD undef=.pointer (some ⟨b,0,none⟩)) (et:a.eval (.tmp 39)=.slice oT j cT) (ex:a.eval (.tmp 57)=.slice (some ⟨g,0,none⟩) 1 1) (hg:w.heap[g]?=some (.cells cs.toArray 47 (0,0))) (hl:cs.length=2) (h1:∀u ∈ cs,u.oneCell'=true)
  (hB:bG w b (.slice oT j cT) c1 c2 c3 c4 c5 c6 c7 c8 c9) (h3:w.ownsRow B 47 2 (.slice oT j cT) j xs) (h4:(Value.slice oT j cT).ownBlock≠some b) (hj:j<=5000) (hbase:B<=w.heap.size)
  (hQ:∀a' t' w9,ai.Fr a0 (λi=>38+i) 22 a'->w9.ownsRow B 47 2 t' (j+1) (xs++cs)->w.grownBy w9 (Value.slice oT j cT).ownBlock->(t'.ownBlock=(Value.slice oT j cT).ownBlock\/t'.ownBlock=some w.heap.size)->Q .normal a' (w9.setCell ⟨b,0,none⟩ t')) :
  wpList prog ops Q [{ dst:=some 58,op:=.call { callee:=.builtin .append,args:=#[.tmp 39,.tmp 57],argTypes:=#[22,22] },type:=wR,pos:=wW,after:=wZ,guard:=none },{ dst:=some 59,op:=.fieldAddr 32 (.tmp 3) 0,type:=wT,pos:=wX,after:=xa,guard:=none },{ dst:=none,op:=.store 22 (.tmp 59) (.tmp 58),type:=wV,pos:=wY,after:=xb,guard:=none }] a w:=by
 obtain ⟨i,z,hi,hz,hs,hby,hzs⟩:=Au Qx;have HAS:=aa (hF.size.trans hsz);refine rX rfl _ _ 22 rfl B 47 i z 2 48 underlying22 hi hz hs hby hzs (by decide) _ j xs et h3 (some ⟨g,0,none⟩) 1 1 cs ex (λh=>by cases h) (by rw [hl]) (λad h=>?_) h1 (by unfold maxLen;omega) (by omega) hbase ?_
 ·injection h with h;subst h;intro k u hk;rw [rC,Nat.zero_add];unfold World.cell?;rw [hg];simpa using hk
 intro t' w9 ho hgr hv;have nZ:bG w9 b (.slice oT j cT) c1 c2 c3 c4 c5 c6 c7 c8 c9:=hB.keep (hgr.block b hB.lt (λe=>h4 e.symm));have hsl:=pq ho;obtain ⟨o2,c2,rfl⟩:=hsl;have p9:=((hF.mono (Nat.le_succ 20)).put (i:=20) (by omega) (.slice o2 (j+1) c2));refine wpList_plain rfl λK hK=>?_;have hF2:=((p9.mono (Nat.le_succ 21)).put (i:=21) (by omega) (.pointer (some ⟨b,0,none⟩)));have kc:=nZ.cell 0 _ rfl;have kf:=nZ.fM 0;have hq:=hQ _ _ w9 hF2 ho hgr hv;clear hQ p9 hF2 hF nZ hB ho h3 hgr hv hg;go_simp;refine hK _ _ ?_;have has:=HAS.out;refine wpList_plain rfl λK2 iT=>?_;go_simp;refine iT _ _ (wpList_nil ?_);exact hq
theorem Pg {Q:Exit->Act->World->Prop} {ops:Array Oper} {a0 a:Act} {w:World} {wR wT wV:TypeId} {wW wX wY:String} {wZ xa xb:Array Edge} {b g j cT B:Nat} {oT:Option Addr} {cs xs:List Value} {c0 c1 c3 c4 c5 c6 c7 c8 c9:Value} (hF:ai.Fr a0 (λi=>67+i) 25 a) (hsz:a0.tmps.size=180)
  (e3:a.tmps[3]?.getD undef=.pointer (some ⟨b,0,none⟩)) (et:a.eval (.tmp 68)=.slice oT j cT) (ex:a.eval (.tmp 91)=.slice (some ⟨g,0,none⟩) 1 1) (hg:w.heap[g]?=some (.cells cs.toArray 45 (0,0))) (hl:cs.length=3) (h1:∀u ∈ cs,u.oneCell'=true)
  (hB:bG w b c0 c1 (.slice oT j cT) c3 c4 c5 c6 c7 c8 c9) (h3:w.ownsRow B 45 3 (.slice oT j cT) j xs) (h4:(Value.slice oT j cT).ownBlock≠some b) (hj:j<=5000) (hbase:B<=w.heap.size)
  (hQ:∀a' t' w9,ai.Fr a0 (λi=>67+i) 27 a'->w9.ownsRow B 45 3 t' (j+1) (xs++cs)->w.grownBy w9 (Value.slice oT j cT).ownBlock->(t'.ownBlock=(Value.slice oT j cT).ownBlock\/t'.ownBlock=some w.heap.size)->Q .normal a' (w9.setCell ⟨b,2,none⟩ t')) :
  wpList prog ops Q [{ dst:=some 92,op:=.call { callee:=.builtin .append,args:=#[.tmp 68,.tmp 91],argTypes:=#[24,24] },type:=wR,pos:=wW,after:=wZ,guard:=none },{ dst:=some 93,op:=.fieldAddr 32 (.tmp 3) 2,type:=wT,pos:=wX,after:=xa,guard:=none },{ dst:=none,op:=.store 24 (.tmp 93) (.tmp 92),type:=wV,pos:=wY,after:=xb,guard:=none }] a w:=by
 obtain ⟨i,z,hi,hz,hs,hby,hzs⟩:=Au Qy;have HAS:=aa (hF.size.trans hsz);refine rX rfl _ _ 24 rfl B 45 i z 3 56 underlying24 hi hz hs hby hzs (by decide) _ j xs et h3 (some ⟨g,0,none⟩) 1 1 cs ex (λh=>by cases h) (by rw [hl]) (λad h=>?_) h1 (by unfold maxLen;omega) (by omega) hbase ?_
 ·injection h with h;subst h;intro k u hk;rw [rC,Nat.zero_add];unfold World.cell?;rw [hg];simpa using hk
 intro t' w9 ho hgr hv;have nZ:bG w9 b c0 c1 (.slice oT j cT) c3 c4 c5 c6 c7 c8 c9:=hB.keep (hgr.block b hB.lt (λe=>h4 e.symm));have hsl:=pq ho;obtain ⟨o2,c2,rfl⟩:=hsl;have p9:=((hF.mono (Nat.le_succ 25)).put (i:=25) (by omega) (.slice o2 (j+1) c2));refine wpList_plain rfl λK hK=>?_;have hF2:=((p9.mono (Nat.le_succ 26)).put (i:=26) (by omega) (.pointer (some ⟨b,2,none⟩)));have kc:=nZ.cell 2 _ rfl;have kf:=nZ.fM 2;have hq:=hQ _ _ w9 hF2 ho hgr hv;clear hQ p9 hF2 hF nZ hB ho h3 hgr hv hg;go_simp;refine hK _ _ ?_;have has:=HAS.out;refine wpList_plain rfl λK2 iT=>?_;go_simp;refine iT _ _ (wpList_nil ?_);exact hq
theorem Pv {Q:Exit->Act->World->Prop} {ops:Array Oper} {a0 a:Act} {w:World} {wR wT wV:TypeId} {wW wX wY:String} {wZ xa xb:Array Edge} {b g j cT B:Nat} {oT:Option Addr} {cs xs:List Value} {c0 c1 c2 c3 c4 c6 c7 c8 c9:Value} (hF:ai.Fr a0 (λi=>113+i) 4 a) (hsz:a0.tmps.size=180)
  (e3:a.tmps[3]?.getD undef=.pointer (some ⟨b,0,none⟩)) (et:a.eval (.tmp 114)=.slice oT j cT) (ex:a.eval (.tmp 116)=.slice (some ⟨g,0,none⟩) 1 1) (hg:w.heap[g]?=some (.cells cs.toArray 55 (0,0))) (hl:cs.length=9) (h1:∀u ∈ cs,u.oneCell'=true)
  (hB:bG w b c0 c1 c2 c3 c4 (.slice oT j cT) c6 c7 c8 c9) (h3:w.ownsRow B 55 9 (.slice oT j cT) j xs) (h4:(Value.slice oT j cT).ownBlock≠some b) (hj:j<=5000) (hbase:B<=w.heap.size)
  (hQ:∀a' t' w9,ai.Fr a0 (λi=>113+i) 6 a'->w9.ownsRow B 55 9 t' (j+1) (xs++cs)->w.grownBy w9 (Value.slice oT j cT).ownBlock->(t'.ownBlock=(Value.slice oT j cT).ownBlock\/t'.ownBlock=some w.heap.size)->Q .normal a' (w9.setCell ⟨b,5,none⟩ t')) :
  wpList prog ops Q [{ dst:=some 117,op:=.call { callee:=.builtin .append,args:=#[.tmp 114,.tmp 116],argTypes:=#[26,26] },type:=wR,pos:=wW,after:=wZ,guard:=none },{ dst:=some 118,op:=.fieldAddr 32 (.tmp 3) 5,type:=wT,pos:=wX,after:=xa,guard:=none },{ dst:=none,op:=.store 26 (.tmp 118) (.tmp 117),type:=wV,pos:=wY,after:=xb,guard:=none }] a w:=by
 obtain ⟨i,z,hi,hz,hs,hby,hzs⟩:=Au Qz;have HAS:=aa (hF.size.trans hsz);refine rX rfl _ _ 26 rfl B 55 i z 9 120 underlying26 hi hz hs hby hzs (by decide) _ j xs et h3 (some ⟨g,0,none⟩) 1 1 cs ex (λh=>by cases h) (by rw [hl]) (λad h=>?_) h1 (by unfold maxLen;omega) (by omega) hbase ?_
 ·injection h with h;subst h;intro k u hk;rw [rC,Nat.zero_add];unfold World.cell?;rw [hg];simpa using hk
 intro t' w9 ho hgr hv;have nZ:bG w9 b c0 c1 c2 c3 c4 (.slice oT j cT) c6 c7 c8 c9:=hB.keep (hgr.block b hB.lt (λe=>h4 e.symm));have hsl:=pq ho;obtain ⟨o2,c2,rfl⟩:=hsl;have p9:=((hF.mono (Nat.le_succ 4)).put (i:=4) (by omega) (.slice o2 (j+1) c2));refine wpList_plain rfl λK hK=>?_;have hF2:=((p9.mono (Nat.le_succ 5)).put (i:=5) (by omega) (.pointer (some ⟨b,5,none⟩)));have kc:=nZ.cell 5 _ rfl;have kf:=nZ.fM 5;have hq:=hQ _ _ w9 hF2 ho hgr hv;clear hQ p9 hF2 hF nZ hB ho h3 hgr hv hg;go_simp;refine hK _ _ ?_;have has:=HAS.out;refine wpList_plain rfl λK2 iT=>?_;go_simp;refine iT _ _ (wpList_nil ?_);exact hq
theorem PD {Q:Exit->Act->World->Prop} {ops:Array Oper} {a0 a:Act} {w:World} {wR wT wV:TypeId} {wW wX wY:String} {wZ xa xb:Array Edge} {b g j cT B:Nat} {oT:Option Addr} {cs xs:List Value} {c0 c1 c2 c3 c4 c5 c6 c7 c9:Value} (hF:ai.Fr a0 (λi=>126+i) 22 a) (hsz:a0.tmps.size=180)
  (e3:a.tmps[3]?.getD undef=.pointer (some ⟨b,0,none⟩)) (et:a.eval (.tmp 127)=.slice oT j cT) (ex:a.eval (.tmp 147)=.slice (some ⟨g,0,none⟩) 1 1) (hg:w.heap[g]?=some (.cells cs.toArray 51 (0,0))) (hl:cs.length=8) (h1:∀u ∈ cs,u.oneCell'=true)
  (hB:bG w b c0 c1 c2 c3 c4 c5 c6 c7 (.slice oT j cT) c9) (h3:w.ownsRow B 51 8 (.slice oT j cT) j xs) (h4:(Value.slice oT j cT).ownBlock≠some b) (hj:j<=5000) (hbase:B<=w.heap.size)
  (hQ:∀a' t' w9,ai.Fr a0 (λi=>126+i) 24 a'->w9.ownsRow B 51 8 t' (j+1) (xs++cs)->w.grownBy w9 (Value.slice oT j cT).ownBlock->(t'.ownBlock=(Value.slice oT j cT).ownBlock\/t'.ownBlock=some w.heap.size)->Q .normal a' (w9.setCell ⟨b,8,none⟩ t')) :
  wpList prog ops Q [{ dst:=some 148,op:=.call { callee:=.builtin .append,args:=#[.tmp 127,.tmp 147],argTypes:=#[29,29] },type:=wR,pos:=wW,after:=wZ,guard:=none },{ dst:=some 149,op:=.fieldAddr 32 (.tmp 3) 8,type:=wT,pos:=wX,after:=xa,guard:=none },{ dst:=none,op:=.store 29 (.tmp 149) (.tmp 148),type:=wV,pos:=wY,after:=xb,guard:=none }] a w:=by
 obtain ⟨i,z,hi,hz,hs,hby,hzs⟩:=Au QA;have HAS:=aa (hF.size.trans hsz);refine rX rfl _ _ 29 rfl B 51 i z 8 128 underlying29 hi hz hs hby hzs (by decide) _ j xs et h3 (some ⟨g,0,none⟩) 1 1 cs ex (λh=>by cases h) (by rw [hl]) (λad h=>?_) h1 (by unfold maxLen;omega) (by omega) hbase ?_
 ·injection h with h;subst h;intro k u hk;rw [rC,Nat.zero_add];unfold World.cell?;rw [hg];simpa using hk
 intro t' w9 ho hgr hv;have nZ:bG w9 b c0 c1 c2 c3 c4 c5 c6 c7 (.slice oT j cT) c9:=hB.keep (hgr.block b hB.lt (λe=>h4 e.symm));have hsl:=pq ho;obtain ⟨o2,c2,rfl⟩:=hsl;have p9:=((hF.mono (Nat.le_succ 22)).put (i:=22) (by omega) (.slice o2 (j+1) c2));refine wpList_plain rfl λK hK=>?_;have hF2:=((p9.mono (Nat.le_succ 23)).put (i:=23) (by omega) (.pointer (some ⟨b,8,none⟩)));have kc:=nZ.cell 8 _ rfl;have kf:=nZ.fM 8;have hq:=hQ _ _ w9 hF2 ho hgr hv;clear hQ p9 hF2 hF nZ hB ho h3 hgr hv hg;go_simp;refine hK _ _ ?_;have has:=HAS.out;refine wpList_plain rfl λK2 iT=>?_;go_simp;refine iT _ _ (wpList_nil ?_);exact hq
theorem PI {Q:Exit->Act->World->Prop} {ops:Array Oper} {a0 a:Act} {w:World} {wR wT wV:TypeId} {wW wX wY:String} {wZ xa xb:Array Edge} {b g j cT B:Nat} {oT:Option Addr} {cs xs:List Value} {c0 c1 c2 c3 c4 c5 c6 c7 c8:Value} (hF:ai.Fr a0 (λi=>157+i) 20 a) (hsz:a0.tmps.size=180)
  (e3:a.tmps[3]?.getD undef=.pointer (some ⟨b,0,none⟩)) (et:a.eval (.tmp 158)=.slice oT j cT) (ex:a.eval (.tmp 176)=.slice (some ⟨g,0,none⟩) 1 1) (hg:w.heap[g]?=some (.cells cs.toArray 53 (0,0))) (hl:cs.length=8) (h1:∀u ∈ cs,u.oneCell'=true)
  (hB:bG w b c0 c1 c2 c3 c4 c5 c6 c7 c8 (.slice oT j cT)) (h3:w.ownsRow B 53 8 (.slice oT j cT) j xs) (h4:(Value.slice oT j cT).ownBlock≠some b) (hj:j<=5000) (hbase:B<=w.heap.size)
  (hQ:∀a' t' w9,ai.Fr a0 (λi=>157+i) 22 a'->w9.ownsRow B 53 8 t' (j+1) (xs++cs)->w.grownBy w9 (Value.slice oT j cT).ownBlock->(t'.ownBlock=(Value.slice oT j cT).ownBlock\/t'.ownBlock=some w.heap.size)->Q .normal a' (w9.setCell ⟨b,9,none⟩ t')) :
  wpList prog ops Q [{ dst:=some 177,op:=.call { callee:=.builtin .append,args:=#[.tmp 158,.tmp 176],argTypes:=#[30,30] },type:=wR,pos:=wW,after:=wZ,guard:=none },{ dst:=some 178,op:=.fieldAddr 32 (.tmp 3) 9,type:=wT,pos:=wX,after:=xa,guard:=none },{ dst:=none,op:=.store 30 (.tmp 178) (.tmp 177),type:=wV,pos:=wY,after:=xb,guard:=none }] a w:=by
 obtain ⟨i,z,hi,hz,hs,hby,hzs⟩:=Au QC;have HAS:=aa (hF.size.trans hsz);refine rX rfl _ _ 30 rfl B 53 i z 8 120 underlying30 hi hz hs hby hzs (by decide) _ j xs et h3 (some ⟨g,0,none⟩) 1 1 cs ex (λh=>by cases h) (by rw [hl]) (λad h=>?_) h1 (by unfold maxLen;omega) (by omega) hbase ?_
 ·injection h with h;subst h;intro k u hk;rw [rC,Nat.zero_add];unfold World.cell?;rw [hg];simpa using hk
 intro t' w9 ho hgr hv;have nZ:bG w9 b c0 c1 c2 c3 c4 c5 c6 c7 c8 (.slice oT j cT):=hB.keep (hgr.block b hB.lt (λe=>h4 e.symm));have hsl:=pq ho;obtain ⟨o2,c2,rfl⟩:=hsl;have p9:=((hF.mono (Nat.le_succ 20)).put (i:=20) (by omega) (.slice o2 (j+1) c2));refine wpList_plain rfl λK hK=>?_;have hF2:=((p9.mono (Nat.le_succ 21)).put (i:=21) (by omega) (.pointer (some ⟨b,9,none⟩)));have kc:=nZ.cell 9 _ rfl;have kf:=nZ.fM 9;have hq:=hQ _ _ w9 hF2 ho hgr hv;clear hQ p9 hF2 hF nZ hB ho h3 hgr hv hg;go_simp;refine hK _ _ ?_;have has:=HAS.out;refine wpList_plain rfl λK2 iT=>?_;go_simp;refine iT _ _ (wpList_nil ?_);exact hq
theorem PN {tmps:Array Value} {w:World} {b:Nat} {a0 a1 a2 a3 a4 a5 a6 a7 a8 a9:Option Addr} {n0 n1 n2 n3 n4 n5 n6 n7 n8 n9 b0 b1 b2 b3 b4 b5 b6 b7 b8 b9:Nat} (ht:tmps[2]?.getD undef=.pointer (some ⟨b,0,none⟩)) (hb:bG w b (.slice a0 n0 b0) (.slice a1 n1 b1) (.slice a2 n2 b2) (.slice a3 n3 b3) (.slice a4 n4 b4) (.slice a5 n5 b5) (.slice a6 n6 b6) (.slice a7 n7 b7) (.slice a8 n8 b8) (.slice a9 n9 b9)) :
  (results Tryz.f6 tmps).run prog w=.ok (.agg #[.slice a0 n0 b0,.slice a1 n1 b1,.slice a2 n2 b2,.slice a3 n3 b3,.slice a4 n4 b4,.slice a5 n5 b5,.slice a6 n6 b6,.slice a7 n7 b7,.slice a8 n8 b8,.slice a9 n9 b9]) w:=by
 obtain ⟨e0,e1,e2,e3,e4,e5,e6,e7,e8,e9⟩:=hb.mE;clear hb;simp [results,results6,go_sem,ht,e0,e1,e2,e3,e4,e5,e6,e7,e8,e9]
theorem Ft {w:World} {d:Nat} {x:Ins (IL d)} {v4 v5 v6:Value} (h4:Ints w v4 x.labels) (h5:At w d v5 x.body) (h6:At w d v6 x.els):At (w.alloc (.cells #[.int .i64 x.op,.int .i64 x.a,.int .i64 x.b,.int .i64 x.n,v4,v5,v6] 49)) (d+1) (.slice (some ⟨w.heap.size,0,none⟩) 1 1) [x] :=
 D5 7 _ _ _ x (D6 w _ 49 _ x v4 v5 v6 rfl (h4.on (aU _ _)) (At.on (aU _ _) d _ _ h5) (At.on (aU _ _) d _ _ h6))
theorem Du {w:World} {B B' d:Nat} {v:Value} {l:IL d} (h:jG w (Since B' w none) d v l) (hb:B<=B'):At (only w (ge B)) d v l:=FU (λk hk=>aC (tL hb hk.1)) d v l h
theorem Po {x:List Value} (h:x.length=5):∃x0 x1 x2 x3 x4,x = [x0,x1,x2,x3,x4]:=by
 match x,h with
 | [x0,x1,x2,x3,x4],_=>exact ⟨x0,x1,x2,x3,x4,rfl⟩
theorem rS {x:List Value} (h:x.length=6):∃x0 x1 x2 x3 x4 x5,x = [x0,x1,x2,x3,x4,x5]:=by
 match x,h with
 | [x0,x1,x2,x3,x4,x5],_=>exact ⟨x0,x1,x2,x3,x4,x5,rfl⟩
theorem Dz {x:List Value} (h:x.length=7):∃x0 x1 x2 x3 x4 x5 x6,x = [x0,x1,x2,x3,x4,x5,x6]:=by
 match x,h with
 | [x0,x1,x2,x3,x4,x5,x6],_=>exact ⟨x0,x1,x2,x3,x4,x5,x6,rfl⟩
theorem PF {x:List Value} (h:x.length=24):∃x0 x1 x2 x3 x4 x5 x6 x7 x8 x9 bZ ez eB eC eD eF eG eH eM fF gq gS iL iM,x = [x0,x1,x2,x3,x4,x5,x6,x7,x8,x9,bZ,ez,eB,eC,eD,eF,eG,eH,eM,fF,gq,gS,iL,iM]:=by
 match x,h with
 | [x0,x1,x2,x3,x4,x5,x6,x7,x8,x9,bZ,ez,eB,eC,eD,eF,eG,eH,eM,fF,gq,gS,iL,iM],_=>exact ⟨x0,x1,x2,x3,x4,x5,x6,x7,x8,x9,bZ,ez,eB,eC,eD,eF,eG,eH,eM,fF,gq,gS,iL,iM,rfl⟩
theorem Pj {x:List Value} (h:x.length=27):∃x0 x1 x2 x3 x4 x5 x6 x7 x8 x9 bZ ez eB eC eD eF eG eH eM fF gq gS iL iM jN ll lq,x = [x0,x1,x2,x3,x4,x5,x6,x7,x8,x9,bZ,ez,eB,eC,eD,eF,eG,eH,eM,fF,gq,gS,iL,iM,jN,ll,lq]:=by
 match x,h with
 | [x0,x1,x2,x3,x4,x5,x6,x7,x8,x9,bZ,ez,eB,eC,eD,eF,eG,eH,eM,fF,gq,gS,iL,iM,jN,ll,lq],_=>exact ⟨x0,x1,x2,x3,x4,x5,x6,x7,x8,x9,bZ,ez,eB,eC,eD,eF,eG,eH,eM,fF,gq,gS,iL,iM,jN,ll,lq,rfl⟩
end aA
end Go.Proofs.YtmfcojpjpgldhaaGreatDoor
