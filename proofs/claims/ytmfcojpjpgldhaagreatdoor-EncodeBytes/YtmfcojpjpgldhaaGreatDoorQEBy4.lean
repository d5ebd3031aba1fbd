/- Texts that the claim needs. -/
import Derived.Test.YtmfcojpjpgldhaaGreatDoorQEBy3
namespace Go.Proofs.YtmfcojpjpgldhaaGreatDoor
open Go.RowKit aA Go.Proofs.Tryz
set_option linter.unusedVariables false
set_option maxHeartbeats 2000000
abbrev qG (f:FuncId) (op a b n:Int) (lo:Option Addr) (nl lc:Nat) (bo:Option Addr) (nb bc:Nat) (eo:Option Addr) (ne ec:Nat) (w:World) (Q:Ending->World->Prop):Prop:=Calls prog f #[.agg #[.int .i64 op,.int .i64 a,.int .i64 b,.int .i64 n,.slice lo nl lc,.slice bo nb bc,.slice eo ne ec]] w Q
namespace aA
def okF (f op a b n:Int) (ls:List Int) (nb ne:Nat):Bool :=
 if f=1 then bu a b n ls.length nb ne
 else if f=2 then res a&&bu 0 b n ls.length 0 ne
 else if f=3 then res a&&bu 0 b n ls.length 0 0
 else if f=4\/f=6\/f=7 then idx a&&bu 0 b n ls.length nb ne
 else if f=5 then idx a&&ls.all idx&&bu 0 b n 0 nb ne
 else if f=8 then (idx a&&idx b)&&bu 0 0 n ls.length nb ne
 else if f=9 then (op==66 || (decide (-2147483648<=n)&&decide (n<=2147483647)))&&bu a b 0 ls.length nb ne
 else false
structure Two (w:World) (op a b n:Int) (lv bv ev:Value) (u:World):Prop where
 c0:u.cell? ⟨w.heap.size,0,none⟩=some (.int .i64 op)
 c1:u.cell? ⟨w.heap.size,1,none⟩=some (.int .i64 a)
 c2:u.cell? ⟨w.heap.size,2,none⟩=some (.int .i64 b)
 c3:u.cell? ⟨w.heap.size,3,none⟩=some (.int .i64 n)
 c4:u.cell? ⟨w.heap.size,4,none⟩=some lv
 c5:u.cell? ⟨w.heap.size,5,none⟩=some bv
 c6:u.cell? ⟨w.heap.size,6,none⟩=some ev
 e0:u.cell? ⟨w.heap.size+1,0,none⟩=some (.int .i64 op)
 e1:u.cell? ⟨w.heap.size+1,1,none⟩=some (.int .i64 a)
 e2:u.cell? ⟨w.heap.size+1,2,none⟩=some (.int .i64 b)
 e3:u.cell? ⟨w.heap.size+1,3,none⟩=some (.int .i64 n)
 e4:u.cell? ⟨w.heap.size+1,4,none⟩=some lv
 e5:u.cell? ⟨w.heap.size+1,5,none⟩=some bv
 e6:u.cell? ⟨w.heap.size+1,6,none⟩=some ev
 fz:∀i,u.frozen? ⟨w.heap.size+1,i,none⟩=false
 aL:Below w.heap.size w u
 sz:w.heap.size+2<=u.heap.size
theorem Two.on {w : World} {op a b n : Int} {lv bv ev : Value} {u u' : World} (hb : Below u.heap.size u u') (h : Two w op a b n lv bv ev u) : Two w op a b n lv bv ev u' :=
  ⟨aj hb h.c0, aj hb h.c1, aj hb h.c2, aj hb h.c3, aj hb h.c4, aj hb h.c5, aj hb h.c6,
   aj hb h.e0, aj hb h.e1, aj hb h.e2, aj hb h.e3, aj hb h.e4, aj hb h.e5, aj hb h.e6,
   λi => (hb.frozen (p := ⟨w.heap.size + 1, i, none⟩) (by have := h.sz; show w.heap.size + 1 < _; omega)).trans (h.fz i), h.aL.trans (hb.mono h.aL.size), tL h.sz hb.size⟩
theorem Two.start (w:World) (t:TypeId) (op a b n:Int) (lv bv ev:Value) :
  Two w op a b n lv bv ev ((w.alloc (.cells #[.int .i64 op,.int .i64 a,.int .i64 b,.int .i64 n,lv,bv,ev] t)).alloc (.cells #[.int .i64 op,.int .i64 a,.int .i64 b,.int .i64 n,lv,bv,ev] t)):=by
 refine ⟨?_,?_,?_,?_,?_,?_,?_,?_,?_,?_,?_,?_,?_,?_,?_,((Below.refl _ w).alloc (aI _) _).alloc (by simp) _,by simp⟩
 all_goals first
  | (rw [World.cell?_alloc_past _ _ _ (by simp),World.cell?_alloc_at _ t _ _ rfl];rfl)
  | (rw [World.cell?_alloc_at _ t _ _ (by simp)];rfl)
  | (intro i;rw [World.frozen?_alloc_at _ t _ _ (by simp)])
theorem mW {w u:World} (h:Below w.heap.size w u) (i:Nat) (v:Value):Below w.heap.size w (u.setCell ⟨w.heap.size+1,i,none⟩ v):=h.setCell (p:=⟨w.heap.size+1,i,none⟩) (by show w.heap.size<=w.heap.size+1;omega) v
theorem Ee {w u:World} (h:Below w.heap.size w u) (o:Obj):Below w.heap.size w (u.alloc o):=h.alloc h.size o
theorem db {w u v:World} (h:Below w.heap.size w u) (k:Below u.heap.size u v):Below w.heap.size w v:=h.trans (k.mono h.size)
end aA
theorem SA {I:World->Prop} (C:dB I) (op a b n:Int) (ls:List Int) (lo bo eo:Option Addr) (nb ne lc bc ec:Nat) (w:World) (hf:form op=1) (hI:I w) (hl:Ints w (.slice lo ls.length lc) ls) :
  qG 33 op a b n lo (ls.length) lc bo nb bc eo ne ec w λe w'=>iN (okF 1 op a b n ls nb ne) 30 e/\Below w.heap.size w w':=by
 have hlen:=hl.1;have bD:=Two.start w 49 op a b n (.slice lo ls.length lc) (.slice bo nb bc) (.slice eo ne ec);rw [show okF 1 op a b n ls nb ne=(bu a b n ls.length nb ne) from rfl];have HL:=ag hl;generalize hnl:ls.length=nl at *;generalize hq:bu a b n nl nb ne=q at *;have HQ:=ag hq;clear hq;have bV:=ag hnl;have HT:=ag bD;have HF:=ag hf;clear hl bD hnl hf;go_enter func33,ntmps33;go_wp2_with fail;refine (C.form op _ (C.keep HT.out.aL hI)).mono ?_;rintro e u ⟨rfl,hb⟩;rw [HF.out];have hT:=HT.out.on hb;have bT:=ag hT;obtain ⟨c0,c1,c2,c3,c4,c5,c6,e0,e1,e2,e3,e4,e5,e6,fz,aL,sz⟩:=hT;clear HT hb;have f1:=fz 1;have f2:=fz 2;have f3:=fz 3;have f4:=fz 4;have f5:=fz 5;have f6:=fz 6;have HB:=ag aL;clear fz aL;go_wp2_with fail;refine (vG op a b n lo bo eo nl nb ne lc bc ec _).mono ?_;rintro e u9 ⟨hN,cO⟩;have dA:Hid (Below w.heap.size w u9):=db (HB.out) cO;clear cO;rw [HQ.out] at hN;rcases hN with ⟨h,rfl⟩|⟨h,rfl⟩
 ·go_wp2;go_end0;exact ⟨.inl ⟨h,rfl⟩,dA.out⟩
 go_wp2;exact ⟨rfl,.inr ⟨h,rfl⟩,dA.out⟩
theorem SB {I:World->Prop} (C:dB I) (op a b n:Int) (ls:List Int) (lo bo eo:Option Addr) (nb ne lc bc ec:Nat) (w:World) (hf:form op=2) (hI:I w) (hl:Ints w (.slice lo ls.length lc) ls) :
  qG 33 op a b n lo (ls.length) lc bo nb bc eo ne ec w λe w'=>iN (okF 2 op a b n ls nb ne) 30 e/\Below w.heap.size w w':=by
 have hlen:=hl.1;have bD:=Two.start w 49 op a b n (.slice lo ls.length lc) (.slice bo nb bc) (.slice eo ne ec);rw [show okF 2 op a b n ls nb ne=(res a&&bu 0 b n ls.length 0 ne) from rfl];have HL:=ag hl;generalize hnl:ls.length=nl at *;generalize hq:bu 0 b n nl 0 ne=q at *;have HQ:=ag hq;clear hq;generalize hr:res a=r at *;have HR:=ag hr;clear hr;have bV:=ag hnl;have HT:=ag bD;have HF:=ag hf;clear hl bD hnl hf;go_enter func33,ntmps33;go_wp2_with fail;refine (C.form op _ (C.keep HT.out.aL hI)).mono ?_;rintro e u ⟨rfl,hb⟩;rw [HF.out];have hT:=HT.out.on hb;have bT:=ag hT;obtain ⟨c0,c1,c2,c3,c4,c5,c6,e0,e1,e2,e3,e4,e5,e6,fz,aL,sz⟩:=hT;clear HT hb;have f1:=fz 1;have f2:=fz 2;have f3:=fz 3;have f4:=fz 4;have f5:=fz 5;have f6:=fz 6;have HB:=ag aL;clear fz aL;go_wp2_with fail;refine (Ks a _).mono ?_;rintro e u2 ⟨hN,hb2⟩;have gF:=ag (db HB.out hb2);rw [HR.out] at hN;have hT:=bT.out.on hb2;clear c0 c1 c2 c3 c4 c5 c6 e0 e1 e2 e3 e4 e5 e6 f1 f2 f3 f4 f5 f6 hb2 bT sz;obtain ⟨c0,c1,c2,c3,c4,c5,c6,e0,e1,e2,e3,e4,e5,e6,fz,aL,sz⟩:=hT;have f1:=fz 1;have f2:=fz 2;have f3:=fz 3;have f4:=fz 4;have f5:=fz 5;have f6:=fz 6;clear fz aL;rcases hN with ⟨rfl,rfl⟩|⟨rfl,rfl⟩
 rotate_left
 ·go_wp2;exact ⟨rfl,.inr ⟨rfl,rfl⟩,gF.out⟩
 go_wp2_with fail;refine (vG op 0 b n lo none eo nl 0 ne lc 0 ec _).mono ?_;rintro e u9 ⟨hN,cO⟩;have dA:Hid (Below w.heap.size w u9):=db (mW (mW (gF.out) 1 _) 5 _) cO;clear cO;rw [HQ.out] at hN;rcases hN with ⟨h,rfl⟩|⟨h,rfl⟩
 ·go_wp2;go_end0;exact ⟨.inl ⟨h,rfl⟩,dA.out⟩
 go_wp2;exact ⟨rfl,.inr ⟨h,rfl⟩,dA.out⟩
theorem SC {I:World->Prop} (C:dB I) (op a b n:Int) (ls:List Int) (lo bo eo:Option Addr) (nb ne lc bc ec:Nat) (w:World) (hf:form op=3) (hI:I w) (hl:Ints w (.slice lo ls.length lc) ls) :
  qG 33 op a b n lo (ls.length) lc bo nb bc eo ne ec w λe w'=>iN (okF 3 op a b n ls nb ne) 30 e/\Below w.heap.size w w':=by
 have hlen:=hl.1;have bD:=Two.start w 49 op a b n (.slice lo ls.length lc) (.slice bo nb bc) (.slice eo ne ec);rw [show okF 3 op a b n ls nb ne=(res a&&bu 0 b n ls.length 0 0) from rfl];have HL:=ag hl;generalize hnl:ls.length=nl at *;generalize hq:bu 0 b n nl 0 0=q at *;have HQ:=ag hq;clear hq;generalize hr:res a=r at *;have HR:=ag hr;clear hr;have bV:=ag hnl;have HT:=ag bD;have HF:=ag hf;clear hl bD hnl hf;go_enter func33,ntmps33;go_wp2_with fail;refine (C.form op _ (C.keep HT.out.aL hI)).mono ?_;rintro e u ⟨rfl,hb⟩;rw [HF.out];have hT:=HT.out.on hb;have bT:=ag hT;obtain ⟨c0,c1,c2,c3,c4,c5,c6,e0,e1,e2,e3,e4,e5,e6,fz,aL,sz⟩:=hT;clear HT hb;have f1:=fz 1;have f2:=fz 2;have f3:=fz 3;have f4:=fz 4;have f5:=fz 5;have f6:=fz 6;have HB:=ag aL;clear fz aL;go_wp2_with fail;refine (Ks a _).mono ?_;rintro e u2 ⟨hN,hb2⟩;have gF:=ag (db HB.out hb2);rw [HR.out] at hN;have hT:=bT.out.on hb2;clear c0 c1 c2 c3 c4 c5 c6 e0 e1 e2 e3 e4 e5 e6 f1 f2 f3 f4 f5 f6 hb2 bT sz;obtain ⟨c0,c1,c2,c3,c4,c5,c6,e0,e1,e2,e3,e4,e5,e6,fz,aL,sz⟩:=hT;have f1:=fz 1;have f2:=fz 2;have f3:=fz 3;have f4:=fz 4;have f5:=fz 5;have f6:=fz 6;clear fz aL;rcases hN with ⟨rfl,rfl⟩|⟨rfl,rfl⟩
 rotate_left
 ·go_wp2;exact ⟨rfl,.inr ⟨rfl,rfl⟩,gF.out⟩
 go_wp2_with fail;refine (vG op 0 b n lo none none nl 0 0 lc 0 0 _).mono ?_;rintro e u9 ⟨hN,cO⟩;have dA:Hid (Below w.heap.size w u9):=db (mW (mW (mW (gF.out) 1 _) 5 _) 6 _) cO;clear cO;rw [HQ.out] at hN;rcases hN with ⟨h,rfl⟩|⟨h,rfl⟩
 ·go_wp2;go_end0;exact ⟨.inl ⟨h,rfl⟩,dA.out⟩
 go_wp2;exact ⟨rfl,.inr ⟨h,rfl⟩,dA.out⟩
theorem SD {I:World->Prop} (C:dB I) (op a b n:Int) (ls:List Int) (lo bo eo:Option Addr) (nb ne lc bc ec:Nat) (w:World) (hf:form op=4) (hI:I w) (hl:Ints w (.slice lo ls.length lc) ls) :
  qG 33 op a b n lo (ls.length) lc bo nb bc eo ne ec w λe w'=>iN (okF 4 op a b n ls nb ne) 30 e/\Below w.heap.size w w':=by
 have hlen:=hl.1;have bD:=Two.start w 49 op a b n (.slice lo ls.length lc) (.slice bo nb bc) (.slice eo ne ec);rw [show okF 4 op a b n ls nb ne=(idx a&&bu 0 b n ls.length nb ne) from rfl];have HL:=ag hl;generalize hnl:ls.length=nl at *;generalize hq:bu 0 b n nl nb ne=q at *;have HQ:=ag hq;clear hq;generalize hr:idx a=r at *;have HR:=ag hr;clear hr;have bV:=ag hnl;have HT:=ag bD;have HF:=ag hf;clear hl bD hnl hf;go_enter func33,ntmps33;go_wp2_with fail;refine (C.form op _ (C.keep HT.out.aL hI)).mono ?_;rintro e u ⟨rfl,hb⟩;rw [HF.out];have hT:=HT.out.on hb;have bT:=ag hT;obtain ⟨c0,c1,c2,c3,c4,c5,c6,e0,e1,e2,e3,e4,e5,e6,fz,aL,sz⟩:=hT;clear HT hb;have f1:=fz 1;have f2:=fz 2;have f3:=fz 3;have f4:=fz 4;have f5:=fz 5;have f6:=fz 6;have HB:=ag aL;clear fz aL;go_wp2_with fail;refine (sK _ [a] _ (oP _ _ _ _ _ (by simp) (by show 1<=_;omega))).mono ?_;rintro e u2 ⟨hN,hu2⟩;have hb2:Below u.heap.size u u2:=by rw [hu2];exact (Below.refl _ u).alloc (aI _) _
 clear hu2;have gF:=ag (db HB.out hb2);have hall : [a].all idx=r:=by rw [<- HR.out];simp
 rw [hall] at hN;clear hall;have hT:=bT.out.on hb2;clear c0 c1 c2 c3 c4 c5 c6 e0 e1 e2 e3 e4 e5 e6 f1 f2 f3 f4 f5 f6 hb2 bT sz;obtain ⟨c0,c1,c2,c3,c4,c5,c6,e0,e1,e2,e3,e4,e5,e6,fz,aL,sz⟩:=hT;have f1:=fz 1;have f2:=fz 2;have f3:=fz 3;have f4:=fz 4;have f5:=fz 5;have f6:=fz 6;clear fz aL;rcases hN with ⟨rfl,rfl⟩|⟨rfl,rfl⟩
 rotate_left
 ·go_wp2;exact ⟨rfl,.inr ⟨rfl,rfl⟩,gF.out⟩
 go_wp2_with fail;refine (vG op 0 b n lo bo eo nl nb ne lc bc ec _).mono ?_;rintro e u9 ⟨hN,cO⟩;have dA:Hid (Below w.heap.size w u9):=db (mW (gF.out) 1 _) cO;clear cO;rw [HQ.out] at hN;rcases hN with ⟨h,rfl⟩|⟨h,rfl⟩
 ·go_wp2;go_end0;exact ⟨.inl ⟨h,rfl⟩,dA.out⟩
 go_wp2;exact ⟨rfl,.inr ⟨h,rfl⟩,dA.out⟩
theorem SE {I:World->Prop} (C:dB I) (op a b n:Int) (ls:List Int) (lo bo eo:Option Addr) (nb ne lc bc ec:Nat) (w:World) (hf:form op=6) (hI:I w) (hl:Ints w (.slice lo ls.length lc) ls) :
  qG 33 op a b n lo (ls.length) lc bo nb bc eo ne ec w λe w'=>iN (okF 6 op a b n ls nb ne) 30 e/\Below w.heap.size w w':=by
 have hlen:=hl.1;have bD:=Two.start w 49 op a b n (.slice lo ls.length lc) (.slice bo nb bc) (.slice eo ne ec);rw [show okF 6 op a b n ls nb ne=(idx a&&bu 0 b n ls.length nb ne) from rfl];have HL:=ag hl;generalize hnl:ls.length=nl at *;generalize hq:bu 0 b n nl nb ne=q at *;have HQ:=ag hq;clear hq;generalize hr:idx a=r at *;have HR:=ag hr;clear hr;have bV:=ag hnl;have HT:=ag bD;have HF:=ag hf;clear hl bD hnl hf;go_enter func33,ntmps33;go_wp2_with fail;refine (C.form op _ (C.keep HT.out.aL hI)).mono ?_;rintro e u ⟨rfl,hb⟩;rw [HF.out];have hT:=HT.out.on hb;have bT:=ag hT;obtain ⟨c0,c1,c2,c3,c4,c5,c6,e0,e1,e2,e3,e4,e5,e6,fz,aL,sz⟩:=hT;clear HT hb;have f1:=fz 1;have f2:=fz 2;have f3:=fz 3;have f4:=fz 4;have f5:=fz 5;have f6:=fz 6;have HB:=ag aL;clear fz aL;go_wp2_with fail;refine (sK _ [a] _ (oP _ _ _ _ _ (by simp) (by show 1<=_;omega))).mono ?_;rintro e u2 ⟨hN,hu2⟩;have hb2:Below u.heap.size u u2:=by rw [hu2];exact (Below.refl _ u).alloc (aI _) _
 clear hu2;have gF:=ag (db HB.out hb2);have hall : [a].all idx=r:=by rw [<- HR.out];simp
 rw [hall] at hN;clear hall;have hT:=bT.out.on hb2;clear c0 c1 c2 c3 c4 c5 c6 e0 e1 e2 e3 e4 e5 e6 f1 f2 f3 f4 f5 f6 hb2 bT sz;obtain ⟨c0,c1,c2,c3,c4,c5,c6,e0,e1,e2,e3,e4,e5,e6,fz,aL,sz⟩:=hT;have f1:=fz 1;have f2:=fz 2;have f3:=fz 3;have f4:=fz 4;have f5:=fz 5;have f6:=fz 6;clear fz aL;rcases hN with ⟨rfl,rfl⟩|⟨rfl,rfl⟩
 rotate_left
 ·go_wp2;exact ⟨rfl,.inr ⟨rfl,rfl⟩,gF.out⟩
 go_wp2_with fail;refine (vG op 0 b n lo bo eo nl nb ne lc bc ec _).mono ?_;rintro e u9 ⟨hN,cO⟩;have dA:Hid (Below w.heap.size w u9):=db (mW (gF.out) 1 _) cO;clear cO;rw [HQ.out] at hN;rcases hN with ⟨h,rfl⟩|⟨h,rfl⟩
 ·go_wp2;go_end0;exact ⟨.inl ⟨h,rfl⟩,dA.out⟩
 go_wp2;exact ⟨rfl,.inr ⟨h,rfl⟩,dA.out⟩
theorem SF {I:World->Prop} (C:dB I) (op a b n:Int) (ls:List Int) (lo bo eo:Option Addr) (nb ne lc bc ec:Nat) (w:World) (hf:form op=7) (hI:I w) (hl:Ints w (.slice lo ls.length lc) ls) :
  qG 33 op a b n lo (ls.length) lc bo nb bc eo ne ec w λe w'=>iN (okF 7 op a b n ls nb ne) 30 e/\Below w.heap.size w w':=by
 have hlen:=hl.1;have bD:=Two.start w 49 op a b n (.slice lo ls.length lc) (.slice bo nb bc) (.slice eo ne ec);rw [show okF 7 op a b n ls nb ne=(idx a&&bu 0 b n ls.length nb ne) from rfl];have HL:=ag hl;generalize hnl:ls.length=nl at *;generalize hq:bu 0 b n nl nb ne=q at *;have HQ:=ag hq;clear hq;generalize hr:idx a=r at *;have HR:=ag hr;clear hr;have bV:=ag hnl;have HT:=ag bD;have HF:=ag hf;clear hl bD hnl hf;go_enter func33,ntmps33;go_wp2_with fail;refine (C.form op _ (C.keep HT.out.aL hI)).mono ?_;rintro e u ⟨rfl,hb⟩;rw [HF.out];have hT:=HT.out.on hb;have bT:=ag hT;obtain ⟨c0,c1,c2,c3,c4,c5,c6,e0,e1,e2,e3,e4,e5,e6,fz,aL,sz⟩:=hT;clear HT hb;have f1:=fz 1;have f2:=fz 2;have f3:=fz 3;have f4:=fz 4;have f5:=fz 5;have f6:=fz 6;have HB:=ag aL;clear fz aL;go_wp2_with fail;refine (sK _ [a] _ (oP _ _ _ _ _ (by simp) (by show 1<=_;omega))).mono ?_;rintro e u2 ⟨hN,hu2⟩;have hb2:Below u.heap.size u u2:=by rw [hu2];exact (Below.refl _ u).alloc (aI _) _
 clear hu2;have gF:=ag (db HB.out hb2);have hall : [a].all idx=r:=by rw [<- HR.out];simp
 rw [hall] at hN;clear hall;have hT:=bT.out.on hb2;clear c0 c1 c2 c3 c4 c5 c6 e0 e1 e2 e3 e4 e5 e6 f1 f2 f3 f4 f5 f6 hb2 bT sz;obtain ⟨c0,c1,c2,c3,c4,c5,c6,e0,e1,e2,e3,e4,e5,e6,fz,aL,sz⟩:=hT;have f1:=fz 1;have f2:=fz 2;have f3:=fz 3;have f4:=fz 4;have f5:=fz 5;have f6:=fz 6;clear fz aL;rcases hN with ⟨rfl,rfl⟩|⟨rfl,rfl⟩
 rotate_left
 ·go_wp2;exact ⟨rfl,.inr ⟨rfl,rfl⟩,gF.out⟩
 go_wp2_with fail;refine (vG op 0 b n lo bo eo nl nb ne lc bc ec _).mono ?_;rintro e u9 ⟨hN,cO⟩;have dA:Hid (Below w.heap.size w u9):=db (mW (gF.out) 1 _) cO;clear cO;rw [HQ.out] at hN;rcases hN with ⟨h,rfl⟩|⟨h,rfl⟩
 ·go_wp2;go_end0;exact ⟨.inl ⟨h,rfl⟩,dA.out⟩
 go_wp2;exact ⟨rfl,.inr ⟨h,rfl⟩,dA.out⟩
theorem SG {I:World->Prop} (C:dB I) (op a b n:Int) (ls:List Int) (lo bo eo:Option Addr) (nb ne lc bc ec:Nat) (w:World) (hf:form op=5) (hI:I w) (hl:Ints w (.slice lo ls.length lc) ls) :
  qG 33 op a b n lo (ls.length) lc bo nb bc eo ne ec w λe w'=>iN (okF 5 op a b n ls nb ne) 30 e/\Below w.heap.size w w':=by
 have hlen:=hl.1;have bD:=Two.start w 49 op a b n (.slice lo ls.length lc) (.slice bo nb bc) (.slice eo ne ec);rw [show okF 5 op a b n ls nb ne=(idx a&&ls.all idx&&bu 0 b n 0 nb ne) from rfl];have HL:=ag hl;generalize hnl:ls.length=nl at *;generalize hq:bu 0 b n 0 nb ne=q at *;have HQ:=ag hq;clear hq;generalize hr:idx a=r at *;have HR:=ag hr;clear hr;generalize hr2:ls.all idx=r2 at *;have HR2:=ag hr2;clear hr2;have bV:=ag hnl;have HT:=ag bD;have HF:=ag hf;clear hl bD hnl hf;go_enter func33,ntmps33;go_wp2_with fail;refine (C.form op _ (C.keep HT.out.aL hI)).mono ?_;rintro e u ⟨rfl,hb⟩;rw [HF.out];have hT:=HT.out.on hb;have bT:=ag hT;obtain ⟨c0,c1,c2,c3,c4,c5,c6,e0,e1,e2,e3,e4,e5,e6,fz,aL,sz⟩:=hT;clear HT hb;have f1:=fz 1;have f2:=fz 2;have f3:=fz 3;have f4:=fz 4;have f5:=fz 5;have f6:=fz 6;have HB:=ag aL;clear fz aL;go_wp2_with fail;refine (sK _ [a] _ (oP _ _ _ _ _ (by simp) (by show 1<=_;omega))).mono ?_;rintro e u2 ⟨hN,hu2⟩;have hb2:Below u.heap.size u u2:=by rw [hu2];exact (Below.refl _ u).alloc (aI _) _
 clear hu2;have gF:=ag (db HB.out hb2);have hall : [a].all idx=r:=by rw [<- HR.out];simp
 rw [hall] at hN;clear hall;have hT:=bT.out.on hb2;clear c0 c1 c2 c3 c4 c5 c6 e0 e1 e2 e3 e4 e5 e6 f1 f2 f3 f4 f5 f6 hb2 bT sz;obtain ⟨c0,c1,c2,c3,c4,c5,c6,e0,e1,e2,e3,e4,e5,e6,fz,aL,sz⟩:=hT;have f1:=fz 1;have f2:=fz 2;have f3:=fz 3;have f4:=fz 4;have f5:=fz 5;have f6:=fz 6;clear fz aL;rcases hN with ⟨rfl,rfl⟩|⟨rfl,rfl⟩
 rotate_left
 ·go_wp2;exact ⟨rfl,.inr ⟨rfl,rfl⟩,gF.out⟩
 go_wp2_with fail;refine (sK _ ls _ (HL.out.on gF.out)).mono ?_;rintro e u3 ⟨hN,rfl⟩;rw [HR2.out] at hN;rcases hN with ⟨rfl,rfl⟩|⟨rfl,rfl⟩
 rotate_left
 ·go_wp2;exact ⟨rfl,.inr ⟨rfl,rfl⟩,gF.out⟩
 go_wp2_with fail;refine (vG op 0 b n none bo eo 0 nb ne 0 bc ec _).mono ?_;rintro e u9 ⟨hN,cO⟩;have dA:Hid (Below w.heap.size w u9):=db (mW (mW (gF.out) 1 _) 4 _) cO;clear cO;rw [HQ.out] at hN;rcases hN with ⟨h,rfl⟩|⟨h,rfl⟩
 ·go_wp2;go_end0;exact ⟨.inl ⟨h,rfl⟩,dA.out⟩
 go_wp2;exact ⟨rfl,.inr ⟨h,rfl⟩,dA.out⟩
theorem SH {I:World->Prop} (C:dB I) (op a b n:Int) (ls:List Int) (lo bo eo:Option Addr) (nb ne lc bc ec:Nat) (w:World) (hf:form op=8) (hI:I w) (hl:Ints w (.slice lo ls.length lc) ls) :
  qG 33 op a b n lo (ls.length) lc bo nb bc eo ne ec w λe w'=>iN (okF 8 op a b n ls nb ne) 30 e/\Below w.heap.size w w':=by
 have hlen:=hl.1;have bD:=Two.start w 49 op a b n (.slice lo ls.length lc) (.slice bo nb bc) (.slice eo ne ec);rw [show okF 8 op a b n ls nb ne=((idx a&&idx b)&&bu 0 0 n ls.length nb ne) from rfl];have HL:=ag hl;generalize hnl:ls.length=nl at *;generalize hq:bu 0 0 n nl nb ne=q at *;have HQ:=ag hq;clear hq;generalize hr:(idx a&&idx b)=r at *;have HR:=ag hr;clear hr;have bV:=ag hnl;have HT:=ag bD;have HF:=ag hf;clear hl bD hnl hf;go_enter func33,ntmps33;go_wp2_with fail;refine (C.form op _ (C.keep HT.out.aL hI)).mono ?_;rintro e u ⟨rfl,hb⟩;rw [HF.out];have hT:=HT.out.on hb;have bT:=ag hT;obtain ⟨c0,c1,c2,c3,c4,c5,c6,e0,e1,e2,e3,e4,e5,e6,fz,aL,sz⟩:=hT;clear HT hb;have f1:=fz 1;have f2:=fz 2;have f3:=fz 3;have f4:=fz 4;have f5:=fz 5;have f6:=fz 6;have HB:=ag aL;clear fz aL;go_wp2_with fail;refine (sK _ [a,b] _ (oP _ _ _ _ _ (by simp) (by show 2<=_;omega))).mono ?_;rintro e u2 ⟨hN,hu2⟩;have hb2:Below u.heap.size u u2:=by rw [hu2];exact (Below.refl _ u).alloc (aI _) _
 clear hu2;have gF:=ag (db HB.out hb2);have hall : [a,b].all idx=r:=by rw [<- HR.out];simp
 rw [hall] at hN;clear hall;have hT:=bT.out.on hb2;clear c0 c1 c2 c3 c4 c5 c6 e0 e1 e2 e3 e4 e5 e6 f1 f2 f3 f4 f5 f6 hb2 bT sz;obtain ⟨c0,c1,c2,c3,c4,c5,c6,e0,e1,e2,e3,e4,e5,e6,fz,aL,sz⟩:=hT;have f1:=fz 1;have f2:=fz 2;have f3:=fz 3;have f4:=fz 4;have f5:=fz 5;have f6:=fz 6;clear fz aL;rcases hN with ⟨rfl,rfl⟩|⟨rfl,rfl⟩
 rotate_left
 ·go_wp2;exact ⟨rfl,.inr ⟨rfl,rfl⟩,gF.out⟩
 go_wp2_with fail;refine (vG op 0 0 n lo bo eo nl nb ne lc bc ec _).mono ?_;rintro e u9 ⟨hN,cO⟩;have dA:Hid (Below w.heap.size w u9):=db (mW (mW (gF.out) 1 _) 2 _) cO;clear cO;rw [HQ.out] at hN;rcases hN with ⟨h,rfl⟩|⟨h,rfl⟩
 ·go_wp2;go_end0;exact ⟨.inl ⟨h,rfl⟩,dA.out⟩
 go_wp2;exact ⟨rfl,.inr ⟨h,rfl⟩,dA.out⟩
theorem SI {I:World->Prop} (C:dB I) (op a b n:Int) (ls:List Int) (lo bo eo:Option Addr) (nb ne lc bc ec:Nat) (w:World) (hf:form op=9) (d1:(op==66)=true) (hI:I w) (hl:Ints w (.slice lo ls.length lc) ls) :
  qG 33 op a b n lo (ls.length) lc bo nb bc eo ne ec w λe w'=>iN (okF 9 op a b n ls nb ne) 30 e/\Below w.heap.size w w':=by
 have hlen:=hl.1;have bD:=Two.start w 49 op a b n (.slice lo ls.length lc) (.slice bo nb bc) (.slice eo ne ec);rw [show okF 9 op a b n ls nb ne=((op==66 || (decide (-2147483648<=n)&&decide (n<=2147483647)))&&bu a b 0 ls.length nb ne) from rfl];rw [d1,Bool.true_or,fN];have HL:=ag hl;generalize hnl:ls.length=nl at *;generalize hq:bu a b 0 nl nb ne=q at *;have HQ:=ag hq;clear hq;have bV:=ag hnl;have HT:=ag bD;have HF:=ag hf;clear hl bD hnl hf;go_enter func33,ntmps33;go_wp2_with fail;refine (C.form op _ (C.keep HT.out.aL hI)).mono ?_;rintro e u ⟨rfl,hb⟩;rw [HF.out];have hT:=HT.out.on hb;have bT:=ag hT;obtain ⟨c0,c1,c2,c3,c4,c5,c6,e0,e1,e2,e3,e4,e5,e6,fz,aL,sz⟩:=hT;clear HT hb;have f3:=fz 3;have HB:=ag aL;clear fz aL;go_wp2_with fail;refine (gJ true _ _).mono ?_;rintro e u2 ⟨hN,rfl⟩;obtain rfl:=hN.yes;go_wp2_with fail;refine (vG op a b 0 lo bo eo nl nb ne lc bc ec _).mono ?_;rintro e u9 ⟨hN,cO⟩;have dA:Hid (Below w.heap.size w u9):=db (mW HB.out 3 _) cO;clear cO;rw [HQ.out] at hN;rcases hN with ⟨h,rfl⟩|⟨h,rfl⟩
 ·go_wp2;go_end0;exact ⟨.inl ⟨h,rfl⟩,dA.out⟩
 go_wp2;exact ⟨rfl,.inr ⟨h,rfl⟩,dA.out⟩
theorem SJ {I:World->Prop} (C:dB I) (op a b n:Int) (ls:List Int) (lo bo eo:Option Addr) (nb ne lc bc ec:Nat) (w:World) (hf:form op=9) (d1:(op==66)=false) (d2:decide (-2147483648<=n)=true) (d3:decide (n<=2147483647)=true) (hI:I w) (hl:Ints w (.slice lo ls.length lc) ls) :
  qG 33 op a b n lo (ls.length) lc bo nb bc eo ne ec w λe w'=>iN (okF 9 op a b n ls nb ne) 30 e/\Below w.heap.size w w':=by
 have hlen:=hl.1;have bD:=Two.start w 49 op a b n (.slice lo ls.length lc) (.slice bo nb bc) (.slice eo ne ec);rw [show okF 9 op a b n ls nb ne=((op==66 || (decide (-2147483648<=n)&&decide (n<=2147483647)))&&bu a b 0 ls.length nb ne) from rfl];rw [d1,d2,d3,Bool.and_self,Bool.or_true,fN];have HL:=ag hl;generalize hnl:ls.length=nl at *;generalize hq:bu a b 0 nl nb ne=q at *;have HQ:=ag hq;clear hq;have bV:=ag hnl;have HT:=ag bD;have HF:=ag hf;clear hl bD hnl hf;go_enter func33,ntmps33;go_wp2_with fail;refine (C.form op _ (C.keep HT.out.aL hI)).mono ?_;rintro e u ⟨rfl,hb⟩;rw [HF.out];have hT:=HT.out.on hb;have bT:=ag hT;obtain ⟨c0,c1,c2,c3,c4,c5,c6,e0,e1,e2,e3,e4,e5,e6,fz,aL,sz⟩:=hT;clear HT hb;have f3:=fz 3;have HB:=ag aL;clear fz aL;go_wp2_with fail;refine (gJ true _ _).mono ?_;rintro e u2 ⟨hN,rfl⟩;obtain rfl:=hN.yes;go_wp2_with fail;refine (vG op a b 0 lo bo eo nl nb ne lc bc ec _).mono ?_;rintro e u9 ⟨hN,cO⟩;have dA:Hid (Below w.heap.size w u9):=db (mW HB.out 3 _) cO;clear cO;rw [HQ.out] at hN;rcases hN with ⟨h,rfl⟩|⟨h,rfl⟩
 ·go_wp2;go_end0;exact ⟨.inl ⟨h,rfl⟩,dA.out⟩
 go_wp2;exact ⟨rfl,.inr ⟨h,rfl⟩,dA.out⟩
theorem SK {I:World->Prop} (C:dB I) (op a b n:Int) (ls:List Int) (lo bo eo:Option Addr) (nb ne lc bc ec:Nat) (w:World) (hf:form op=9) (d1:(op==66)=false) (d2:decide (-2147483648<=n)=true) (d3:decide (n<=2147483647)=false) (hI:I w) (hl:Ints w (.slice lo ls.length lc) ls) :
  qG 33 op a b n lo (ls.length) lc bo nb bc eo ne ec w λe w'=>iN (okF 9 op a b n ls nb ne) 30 e/\Below w.heap.size w w':=by
 have hlen:=hl.1;have bD:=Two.start w 49 op a b n (.slice lo ls.length lc) (.slice bo nb bc) (.slice eo ne ec);rw [show okF 9 op a b n ls nb ne=((op==66 || (decide (-2147483648<=n)&&decide (n<=2147483647)))&&bu a b 0 ls.length nb ne) from rfl];rw [d1,d2,d3,Bool.and_false,Bool.or_false,Bool.false_and];have HL:=ag hl;generalize hnl:ls.length=nl at *;generalize hq:bu a b 0 nl nb ne=q at *;have HQ:=ag hq;clear hq;have bV:=ag hnl;have HT:=ag bD;have HF:=ag hf;clear hl bD hnl hf;go_enter func33,ntmps33;go_wp2_with fail;refine (C.form op _ (C.keep HT.out.aL hI)).mono ?_;rintro e u ⟨rfl,hb⟩;rw [HF.out];have hT:=HT.out.on hb;have bT:=ag hT;obtain ⟨c0,c1,c2,c3,c4,c5,c6,e0,e1,e2,e3,e4,e5,e6,fz,aL,sz⟩:=hT;clear HT hb;have f3:=fz 3;have HB:=ag aL;clear fz aL;go_wp2_with fail;refine (gJ false _ _).mono ?_;rintro e u2 ⟨hN,rfl⟩;obtain rfl:=hN.no;go_wp2;exact ⟨rfl,.inr ⟨rfl,rfl⟩,HB.out⟩
theorem SL {I:World->Prop} (C:dB I) (op a b n:Int) (ls:List Int) (lo bo eo:Option Addr) (nb ne lc bc ec:Nat) (w:World) (hf:form op=9) (d1:(op==66)=false) (d2:decide (-2147483648<=n)=false) (hI:I w) (hl:Ints w (.slice lo ls.length lc) ls) :
  qG 33 op a b n lo (ls.length) lc bo nb bc eo ne ec w λe w'=>iN (okF 9 op a b n ls nb ne) 30 e/\Below w.heap.size w w':=by
 have hlen:=hl.1;have bD:=Two.start w 49 op a b n (.slice lo ls.length lc) (.slice bo nb bc) (.slice eo ne ec);rw [show okF 9 op a b n ls nb ne=((op==66 || (decide (-2147483648<=n)&&decide (n<=2147483647)))&&bu a b 0 ls.length nb ne) from rfl];rw [d1,d2,Bool.false_and,Bool.or_false,Bool.false_and];have HL:=ag hl;generalize hnl:ls.length=nl at *;generalize hq:bu a b 0 nl nb ne=q at *;have HQ:=ag hq;clear hq;have bV:=ag hnl;have HT:=ag bD;have HF:=ag hf;clear hl bD hnl hf;go_enter func33,ntmps33;go_wp2_with fail;refine (C.form op _ (C.keep HT.out.aL hI)).mono ?_;rintro e u ⟨rfl,hb⟩;rw [HF.out];have hT:=HT.out.on hb;have bT:=ag hT;obtain ⟨c0,c1,c2,c3,c4,c5,c6,e0,e1,e2,e3,e4,e5,e6,fz,aL,sz⟩:=hT;clear HT hb;have f3:=fz 3;have HB:=ag aL;clear fz aL;go_wp2_with fail;refine (gJ false _ _).mono ?_;rintro e u2 ⟨hN,rfl⟩;obtain rfl:=hN.no;go_wp2;exact ⟨rfl,.inr ⟨rfl,rfl⟩,HB.out⟩
theorem SN {I:World->Prop} (C:dB I) (op a b n:Int) (ls:List Int) (lo bo eo:Option Addr) (nb ne lc bc ec:Nat) (w:World) (hf:form op=0) (hI:I w) (hl:Ints w (.slice lo ls.length lc) ls) :
  qG 33 op a b n lo (ls.length) lc bo nb bc eo ne ec w λe w'=>iN (okF 0 op a b n ls nb ne) 30 e/\Below w.heap.size w w':=by
 have hlen:=hl.1;have bD:=Two.start w 49 op a b n (.slice lo ls.length lc) (.slice bo nb bc) (.slice eo ne ec);rw [show okF 0 op a b n ls nb ne=(false) from rfl];have HL:=ag hl;generalize hnl:ls.length=nl at *;have bV:=ag hnl;have HT:=ag bD;have HF:=ag hf;clear hl bD hnl hf;go_enter func33,ntmps33;go_wp2_with fail;refine (C.form op _ (C.keep HT.out.aL hI)).mono ?_;rintro e u ⟨rfl,hb⟩;rw [HF.out];have hT:=HT.out.on hb;have bT:=ag hT;obtain ⟨c0,c1,c2,c3,c4,c5,c6,e0,e1,e2,e3,e4,e5,e6,fz,aL,sz⟩:=hT;clear HT hb;have HB:=ag aL;clear fz aL;go_wp2_with fail;refine (gJ false _ _).mono ?_;rintro e u2 ⟨hN,rfl⟩;obtain rfl:=hN.no;go_wp2;exact ⟨rfl,.inr ⟨rfl,rfl⟩,HB.out⟩
theorem SQ {I:World->Prop} (C:dB I) (op a b n:Int) (ls:List Int) (lo bo eo:Option Addr) (nb ne lc bc ec:Nat) (w:World) (hf:form op=10) (hI:I w) (hl:Ints w (.slice lo ls.length lc) ls) :
  qG 33 op a b n lo (ls.length) lc bo nb bc eo ne ec w λe w'=>iN (okF 10 op a b n ls nb ne) 30 e/\Below w.heap.size w w':=by
 have hlen:=hl.1;have bD:=Two.start w 49 op a b n (.slice lo ls.length lc) (.slice bo nb bc) (.slice eo ne ec);rw [show okF 10 op a b n ls nb ne=(false) from rfl];have HL:=ag hl;generalize hnl:ls.length=nl at *;have bV:=ag hnl;have HT:=ag bD;have HF:=ag hf;clear hl bD hnl hf;go_enter func33,ntmps33;go_wp2_with fail;refine (C.form op _ (C.keep HT.out.aL hI)).mono ?_;rintro e u ⟨rfl,hb⟩;rw [HF.out];have hT:=HT.out.on hb;have bT:=ag hT;obtain ⟨c0,c1,c2,c3,c4,c5,c6,e0,e1,e2,e3,e4,e5,e6,fz,aL,sz⟩:=hT;clear HT hb;have HB:=ag aL;clear fz aL;go_wp2_with fail;refine (gJ false _ _).mono ?_;rintro e u2 ⟨hN,rfl⟩;obtain rfl:=hN.no;go_wp2;exact ⟨rfl,.inr ⟨rfl,rfl⟩,HB.out⟩
def FR (f:Int):Prop:=f=0\/f=1\/f=2\/f=3\/f=4\/f=5\/f=6\/f=7\/f=8\/f=9\/f=10
theorem SR {p:Prop} [Decidable p] {a b:Int} (ha:FR a) (hb:FR b):FR (if p then a else b):=by split;exact ha;exact hb
theorem Kt (op:Int):FR (form op):=by
 unfold form
 repeat refine SR (by unfold FR;decide) ?_
 unfold FR;decide
theorem Ef {I:World->Prop} (C:dB I) (op a b n:Int) (ls:List Int) (lo bo eo:Option Addr) (nb ne lc bc ec:Nat) (w:World) (hI:I w) (hl:Ints w (.slice lo ls.length lc) ls) :
  qG 33 op a b n lo (ls.length) lc bo nb bc eo ne ec w λe w'=>iN (okF (form op) op a b n ls nb ne) 30 e/\Below w.heap.size w w':=by
 rcases Kt op with h|h|h|h|h|h|h|h|h|h|h
 ·rw [h];exact SN C op a b n ls lo bo eo nb ne lc bc ec w h hI hl
 ·rw [h];exact SA C op a b n ls lo bo eo nb ne lc bc ec w h hI hl
 ·rw [h];exact SB C op a b n ls lo bo eo nb ne lc bc ec w h hI hl
 ·rw [h];exact SC C op a b n ls lo bo eo nb ne lc bc ec w h hI hl
 ·rw [h];exact SD C op a b n ls lo bo eo nb ne lc bc ec w h hI hl
 ·rw [h];exact SG C op a b n ls lo bo eo nb ne lc bc ec w h hI hl
 ·rw [h];exact SE C op a b n ls lo bo eo nb ne lc bc ec w h hI hl
 ·rw [h];exact SF C op a b n ls lo bo eo nb ne lc bc ec w h hI hl
 ·rw [h];exact SH C op a b n ls lo bo eo nb ne lc bc ec w h hI hl
 ·rw [h];by_cases g1:op=66
  ·exact SI C op a b n ls lo bo eo nb ne lc bc ec w h (by simp [g1]) hI hl
  by_cases g2:-2147483648<=n
  ·by_cases g3:n<=2147483647
   ·exact SJ C op a b n ls lo bo eo nb ne lc bc ec w h (by simp [g1]) (by simp [g2]) (by simp [g3]) hI hl
   exact SK C op a b n ls lo bo eo nb ne lc bc ec w h (by simp [g1]) (by simp [g2]) (by simp;omega) hI hl
  exact SL C op a b n ls lo bo eo nb ne lc bc ec w h (by simp [g1]) (by simp;omega) hI hl
 rw [h];exact SQ C op a b n ls lo bo eo nb ne lc bc ec w h hI hl
end Go.Proofs.YtmfcojpjpgldhaaGreatDoor
