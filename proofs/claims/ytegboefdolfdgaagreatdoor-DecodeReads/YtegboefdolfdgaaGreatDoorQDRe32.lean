/- Texts that the claim needs. -/
import Derived.Test.YtegboefdolfdgaaGreatDoorQDRe31
import Derived.Test.YtegboefdolfdgaaGreatDoorQDRe30
import Derived.Deep.RegionLaw
import Derived.Deep.CutRange
namespace Go.Proofs.YtegboefdolfdgaaGreatDoor
open Go.RowKit aA ai
set_option linter.unusedVariables false
set_option maxRecDepth 100000
set_option maxHeartbeats 32000000
theorem Lj (w0:World) (p q:Nat) (s:ByteArray) (en i n:Nat) (c:Nat->Value) (w:World) (h:DM w0 p q s en i n 0 c w) :
  Calls Tryz.prog 18 #[.pointer (some ⟨p,0,none⟩),.int .i64 8,.pointer (some ⟨q,0,none⟩)] w (YS w0 p q s en 7 c w (lift (qQ s en i) n) fun _ n' c' u l=>n'=n/\aI 1 uD u (Since w.heap.size u none) (c' 7) l):=by
 have HY:=aa (kg w0 p s en i n 0 w h.ds);have H0:=aa h;have hpw:=h.ds.lt;have UU:=h.lt;clear h;obtain ⟨G,hG⟩:∃G,G=lift (qQ s en i) n:=⟨_,rfl⟩;rw [<- hG];have HG:=aa hG;clear hG;go_enter Tryz.func18,Tryz.ntmps18;go_wp2_with fail;refine HY.out.mono ?_;rintro e u1 ⟨y,i1,n1,z1,rfl,h1,h2,hF⟩;have H1:=aa (And.intro (H0.out.call h1 h2) (bh.of (g:=q) h2));have da:=aa hF;have bW:Hid (w.heap.size<=u1.heap.size):=aa h2.size;clear h1 h2 hF HY H0;obtain ⟨u2,hu2⟩:∃u2,u2=u1.alloc (.cells #[.int .i64 y] 3):=⟨_,rfl⟩;have H2:Hid (DM w0 p q s en i1 n1 z1 c u2/\bh p q w u2):=aa (by rw [hu2];exact ⟨H1.out.1.on (aD _ _),H1.out.2.trans (bh.of (g:=q) (But.of p (aD _ _)))⟩);have AL:Hid (aI 1 uD u2 (Since w.heap.size u2 none) (.slice (some ⟨u1.heap.size,0,none⟩) 1 1) [y]):=aa (by rw [hu2];exact Fy bW.out y _);have uE:=aa hu2;have x7:=H2.out.1.cell 7 (by decide);have f7:=H2.out.1.ag 7;rw [hu2] at x7 f7;clear hu2 H1;go_wp2;go_end0;rw [<- uE.out];have hk:∀k,Since w.heap.size u2 none k->Since w.heap.size (u2.setCell ⟨q,7,none⟩ (.slice (some ⟨u1.heap.size,0,none⟩) 1 1)) none k/\(u2.setCell ⟨q,7,none⟩ (.slice (some ⟨u1.heap.size,0,none⟩) 1 1)).heap[k]?=u2.heap[k]?:=fun k hk=>⟨⟨hk.1,by simpa using hk.2.1,by simp⟩,Below.heap_setCell _ _ _ _ (by have:=hk.1;show k≠q;omega)⟩;refine ⟨rfl,i1,n1,z1,upd c 7 (.slice (some ⟨u1.heap.size,0,none⟩) 1 1),H2.out.1.put 7 (by decide) _,H2.out.2.trans (bh.mod 7 u2 _),fun g hg=>if_neg hg,?_⟩;rw [HG.out];refine Fits.bd da.out ?_;refine Fits.fin fun hz=>?_;exact ⟨(da.out.ok hz).2.1,aI.keep sS hk AL.out⟩
namespace ai
theorem F3 {s:ByteArray} {en:Nat}:∀(r:Nat) (l:List (List Int × IL 81)) (i n:Nat) (fs:List (List Int × IL 81)) (j m:Nat),n<=65536->oh s en r l i n=.ok (fs,j,m)->m<=65536
 | 0,l,i,n,fs,j,m,hn,h=>by cases h;exact hn
 | r+1,l,i,n,fs,j,m,hn,h=>by
  rw [xN] at h;obtain ⟨x,j1,n1,h1,h2⟩:=fO h;exact F3 r _ _ _ _ _ _ (F4 hn h1) h2
theorem Ob {s:ByteArray} {en L i n:Nat} {fs:List (List Int × IL 81)} {j m:Nat} (hn:n<=65536) (h:gP s en L i n=.ok (fs,j,m)):m<=65536:=by
 unfold gP at h;obtain ⟨z,j1,n1,h1,h2⟩:=fO h;have e:=(mO h1).2;by_cases hz:z=(L:Int)
 ·rw [if_pos hz] at h2;exact F3 _ _ _ _ _ _ _ (by omega) h2
 ·rw [if_neg hz] at h2;cases h2
theorem MG.code {p g:Nat} {m:Mod 81} {c:Nat->Value} {w w':World} (h:MG p g m c w) (hb:bh p g w w') (hp:p<w.heap.size) {fs:List (List Int × IL 81)} (hl:fs.length=m.funcs.length)
  {o:Option Addr} {ob cap:Nat} {ty:Nat->Int} {a b:Nat->Value} (h1:c 2=.slice o m.funcs.length cap) (h2:0<m.funcs.length->o=some ⟨g,ob,none⟩/\FB g ob m.funcs.length ty a b w/\p<g) (h3:∀j f,m.funcs[j]?=some f->ty j=f.type)
  (hf:0<m.funcs.length->∃a' b',FB g ob m.funcs.length ty a' b' w'/\∀q x,fs[q]?=some x->aH w' (Since w.heap.size w' none) (a' q) x.1/\ah w' (Since w.heap.size w' none) 81 (b' q) x.2) :
  MG p g { m with funcs:=List.zipWith nV m.funcs fs } c w':=by
 have hs:∀k,Sm p g w k->Sm p g w' k/\w'.heap[k]?=w.heap[k]?:=fun k hk=>⟨⟨hk.1,Nat.lt_of_lt_of_le hk.2.1 hb.size,hk.2.2⟩,hb.block k hk.2.1 (by have:=hk.1;omega) hk.2.2⟩;have hlen:(List.zipWith nV m.funcs fs).length=m.funcs.length:=by rw [List.length_zipWith,hl,Nat.min_self]
 refine ⟨aI.keep uG hs h.types,aI.keep uI hs h.imports,aI.keep mU hs h.tables,aI.keep mU hs h.dU,aI.keep (uN 81) hs h.globals,aI.keep uL hs h.exports,aI.keep sS hs h.start,aI.keep (uP 81) hs h.elems,aI.keep (uR 81) hs h.dV,?_⟩;by_cases h0:0<m.funcs.length
 ·obtain ⟨rfl,vX,F5⟩:=h2 h0;have qY:=vX.lt;obtain ⟨a',b',Oc,hx⟩:=hf h0;refine ⟨_,ob,cap,ty,a',b',by rw [hlen];exact h1,fun _=>⟨rfl,by rw [hlen];exact Oc,F5⟩,fun j f hj=>?_⟩;have hj:(List.zipWith nV m.funcs fs)[j]?=some f:=hj;rw [List.getElem?_zipWith] at hj;cases hm:m.funcs[j]? with
  | none=>rw [hm] at hj;cases hj
  | some f0 =>
   cases hq:fs[j]? with
   | none=>rw [hm,hq] at hj;cases hj
   | some x =>
    rw [hm,hq] at hj;have hj:nV f0 x=f:=by simpa using hj
    subst hj;obtain ⟨i1,a1⟩:=hx j x hq;exact ⟨h3 j f0 hm,i1.keep (oU hp qY),ah.keep (oU hp qY) _ _ _ a1⟩
 ·have hn:m.funcs = []:=List.length_eq_zero_iff.1 (by omega);refine ⟨o,ob,cap,ty,a,b,by rw [hlen];exact h1,fun h=>absurd h (by rw [hlen];exact h0),fun j f hj=>?_⟩;have hj:(List.zipWith nV m.funcs fs)[j]?=some f:=hj;rw [hn] at hj;simp at hj
theorem MG.none_ {p g:Nat} {m:Mod 81} {c:Nat->Value} {w:World} (h:MG p g m c w) (h0:¬ 0<m.funcs.length):MG p p m c w:=by
 have hs:∀k,Sm p g w k->Sm p p w k/\w.heap[k]?=w.heap[k]?:=fun k hk=>⟨⟨hk.1,hk.2.1,by have:=hk.1;omega⟩,rfl⟩;refine ⟨aI.keep uG hs h.types,aI.keep uI hs h.imports,aI.keep mU hs h.tables,aI.keep mU hs h.dU,aI.keep (uN 81) hs h.globals,aI.keep uL hs h.exports,aI.keep sS hs h.start,aI.keep (uP 81) hs h.elems,aI.keep (uR 81) hs h.dV,?_⟩;obtain ⟨o,ob,cap,ty,a,b,h1,h2,h3⟩:=h.funcs;refine ⟨o,ob,cap,ty,a,b,h1,fun h=>absurd h h0,fun j f hj=>?_⟩;have hn:m.funcs = []:=List.length_eq_zero_iff.1 (by omega);rw [hn] at hj;simp at hj
end ai
theorem Od {w0:World} {p:Nat} {s:ByteArray}:kr w0 p s (MM p) (bA s 10) 10:=by
 intro st c en k i n w hr hM;obtain ⟨hk,hn,jP,g,hG⟩:=hM
 have fin:∀g,MG p g st.m c w->(0<st.m.funcs.length\/g=p)->Calls Tryz.prog 28 #[.pointer (some ⟨p,0,none⟩),.int .i64 10] w (iO w0 p s (MM p) en w (bA s 10 st en i)):=by
  intro g hG qd;obtain ⟨o,ob,cap,ty,a,b,h1,h2,h3⟩:=hG.funcs;have hbase:=hr.base;refine (Oe w0 p s c en k i n g ob st.m.funcs.length cap o ty a b w hr jP h1 (fun h0=>⟨(h2 h0).1,(h2 h0).2.1,by have:=(h2 h0).2.2;omega,by have:=(h2 h0).2.2;omega⟩)).mono ?_;intro e w' hx
  show iO w0 p s (MM p) en w (match gP s en st.m.funcs.length i st.cnt with
   | .ok (fs,j,n)=>.ok (⟨{ st.m with funcs:=List.zipWith nV st.m.funcs fs },st.m.funcs.length,n⟩,j)
   | .error z=>.error z) e w'
  rw [<- hn];cases hR:gP s en st.m.funcs.length i n with
  | error z=>rw [hR] at hx;exact hx
  | ok v =>
   obtain ⟨fs,j,m⟩:=v;rw [hR] at hx;obtain ⟨rfl,⟨hrs,hl,xO⟩,hb⟩:=hx;refine ⟨rfl,⟨c,_,m,hrs,rfl,rfl,Ob jP hR,g,?_⟩,?_⟩
   ·exact hG.code hb hr.lt hl h1 h2 (fun j f hj=>(h3 j f hj).1) xO
   ·rcases qd with h0|rfl
    ·exact hb.t (h2 h0).2.1
    ·exact ⟨hb.os,hb.tape,hb.output,hb.size,fun k hk hp _=>hb.block k hk hp hp⟩
 by_cases h0:0<st.m.funcs.length
 ·exact fin g hG (.inl h0)
 ·exact fin p (hG.none_ h0) (.inr rfl)
namespace ai
theorem FB.Og {g ob L:Nat} {ty:Nat->Int} {a b:Nat->Value} {w:World} (h:FB g ob L ty a b w) {q:Nat} (hq:q<L):FB g ob L ty a b (w.setCell ⟨g,ob+q*3,none⟩ (.int .i64 (ty q))):=by
 obtain ⟨cur,h1,h2⟩:=h;refine ⟨cur.setIfInBounds (ob+q*3) (.int .i64 (ty q)),heap_setCell_same w g _ cur _ _ h1,fun j hj=>?_⟩;have hlt:ob+q*3<cur.size:=(Array.getElem?_eq_some_iff.1 (h2 q hq).1).1;obtain ⟨a1,a2,a3⟩:=h2 j hj;refine ⟨?_,?_,?_⟩
 ·rw [Array.getElem?_setIfInBounds];by_cases hjq:j=q
  ·subst hjq;rw [if_pos rfl,if_pos hlt]
  ·rw [if_neg (by omega)];exact a1
 ·rw [Array.getElem?_setIfInBounds,if_neg (by omega)];exact a2
 ·rw [Array.getElem?_setIfInBounds,if_neg (by omega)];exact a3
def F6 (w0:World) (p q:Nat) (s:ByteArray) (c:Nat->Value) (en g ob L:Nat) (ty:Nat->Int) (w:World) (X:R2 (List (List Int × IL 81))) (e:Ending) (u:World):Prop :=
 e=.returned (.tuple #[])/\∃(i n:Nat) (z:Int),DM w0 p q s en i n z c u/\bh p g w u/\(z=0->n<=65536)/\Fits X (fun fs=>fs.length=L/\(0<L->∃a b,FB g ob L ty a b u/\∀j x,fs[j]?=some x->aH u (Since w.heap.size u none) (a j) x.1/\ah u (Since w.heap.size u none) 81 (b j) x.2)) i n z
def KL (w0:World) (p q:Nat) (s:ByteArray) (c:Nat->Value) (en g ob L:Nat) (ty:Nat->Int) (w:World) (R:R2 (List (List Int × IL 81))) (k:Nat) (wr:World):Prop :=
 (∃(fs:List (List Int × IL 81)) (jq nq:Nat),fs.length=k/\R=oh s en (L-k) fs jq nq/\nq<=65536/\DM w0 p q s en jq nq 0 c wr/\bh p g w wr/\(0<L->∃a b,FB g ob L ty a b wr/\∀j x,fs[j]?=some x->aH wr (Since w.heap.size wr none) (a j) x.1/\ah wr (Since w.heap.size wr none) 81 (b j) x.2)) \/
 ∃(y:Int) (i' n':Nat),y≠0/\R=.error y/\DM w0 p q s en i' n' y c wr/\bh p g w wr
theorem KL.on {w0:World} {p q:Nat} {s:ByteArray} {c:Nat->Value} {en g ob L:Nat} {ty:Nat->Int} {w:World} {R:R2 (List (List Int × IL 81))} {k:Nat} {u u2:World} (h:KL w0 p q s c en g ob L ty w R k u) (hb:Below u.heap.size u u2):KL w0 p q s c en g ob L ty w R k u2:=by
 rcases h with ⟨fs,jq,nq,h1,h2,h3,h4,h5,h6⟩|⟨y,i',n',h1,h2,h3,h4⟩
 ·refine .inl ⟨fs,jq,nq,h1,h2,h3,h4.on hb,h5.trans (bh.of (But.of p hb)),fun h0=>?_⟩;obtain ⟨a,b,hf,hx⟩:=h6 h0;exact ⟨a,b,hf.keep (hb.block g hf.lt),fun j x hj=>⟨(hx j x hj).1.keep (fu hb),ah.keep (fu hb) _ _ _ (hx j x hj).2⟩⟩
 ·exact .inr ⟨y,i',n',h1,h2,h3.on hb,h4.trans (bh.of (But.of p hb))⟩
theorem CG (w:World) (dr:Nat):Below w.heap.size w { w with drawn:=dr }:=⟨rfl,rfl,rfl,Nat.le_refl _,fun _ _=>rfl⟩
theorem Oh {a0 a:Act} {lo N:Nat} (h:af.Low a0 lo (N+1) a) (hs:a0.tmps.size=lo+N):af.Fr a0 (fun i=>lo+i) N a :=
 ⟨h.defers,h.size,fun k hk=>by
  by_cases h1:k<lo
  ·exact h.rest k (.inl h1)
  ·by_cases h2:k<lo+N
   ·exact absurd (show lo+(k-lo)=k by omega) (hk (k-lo) (by omega))
   ·rw [Array.getElem?_eq_none (by rw [h.size,hs];omega),Array.getElem?_eq_none (by rw [hs];omega)]⟩
theorem Oi {x:List Value} (h:x.length=7):∃x0 x1 x2 x3 x4 x5 x6,x = [x0,x1,x2,x3,x4,x5,x6]:=by
 match x,h with
 | [x0,x1,x2,x3,x4,x5,x6],_=>exact ⟨x0,x1,x2,x3,x4,x5,x6,rfl⟩
end ai
theorem Oj (w0 : World) (p q : Nat) (s : ByteArray) (en i n : Nat) (c : Nat → Value) (g ob L cap : Nat) (o : Option Addr) (ty : Nat → Int) (w : World) (h : DM w0 p q s en i n 0 c w) (hn : n ≤ 65536) (hL : L ≤ 4096) (hc : c 2 = .slice o L cap)
    (hf : 0 < L → o = some ⟨g, ob, none⟩ ∧ (∃ a b, FB g ob L ty a b w) ∧ p < g) :
    Calls Tryz.prog 18 #[.pointer (some ⟨p, 0, none⟩), .int .i64 10, .pointer (some ⟨q, 0, none⟩)] w (F6 w0 p q s c en g ob L ty w (gP s en L i n)) := by
  have HC := aa (vQ w0 p s en i n 0 w h.ds);have hlen := h.ds.len;have hpw := h.ds.lt;have U0 := h.qp;have H0 := aa h;have AZ := aa hf;clear h hf;obtain ⟨G, hG⟩ : ∃ G, G = gP s en L i n := ⟨_, rfl⟩;rw [← hG];have HG := aa hG;clear hG;rw [bI] at HC;cases hrc : rc s en i with
  | error z =>
    rw [hrc] at HC;have cf : Hid (G = .error z) := aa (by rw [HG.out]; unfold gP; rw [hrc]; rfl);clear hrc HG AZ;go_enter Tryz.func18, Tryz.ntmps18;go_wp2_with fail;refine HC.out.mono ?_;rintro e u1 ⟨hz, v, i1, n1, rfl, hv, h1, h2⟩;have hv : v = .int .i64 0 := hv;subst hv;have H1 := aa (And.intro (H0.out.call h1 h2) (bh.of (g := g) h2));have HZ := aa hz;have d2 := H1.out.1.cell 2 (by decide);rw [hc] at d2;clear h1 h2 HC H0 hz;have key : ∀ (i2 n2 : Nat) (u : World), DM w0 p q s en i2 n2 z c u → bh p g w u → F6 w0 p q s c en g ob L ty w G (.returned (.tuple #[])) u := fun i2 n2 u h1 h2 => ⟨rfl, i2, n2, z, h1, h2, fun h => absurd h HZ.out, by rw [cf.out]; exact ⟨rfl, HZ.out⟩⟩;have HKEY := aa key;clear key;by_cases A7 : L = 0
    · have q5 : ((0 : Int) != (L : Int)) = false := by simp [A7]
      go_wp2_with fail;go_loopw [7] (fun v wr => v = .int .i64 0 ∧ wr = u1) (fun _ _ => 0)
      case atStart => exact ⟨rfl, rfl⟩
      case round =>
        obtain ⟨rfl, rfl⟩ := hrel;go_wp2;go_end0;exact HKEY.out _ _ _ H1.out.1 H1.out.2
    · have q5 : ((0 : Int) != (L : Int)) = true := by simp; omega
      go_wp2_with fail;refine (fB w0 p s en i1 n1 z _ H1.out.1.ds 50).mono ?_;rintro e u2 ⟨rfl, h1, h2⟩;rw [if_neg HZ.out] at h1;have H2 := aa (And.intro (H1.out.1.call h1 h2) (H1.out.2.trans (bh.of (g := g) h2)));clear h1 h2 H1 d2;go_wp2_with fail;go_loopw [7] (fun v wr => v = .int .i64 0 ∧ wr = u2) (fun _ _ => 0)
      case atStart => exact ⟨rfl, rfl⟩
      case round =>
        obtain ⟨rfl, rfl⟩ := hrel;go_wp2;go_end0;exact HKEY.out _ _ _ H2.out.1 H2.out.2
  | ok v =>
    obtain ⟨xm, i1⟩ := v;obtain ⟨_, hi1, hm0, hm1⟩ := jl hlen hrc;obtain ⟨m, rfl⟩ : ∃ m : Nat, xm = (m : Int) := ⟨xm.toNat, by omega⟩;rw [hrc] at HC;have vg : Hid (G = if (m : Int) = (L : Int) then oh s en L [] i1 n else .error 50) := aa (by rw [HG.out]; unfold gP; rw [hrc]; rfl);clear hrc HG;go_enter Tryz.func18, Tryz.ntmps18;go_wp2_with fail;refine HC.out.mono ?_;rintro e u1 ⟨v, rfl, hv, h1, h2⟩;have hv : v = .int .i64 m := hv;subst hv;have H1 := aa (And.intro (H0.out.call h1 h2) (bh.of (g := g) h2));have HB1 := aa h2;have d2 := H1.out.1.cell 2 (by decide);rw [hc] at d2;clear h1 h2 HC H0;by_cases Ol : (m : Int) = (L : Int)
    · obtain rfl : m = L := by omega
      have q5 : ((m : Int) != (m : Int)) = false := by simp
      have HR : Hid (G = oh s en m [] i1 n) := aa (by rw [vg.out, if_pos rfl])
      have fA : Hid (0 < m → o = some ⟨g, ob, none⟩ ∧ (∃ a b, FB g ob m ty a b u1) ∧ p < g ∧ g < w.heap.size) := aa (fun h => by
        obtain ⟨e1, ⟨a, b, hb⟩, e2⟩ := AZ.out h;exact ⟨e1, ⟨a, b, hb.keep (HB1.out.block g hb.lt (by simp; omega))⟩, e2, hb.lt⟩)
      clear vg AZ HB1;go_wp2_with fail;go_loopw [7] (fun v wr => ∃ k : Nat, k ≤ m ∧ v = .int .i64 k ∧ Hid (KL w0 p q s c en g ob m ty w G k wr)) (fun v _ => m - (RowKit.intOf v).toNat)
      case atStart => exact ⟨0, by omega, rfl, aa (.inl ⟨[], i1, n, rfl, HR.out, hn, H1.out.1, H1.out.2, fun h => by obtain ⟨_, ⟨a, b, hb⟩, _⟩ := fA.out h; exact ⟨a, b, hb, fun j x hj => by simp at hj⟩⟩)⟩
      case round =>
        clear H1 HR d2;obtain ⟨k, hk, rfl, HS⟩ := hrel;rcases HS.out with ⟨fs, jq, nq, hfs, hP, hnq, hD, hB, vX⟩ | ⟨y, i2, n2, hy, jm, hD, hB⟩
        · have d4 := hD.ds.cell 4 _ rfl
          have HP := aa hP;have HD := aa hD;have HB := aa hB;have da := aa vX;clear hP hD hB vX HS;by_cases hgo : k < m
          · obtain ⟨ho, _, F5, U1⟩ := fA.out (by omega)
            obtain ⟨a, b, xO, hxs⟩ := da.out (by omega);subst ho;have F7 := aa hxs;obtain ⟨r, hr⟩ : ∃ r, m - k = r + 1 := ⟨m - k - 1, by omega⟩;have HU := aa (Om w0 p s en jq nq wr HD.out.ds hnq);go_wp2_with fail;refine HU.out.mono ?_;rintro e w2 ⟨o4, n4, k4, o5, n5, k5, i2, n2, z2, rfl, h1, h2, hF, jP⟩;obtain ⟨w3, hw3⟩ : ∃ w3, w3 = w2.alloc (.cells #[.int .i64 0, .slice o4 n4 k4, .slice o5 n5 k5] 68) := ⟨_, rfl⟩;obtain ⟨fb, CH⟩ : ∃ fb, fb = w2.heap.size := ⟨_, rfl⟩;have qY : g < wr.heap.size := xO.lt;have sV : DM w0 p q s en i2 n2 z2 c w3 := by rw [hw3]; exact (HD.out.call h1 h2).on (aD _ _)
            have qZ : But p wr w3 := by rw [hw3]; exact h2.trans (But.of p (aD _ _))
            have CI : FB g ob m ty a b w3 := xO.keep (qZ.block g qY (by simp; omega));have hx3 : w3.heap[fb]? = some (.cells #[.int .i64 0, .slice o4 n4 k4, .slice o5 n5 k5] 68 (0, 0)) := by rw [hw3, CH]; exact fI _ _ rfl
            have vY : fb ≠ g ∧ fb ≠ p ∧ fb ≠ q ∧ wr.heap.size ≤ fb := by have := h2.size; omega
            obtain ⟨w4, hw4⟩ : ∃ w4, w4 = w3.setCell ⟨fb, 0, none⟩ (.int .i64 (ty k)) := ⟨_, rfl⟩;have Oo : Below fb w3 w4 := by rw [hw4]; exact (Below.refl _ w3).setCell (Nat.le_refl fb) _
            have hkp : ∀ j, j ≠ fb → w4.heap[j]? = w3.heap[j]? := fun j hj => by rw [hw4]; exact Below.heap_setCell _ _ _ _ hj
            have rf : DM w0 p q s en i2 n2 z2 c w4 := ⟨by rw [hw4]; exact sV.ds.set (fun e => vY.2.1 e.symm) (by have := sV.lo; have := sV.qp; omega) _ _, by rw [hkp q (fun e => vY.2.2.1 e.symm)]; exact sV.mq, sV.lo, sV.qp⟩;have CJ : FB g ob m ty a b w4 := CI.keep (hkp g (fun e => vY.1 e.symm));have F8 : w4.heap[fb]? = some (.cells #[.int .i64 (ty k), .slice o4 n4 k4, .slice o5 n5 k5] 68 (0, 0)) := by rw [hw4]; exact heap_setCell_same w3 fb 0 _ _ _ hx3
            have A8 : w4.heap.size = w3.heap.size := by rw [hw4]; simp
            have Oq : w2.heap.size ≤ w3.heap.size := by rw [hw3]; simp
            obtain ⟨W, hW⟩ : ∃ W, W = (((w4.setCell ⟨g, ob + k * 3, none⟩ (.int .i64 (ty k))).setCell ⟨g, ob + k * 3 + 1, none⟩ (.slice o4 n4 k4)).setCell ⟨g, ob + k * 3 + 2, none⟩ (.slice o5 n5 k5)) := ⟨_, rfl⟩;have F9 : FB g ob m ty (upd a k (.slice o4 n4 k4)) (upd b k (.slice o5 n5 k5)) W := by rw [hW]; exact ((CJ.Og hgo).Ga hgo _).Gb hgo _
            have hkW : ∀ j, j ≠ g → W.heap[j]? = w4.heap[j]? := fun j hj => by rw [hW, Below.heap_setCell _ _ _ _ hj, Below.heap_setCell _ _ _ _ hj, Below.heap_setCell _ _ _ _ hj]
            have A9 : W.heap.size = w4.heap.size := by rw [hW]; simp
            have CK : DM w0 p q s en i2 n2 z2 c W := ⟨by rw [hW]; exact ((rf.ds.set (by omega) (by have := rf.ds.base; omega) _ _).set (by omega) (by have := rf.ds.base; omega) _ _).set (by omega) (by have := rf.ds.base; omega) _ _, by rw [hkW q (by omega)]; exact rf.mq, rf.lo, rf.qp⟩
            have hBW : bh p g w W := by
              have hb4 : bh p g wr W := ⟨by rw [hW]; simp [hw4]; exact qZ.os, by rw [hW]; simp [hw4]; exact qZ.tape, by rw [hW]; simp [hw4]; exact qZ.output, by rw [A9, A8]; exact qZ.size, fun j hj h1 h2 => by rw [hkW j h2, hkp j (by have := vY.2.2.2; omega)]; exact qZ.block j hj (by simpa using h1)⟩;exact HB.out.trans hb4
            have CL : ∀ j, Since wr.heap.size w2 none j → Since w.heap.size W none j ∧ W.heap[j]? = w2.heap[j]? := fun j hj => by
              have hne : j ≠ fb := by have := hj.2.1; omega
              refine ⟨⟨Nat.le_trans HB.out.size hj.1, by rw [A9, A8]; have := hj.2.1; omega, by simp⟩, ?_⟩;rw [hkW j (by have := hj.1; omega), hkp j hne, hw3];exact (aD w2 _).block j hj.2.1
            have hsO : ∀ j, Since w.heap.size wr none j → Since w.heap.size W none j ∧ W.heap[j]? = wr.heap[j]? := fun j hj => by
              have hg : j ≠ g := by have := hj.1; omega
              refine ⟨⟨hj.1, by rw [A9, A8]; have := hj.2.1; have := qZ.size; omega, by simp⟩, ?_⟩;rw [hkW j hg, hkp j (by have := hj.2.1; have := vY.2.2.2; omega)];exact qZ.block j hj.2.1 (by have := hj.1; simp; omega)
            have oZ : Hid (KL w0 p q s c en g ob m ty w G (k + 1) W) := aa (by
              cases hx : nK s en jq nq with
              | error y =>
                rw [hx] at hF;obtain ⟨rfl, hy⟩ := hF;exact .inr ⟨_, i2, n2, hy, by rw [HP.out, hr, xN, hx]; rfl, CK, hBW⟩
              | ok v =>
                obtain ⟨x, j2, m2⟩ := v;rw [hx] at hF;obtain ⟨⟨hi, ha⟩, rfl, rfl, rfl⟩ := hF;refine .inl ⟨fs ++ [x], _, _, by simp [hfs], by rw [HP.out, hr, xN, hx, show m - (k + 1) = r by omega]; rfl, jP rfl, CK, hBW, fun _ => ⟨_, _, F9, fun j x' hj => ?_⟩⟩;by_cases hjk : j = k
                · subst hjk
                  rw [List.getElem?_append_right (by omega), hfs, Nat.sub_self] at hj;have : x = x' := by simpa using hj
                  subst this;unfold upd;rw [if_pos rfl, if_pos rfl];exact ⟨hi.keep CL, ah.keep CL _ _ _ ha⟩
                · have hjl : j < fs.length := by
                    have := (List.getElem?_eq_some_iff.1 hj).1;simp at this;omega
                  rw [List.getElem?_append_left hjl] at hj;unfold upd;rw [if_neg hjk, if_neg hjk];obtain ⟨b1, b2⟩ := F7.out j x' hj;exact ⟨b1.keep hsO, ah.keep hsO _ _ _ b2⟩)
            have x0 := sV.cell 2 (by decide);rw [hc] at x0;have y0 := (CI.cell hgo).1;have z0 := ko (j := 0) hx3 rfl;have zf : w3.frozen? ⟨fb, 0, none⟩ = false := by unfold World.frozen?; rw [hx3]; simp
            have sW := aa (And.intro rf (And.intro CJ F8));have HW3 := aa hw3;have Ba := aa hw4;have HW := aa hW;have Gc := aa CH;clear h1 h2 hF jP sV qZ CI hx3 Oo hkp rf CJ F8 A8 Oq F9 hkW A9 CK hBW CL hsO hw3 hw4 hW CH xO hxs F7 HP HD HB da HU d4 qY;go_upto_region 21 with fail;rw [← HW3.out, ← Gc.out];go_upto_region 22 with fail;rw [← Ba.out];clear x0 y0 z0 zf;refine af.pV 8 94 101 (fun j => [.pointer (some ⟨q, 0, none⟩), .pointer (some ⟨q, 0, none⟩), .pointer (some ⟨q, 2, none⟩), .slice (some ⟨g, ob, none⟩) m cap, .int .i64 k, .agg #[.int .i64 (ty k), .slice o4 n4 k4, .slice o5 n5 k5], .pointer (some ⟨g, ob + k * 3, none⟩), undef].getD j undef) [7] (fun u => u.heap = w4.heap ∧ u.os = w4.os ∧ u.tape = w4.tape ∧ u.output = w4.output) (fun j _ u => if j = 0 then True else ∃ dr, u = { W with drawn := dr }) (by kernel_rfl) rfl (by kernel_rfl) rfl (fun _ _ _ _ _ h => h) ?hread ?iV ?hend ⟨rfl, rfl, rfl, rfl⟩ (fun _ => trivial)
            case hread =>
              intro j o a u hi hcc ho hF hS hd;have hcell : ∀ ad, u.cell? ad = w4.cell? ad := fun ad => by unfold World.cell?; rw [hS.1]
              have x0 : u.cell? ⟨q, 2, none⟩ = some (.slice (some ⟨g, ob, none⟩) m cap) := by rw [hcell, sW.out.1.cell 2 (by decide), hc]
              have l0 : u.cell? ⟨fb, 0, none⟩ = _ := (hcell _).trans (ko (j := 0) sW.out.2.2 rfl);have l1 : u.cell? ⟨fb, 1, none⟩ = _ := (hcell _).trans (ko (j := 1) sW.out.2.2 rfl);have l2 : u.cell? ⟨fb, 2, none⟩ = _ := (hcell _).trans (ko (j := 2) sW.out.2.2 rfl);have f2 : a.tmps[2]?.getD undef = .pointer (some ⟨q, 0, none⟩) := af.ax (hF.eval 2 (.inl (by decide)));have f7 : a.tmps[7]?.getD undef = .int .i64 k := af.ax (hF.eval 7 (.inl (by decide)));have f8 : a.tmps[8]?.getD undef = .pointer (some ⟨fb, 0, none⟩) := af.ax (hF.eval 8 (.inl (by decide)));clear hS hcell sW
              iterate 8 (rcases Nat.lt_succ_iff_lt_or_eq.1 hi with hi | rfl)
              exact absurd hi (Nat.not_lt_zero _)
              all_goals (first
                | exact absurd hcc (by decide)
                | (simp only [List.getElem?_toArray, List.getElem?_cons_succ, List.getElem?_cons_zero, Option.some.injEq] at ho
                   subst ho;refine af.aR fun KK au => ?_;simp [af.deps, Region.binds] at hd;go_simp;exact au _ _ ⟨rfl, rfl⟩))
            case iV =>
              intro k' j o a u hk' ho hF hS hU hd;have hkl : k' < 1 := (List.getElem?_eq_some_iff.1 hk').1;obtain rfl : k' = 0 := by omega
              simp only [List.getElem?_cons_zero, Option.some.injEq] at hk';subst hk';simp only [List.getElem?_toArray, List.getElem?_cons_succ, List.getElem?_cons_zero, Option.some.injEq] at ho;subst ho;obtain ⟨dr, rfl⟩ : ∃ dr, u = { w4 with drawn := dr } := ⟨u.drawn, by obtain ⟨h1, h2, h3, h4⟩ := hS; cases u; simp at h1 h2 h3 h4; simp [h1, h2, h3, h4]⟩;have q5 := hd 5 (by decide) (by decide);have q6 := hd 6 (by decide) (by decide);simp at q5 q6;have fc := sW.out.2.1.cell hgo;have c0 : ({ w4 with drawn := dr } : World).cell? ⟨g, ob + k * 3, none⟩ = _ := fc.1;have c1 : ({ w4 with drawn := dr } : World).cell? ⟨g, ob + k * 3 + 1, none⟩ = _ := fc.2.1;have c2 : ({ w4 with drawn := dr } : World).cell? ⟨g, ob + k * 3 + 2, none⟩ = _ := fc.2.2;have fz : ∀ j, ({ w4 with drawn := dr } : World).frozen? ⟨g, j, none⟩ = false := fun j => sW.out.2.1.ag j;have z0 := fz (ob + k * 3);have z1 := fz (ob + k * 3 + 1);have z2 := fz (ob + k * 3 + 2);clear hU hd fc fz;refine af.aR fun KK au => ?_;have aM := aa au;clear au;go_simp;exact aM.out a _ ⟨undef, rfl, fun h => absurd h (by decide), dr, by rw [HW.out]; rfl⟩
            case hend =>
              intro a u hF ⟨f9, _, hU⟩;obtain ⟨dr, hu⟩ : ∃ dr, u = { W with drawn := dr } := hU;have Ot : Hid (KL w0 p q s c en g ob m ty w G (k + 1) u) := aa (by rw [hu]; exact oZ.out.on (CG W dr));obtain ⟨xl, hxl, rfl, hev⟩ := (Oh hF rfl).lit (by simp);obtain ⟨x0, x1, x2, x3, x4, x5, x6, rfl⟩ := Oi hxl;clear hev hxl hF hu oZ sW HW3 Ba HW Gc vY;simp only [List.take_succ_cons, List.take_zero, List.drop_succ_cons, List.drop_zero, List.cons_append, List.nil_append];go_wp2;go_roundw
              case rel => exact ⟨k + 1, by omega, by go_num, Ot⟩
              case measure => simp [RowKit.intOf]; omega
          · obtain rfl : k = m := by omega
            have CM : Hid (G = .ok (fs, jq, nq)) := aa (by rw [HP.out, Nat.sub_self]; rfl);clear HP;go_wp2;go_end0;exact ⟨rfl, jq, nq, 0, HD.out, HB.out, fun _ => hnq, by rw [CM.out]; exact ⟨⟨hfs, da.out⟩, rfl, rfl, rfl⟩⟩
        · have d4 := hD.ds.cell 4 _ rfl
          have HD := aa hD;have HB := aa hB;have HZ := aa hy;have xP := aa jm;have q4 : (y == 0) = false := by rw [beq_eq_false_iff_ne]; exact hy
          clear hD hB hy jm HS fA;by_cases hgo : k < m
          · go_wp2
            go_end0;exact ⟨rfl, i2, n2, y, HD.out, HB.out, fun h => absurd h HZ.out, by rw [xP.out]; exact ⟨rfl, HZ.out⟩⟩
          · go_wp2
            go_end0;exact ⟨rfl, i2, n2, y, HD.out, HB.out, fun h => absurd h HZ.out, by rw [xP.out]; exact ⟨rfl, HZ.out⟩⟩
    · have q5 : ((m : Int) != (L : Int)) = true := by simp; omega
      have cf : Hid (G = .error 50) := aa (by rw [vg.out, if_neg Ol]);clear vg AZ HB1;go_wp2_with fail;refine (fB w0 p s en i1 n 0 _ H1.out.1.ds 50).mono ?_;rintro e u2 ⟨rfl, h1, h2⟩;rw [if_pos rfl] at h1;have H2 := aa (And.intro (H1.out.1.call h1 h2) (H1.out.2.trans (bh.of (g := g) h2)));have d4 := h1.cell 4 _ rfl;clear h1 h2 H1 d2;go_wp2_with fail;go_loopw [7] (fun v wr => v = .int .i64 0 ∧ wr = u2) (fun _ _ => 0)
      case atStart => exact ⟨rfl, rfl⟩
      case round =>
        obtain ⟨rfl, rfl⟩ := hrel;by_cases U2 : 0 < m
        · have q6 : decide ((0 : Int) < (m : Int)) = true := decide_eq_true (by omega)
          go_wp2;go_end0;exact ⟨rfl, i1, n, 50, H2.out.1, H2.out.2, fun h => absurd h (by decide), by rw [cf.out]; exact ⟨rfl, by decide⟩⟩
        · have q6 : decide ((0 : Int) < (m : Int)) = false := decide_eq_false (by omega)
          go_wp2;go_end0;exact ⟨rfl, i1, n, 50, H2.out.1, H2.out.2, fun h => absurd h (by decide), by rw [cf.out]; exact ⟨rfl, by decide⟩⟩
theorem Q0 (w0 wS : World) (p q : Nat) (s : ByteArray) (en i n : Nat) (c : Nat → Value) (ps : List (Pe lK)) (u : World) (h : LE w0 wS p q 1 3 65 iX s en i n 0 c ps u) (hps : ps.length ≤ 4096) : Calls Tryz.prog 34 #[.pointer (some ⟨p, 0, none⟩), .int .i64 2, .pointer (some ⟨q, 0, none⟩)] u (YE w0 wS p q 1 3 65 iX s en c ps (lift (jv s en i) n)) := by
  have hK : dH iX := (jB _);have H0 := aa h;clear h;obtain ⟨G, hG⟩ : ∃ G, G = lift (jv s en i) n := ⟨_, rfl⟩;rw [← hG];have HG := aa hG;clear hG;go_enter Tryz.func34, Tryz.ntmps34;obtain ⟨X, hX⟩ : ∃ X, X = aG 0 (lift (jv s en i) n) := ⟨_, rfl⟩;have HX := aa hX;clear hX;go_upto_region 6 with fail;have bF : Hid (LE w0 wS p q 1 3 65 iX s en i n 0 c ps { u with drawn := u.drawn + 1 }) := aa (H0.out.on hK (gU _));clear H0;refine af.pV 12 31 148 (fun j => [.pointer (some ⟨q, 0, none⟩), .pointer (some ⟨q, 0, none⟩), .pointer (some ⟨q, 0, none⟩), .pointer (some ⟨q, 1, none⟩), (c 1), .pointer (some ⟨p, 0, none⟩), undef, undef, undef, undef, undef, undef].getD j undef) [6, 7, 8, 9, 10, 11] (fun w => w.cell? ⟨q, 1, none⟩ = some (c 1)) (uu (LE w0 wS p q 1 3 65 iX s en i n 0 c ps) (UA w0 wS p q 1 3 65 iX s en c ps (fun (y : ByteArray × ByteArray × Int) => [.string y.1, .string y.2.1, .int .i64 y.2.2]) X) (UB w0 wS p q 1 3 65 iX s en c ps (fun (y : ByteArray × ByteArray × Int) => [.string y.1, .string y.2.1, .int .i64 y.2.2]) X) (UC w0 wS p q 1 3 65 iX s en c ps X) (UD w0 wS p q 1 3 65 iX s en c ps X) (.pointer (some ⟨q, 0, none⟩)) (.pointer (some ⟨q, 1, none⟩))) (by kernel_rfl) rfl (by kernel_rfl) rfl xB ?hread ?iV ?hend ((bF.out.dm.cell 1 (by decide))) (fun _ => bF.out)
  case hread =>
    intro j o a w hi hc ho hF hS hd;clear bF;have f0 : a.tmps[0]?.getD undef = .pointer (some ⟨p, 0, none⟩) := af.ax (hF.eval 0 (.inl (by decide)));have f2 : a.tmps[2]?.getD undef = .pointer (some ⟨q, 0, none⟩) := af.ax (hF.eval 2 (.inl (by decide)))
    iterate 12 (rcases Nat.lt_succ_iff_lt_or_eq.1 hi with hi | rfl)
    exact absurd hi (Nat.not_lt_zero _)
    all_goals (first
      | exact absurd hc (by decide)
      | (simp only [List.getElem?_toArray, List.getElem?_cons_succ, List.getElem?_cons_zero, Option.some.injEq] at ho
         subst ho;refine af.aR fun KK au => ?_;simp [af.deps, Region.binds] at hd;go_simp;exact au _ _ ⟨rfl, rfl⟩))
  case iV =>
    intro k j o a w hk ho hF hS hU hd;clear bF;have f0 : a.tmps[0]?.getD undef = .pointer (some ⟨p, 0, none⟩) := af.ax (hF.eval 0 (.inl (by decide)));have hkl : k < 6 := (List.getElem?_eq_some_iff.1 hk).1
    iterate 6 (rcases Nat.lt_succ_iff_lt_or_eq.1 hkl with hkl | rfl)
    exact absurd hkl (Nat.not_lt_zero _)
    all_goals (simp only [List.getElem?_cons_succ, List.getElem?_cons_zero, Option.some.injEq] at hk; subst hk; simp only [List.getElem?_toArray, List.getElem?_cons_succ, List.getElem?_cons_zero, Option.some.injEq] at ho; subst ho)
    · have hL : LE w0 wS p q 1 3 65 iX s en i n 0 c ps w := hU
      refine af.aR fun KK au => ?_;simp [af.deps, Region.binds] at hd;have aM := aa au;have HL := aa hL;have HC := aa (MQ w0 p s en i n 0 w hL.dm.ds);clear hU hL au;go_simp;refine HC.out.mono ?_;rintro e w2 ⟨ya, yb, yt, i9, n9, z9, rfl, h1, h2, hf⟩;exact aM.out _ _ ⟨_, rfl, fun _ => ⟨(HL.out.dm.call h1 h2).cell 1 (by decide), rfl⟩, ⟨(ya, yb, yt), i9, n9, z9, rfl, HL.out.call hK h1 h2, by rw [HX.out]; exact hf.mono (fun x hx => by subst hx; rfl)⟩⟩
    · have hA : UA w0 wS p q 1 3 65 iX s en c ps (fun (y : ByteArray × ByteArray × Int) => [.string y.1, .string y.2.1, .int .i64 y.2.2]) X (a.eval (.tmp 37)) w := hU
      obtain ⟨y, i9, n9, z9, hv, h1, h2⟩ := id hA;obtain ⟨ya, yb, yt⟩ := y;have q1 : a.tmps[37]?.getD undef = .agg #[.string ya, .string yb, .int .i64 yt] := af.ax hv;refine af.aR fun KK au => ?_;have aM := aa au;have HA := aa (UB.of hK hA hv);have HD := aa h1;clear hU hA au h1 h2 hd;go_simp;exact aM.out _ _ ⟨_, rfl, fun _ => ⟨((HD.out.dm.on (aD _ _)).cell 1 (by decide)), rfl⟩, HA.out⟩
    · have hB : UB w0 wS p q 1 3 65 iX s en c ps (fun (y : ByteArray × ByteArray × Int) => [.string y.1, .string y.2.1, .int .i64 y.2.2]) X (a.eval (.tmp 38)) w := hU
      obtain ⟨y, i9, n9, z9, g, hv, hc, h1, h2⟩ := hB;obtain ⟨ya, yb, yt⟩ := y;have q4 : a.eval (.tmp 35) = c 1 := by have := hd 4 (by decide) (by decide); show a.tmps.getD 35 undef = _; rw [Array.getD_eq_getD_getElem?]; exact this
      obtain ⟨i0, hi, hz0, hz1, hz2⟩ := info_parts JM;refine qL _ _ 24 rfl wS.heap.size 65 i0 _ 3 40 Tryz.underlying24 hi hz0 hz1 hz2 rfl (by decide) _ _ _ q4 h1.own (some ⟨g, 0, none⟩) 1 1 [.string ya, .string yb, .int .i64 yt] hv (by intro h; cases h) rfl (fun ad h => by injection h with h; subst h; exact hc) (by intro v hv; simp only [List.mem_cons, List.mem_nil_iff, or_false] at hv; rcases hv with rfl | rfl | rfl <;> rfl) (by unfold maxLen; omega) (by omega) h1.bu.size ?_
      intro v9 w9 hown hg aN;have fW : UC w0 wS p q 1 3 65 iX s en c ps X v9 w9 := UC.of hK (by decide) (y := (ya, yb, yt)) (V := (fun (y : ByteArray × ByteArray × Int) => [.string y.1, .string y.2.1, .int .i64 y.2.2])) rfl h1 h2 hown hg aN;exact ⟨_, rfl, fun _ => ⟨(by obtain ⟨_, _, _, _, hm, _⟩ := fW; exact hm.cell 1 (by decide)), rfl⟩, fW⟩
    · have hC : UC w0 wS p q 1 3 65 iX s en c ps X (a.eval (.tmp 39)) w := hU
      have q1 := hd 0 (by decide) (by decide);refine af.aR fun KK au => ?_;have aM := aa au;have HC := aa hC;clear hU hC au hd;simp at q1;go_simp;exact aM.out _ _ ⟨_, rfl, fun _ => ⟨hS, rfl⟩, rfl, HC.out⟩
    · have hC : a.eval (.tmp 40) = .pointer (some ⟨q, 0, none⟩) ∧ UC w0 wS p q 1 3 65 iX s en c ps X (a.eval (.tmp 39)) w := hU
      have q1 : a.tmps[40]?.getD undef = .pointer (some ⟨q, 0, none⟩) := af.ax hC.1;refine af.aR fun KK au => ?_;have aM := aa au;have HC := aa hC.2;clear hU hC au hd;go_simp;exact aM.out _ _ ⟨_, rfl, fun _ => ⟨hS, rfl⟩, rfl, HC.out⟩
    · have hC : a.eval (.tmp 41) = .pointer (some ⟨q, 1, none⟩) ∧ UC w0 wS p q 1 3 65 iX s en c ps X (a.eval (.tmp 39)) w := hU
      have q1 : a.tmps[41]?.getD undef = .pointer (some ⟨q, 1, none⟩) := af.ax hC.1;obtain ⟨i9, n9, z9, hsl, hm, _, _⟩ := id hC.2;have fz := hm.ag 1;obtain ⟨v9, aN⟩ : ∃ v9, a.eval (.tmp 39) = v9 := ⟨_, rfl⟩;have q2 : a.tmps[39]?.getD undef = v9 := af.ax aN;rw [aN] at hC hsl;obtain ⟨o9, k9, m9, rfl⟩ := hsl;have HD := aa (UC.put (by decide) hC.2);refine af.aR fun KK au => ?_;have aM := aa au;clear hU hC au hm hd aN;go_simp;exact aM.out a _ ⟨undef, rfl, fun h => absurd h (by decide), HD.out⟩
  case hend =>
    intro a w hF ⟨f9, _, hU⟩;have hD : UD w0 wS p q 1 3 65 iX s en c ps X (f9 5) w := hU;have HD := aa hD;clear hU hD bF;have kI := aa hF.defers;clear hF;go_wp2;obtain ⟨i9, n9, z9, c9, h1, h2, h3, h4⟩ := HD.out;exact bodyPost_end (results_none rfl _ _ _) kI.out ⟨rfl, i9, n9, z9, c9, h1, h2, h3, by rw [HG.out]; rw [HX.out] at h4; rw [bI] at h4; exact h4⟩
end Go.Proofs.YtegboefdolfdgaaGreatDoor
