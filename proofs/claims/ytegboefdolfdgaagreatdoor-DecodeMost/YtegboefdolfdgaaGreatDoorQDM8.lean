/- Texts that the claim needs. -/
import Derived.Test.YtegboefdolfdgaaGreatDoorQDM7
import Derived.Test.YtegboefdolfdgaaGreatDoorQDM1
namespace Go.Proofs.YtegboefdolfdgaaGreatDoor
open Go.RowKit aA ai
set_option linter.unusedVariables false
set_option maxRecDepth 100000
set_option maxHeartbeats 2000000
namespace ai
def ou {α:Type} (w0:World) (p:Nat) (s:ByteArray) (c:Nat->Value) (en k:Nat) (V:α->Value->World->Prop) (w:World) (x:R2 α) (e:Ending) (w':World):Prop :=
 match x with
 | .ok (a,j,m)=>(∃v,e=.returned v/\V a v w')/\RS w0 p s c en k j m w'/\But p w w'
 | .error z=>e=.panicked (gave z)/\Below w0.heap.size w0 w'
def B0 (B d:Nat) (a:IL d × Int) (v:Value) (w:World):Prop:=∃o n k,v=.tuple #[.slice o n k,.int .i64 a.2]/\ah w (Since B w none) d (.slice o n k) a.1
def wC (d:Nat):Prop:=∀(w0:World) (p:Nat) (s:ByteArray) (c:Nat->Value) (en k i n:Nat) (w:World) (dep:Nat),RS w0 p s c en k i n w->n<=65536->65<=d+dep->dep<=65 ->
 Calls Tryz.prog 92 #[.pointer (some ⟨p,0,none⟩),.int .i64 dep] w (ou w0 p s c en k (B0 w.heap.size d) w (dG s en d dep i n))
theorem Da {α β:Type} (e:Int) (f:α->Nat->Nat->R2 β):bL (.error e) f=.error e:=rfl
theorem Db {α β:Type} (a:α) (i n:Nat) (f:α->Nat->Nat->R2 β):bL (.ok (a,i,n)) f=f a i n:=rfl
def Nb {α:Type} (f:Nat->Nat->R2 α):Prop:=∀i n a j m,n<=65536->f i n=.ok (a,j,m)->m<=65536
def Tb {α:Type} (f:Nat->Nat->R2 (α × Int)):Prop:=∀i n a j m,f i n=.ok (a,j,m)->a.2=5\/a.2=11
theorem wI {dep n:Nat} {op:Int} (h:gZ dep op n=none):n+1<=65536/\dep<=64/\form op≠0/\form op≠10:=by
 unfold gZ at h;split at h
 ·cases h
 split at h
 ·cases h
 split at h
 ·cases h
 split at h
 ·cases h
 ·exact ⟨by omega,by omega,by assumption,by assumption⟩
theorem Vd {α:Type} {z:α} {s:ByteArray} {en:Nat} {sub:Nat->Nat->R2 (α × Int)} (hs:Nb sub) {op:Int}:Nb (jC z s en sub op):=fun i n a j m hn h=>by
 unfold jC at h;obtain ⟨x,i1,n1,h1,h⟩:=fO h;have h2:=(mR h1).2;obtain ⟨b,i2,n2,h3,h⟩:=fO h;have h4:=hs _ _ _ _ _ (by omega) h3;split at h
 ·obtain ⟨y,i3,n3,h5,h⟩:=fO h;have h6:=hs _ _ _ _ _ h4 h5;split at h
  ·injection h with h;injection h with _ h;injection h with _ h;omega
  ·cases h
 split at h
 ·injection h with h;injection h with _ h;injection h with _ h;omega
 ·cases h
theorem EF {d:Nat} {sub:Nat->Nat->R2 (IL d × Int)} {s:ByteArray} {en dep:Nat} (hs:Nb sub) {op:Int}:Nb (iC sub s en dep op):=fun i n a j m hn h=>by
 unfold iC at h;split at h
 ·cases h
 ·rename_i hk
  have:=wI hk
  split at h
  ·exact Vd hs _ _ _ _ _ (by omega) h
  ·have:=(mR h).2;omega
theorem Lb {d:Nat} {sub:Nat->Nat->R2 (IL d × Int)} {s:ByteArray} {en dep:Nat} (hs:Nb sub):∀f,Nb (fG sub s en dep f)
 | 0=>fun i n a j m hn h=>by cases h
 | f+1=>fun i n a j m hn h=>by
  unfold fG at h;obtain ⟨x,i1,n1,h1,h⟩:=fO h;have h2:=(mR h1).2;split at h
  ·injection h with h;injection h with _ h;injection h with _ h;omega
  ·obtain ⟨y,i2,n2,h3,h⟩:=fO h;have h4:=EF hs _ _ _ _ _ (by omega) h3;obtain ⟨q,i3,n3,h5,h⟩:=fO h;have h6:=Lb hs f _ _ _ _ _ h4 h5;injection h with h;injection h with _ h;injection h with _ h;omega
theorem wE (s:ByteArray) (en:Nat):∀d dep,Nb (dG s en d dep)
 | 0,dep=>fun i n a j m hn h=>by
  obtain ⟨x,i1,n1,h1,h⟩:=fO h;have h2:=(mR h1).2;split at h
  ·injection h with h;injection h with _ h;injection h with _ h;omega
  ·cases h
 | d+1,dep=>fun i n a j m hn h=>Lb (wE s en d (dep+1)) _ i n a j m hn h
theorem Lc {d:Nat} {sub:Nat->Nat->R2 (IL d × Int)} {s:ByteArray} {en dep:Nat}:∀f,Tb (fG sub s en dep f)
 | 0=>fun i n a j m h=>by cases h
 | f+1=>fun i n a j m h=>by
  unfold fG at h;obtain ⟨x,i1,n1,h1,h⟩:=fO h;split at h
  ·injection h with h;injection h with h _;rw [<- h];show x=5\/x=11;omega
  ·obtain ⟨y,i2,n2,h3,h⟩:=fO h;obtain ⟨q,i3,n3,h5,h⟩:=fO h;have h6:=Lc f _ _ _ _ _ h5;injection h with h;injection h with h _;rw [<- h];exact h6
theorem xY (s:ByteArray) (en:Nat):∀d dep,Tb (dG s en d dep)
 | 0,dep=>fun i n a j m h=>by
  obtain ⟨x,i1,n1,h1,h⟩:=fO h;split at h
  ·injection h with h;injection h with h _;rw [<- h];show x=5\/x=11;omega
  ·cases h
 | d+1,dep=>fun i n a j m h=>Lc _ i n a j m h
theorem SI.wD {w0 w u:World} {p:Nat} {s:ByteArray} {c:Nat->Value} {en k i n:Nat} (op a:Int) (hp:p<w.heap.size) (h1:RS w0 p s c en k i n u) (h2:But p (w.alloc (.cells #[.int .i64 0,.int .i64 0,.int .i64 0,.int .i64 0,.slice none 0 0,.slice none 0 0,.slice none 0 0] 73)) u) :
  SI w0 w p s c en k i n w.heap.size u.heap.size op a 0 0 (.slice none 0 0) (.slice none 0 0) (.slice none 0 0) (u.alloc (.cells #[.int .i64 op,.int .i64 a,.int .i64 0,.int .i64 0,.slice none 0 0,.slice none 0 0,.slice none 0 0] 73)):=by
 have hs:=h2.size;have hs':w.heap.size+1<=u.heap.size:=by simpa using hs
 have hr:cF u w.heap.size 0 0 0 0 (.slice none 0 0) (.slice none 0 0) (.slice none 0 0):=(cF.new w w.heap.size 0 0 0 0 (.slice none 0 0) (.slice none 0 0) (.slice none 0 0) rfl).keep (h2.block _ (by simp) (fun e=>by injection e with e;omega));exact ⟨h1.on (aD _ _),((But.of p (aD w _)).trans h2).trans (But.of p (aD u _)),hr.keep ((aD _ _).block _ hr.lt),cF.new _ _ op a 0 0 (.slice none 0 0) (.slice none 0 0) (.slice none 0 0) rfl,hp,Nat.le_refl _,by omega⟩
end ai
namespace ai
structure DS (w0:World) (p:Nat) (s:ByteArray) (en i n:Nat) (z:Int) (w:World):Prop where
 below:Below w0.heap.size w0 w
 base:w0.heap.size<=p
 blk:w.heap[p]?=some (.cells #[.string s,.int .i64 i,.int .i64 en,.int .i64 n,.int .i64 z] 53 (0,0))
 le:i<=en
 len:en<=s.size
 big:s.size<=262144
section
variable {w0 w w':World} {p:Nat} {s:ByteArray} {en i n:Nat} {z:Int}
theorem DS.cell (h:DS w0 p s en i n z w) (j:Nat) (v:Value) (hv:#[Value.string s,.int .i64 i,.int .i64 en,.int .i64 n,.int .i64 z][j]?=some v):w.cell? ⟨p,j,none⟩=some v:=by
 unfold World.cell?;rw [h.blk];exact hv
theorem DS.ag (h:DS w0 p s en i n z w) (j:Nat):w.frozen? ⟨p,j,none⟩=false:=by unfold World.frozen?;rw [h.blk];simp
theorem DS.lt (h:DS w0 p s en i n z w):p<w.heap.size:=(Array.getElem?_eq_some_iff.1 h.blk).1
theorem DS.on (h:DS w0 p s en i n z w) (hb:Below w.heap.size w w'):DS w0 p s en i n z w' :=
 ⟨h.below.trans (hb.mono h.below.size),h.base,by rw [hb.block p h.lt];exact h.blk,h.le,h.len,h.big⟩
theorem DS.at_ (h:DS w0 p s en i n z w) {j:Nat} (hj:j<=en):DS w0 p s en j n z (w.setCell ⟨p,1,none⟩ (.int .i64 j)) :=
 ⟨h.below.setCell h.base _,h.base,heap_setCell_same w p 1 _ _ _ h.blk,hj,h.len,h.big⟩
theorem DS.num (h:DS w0 p s en i n z w) (m:Nat):DS w0 p s en i m z (w.setCell ⟨p,3,none⟩ (.int .i64 m)) :=
 ⟨h.below.setCell h.base _,h.base,heap_setCell_same w p 3 _ _ _ h.blk,h.le,h.len,h.big⟩
theorem DS.bad (h:DS w0 p s en i n z w) (y:Int):DS w0 p s en i n y (w.setCell ⟨p,4,none⟩ (.int .i64 y)) :=
 ⟨h.below.setCell h.base _,h.base,heap_setCell_same w p 4 _ _ _ h.blk,h.le,h.len,h.big⟩
end
def aG {α:Type} (z:Int) (x:R2 α):R2 α:=if z=0 then x else .error z
def DR {α:Type} (w0:World) (p:Nat) (s:ByteArray) (en:Nat) (V:α->Value->World->Prop) (V0:Value->World->Prop) (w:World) (x:R2 α) (e:Ending) (w':World):Prop :=
 match x with
 | .ok (a,j,m)=>∃v,e=.returned v/\V a v w'/\DS w0 p s en j m 0 w'/\But p w w'
 | .error z=>z≠0/\∃v i n,e=.returned v/\V0 v w'/\DS w0 p s en i n z w'/\But p w w'
def z0 (v:Value) (_:World):Prop:=v=.int .i64 0
def u0 (v:Value) (_:World):Prop:=v=.tuple #[]
end ai
section
variable (w0:World) (p:Nat) (s:ByteArray) (en i n:Nat) (z:Int) (w:World) (h:DS w0 p s en i n z w)
include h
theorem fD (y:Int):Calls Tryz.prog 16 #[.pointer (some ⟨p,0,none⟩),.int .i64 y] w fun e w'=>e=.returned (.tuple #[])/\DS w0 p s en i n (if z=0 then y else z) w'/\But p w w':=by
 have c4:=h.cell 4 _ rfl;have f4:=h.ag 4;by_cases hz:z=0
 ·subst hz;have H:=aa (h.bad y);clear h;go_enter Tryz.func16,Tryz.ntmps16;go_wp2;go_end0;exact ⟨rfl,H.out,But.set p 4 w _⟩
 ·have H:=aa h;have b1:(z == 0)=false:=by simp [hz]
  clear h;go_enter Tryz.func16,Tryz.ntmps16;go_wp2;go_end0;exact ⟨rfl,H.out,But.refl p w⟩
theorem wK:Calls Tryz.prog 15 #[.pointer (some ⟨p,0,none⟩)] w (DR w0 p s en fS z0 w (aG z (lift (nx s en i) n))):=by
 have c0:=h.cell 0 _ rfl;have c1:=h.cell 1 _ rfl;have c2:=h.cell 2 _ rfl;have c4:=h.cell 4 _ rfl;have f1:=h.ag 1;have hlen:=h.len;have hbig:=h.big;by_cases hz:z=0
 ·subst hz;unfold aG nx;rw [if_pos rfl];by_cases hi:i<en
  ·rw [if_pos hi];have hd:decide ((i:Int)>=(en:Int))=false:=decide_eq_false (by omega);have hlt:i<s.size:=by omega
   have hbt:((s[i]'hlt).toNat:Int)=ae.bt s i:=ae.get_bt s i hlt;have hwb:wrap64 (ae.bt s i)=ae.bt s i:=by have:=ae.lQ s i;unfold wrap64;omega
   have H:=aa h;have hw:IntKind.i64.wrap ((i:Int)+1)=(i:Int)+1:=by rw [IntKind.wrap_i64];omega
   clear h;go_enter Tryz.func15,Tryz.ntmps15;go_wp2_with fail;go_quiet (fail);have HD:=aa (H.out.on (bN w nq));have HB:Hid (But p w (w.drewN nq)):=aa (But.of p (bN w nq));generalize w.drewN nq=u1 at *;clear c0 c1 c2 c4 f1 H;have e1:=HD.out.cell 1 _ rfl;have f1:=HD.out.ag 1;obtain ⟨u2,hu2⟩:∃u2,u2=u1.setCell ⟨p,1,none⟩ (.int .i64 ((i:Int)+1)):=⟨_,rfl⟩;have uM:=aa hu2;have H2:Hid (DS w0 p s en (i+1) n 0 u2):=aa (by rw [hu2];exact HD.out.at_ (j:=i+1) (by omega));have HB2:Hid (But p w u2):=aa (by rw [hu2];exact HB.out.trans (But.set p 1 u1 _));clear hu2 HD HB;go_wp2_with fail;rw [<- uM.out];clear uM e1 f1;have d0:=H2.out.cell 0 _ rfl;have d1:=H2.out.cell 1 _ rfl;go_quiet (fail);have H3:=aa (H2.out.on (bN u2 nq));have bQ:Hid (But p w (u2.drewN nq)):=aa (HB2.out.trans (But.of p (bN u2 nq)));clear d0 d1 H2 HB2;go_wp2;go_ret;exact ⟨_,rfl,by show Value.int .i64 (wrap64 (ae.bt s i))=.int .i64 (ae.bt s i);rw [hwb],H3.out,bQ.out⟩
  ·rw [if_neg hi];have hd:decide ((i:Int)>=(en:Int))=true:=decide_eq_true (by omega);have H:=aa h;clear h;go_enter Tryz.func15,Tryz.ntmps15;go_wp2_with fail;go_quiet (fail);go_wp2_with fail;refine (fD w0 p s en i n 0 _ (H.out.on (bN w nq)) 50).mono ?_;rintro e u ⟨rfl,h1,h2⟩;have H1:=aa h1;have H2:Hid (But p w u):=aa ((But.of p (bN w nq)).trans h2);clear h1 h2;go_wp2;go_ret;exact ⟨by decide,_,i,n,rfl,rfl,H1.out,H2.out⟩
 ·have b1:(z != 0)=true:=by simp [hz]
  have H:=aa h;clear h;unfold aG;rw [if_neg hz];go_enter Tryz.func15,Tryz.ntmps15;go_wp2;go_ret;exact ⟨hz,_,i,n,rfl,rfl,H.out,But.refl p w⟩
theorem Li (b:Int) (hb0:b=0\/b=11\/b=96\/b=112):Calls Tryz.prog 14 #[.pointer (some ⟨p,0,none⟩),.int .i64 b] w (DR w0 p s en xu u0 w (aG z (lift (must s en b i) n))):=by
 have HY:=aa (wK w0 p s en i n z w h);by_cases hz:z=0
 ·subst hz;unfold aG must at *;rw [if_pos rfl] at HY ⊢;clear h;cases hx:nx s en i with
  | error y =>
   rw [hx] at HY;rw [bg];go_enter Tryz.func14,Tryz.ntmps14;go_wp2_with fail;refine HY.out.mono ?_;rintro e u ⟨hy,v,i2,n2,rfl,hv,h1,h2⟩;have hv:v=.int .i64 0:=hv;subst hv;have H1:=aa h1;have H2:=aa h2;have hy':=aa hy;clear h1 h2 HY hx hy;by_cases hb1:b=0
   ·subst hb1;go_wp2;go_end0;exact ⟨hy'.out,_,i2,n2,rfl,rfl,H1.out,H2.out⟩
   ·have b1:((0:Int) != b)=true:=by simp;omega
    go_wp2_with fail;refine (fD w0 p s en i2 n2 y _ H1.out 50).mono ?_;rintro e u3 ⟨rfl,h3,h4⟩;rw [if_neg hy'.out] at h3;have H3:=aa h3;have H4:Hid (But p w u3):=aa (H2.out.trans h4);clear h3 h4;go_wp2;go_end0;exact ⟨hy'.out,_,i2,n2,rfl,rfl,H3.out,H4.out⟩
  | ok v =>
   obtain ⟨x,j⟩:=v;rw [hx] at HY;rw [aM];by_cases hb1:x=b
   ·subst hb1;rw [if_pos rfl];have b1:(x != x)=false:=by simp
    go_enter Tryz.func14,Tryz.ntmps14;go_wp2_with fail;refine HY.out.mono ?_;rintro e u ⟨v,rfl,hv,h1,h2⟩;have hv:v=.int .i64 x:=hv;subst hv;have H1:=aa h1;have H2:=aa h2;clear h1 h2 HY hx;go_wp2;go_end0;exact ⟨_,rfl,rfl,H1.out,H2.out⟩
   ·rw [if_neg hb1];have b1:(x != b)=true:=by simp [hb1]
    go_enter Tryz.func14,Tryz.ntmps14;go_wp2_with fail;refine HY.out.mono ?_;rintro e u ⟨v,rfl,hv,h1,h2⟩;have hv:v=.int .i64 x:=hv;subst hv;have H1:=aa h1;have H2:=aa h2;clear h1 h2 HY hx;go_wp2_with fail;refine (fD w0 p s en j n 0 _ H1.out 50).mono ?_;rintro e u3 ⟨rfl,h3,h4⟩;rw [if_pos rfl] at h3;have H3:=aa h3;have H4:Hid (But p w u3):=aa (H2.out.trans h4);clear h3 h4;go_wp2;go_end0;exact ⟨by decide,_,j,n,rfl,rfl,H3.out,H4.out⟩
 ·have Ak:Hid (Calls Tryz.prog 15 #[.pointer (some ⟨p,0,none⟩)] w (DR w0 p s en fS z0 w (.error z))):=by
   have:=HY.out;unfold aG at this;rw [if_neg hz] at this;exact aa this
  unfold aG;rw [if_neg hz];clear h HY;go_enter Tryz.func14,Tryz.ntmps14;go_wp2_with fail;refine Ak.out.mono ?_;rintro e u ⟨hy,v,i2,n2,rfl,hv,h1,h2⟩;have hv:v=.int .i64 0:=hv;subst hv;have H1:=aa h1;have H2:=aa h2;clear h1 h2 Ak hy;by_cases hb1:b=0
  ·subst hb1;go_wp2;go_end0;exact ⟨hz,_,i2,n2,rfl,rfl,H1.out,H2.out⟩
  ·have b1:((0:Int) != b)=true:=by simp;omega
   go_wp2_with fail;refine (fD w0 p s en i2 n2 z _ H1.out 50).mono ?_;rintro e u3 ⟨rfl,h3,h4⟩;rw [if_neg hz] at h3;have H3:=aa h3;have H4:Hid (But p w u3):=aa (H2.out.trans h4);clear h3 h4;go_wp2;go_end0;exact ⟨hz,_,i2,n2,rfl,rfl,H3.out,H4.out⟩
end
end Go.Proofs.YtegboefdolfdgaaGreatDoor
namespace Go.Proofs.YtegboefdolfdgaaGreatDoor
open Go.RowKit
set_option maxHeartbeats 1000000
theorem La (N b:Int):bits .or .i64 (wrap64 (ae.gm N*128)) (b%128)=ae.gm (N*128+b%128):=by
 have hb:0<=b%128/\b%128<128:=by omega
 have e:wrap64 (ae.gm N*128)=ae.gm (ae.gm N*128):=by unfold wrap64 ae.gm;rfl
 have h1:=ae.Bu (ae.gm N*128);rw [e,ae.Tf _ _ h1.1 h1.2 (ae.Pp _) hb.1 hb.2];exact ae.Po N _ hb.1 hb.2
theorem c17 (s : ByteArray) (a bits : Int) (w : World) (hs : s.size ≤ 140737488351232) :
    Calls Tryz.prog 106 #[.string s, .int .i64 a, .int .i64 bits] w fun e w' =>
      e = .returned (.tuple #[.int .i64 (ae.eU s a bits).1, .int .i64 (ae.eU s a bits).2.1, .int .i64 (ae.eU s a bits).2.2]) ∧ w' = w := by
  by_cases di : ae.asks s.size a bits = true
  · have hq := ae.wH di
    obtain ⟨gN, ha0, ha1⟩ := hq;obtain ⟨a, rfl⟩ := Int.eq_ofNat_of_zero_le ha0;have hread : ae.eU s a bits = ae.nS (ae.from_ s a) (ae.dX (ae.from_ s a) (s.size - a) (ae.most bits)) a bits := by unfold ae.eU; rw [if_pos di, Int.toNat_natCast]; rfl
    rw [hread];have hg := ae.get_bt s;have ha : a ≤ s.size := by omega
    have xk : Hid (ae.asks s.size a bits = true) := di;have hks := ae.wG (ae.from_ s a) (s.size - a) (ae.most bits);have Al := Bb s a bits w hs ha gN;clear hread ha0 ha1 di;generalize ae.dX (ae.from_ s a) (s.size - a) (ae.most bits) = k at *;have hC := fV Al;clear Al;by_cases hbad : k = 0 ∨ (k = 10 ∧ ae.from_ s a 9 ≠ 0 ∧ ae.from_ s a 9 ≠ 127)
    · have hfin : ae.nS (ae.from_ s a) k a bits = (0, 0, 10) := by
        unfold ae.nS;rcases hbad with h | h
        · rw [if_pos (.inl h)]
        · rw [if_pos (.inr (.inr h))]
      rw [hfin]
      have lN : k = 0 ∨ (bits = 64 ∧ k = 10 ∧ (ae.bt s (a + 9) != 0) = true ∧ (ae.bt s (a + 9) != 127) = true ∧ a + 9 < s.size) := by
        by_cases hk0 : k = 0
        · exact .inl hk0
        · obtain ⟨k1, k2, k3, k4, k5⟩ := hks hk0
          rcases hbad with h | ⟨rfl, h, h'⟩
          · exact .inl h
          · rcases gN with rfl | rfl
            · exact absurd k2 (by decide)
            · exact .inr ⟨rfl, rfl, bne_iff_ne.2 h, bne_iff_ne.2 h', by omega⟩
      clear hbad hfin hks gN;rcases lN with rfl | ⟨rfl, rfl, h1, h1', h2⟩
      all_goals
        go_enter Tryz.func106, Tryz.ntmps106;go_wp2_with fail;refine (qY _ _ _ _).mono ?_;rintro e w' ⟨rfl, rfl⟩;rw [xk.out];go_wp2_with fail;refine (bI hC).mono ?_;rintro e w' ⟨rfl, rfl⟩;go_wp2;go_ret3;exact ⟨rfl, rfl⟩
    · have hk0 : k ≠ 0 := fun h => hbad (.inl h)
      obtain ⟨k1, k2, k3, k4, k5⟩ := hks hk0;have hsum : (a : Int) + k ≤ s.size := by omega
      have Bw : k ≤ 10 := by rcases gN with rfl | rfl <;> exact Nat.le_trans k2 (by decide)
      have Vb := ae.vB s a 9;have EZ := ae.vB s a (k - 1)
      have h9 : k ≤ 9 ∨ (k = 10 ∧ (ae.from_ s a 9 = 0 ∨ ae.from_ s a 9 = 127)) := by
        by_cases h : k = 10
        · by_cases h' : ae.from_ s a 9 = 0
          · exact .inr ⟨h, .inl h'⟩
          · by_cases h'' : ae.from_ s a 9 = 127
            · exact .inr ⟨h, .inr h''⟩
            · exact absurd (.inr ⟨h, h', h''⟩) hbad
        · exact .inl (by omega)
      have hv := ae.GH (ae.from_ s a) k k1 h9
      have BV : (((k : Int) == 10) = false) ∨ (bits = 64 ∧ (k = 10 ∧ (ae.bt s (a + 9) != 0) = false ∧ a + 9 < s.size)) ∨ (bits = 64 ∧ (k = 10 ∧ (ae.bt s (a + 9) != 0) = true ∧ (ae.bt s (a + 9) != 127) = false ∧ a + 9 < s.size)) := by
        simp only [beq_eq_false_iff_ne, bne_eq_false_iff_eq, bne_iff_ne];have e : ae.from_ s a 9 = ae.bt s (a + 9) := rfl;rw [e] at h9;rcases gN with rfl | rfl
        · have hm : k ≤ 5 := k2
          omega
        · omega
      have Ua : ((k : Int) == 0) = false := by simp; omega
      have hfin : ae.nS (ae.from_ s a) k a bits = if bits = 32 ∧ (ae.jE (ae.from_ s a) k < -2147483648 ∨ 2147483647 < ae.jE (ae.from_ s a) k) then (0, 0, 10) else (ae.jE (ae.from_ s a) k, (a : Int) + (k : Int), 0) := by
        unfold ae.nS;by_cases h : bits = 32 ∧ (ae.jE (ae.from_ s a) k < -2147483648 ∨ 2147483647 < ae.jE (ae.from_ s a) k)
        · rw [if_pos h, if_pos (.inr (.inl h))]
        · rw [if_neg h, if_neg (by intro h'; rcases h' with h' | h' | h'
                                   · exact hbad (.inl h')
                                   · exact h h'
                                   · exact hbad (.inr h'))]
      rw [hfin]
      have hsg : (Go.bits .and .u8 (ae.bt s (a + k - 1)) 64 != 0) = decide (64 ≤ ae.from_ s a (k - 1) % 128) := by
        have e : ae.from_ s a (k - 1) = ae.bt s (a + k - 1) := by unfold ae.from_; rw [show a + (k - 1) = a + k - 1 by omega]
        rw [← e, ae.JV _ EZ.1 EZ.2];by_cases h : 64 ≤ ae.from_ s a (k - 1) % 128
        · rw [if_pos h, decide_eq_true h]; decide
        · rw [if_neg h, decide_eq_false h]; decide
      have hsv : ae.jE (ae.from_ s a) k = ae.val (ae.from_ s a) k + 128 ^ k * (if 64 ≤ ae.from_ s a (k - 1) % 128 then -1 else 0) := rfl;generalize ae.jE (ae.from_ s a) k = V at *;generalize hR : (if bits = 32 ∧ (V < -2147483648 ∨ 2147483647 < V) then ((0, 0, 10) : Int × Int × Int) else (V, (a : Int) + (k : Int), 0)) = R;have HR := fV hR;have hlt : a + k - 1 < s.size := by omega
      clear hbad hfin hks k2 k4 k5 Vb EZ hk0 h9 hR;by_cases xn : 64 ≤ ae.from_ s a (k - 1) % 128
      · rw [if_pos xn] at hsv
        rw [decide_eq_true xn] at hsg;have HV := fV hsv.symm;clear hsv xn;rcases BV with h1 | ⟨rfl, rfl, h1, h2⟩ | ⟨rfl, rfl, h1, h1', h2⟩
        all_goals try change (Go.bits .and .u8 (ae.bt s (a + 9)) 64 != 0) = _ at hsg
        all_goals
          go_enter Tryz.func106, Tryz.ntmps106;go_wp2_with fail;refine (qY _ _ _ _).mono ?_;rintro e w' ⟨rfl, rfl⟩;rw [xk.out];go_wp2_with fail;refine (bI hC).mono ?_;rintro e w' ⟨rfl, rfl⟩;go_wp2
          go_loop [10, 11] (fun x i => ∃ (j : Nat) (N : Int), a + j ≤ s.size ∧ j ≤ 10 ∧ i = .int .i64 ((j : Int) - 1) ∧ x = .int .i64 (ae.gm N) ∧ ae.val (ae.from_ s a) j + 128 ^ j * N = V) (fun _ i => (RowKit.intOf i + 1).toNat)
          case atStart =>
            refine ⟨_, -1, ?_, ?_, ?_, rfl, bI HV⟩
            · omega
            · omega
            · go_num
          case round =>
            obtain ⟨j, N, KC, hj2, rfl, rfl, hN⟩ := hrel;have HN := fV hN;clear hN;by_cases hj : j = 0
            · subst hj
              have pU := (bI HN);simp only [ae.val, Int.pow_zero, Int.one_mul, Int.zero_add] at pU;subst pU;have hV := ae.Di hv.1 hv.2;clear HN;go_wp2
              all_goals go_ret3
              all_goals refine ⟨yx ?_, rfl⟩
              all_goals (rw [← bI HR]; first | rw [if_pos (by omega)] | rw [if_neg (by omega)])
              all_goals rfl
            · obtain ⟨j, rfl⟩ : ∃ j', j = j' + 1 := ⟨j - 1, by omega⟩
              have hbd := ae.lQ s (a + j);have hmk := ae.BN _ hbd.1 hbd.2;have hlow := ae.Bu N;go_wp2
              go_round
              case rel => exact ⟨j, N * 128 + ae.bt s (a + j) % 128, by omega, by omega, rfl, by rw [La], (ae.Dh (ae.from_ s a) j N).symm.trans (bI HN)⟩
              case measure => simp [RowKit.intOf]
      · rw [if_neg xn] at hsv
        rw [decide_eq_false xn] at hsg;have HV := fV hsv.symm;clear hsv xn;rcases BV with h1 | ⟨rfl, rfl, h1, h2⟩ | ⟨rfl, rfl, h1, h1', h2⟩
        all_goals try change (Go.bits .and .u8 (ae.bt s (a + 9)) 64 != 0) = _ at hsg
        all_goals
          go_enter Tryz.func106, Tryz.ntmps106;go_wp2_with fail;refine (qY _ _ _ _).mono ?_;rintro e w' ⟨rfl, rfl⟩;rw [xk.out];go_wp2_with fail;refine (bI hC).mono ?_;rintro e w' ⟨rfl, rfl⟩;go_wp2
          go_loop [10, 11] (fun x i => ∃ (j : Nat) (N : Int), a + j ≤ s.size ∧ j ≤ 10 ∧ i = .int .i64 ((j : Int) - 1) ∧ x = .int .i64 (ae.gm N) ∧ ae.val (ae.from_ s a) j + 128 ^ j * N = V) (fun _ i => (RowKit.intOf i + 1).toNat)
          case atStart =>
            refine ⟨_, 0, ?_, ?_, ?_, rfl, bI HV⟩
            · omega
            · omega
            · go_num
          case round =>
            obtain ⟨j, N, KC, hj2, rfl, rfl, hN⟩ := hrel;have HN := fV hN;clear hN;by_cases hj : j = 0
            · subst hj
              have pU := (bI HN);simp only [ae.val, Int.pow_zero, Int.one_mul, Int.zero_add] at pU;subst pU;have hV := ae.Di hv.1 hv.2;clear HN;go_wp2
              all_goals go_ret3
              all_goals refine ⟨yx ?_, rfl⟩
              all_goals (rw [← bI HR]; first | rw [if_pos (by omega)] | rw [if_neg (by omega)])
              all_goals rfl
            · obtain ⟨j, rfl⟩ : ∃ j', j = j' + 1 := ⟨j - 1, by omega⟩
              have hbd := ae.lQ s (a + j);have hmk := ae.BN _ hbd.1 hbd.2;have hlow := ae.Bu N;go_wp2
              go_round
              case rel => exact ⟨j, N * 128 + ae.bt s (a + j) % 128, by omega, by omega, rfl, by rw [La], (ae.Dh (ae.from_ s a) j N).symm.trans (bI HN)⟩
              case measure => simp [RowKit.intOf]
  · have rH : ae.asks s.size a bits = false := by simpa using di
    have hread : ae.eU s a bits = (0, 0, 1) := by unfold ae.eU; rw [rH]; rfl
    rw [hread];clear hread di;go_enter Tryz.func106, Tryz.ntmps106;go_wp2_with fail;refine (qY _ _ _ _).mono ?_;rintro e w' ⟨rfl, rfl⟩;go_wp2;go_ret3;exact ⟨rfl, rfl⟩
end Go.Proofs.YtegboefdolfdgaaGreatDoor
namespace Go.Proofs.YtegboefdolfdgaaGreatDoor
open Go.RowKit aA ai
set_option linter.unusedVariables false
set_option maxRecDepth 100000
set_option maxHeartbeats 2000000
namespace ai
theorem AY {α β:Type} (z:Int) (x:R2 α) (f:α->Nat->Nat->R2 β):aG z (bL x f)=bL (aG z x) f:=by
 unfold aG;split
 ·rfl
 ·rfl
theorem AX {α β:Type} (x:R α) (f:α->Nat->R β) (n:Nat):lift (bd x f) n=bL (lift x n) fun a j m=>lift (f a j) m:=by
 cases x with
 | error e=>rfl
 | ok v=>rfl
end ai
section
variable (w0:World) (p:Nat) (s:ByteArray) (en i n:Nat) (z:Int) (w:World) (h:DS w0 p s en i n z w)
include h
theorem yU:Calls Tryz.prog 29 #[.pointer (some ⟨p,0,none⟩)] w (DR w0 p s en fS z0 w (aG z (lift (ru s en i) n))):=by
 have c0:=h.cell 0 _ rfl;have c1:=h.cell 1 _ rfl;have c2:=h.cell 2 _ rfl;have c4:=h.cell 4 _ rfl;have hle:=h.len;have hz':(s.extract 0 en).size=en:=by rw [ByteArray.size_extract];omega
 have HU:=fun u=>(c15 (s.extract 0 en) i 32 u (by have:=h.big;omega));have H:=aa h;have ht:((en:Int).toNat)=en:=by omega
 by_cases hz:z=0
 ·subst hz;unfold aG ru;rw [if_pos rfl];obtain ⟨N,hN⟩:∃N,N=(ae.fF (s.extract 0 en) i 32).1:=⟨_,rfl⟩;obtain ⟨J,hJ⟩:∃J,J=(ae.fF (s.extract 0 en) i 32).2.1:=⟨_,rfl⟩;obtain ⟨E,hE⟩:∃E,E=(ae.fF (s.extract 0 en) i 32).2.2:=⟨_,rfl⟩;have hok:=El (s.extract 0 en) i;rw [<- hN,<- hJ,<- hE,hz'] at hok;rw [<- hN,<- hJ,<- hE];simp only [<- hN,<- hJ,<- hE] at HU;clear hN hJ hE h;by_cases he:E=0
  ·rw [if_pos he];obtain ⟨b1,b2,b3,b4⟩:=hok he;obtain ⟨j,rfl⟩:∃j:Nat,J=(j:Int):=⟨J.toNat,by omega⟩;subst he;have hw:wrap64 N=N:=by unfold wrap64;omega
   have pg:((j:Int).toNat)=j:=by omega
   rw [pg];have Dc:Hid (j<=en):=aa (by omega);clear hok hz' pg b1 b2;go_enter Tryz.func29,Tryz.ntmps29;go_wp2_with fail;go_quiet (first|(go_at_call 55;exact Calls.quiet_of_same (HU _)))
   have HD:=aa (H.out.on (bN w nq));have HB:Hid (But p w (w.drewN nq)):=aa (But.of p (bN w nq));generalize w.drewN nq=u1 at *;clear c0 c1 c2 c4 H HU;have d1:=HD.out.cell 1 _ rfl;have f1:=HD.out.ag 1;have H2:=aa (HD.out.at_ Dc.out);have HB2:Hid (But p w (u1.setCell ⟨p,1,none⟩ (.int .i64 j))):=aa (HB.out.trans (But.set p 1 u1 _));clear HD HB;go_wp2;go_ret;exact ⟨_,rfl,by first|rfl|(show Value.int .i64 (wrap64 N)=.int .i64 N;rw [hw]),H2.out,HB2.out⟩
  ·rw [if_neg he];have b1:(E != 0)=true:=by simp [he]
   clear hok hz';go_enter Tryz.func29,Tryz.ntmps29;go_wp2_with fail;go_quiet (first|(go_at_call 55;exact Calls.quiet_of_same (HU _)))
   have HD:=aa (H.out.on (bN w nq));have HB:Hid (But p w (w.drewN nq)):=aa (But.of p (bN w nq));generalize w.drewN nq=u1 at *;clear c0 c1 c2 c4 H HU;go_wp2_with fail;refine (fD w0 p s en i n 0 _ HD.out 50).mono ?_;rintro e u ⟨rfl,h1,h2⟩;have H1:=aa h1;have H2:Hid (But p w u):=aa (HB.out.trans h2);clear h1 h2;go_wp2;go_ret;exact ⟨by decide,_,i,n,rfl,rfl,H1.out,H2.out⟩
 ·have b1:(z != 0)=true:=by simp [hz]
  clear h HU;unfold aG;rw [if_neg hz];go_enter Tryz.func29,Tryz.ntmps29;go_wp2;go_ret;exact ⟨hz,_,i,n,rfl,rfl,H.out,But.refl p w⟩
end
section
variable (w0:World) (p:Nat) (s:ByteArray) (en i n:Nat) (z:Int) (w:World) (h:DS w0 p s en i n z w)
include h
theorem yS (bits:Int):Calls Tryz.prog 95 #[.pointer (some ⟨p,0,none⟩),.int .i64 bits] w (DR w0 p s en fS z0 w (aG z (lift (rs s en bits i) n))):=by
 have c0:=h.cell 0 _ rfl;have c1:=h.cell 1 _ rfl;have c2:=h.cell 2 _ rfl;have c4:=h.cell 4 _ rfl;have hle:=h.len;have hz':(s.extract 0 en).size=en:=by rw [ByteArray.size_extract];omega
 have HU:=fun u=>(c17 (s.extract 0 en) i bits u (by have:=h.big;omega));have H:=aa h;have ht:((en:Int).toNat)=en:=by omega
 by_cases hz:z=0
 ·subst hz;unfold aG rs;rw [if_pos rfl];obtain ⟨N,hN⟩:∃N,N=(ae.eU (s.extract 0 en) i bits).1:=⟨_,rfl⟩;obtain ⟨J,hJ⟩:∃J,J=(ae.eU (s.extract 0 en) i bits).2.1:=⟨_,rfl⟩;obtain ⟨E,hE⟩:∃E,E=(ae.eU (s.extract 0 en) i bits).2.2:=⟨_,rfl⟩;have hok:=CO (s.extract 0 en) i bits;rw [<- hN,<- hJ,<- hE,hz'] at hok;rw [<- hN,<- hJ,<- hE];simp only [<- hN,<- hJ,<- hE] at HU;clear hN hJ hE h;by_cases he:E=0
  ·rw [if_pos he];obtain ⟨b1,b2,b3,b4⟩:=hok he;obtain ⟨j,rfl⟩:∃j:Nat,J=(j:Int):=⟨J.toNat,by omega⟩;subst he;have pg:((j:Int).toNat)=j:=by omega
   rw [pg];have Dc:Hid (j<=en):=aa (by omega);clear hok hz' pg b1 b2;go_enter Tryz.func95,Tryz.ntmps95;go_wp2_with fail;go_quiet (first|(go_at_call 106;exact Calls.quiet_of_same (HU _)))
   have HD:=aa (H.out.on (bN w nq));have HB:Hid (But p w (w.drewN nq)):=aa (But.of p (bN w nq));generalize w.drewN nq=u1 at *;clear c0 c1 c2 c4 H HU;have d1:=HD.out.cell 1 _ rfl;have f1:=HD.out.ag 1;have H2:=aa (HD.out.at_ Dc.out);have HB2:Hid (But p w (u1.setCell ⟨p,1,none⟩ (.int .i64 j))):=aa (HB.out.trans (But.set p 1 u1 _));clear HD HB;go_wp2;go_ret;exact ⟨_,rfl,rfl,H2.out,HB2.out⟩
  ·rw [if_neg he];have b1:(E != 0)=true:=by simp [he]
   clear hok hz';go_enter Tryz.func95,Tryz.ntmps95;go_wp2_with fail;go_quiet (first|(go_at_call 106;exact Calls.quiet_of_same (HU _)))
   have HD:=aa (H.out.on (bN w nq));have HB:Hid (But p w (w.drewN nq)):=aa (But.of p (bN w nq));generalize w.drewN nq=u1 at *;clear c0 c1 c2 c4 H HU;go_wp2_with fail;refine (fD w0 p s en i n 0 _ HD.out 50).mono ?_;rintro e u ⟨rfl,h1,h2⟩;have H1:=aa h1;have H2:Hid (But p w u):=aa (HB.out.trans h2);clear h1 h2;go_wp2;go_ret;exact ⟨by decide,_,i,n,rfl,rfl,H1.out,H2.out⟩
 ·have b1:(z != 0)=true:=by simp [hz]
  clear h HU;unfold aG;rw [if_neg hz];go_enter Tryz.func95,Tryz.ntmps95;go_wp2;go_ret;exact ⟨hz,_,i,n,rfl,rfl,H.out,But.refl p w⟩
theorem vY:Calls Tryz.prog 32 #[.pointer (some ⟨p,0,none⟩)] w (DR w0 p s en fS z0 w (aG z (lift (rc s en i) n))):=by
 have HY:=aa (yU w0 p s en i n z w h);have hlen:=h.len;clear h;unfold rc;rw [AX,AY]
 have hbd:∀x j m,aG z (lift (ru s en i) n)=.ok (x,j,m)->0<=x/\x<=4294967295:=fun x j m hx=>by
  unfold aG at hx;by_cases hz:z=0
  ·rw [if_pos hz] at hx;exact (iP hlen (mR hx).1).2.2
  ·rw [if_neg hz] at hx;cases hx
 generalize aG z (lift (ru s en i) n)=X at HY hbd ⊢;cases X with
 | error y =>
  show Calls _ _ _ _ (DR w0 p s en fS z0 w (.error y));go_enter Tryz.func32,Tryz.ntmps32;go_wp2_with fail;refine HY.out.mono ?_;rintro e u ⟨hy,v,i2,n2,rfl,hv,h1,h2⟩;have hv:v=.int .i64 0:=hv;subst hv;have H1:=aa h1;have H2:=aa h2;have hy':=aa hy;clear h1 h2 HY hy hbd;go_wp2;go_ret;exact ⟨hy'.out,_,i2,n2,rfl,rfl,H1.out,H2.out⟩
 | ok v =>
  obtain ⟨x,j,m⟩:=v;obtain ⟨b1,b2⟩:=hbd x j m rfl;show Calls _ _ _ _ (DR w0 p s en fS z0 w (lift (if x<=4096 then .ok (x,j) else .error 3) m));by_cases hx:x<=4096
  ·rw [if_pos hx];have d1:decide (x > 4096)=false:=decide_eq_false (by omega);go_enter Tryz.func32,Tryz.ntmps32;go_wp2_with fail;refine HY.out.mono ?_;rintro e u ⟨v,rfl,hv,h1,h2⟩;have hv:v=.int .i64 x:=hv;subst hv;have H1:=aa h1;have H2:=aa h2;clear h1 h2 HY hbd;go_wp2;go_ret;exact ⟨_,rfl,rfl,H1.out,H2.out⟩
  ·rw [if_neg hx];have d1:decide (x > 4096)=true:=decide_eq_true (by omega);go_enter Tryz.func32,Tryz.ntmps32;go_wp2_with fail;refine HY.out.mono ?_;rintro e u ⟨v,rfl,hv,h1,h2⟩;have hv:v=.int .i64 x:=hv;subst hv;have H1:=aa h1;have H2:=aa h2;clear h1 h2 HY hbd;go_wp2_with fail;refine (fD w0 p s en j m 0 _ H1.out 3).mono ?_;rintro e u3 ⟨rfl,h3,h4⟩;rw [if_pos rfl] at h3;have H3:=aa h3;have H4:Hid (But p w u3):=aa (H2.out.trans h4);clear h3 h4;go_wp2;go_ret;exact ⟨by decide,_,j,m,rfl,rfl,H3.out,H4.out⟩
end
end Go.Proofs.YtegboefdolfdgaaGreatDoor
