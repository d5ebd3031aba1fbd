/- Texts that the claim needs. -/
import Derived.Test.YtgbbmdknbflilaaDoorQDcu13
namespace Go.Proofs.YtgbbmdknbflilaaDoor
open Go.RowKit Rep Dec
set_option linter.unusedVariables false
namespace Dec
def Rds2 {α:Type} (w0:World) (p:Nat) (s:ByteArray) (c:Nat->Value) (en k:Nat) (V:α->Value->World->Prop) (w:World) (x:R2 α) (e:Ending) (w':World):Prop :=
 match x with
 | .ok (a,j,m)=>(∃v,e=.returned v/\V a v w')/\RS w0 p s c en k j m w'/\But p w w'
 | .error z=>e=.panicked (gave z)/\Below w0.heap.size w0 w'
def vSeq (B d:Nat) (a:IL d × Int) (v:Value) (w:World):Prop:=∃o n k,v=.tuple #[.slice o n k,.int .i64 a.2]/\AtS w (Since B w none) d (.slice o n k) a.1
def SeqC (d:Nat):Prop:=∀(w0:World) (p:Nat) (s:ByteArray) (c:Nat->Value) (en k i n:Nat) (w:World) (dep:Nat),RS w0 p s c en k i n w->n<=65536->65<=d+dep->dep<=65 ->
 Calls Tryd.prog 61 #[.pointer (some ⟨p,0,none⟩),.int .i64 dep] w (Rds2 w0 p s c en k (vSeq w.heap.size d) w (rseq s en d dep i n))
theorem bd2_err {α β:Type} (e:Int) (f:α->Nat->Nat->R2 β):bd2 (.error e) f=.error e:=rfl
theorem bd2_ok' {α β:Type} (a:α) (i n:Nat) (f:α->Nat->Nat->R2 β):bd2 (.ok (a,i,n)) f=f a i n:=rfl
def Nb {α:Type} (f:Nat->Nat->R2 α):Prop:=∀i n a j m,n<=65536->f i n=.ok (a,j,m)->m<=65536
def Tb {α:Type} (f:Nat->Nat->R2 (α × Int)):Prop:=∀i n a j m,f i n=.ok (a,j,m)->a.2=5\/a.2=11
theorem rask_n {dep n:Nat} {op:Int} (h:rask dep op n=none):n+1<=65536/\dep<=64/\form op≠0/\form op≠10:=by
 unfold rask at h
 split at h
 ·cases h
 split at h
 ·cases h
 split at h
 ·cases h
 split at h
 ·cases h
 ·exact ⟨by omega,by omega,by assumption,by assumption⟩
theorem rblk_nb {α:Type} {z:α} {s:ByteArray} {en:Nat} {sub:Nat->Nat->R2 (α × Int)} (hs:Nb sub) {op:Int}:Nb (rblk z s en sub op):=fun i n a j m hn h=>by
 unfold rblk at h
 obtain ⟨x,i1,n1,h1,h⟩:=bd2_in h
 have h2:=(lift_in h1).2
 obtain ⟨b,i2,n2,h3,h⟩:=bd2_in h
 have h4:=hs _ _ _ _ _ (by omega) h3
 split at h
 ·obtain ⟨y,i3,n3,h5,h⟩:=bd2_in h
  have h6:=hs _ _ _ _ _ h4 h5
  split at h
  ·injection h with h;injection h with _ h;injection h with _ h;omega
  ·cases h
 split at h
 ·injection h with h;injection h with _ h;injection h with _ h;omega
 ·cases h
theorem rins_nb {d:Nat} {sub:Nat->Nat->R2 (IL d × Int)} {s:ByteArray} {en dep:Nat} (hs:Nb sub) {op:Int}:Nb (rins sub s en dep op):=fun i n a j m hn h=>by
 unfold rins at h
 split at h
 ·cases h
 ·rename_i hk
  have:=rask_n hk
  split at h
  ·exact rblk_nb hs _ _ _ _ _ (by omega) h
  ·have:=(lift_in h).2;omega
theorem rloop_nb {d:Nat} {sub:Nat->Nat->R2 (IL d × Int)} {s:ByteArray} {en dep:Nat} (hs:Nb sub):∀f,Nb (rloop sub s en dep f)
 | 0=>fun i n a j m hn h=>by cases h
 | f+1=>fun i n a j m hn h=>by
  unfold rloop at h
  obtain ⟨x,i1,n1,h1,h⟩:=bd2_in h
  have h2:=(lift_in h1).2
  split at h
  ·injection h with h;injection h with _ h;injection h with _ h;omega
  ·obtain ⟨y,i2,n2,h3,h⟩:=bd2_in h
   have h4:=rins_nb hs _ _ _ _ _ (by omega) h3
   obtain ⟨q,i3,n3,h5,h⟩:=bd2_in h
   have h6:=rloop_nb hs f _ _ _ _ _ h4 h5
   injection h with h;injection h with _ h;injection h with _ h;omega
theorem rseq_nb (s:ByteArray) (en:Nat):∀d dep,Nb (rseq s en d dep)
 | 0,dep=>fun i n a j m hn h=>by
  obtain ⟨x,i1,n1,h1,h⟩:=bd2_in h
  have h2:=(lift_in h1).2
  split at h
  ·injection h with h;injection h with _ h;injection h with _ h;omega
  ·cases h
 | d+1,dep=>fun i n a j m hn h=>rloop_nb (rseq_nb s en d (dep+1)) _ i n a j m hn h
theorem rloop_tb {d:Nat} {sub:Nat->Nat->R2 (IL d × Int)} {s:ByteArray} {en dep:Nat}:∀f,Tb (rloop sub s en dep f)
 | 0=>fun i n a j m h=>by cases h
 | f+1=>fun i n a j m h=>by
  unfold rloop at h
  obtain ⟨x,i1,n1,h1,h⟩:=bd2_in h
  split at h
  ·injection h with h;injection h with h _;rw [<- h];show x=5\/x=11;omega
  ·obtain ⟨y,i2,n2,h3,h⟩:=bd2_in h
   obtain ⟨q,i3,n3,h5,h⟩:=bd2_in h
   have h6:=rloop_tb f _ _ _ _ _ h5
   injection h with h;injection h with h _;rw [<- h];exact h6
theorem rseq_tb (s:ByteArray) (en:Nat):∀d dep,Tb (rseq s en d dep)
 | 0,dep=>fun i n a j m h=>by
  obtain ⟨x,i1,n1,h1,h⟩:=bd2_in h
  split at h
  ·injection h with h;injection h with h _;rw [<- h];show x=5\/x=11;omega
  ·cases h
 | d+1,dep=>fun i n a j m h=>rloop_tb _ i n a j m h
theorem SI.start2 {w0 w u:World} {p:Nat} {s:ByteArray} {c:Nat->Value} {en k i n:Nat} (op a:Int) (hp:p<w.heap.size) (h1:RS w0 p s c en k i n u) (h2:But p (w.alloc (.cells #[.int .i64 0,.int .i64 0,.int .i64 0,.int .i64 0,.slice none 0 0,.slice none 0 0,.slice none 0 0] 75)) u) :
  SI w0 w p s c en k i n w.heap.size u.heap.size op a 0 0 (.slice none 0 0) (.slice none 0 0) (.slice none 0 0) (u.alloc (.cells #[.int .i64 op,.int .i64 a,.int .i64 0,.int .i64 0,.slice none 0 0,.slice none 0 0,.slice none 0 0] 75)):=by
 have hs:=h2.size
 have hs':w.heap.size+1<=u.heap.size:=by simpa using hs
 have hr:Blk u w.heap.size 0 0 0 0 (.slice none 0 0) (.slice none 0 0) (.slice none 0 0):=(Blk.new w w.heap.size 0 0 0 0 (.slice none 0 0) (.slice none 0 0) (.slice none 0 0) rfl).keep (h2.block _ (by simp) (fun e=>by injection e with e;omega))
 exact ⟨h1.on (new_on' _ _),((But.of p (new_on' w _)).trans h2).trans (But.of p (new_on' u _)),hr.keep ((new_on' _ _).block _ hr.lt),Blk.new _ _ op a 0 0 (.slice none 0 0) (.slice none 0 0) (.slice none 0 0) rfl,hp,Nat.le_refl _,by omega⟩
end Dec
end Go.Proofs.YtgbbmdknbflilaaDoor

namespace Go.Proofs.YtgbbmdknbflilaaDoor
open Go.RowKit Rep Dec
set_option linter.unusedVariables false
theorem sz3 {p a:Nat} {u:World} {x:Obj} (h1:a<u.heap.size) (h2:p<a):u.heap.size<(u.alloc x).heap.size/\a<=(u.alloc x).heap.size/\p<(u.alloc x).heap.size:=by
 have hz:(u.alloc x).heap.size=u.heap.size+1:=by simp
 omega
section
variable {d:Nat} (IH:SeqC d) (w0:World) (p:Nat) (s:ByteArray) (c:Nat->Value) (en k i n:Nat) (w:World) (h:RS w0 p s c en k i n w) (hn:n<=65536) (op:Int) (dep:Nat) (hd:65<=d+(dep+1)) (hdep:dep<=64)
include IH h hn hd hdep
set_option maxRecDepth 100000 in
set_option maxHeartbeats 8000000 in
theorem dBlk (hf:form op=2\/form op=3):Calls Tryd.prog 75 #[.pointer (some ⟨p,0,none⟩),.int .i64 op,.int .i64 dep] w (Rds2 w0 p s c en k (vIns w.heap.size d) w (rblk (none_ d) s en (rseq s en d (dep+1)) op i n)):=by
 have e1:((dep+1:Nat):Int)=(dep:Int)+1:=by omega
 have H:=hideR h
 have HR:=hideR (dRes w0 p s c en k i n (w.alloc (.cells #[.int .i64 0,.int .i64 0,.int .i64 0,.int .i64 0,.slice none 0 0,.slice none 0 0,.slice none 0 0] 75)) (h.on (new_on' w _)))
 have hp:=h.lt
 have HIH:=hideR IH
 clear h IH
 unfold rblk
 cases hx0:rres s en i with
 | error z =>
  rw [hx0] at HR
  show Calls _ _ _ _ (Rds2 w0 p s c en k (vIns w.heap.size d) w (.error z))
  clear hx0
  go_enter Tryd.func75,Tryd.ntmps75
  go_wp2_with fail
  refine HR.out.mono ?_
  rintro e w1 ⟨rfl,hb⟩
  exact ⟨rfl,rfl,hb⟩
 | ok v =>
  obtain ⟨a,j⟩:=v
  rw [hx0] at HR
  show Calls _ _ _ _ (Rds2 w0 p s c en k (vIns w.heap.size d) w (bd2 (rseq s en d (dep+1) j n) _))
  clear hx0
  cases hx1:rseq s en d (dep+1) j n with
  | error z =>
   rw [bd2_err]
   go_enter Tryd.func75,Tryd.ntmps75
   go_wp2_with fail
   refine HR.out.mono ?_
   rintro e u0 ⟨⟨v0,rfl,hv0⟩,h1,h2⟩
   have hv0:v0=.int .i64 a:=hv0
   subst hv0
   have HS:=hideR (SI.start2 op a hp h1 h2)
   have hc1:=HIH.out w0 p s c en k j n (u0.alloc (.cells #[.int .i64 op,.int .i64 a,.int .i64 0,.int .i64 0,.slice none 0 0,.slice none 0 0,.slice none 0 0] 75)) (dep+1) HS.out.rs hn hd (by omega)
   rw [e1,hx1] at hc1
   have HC1:=hideR hc1
   have HB1:Hid (u0.heap.size<(u0.alloc (.cells #[.int .i64 op,.int .i64 a,.int .i64 0,.int .i64 0,.slice none 0 0,.slice none 0 0,.slice none 0 0] 75)).heap.size/\w.heap.size<=(u0.alloc (.cells #[.int .i64 op,.int .i64 a,.int .i64 0,.int .i64 0,.slice none 0 0,.slice none 0 0,.slice none 0 0] 75)).heap.size/\p<(u0.alloc (.cells #[.int .i64 op,.int .i64 a,.int .i64 0,.int .i64 0,.slice none 0 0,.slice none 0 0,.slice none 0 0] 75)).heap.size):=hideR (sz3 HS.out.hq HS.out.pw)
   clear h1 h2 hc1 HR
   go_wp2_with fail
   refine HC1.out.mono ?_
   rintro e w1 ⟨rfl,hb⟩
   exact ⟨rfl,rfl,hb⟩
  | ok v =>
   obtain ⟨⟨b,t⟩,j2,n2⟩:=v
   have hn2:n2<=65536:=rseq_nb s en d (dep+1) _ _ _ _ _ hn hx1
   have htt:t=5\/t=11:=rseq_tb s en d (dep+1) _ _ _ _ _ hx1
   rw [bd2_ok']
   dsimp only
   rcases htt with rfl|rfl
   ·by_cases h3:form op=3
    ·rw [if_pos ⟨rfl,h3⟩]
     have HF:=fun u=>hideR (formT op u)
     rw [h3] at HF
     clear hf h3
     cases hx2:rseq s en d (dep+1) j2 n2 with
     | error z =>
      rw [bd2_err]
      go_enter Tryd.func75,Tryd.ntmps75
      go_wp2_with fail
      refine HR.out.mono ?_
      rintro e u0 ⟨⟨v0,rfl,hv0⟩,h1,h2⟩
      have hv0:v0=.int .i64 a:=hv0
      subst hv0
      have HS:=hideR (SI.start2 op a hp h1 h2)
      have hc1:=HIH.out w0 p s c en k j n (u0.alloc (.cells #[.int .i64 op,.int .i64 a,.int .i64 0,.int .i64 0,.slice none 0 0,.slice none 0 0,.slice none 0 0] 75)) (dep+1) HS.out.rs hn hd (by omega)
      rw [e1,hx1] at hc1
      have HC1:=hideR hc1
      have HB1:Hid (u0.heap.size<(u0.alloc (.cells #[.int .i64 op,.int .i64 a,.int .i64 0,.int .i64 0,.slice none 0 0,.slice none 0 0,.slice none 0 0] 75)).heap.size/\w.heap.size<=(u0.alloc (.cells #[.int .i64 op,.int .i64 a,.int .i64 0,.int .i64 0,.slice none 0 0,.slice none 0 0,.slice none 0 0] 75)).heap.size/\p<(u0.alloc (.cells #[.int .i64 op,.int .i64 a,.int .i64 0,.int .i64 0,.slice none 0 0,.slice none 0 0,.slice none 0 0] 75)).heap.size):=hideR (sz3 HS.out.hq HS.out.pw)
      clear h1 h2 hc1 HR
      go_wp2_with fail
      refine HC1.out.mono ?_
      rintro e u1 ⟨⟨v1,rfl,hv1⟩,h1,h2⟩
      obtain ⟨o5,m5,k5,hv1,hA5⟩:=hv1
      have hv1:v1=.tuple #[.slice o5 m5 k5,.int .i64 5]:=hv1
      subst hv1
      have hA5:AtS u1 (Since (u0.alloc (.cells #[.int .i64 op,.int .i64 a,.int .i64 0,.int .i64 0,.slice none 0 0,.slice none 0 0,.slice none 0 0] 75)).heap.size u1 none) d (.slice o5 m5 k5) b:=hA5
      have HS1:=hideR (HS.out.call h1 h2)
      generalize (u0.alloc (.cells #[.int .i64 op,.int .i64 a,.int .i64 0,.int .i64 0,.slice none 0 0,.slice none 0 0,.slice none 0 0] 75)).heap.size=B1 at *
      generalize u0.heap.size=q at *
      have fx:=HS1.out.x.cell 5 _ rfl
      have fy:=HS1.out.x.frz 5
      obtain ⟨t1,ht1⟩:∃t1,t1=u1.setCell ⟨q,5,none⟩ (.slice o5 m5 k5):=⟨_,rfl⟩
      have HT1:=hideR (HS1.out.set5 (.slice o5 m5 k5))
      have HA5:=hideR (AtS.keep (since_set (r:=q) (j:=5) (v:=.slice o5 m5 k5) HB1.out.1 (Nat.le_refl _)) d _ _ hA5)
      rw [<- ht1] at HT1 HA5
      have HE1:=hideR ht1
      clear h1 h2 hA5 HC1 ht1 HS
      go_upto_region 4 with fail
      rw [<- HE1.out]
      clear HE1 fx fy HS1
      go_wp2_with fail
      refine (HF _).out.mono ?_
      rintro e u2 ⟨rfl,hbf⟩
      have HS2:=hideR (HT1.out.call (HT1.out.rs.on hbf) (But.of p hbf))
      have HA6:=hideR (AtS.keep (since_but HB1.out.2.2 (But.of p hbf)) d _ _ HA5.out)
      have hc2:=HIH.out w0 p s c en k j2 n2 u2 (dep+1) HS2.out.rs hn2 hd (by omega)
      rw [e1,hx2] at hc2
      have HC2:=hideR hc2
      clear hc2 HA5 hbf HF HT1
      go_wp2_with fail
      refine HC2.out.mono ?_
      rintro e w1 ⟨rfl,hb⟩
      exact ⟨rfl,rfl,hb⟩
     | ok v =>
      obtain ⟨⟨b2,t2⟩,j3,n3⟩:=v
      have htt:t2=5\/t2=11:=rseq_tb s en d (dep+1) _ _ _ _ _ hx2
      rw [bd2_ok']
      dsimp only
      rcases htt with rfl|rfl
      ·rw [if_neg (by decide)]
       go_enter Tryd.func75,Tryd.ntmps75
       go_wp2_with fail
       refine HR.out.mono ?_
       rintro e u0 ⟨⟨v0,rfl,hv0⟩,h1,h2⟩
       have hv0:v0=.int .i64 a:=hv0
       subst hv0
       have HS:=hideR (SI.start2 op a hp h1 h2)
       have hc1:=HIH.out w0 p s c en k j n (u0.alloc (.cells #[.int .i64 op,.int .i64 a,.int .i64 0,.int .i64 0,.slice none 0 0,.slice none 0 0,.slice none 0 0] 75)) (dep+1) HS.out.rs hn hd (by omega)
       rw [e1,hx1] at hc1
       have HC1:=hideR hc1
       have HB1:Hid (u0.heap.size<(u0.alloc (.cells #[.int .i64 op,.int .i64 a,.int .i64 0,.int .i64 0,.slice none 0 0,.slice none 0 0,.slice none 0 0] 75)).heap.size/\w.heap.size<=(u0.alloc (.cells #[.int .i64 op,.int .i64 a,.int .i64 0,.int .i64 0,.slice none 0 0,.slice none 0 0,.slice none 0 0] 75)).heap.size/\p<(u0.alloc (.cells #[.int .i64 op,.int .i64 a,.int .i64 0,.int .i64 0,.slice none 0 0,.slice none 0 0,.slice none 0 0] 75)).heap.size):=hideR (sz3 HS.out.hq HS.out.pw)
       clear h1 h2 hc1 HR
       go_wp2_with fail
       refine HC1.out.mono ?_
       rintro e u1 ⟨⟨v1,rfl,hv1⟩,h1,h2⟩
       obtain ⟨o5,m5,k5,hv1,hA5⟩:=hv1
       have hv1:v1=.tuple #[.slice o5 m5 k5,.int .i64 5]:=hv1
       subst hv1
       have hA5:AtS u1 (Since (u0.alloc (.cells #[.int .i64 op,.int .i64 a,.int .i64 0,.int .i64 0,.slice none 0 0,.slice none 0 0,.slice none 0 0] 75)).heap.size u1 none) d (.slice o5 m5 k5) b:=hA5
       have HS1:=hideR (HS.out.call h1 h2)
       generalize (u0.alloc (.cells #[.int .i64 op,.int .i64 a,.int .i64 0,.int .i64 0,.slice none 0 0,.slice none 0 0,.slice none 0 0] 75)).heap.size=B1 at *
       generalize u0.heap.size=q at *
       have fx:=HS1.out.x.cell 5 _ rfl
       have fy:=HS1.out.x.frz 5
       obtain ⟨t1,ht1⟩:∃t1,t1=u1.setCell ⟨q,5,none⟩ (.slice o5 m5 k5):=⟨_,rfl⟩
       have HT1:=hideR (HS1.out.set5 (.slice o5 m5 k5))
       have HA5:=hideR (AtS.keep (since_set (r:=q) (j:=5) (v:=.slice o5 m5 k5) HB1.out.1 (Nat.le_refl _)) d _ _ hA5)
       rw [<- ht1] at HT1 HA5
       have HE1:=hideR ht1
       clear h1 h2 hA5 HC1 ht1 HS
       go_upto_region 4 with fail
       rw [<- HE1.out]
       clear HE1 fx fy HS1
       go_wp2_with fail
       refine (HF _).out.mono ?_
       rintro e u2 ⟨rfl,hbf⟩
       have HS2:=hideR (HT1.out.call (HT1.out.rs.on hbf) (But.of p hbf))
       have HA6:=hideR (AtS.keep (since_but HB1.out.2.2 (But.of p hbf)) d _ _ HA5.out)
       have hc2:=HIH.out w0 p s c en k j2 n2 u2 (dep+1) HS2.out.rs hn2 hd (by omega)
       rw [e1,hx2] at hc2
       have HC2:=hideR hc2
       clear hc2 HA5 hbf HF HT1
       go_wp2_with fail
       refine HC2.out.mono ?_
       rintro e u3 ⟨⟨v3,rfl,hv3⟩,h1,h2⟩
       obtain ⟨o6,m6,k6,hv3,hA6⟩:=hv3
       have hv3:v3=.tuple #[.slice o6 m6 k6,.int .i64 5]:=hv3
       subst hv3
       have hA6:AtS u3 (Since u2.heap.size u3 none) d (.slice o6 m6 k6) b2:=hA6
       have HS3:=hideR (HS2.out.call h1 h2)
       have HA7:=hideR (AtS.keep (since_but HB1.out.2.2 h2) d _ _ HA6.out)
       obtain ⟨B2,hB2,hq2⟩:∃B2,B2=u2.heap.size/\q<B2:=⟨_,rfl,HS2.out.x.lt⟩
       rw [<- hB2] at hA6
       have fx:=HS3.out.x.cell 6 _ rfl
       have fy:=HS3.out.x.frz 6
       obtain ⟨t3,ht3⟩:∃t3,t3=u3.setCell ⟨q,6,none⟩ (.slice o6 m6 k6):=⟨_,rfl⟩
       have HT3:=hideR (HS3.out.set6 (.slice o6 m6 k6))
       have HA8:=hideR (AtS.keep (since_set (r:=q) (j:=6) (v:=.slice o6 m6 k6) HB1.out.1 (Nat.le_refl _)) d _ _ HA7.out)
       have HA9:=hideR (AtS.keep (since_set (r:=q) (j:=6) (v:=.slice o6 m6 k6) hq2 (Nat.le_refl _)) d _ _ hA6)
       rw [<- ht3] at HT3 HA8 HA9
       have HE3:=hideR ht3
       clear h1 h2 hA6 HC2 ht3 HS2 HA6 HA7 hB2
       go_upto_region 6 with fail
       rw [<- HE3.out]
       clear HE3 fx fy HS3
       go_wp2_with fail
       refine (needN _ _).mono ?_
       rintro e uz ⟨rfl,rfl⟩
       exact ⟨rfl,rfl,HT3.out.rs.below⟩
      ·rw [if_pos rfl]
       go_enter Tryd.func75,Tryd.ntmps75
       go_wp2_with fail
       refine HR.out.mono ?_
       rintro e u0 ⟨⟨v0,rfl,hv0⟩,h1,h2⟩
       have hv0:v0=.int .i64 a:=hv0
       subst hv0
       have HS:=hideR (SI.start2 op a hp h1 h2)
       have hc1:=HIH.out w0 p s c en k j n (u0.alloc (.cells #[.int .i64 op,.int .i64 a,.int .i64 0,.int .i64 0,.slice none 0 0,.slice none 0 0,.slice none 0 0] 75)) (dep+1) HS.out.rs hn hd (by omega)
       rw [e1,hx1] at hc1
       have HC1:=hideR hc1
       have HB1:Hid (u0.heap.size<(u0.alloc (.cells #[.int .i64 op,.int .i64 a,.int .i64 0,.int .i64 0,.slice none 0 0,.slice none 0 0,.slice none 0 0] 75)).heap.size/\w.heap.size<=(u0.alloc (.cells #[.int .i64 op,.int .i64 a,.int .i64 0,.int .i64 0,.slice none 0 0,.slice none 0 0,.slice none 0 0] 75)).heap.size/\p<(u0.alloc (.cells #[.int .i64 op,.int .i64 a,.int .i64 0,.int .i64 0,.slice none 0 0,.slice none 0 0,.slice none 0 0] 75)).heap.size):=hideR (sz3 HS.out.hq HS.out.pw)
       clear h1 h2 hc1 HR
       go_wp2_with fail
       refine HC1.out.mono ?_
       rintro e u1 ⟨⟨v1,rfl,hv1⟩,h1,h2⟩
       obtain ⟨o5,m5,k5,hv1,hA5⟩:=hv1
       have hv1:v1=.tuple #[.slice o5 m5 k5,.int .i64 5]:=hv1
       subst hv1
       have hA5:AtS u1 (Since (u0.alloc (.cells #[.int .i64 op,.int .i64 a,.int .i64 0,.int .i64 0,.slice none 0 0,.slice none 0 0,.slice none 0 0] 75)).heap.size u1 none) d (.slice o5 m5 k5) b:=hA5
       have HS1:=hideR (HS.out.call h1 h2)
       generalize (u0.alloc (.cells #[.int .i64 op,.int .i64 a,.int .i64 0,.int .i64 0,.slice none 0 0,.slice none 0 0,.slice none 0 0] 75)).heap.size=B1 at *
       generalize u0.heap.size=q at *
       have fx:=HS1.out.x.cell 5 _ rfl
       have fy:=HS1.out.x.frz 5
       obtain ⟨t1,ht1⟩:∃t1,t1=u1.setCell ⟨q,5,none⟩ (.slice o5 m5 k5):=⟨_,rfl⟩
       have HT1:=hideR (HS1.out.set5 (.slice o5 m5 k5))
       have HA5:=hideR (AtS.keep (since_set (r:=q) (j:=5) (v:=.slice o5 m5 k5) HB1.out.1 (Nat.le_refl _)) d _ _ hA5)
       rw [<- ht1] at HT1 HA5
       have HE1:=hideR ht1
       clear h1 h2 hA5 HC1 ht1 HS
       go_upto_region 4 with fail
       rw [<- HE1.out]
       clear HE1 fx fy HS1
       go_wp2_with fail
       refine (HF _).out.mono ?_
       rintro e u2 ⟨rfl,hbf⟩
       have HS2:=hideR (HT1.out.call (HT1.out.rs.on hbf) (But.of p hbf))
       have HA6:=hideR (AtS.keep (since_but HB1.out.2.2 (But.of p hbf)) d _ _ HA5.out)
       have hc2:=HIH.out w0 p s c en k j2 n2 u2 (dep+1) HS2.out.rs hn2 hd (by omega)
       rw [e1,hx2] at hc2
       have HC2:=hideR hc2
       clear hc2 HA5 hbf HF HT1
       go_wp2_with fail
       refine HC2.out.mono ?_
       rintro e u3 ⟨⟨v3,rfl,hv3⟩,h1,h2⟩
       obtain ⟨o6,m6,k6,hv3,hA6⟩:=hv3
       have hv3:v3=.tuple #[.slice o6 m6 k6,.int .i64 11]:=hv3
       subst hv3
       have hA6:AtS u3 (Since u2.heap.size u3 none) d (.slice o6 m6 k6) b2:=hA6
       have HS3:=hideR (HS2.out.call h1 h2)
       have HA7:=hideR (AtS.keep (since_but HB1.out.2.2 h2) d _ _ HA6.out)
       obtain ⟨B2,hB2,hq2⟩:∃B2,B2=u2.heap.size/\q<B2:=⟨_,rfl,HS2.out.x.lt⟩
       rw [<- hB2] at hA6
       have fx:=HS3.out.x.cell 6 _ rfl
       have fy:=HS3.out.x.frz 6
       obtain ⟨t3,ht3⟩:∃t3,t3=u3.setCell ⟨q,6,none⟩ (.slice o6 m6 k6):=⟨_,rfl⟩
       have HT3:=hideR (HS3.out.set6 (.slice o6 m6 k6))
       have HA8:=hideR (AtS.keep (since_set (r:=q) (j:=6) (v:=.slice o6 m6 k6) HB1.out.1 (Nat.le_refl _)) d _ _ HA7.out)
       have HA9:=hideR (AtS.keep (since_set (r:=q) (j:=6) (v:=.slice o6 m6 k6) hq2 (Nat.le_refl _)) d _ _ hA6)
       rw [<- ht3] at HT3 HA8 HA9
       have HE3:=hideR ht3
       clear h1 h2 hA6 HC2 ht3 HS2 HA6 HA7 hB2
       go_upto_region 6 with fail
       rw [<- HE3.out]
       clear HE3 fx fy HS3
       go_wp2_with fail
       refine (needY _ _).mono ?_
       rintro e uz ⟨rfl,rfl⟩
       have x0:=HT3.out.x.cell 0 _ rfl
       have x1:=HT3.out.x.cell 1 _ rfl
       have x2:=HT3.out.x.cell 2 _ rfl
       have x3:=HT3.out.x.cell 3 _ rfl
       have x4:=HT3.out.x.cell 4 _ rfl
       have x5:=HT3.out.x.cell 5 _ rfl
       have x6:=HT3.out.x.cell 6 _ rfl
       have r0:=HT3.out.res.cell 0 _ rfl
       have g0:=HT3.out.res.frz 0
       have r1:=HT3.out.res.cell 1 _ rfl
       have g1:=HT3.out.res.frz 1
       have r2:=HT3.out.res.cell 2 _ rfl
       have g2:=HT3.out.res.frz 2
       have r3:=HT3.out.res.cell 3 _ rfl
       have g3:=HT3.out.res.frz 3
       have r4:=HT3.out.res.cell 4 _ rfl
       have g4:=HT3.out.res.frz 4
       have r5:=HT3.out.res.cell 5 _ rfl
       have g5:=HT3.out.res.frz 5
       have r6:=HT3.out.res.cell 6 _ rfl
       have g6:=HT3.out.res.frz 6
       go_wp2
       have z:=out7_blk (v0:=.int .i64 op) (v1:=.int .i64 a) (v2:=.int .i64 0) (v3:=.int .i64 0) (v4:=.slice none 0 0) (v5:=.slice o5 m5 k5) (v6:=.slice o6 m6 k6) HT3.out.res
       have hz:∀j v,#[Value.int .i64 op,.int .i64 a,.int .i64 0,.int .i64 0,.slice none 0 0,.slice o5 m5 k5,.slice o6 m6 k6][j]?=some v->(out7 _ w.heap.size (.int .i64 op) (.int .i64 a) (.int .i64 0) (.int .i64 0) (.slice none 0 0) (.slice o5 m5 k5) (.slice o6 m6 k6)).cell? ⟨w.heap.size,j,none⟩=some v:=fun j v hv=>by unfold World.cell?;rw [z];exact hv
       have z0:=hz 0 _ rfl
       have z1:=hz 1 _ rfl
       have z2:=hz 2 _ rfl
       have z3:=hz 3 _ rfl
       have z4:=hz 4 _ rfl
       have z5:=hz 5 _ rfl
       have z6:=hz 6 _ rfl
       unfold out7 at z0 z1 z2 z3 z4 z5 z6
       exact bodyPost_ret (v:=.agg #[.int .i64 op,.int .i64 a,.int .i64 0,.int .i64 0,.slice none 0 0,.slice o5 m5 k5,.slice o6 m6 k6]) (by simp [results,Tryd.results75,go_sem,z0,z1,z2,z3,z4,z5,z6]) rfl
        ⟨⟨_,rfl,_,_,_,_,_,_,_,_,_,rfl,ints_nil _ _,AtS.keep (since_out (by have:=HB1.out.1;have:=HT3.out.hq;omega) HB1.out.2.1) d _ _ HA8.out,AtS.keep (since_out (by have:=HT3.out.hq;omega) (by have:=HT3.out.hq;have:=HT3.out.hr;omega)) d _ _ HA9.out⟩,(HT3.out.fin _ _ _ _ _ _ _).1,(HT3.out.fin _ _ _ _ _ _ _).2⟩
    ·rw [if_neg (fun h=>h3 h.2),if_neg (by decide)]
     have h2':form op=2:=by omega
     have HF:=fun u=>hideR (formT op u)
     rw [h2'] at HF
     clear hf h3 h2'
     go_enter Tryd.func75,Tryd.ntmps75
     go_wp2_with fail
     refine HR.out.mono ?_
     rintro e u0 ⟨⟨v0,rfl,hv0⟩,h1,h2⟩
     have hv0:v0=.int .i64 a:=hv0
     subst hv0
     have HS:=hideR (SI.start2 op a hp h1 h2)
     have hc1:=HIH.out w0 p s c en k j n (u0.alloc (.cells #[.int .i64 op,.int .i64 a,.int .i64 0,.int .i64 0,.slice none 0 0,.slice none 0 0,.slice none 0 0] 75)) (dep+1) HS.out.rs hn hd (by omega)
     rw [e1,hx1] at hc1
     have HC1:=hideR hc1
     have HB1:Hid (u0.heap.size<(u0.alloc (.cells #[.int .i64 op,.int .i64 a,.int .i64 0,.int .i64 0,.slice none 0 0,.slice none 0 0,.slice none 0 0] 75)).heap.size/\w.heap.size<=(u0.alloc (.cells #[.int .i64 op,.int .i64 a,.int .i64 0,.int .i64 0,.slice none 0 0,.slice none 0 0,.slice none 0 0] 75)).heap.size/\p<(u0.alloc (.cells #[.int .i64 op,.int .i64 a,.int .i64 0,.int .i64 0,.slice none 0 0,.slice none 0 0,.slice none 0 0] 75)).heap.size):=hideR (sz3 HS.out.hq HS.out.pw)
     clear h1 h2 hc1 HR
     go_wp2_with fail
     refine HC1.out.mono ?_
     rintro e u1 ⟨⟨v1,rfl,hv1⟩,h1,h2⟩
     obtain ⟨o5,m5,k5,hv1,hA5⟩:=hv1
     have hv1:v1=.tuple #[.slice o5 m5 k5,.int .i64 5]:=hv1
     subst hv1
     have hA5:AtS u1 (Since (u0.alloc (.cells #[.int .i64 op,.int .i64 a,.int .i64 0,.int .i64 0,.slice none 0 0,.slice none 0 0,.slice none 0 0] 75)).heap.size u1 none) d (.slice o5 m5 k5) b:=hA5
     have HS1:=hideR (HS.out.call h1 h2)
     generalize (u0.alloc (.cells #[.int .i64 op,.int .i64 a,.int .i64 0,.int .i64 0,.slice none 0 0,.slice none 0 0,.slice none 0 0] 75)).heap.size=B1 at *
     generalize u0.heap.size=q at *
     have fx:=HS1.out.x.cell 5 _ rfl
     have fy:=HS1.out.x.frz 5
     obtain ⟨t1,ht1⟩:∃t1,t1=u1.setCell ⟨q,5,none⟩ (.slice o5 m5 k5):=⟨_,rfl⟩
     have HT1:=hideR (HS1.out.set5 (.slice o5 m5 k5))
     have HA5:=hideR (AtS.keep (since_set (r:=q) (j:=5) (v:=.slice o5 m5 k5) HB1.out.1 (Nat.le_refl _)) d _ _ hA5)
     rw [<- ht1] at HT1 HA5
     have HE1:=hideR ht1
     clear h1 h2 hA5 HC1 ht1 HS
     go_upto_region 4 with fail
     rw [<- HE1.out]
     clear HE1 fx fy HS1
     go_wp2_with fail
     refine (HF _).out.mono ?_
     rintro e u2 ⟨rfl,hbf⟩
     have HS2:=hideR (HT1.out.call (HT1.out.rs.on hbf) (But.of p hbf))
     clear hbf HF HT1
     go_wp2_with fail
     refine (needN _ _).mono ?_
     rintro e uz ⟨rfl,rfl⟩
     exact ⟨rfl,rfl,HS2.out.rs.below⟩
   ·rw [if_neg (by rintro ⟨h,_⟩;exact absurd h (by decide)),if_pos rfl]
    clear hf
    go_enter Tryd.func75,Tryd.ntmps75
    go_wp2_with fail
    refine HR.out.mono ?_
    rintro e u0 ⟨⟨v0,rfl,hv0⟩,h1,h2⟩
    have hv0:v0=.int .i64 a:=hv0
    subst hv0
    have HS:=hideR (SI.start2 op a hp h1 h2)
    have hc1:=HIH.out w0 p s c en k j n (u0.alloc (.cells #[.int .i64 op,.int .i64 a,.int .i64 0,.int .i64 0,.slice none 0 0,.slice none 0 0,.slice none 0 0] 75)) (dep+1) HS.out.rs hn hd (by omega)
    rw [e1,hx1] at hc1
    have HC1:=hideR hc1
    have HB1:Hid (u0.heap.size<(u0.alloc (.cells #[.int .i64 op,.int .i64 a,.int .i64 0,.int .i64 0,.slice none 0 0,.slice none 0 0,.slice none 0 0] 75)).heap.size/\w.heap.size<=(u0.alloc (.cells #[.int .i64 op,.int .i64 a,.int .i64 0,.int .i64 0,.slice none 0 0,.slice none 0 0,.slice none 0 0] 75)).heap.size/\p<(u0.alloc (.cells #[.int .i64 op,.int .i64 a,.int .i64 0,.int .i64 0,.slice none 0 0,.slice none 0 0,.slice none 0 0] 75)).heap.size):=hideR (sz3 HS.out.hq HS.out.pw)
    clear h1 h2 hc1 HR
    go_wp2_with fail
    refine HC1.out.mono ?_
    rintro e u1 ⟨⟨v1,rfl,hv1⟩,h1,h2⟩
    obtain ⟨o5,m5,k5,hv1,hA5⟩:=hv1
    have hv1:v1=.tuple #[.slice o5 m5 k5,.int .i64 11]:=hv1
    subst hv1
    have hA5:AtS u1 (Since (u0.alloc (.cells #[.int .i64 op,.int .i64 a,.int .i64 0,.int .i64 0,.slice none 0 0,.slice none 0 0,.slice none 0 0] 75)).heap.size u1 none) d (.slice o5 m5 k5) b:=hA5
    have HS1:=hideR (HS.out.call h1 h2)
    generalize (u0.alloc (.cells #[.int .i64 op,.int .i64 a,.int .i64 0,.int .i64 0,.slice none 0 0,.slice none 0 0,.slice none 0 0] 75)).heap.size=B1 at *
    generalize u0.heap.size=q at *
    have fx:=HS1.out.x.cell 5 _ rfl
    have fy:=HS1.out.x.frz 5
    obtain ⟨t1,ht1⟩:∃t1,t1=u1.setCell ⟨q,5,none⟩ (.slice o5 m5 k5):=⟨_,rfl⟩
    have HT1:=hideR (HS1.out.set5 (.slice o5 m5 k5))
    have HA5:=hideR (AtS.keep (since_set (r:=q) (j:=5) (v:=.slice o5 m5 k5) HB1.out.1 (Nat.le_refl _)) d _ _ hA5)
    rw [<- ht1] at HT1 HA5
    have HE1:=hideR ht1
    clear h1 h2 hA5 HC1 ht1 HS
    go_upto_region 4 with fail
    rw [<- HE1.out]
    clear HE1 fx fy HS1
    go_wp2_with fail
    refine (needY _ _).mono ?_
    rintro e uz ⟨rfl,rfl⟩
    have x0:=HT1.out.x.cell 0 _ rfl
    have x1:=HT1.out.x.cell 1 _ rfl
    have x2:=HT1.out.x.cell 2 _ rfl
    have x3:=HT1.out.x.cell 3 _ rfl
    have x4:=HT1.out.x.cell 4 _ rfl
    have x5:=HT1.out.x.cell 5 _ rfl
    have x6:=HT1.out.x.cell 6 _ rfl
    have r0:=HT1.out.res.cell 0 _ rfl
    have g0:=HT1.out.res.frz 0
    have r1:=HT1.out.res.cell 1 _ rfl
    have g1:=HT1.out.res.frz 1
    have r2:=HT1.out.res.cell 2 _ rfl
    have g2:=HT1.out.res.frz 2
    have r3:=HT1.out.res.cell 3 _ rfl
    have g3:=HT1.out.res.frz 3
    have r4:=HT1.out.res.cell 4 _ rfl
    have g4:=HT1.out.res.frz 4
    have r5:=HT1.out.res.cell 5 _ rfl
    have g5:=HT1.out.res.frz 5
    have r6:=HT1.out.res.cell 6 _ rfl
    have g6:=HT1.out.res.frz 6
    go_wp2
    have z:=out7_blk (v0:=.int .i64 op) (v1:=.int .i64 a) (v2:=.int .i64 0) (v3:=.int .i64 0) (v4:=.slice none 0 0) (v5:=.slice o5 m5 k5) (v6:=.slice none 0 0) HT1.out.res
    have hz:∀j v,#[Value.int .i64 op,.int .i64 a,.int .i64 0,.int .i64 0,.slice none 0 0,.slice o5 m5 k5,.slice none 0 0][j]?=some v->(out7 _ w.heap.size (.int .i64 op) (.int .i64 a) (.int .i64 0) (.int .i64 0) (.slice none 0 0) (.slice o5 m5 k5) (.slice none 0 0)).cell? ⟨w.heap.size,j,none⟩=some v:=fun j v hv=>by unfold World.cell?;rw [z];exact hv
    have z0:=hz 0 _ rfl
    have z1:=hz 1 _ rfl
    have z2:=hz 2 _ rfl
    have z3:=hz 3 _ rfl
    have z4:=hz 4 _ rfl
    have z5:=hz 5 _ rfl
    have z6:=hz 6 _ rfl
    unfold out7 at z0 z1 z2 z3 z4 z5 z6
    exact bodyPost_ret (v:=.agg #[.int .i64 op,.int .i64 a,.int .i64 0,.int .i64 0,.slice none 0 0,.slice o5 m5 k5,.slice none 0 0]) (by simp [results,Tryd.results75,go_sem,z0,z1,z2,z3,z4,z5,z6]) rfl
     ⟨⟨_,rfl,_,_,_,_,_,_,_,_,_,rfl,ints_nil _ _,AtS.keep (since_out (by have:=HB1.out.1;have:=HT1.out.hq;omega) HB1.out.2.1) d _ _ HA5.out,at_nil _ _ d⟩,(HT1.out.fin _ _ _ _ _ _ _).1,(HT1.out.fin _ _ _ _ _ _ _).2⟩
end
end Go.Proofs.YtgbbmdknbflilaaDoor

