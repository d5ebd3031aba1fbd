/- Texts that the claim needs. -/
import Derived.Test.YtgbbmdknbflilaaDoorQDcu1
import Derived.Test.YtgbbmdknbflilaaDoorQDcu0
import Derived.Deep.RegionWith
namespace Go.Proofs.YtgbbmdknbflilaaDoor
open Go.RowKit Rep
set_option linter.unusedVariables false
namespace Leb
theorem grpF_cut {f g:Nat->Int} {L L':Nat} (hL:L'<=L) (h:∀j,j<L'->g j=f j):∀(n i:Nat),grpF f L n i≠0->grpF g L' n i=if grpF f L n i<=L' then grpF f L n i else 0
 | 0,i,h0=>absurd rfl h0
 | n+1,i,h0=>by
  have hs:=grpF_some f L (n+1) i h0
  by_cases hi:i<L'
  ·by_cases hf:f i<128
   ·rw [grpF_last f L (n+1) i (by omega) (by omega) hf,grpF_last g L' (n+1) i (by omega) hi (by rw [h i hi];exact hf),if_pos (by omega)]
   ·rw [grpF_on f L (n+1) i (by omega) (by omega) hf] at h0 ⊢
    rw [grpF_on g L' (n+1) i (by omega) hi (by rw [h i hi];exact hf)]
    exact grpF_cut hL h n (i+1) h0
  ·rw [grpF_past g L' (n+1) i hi,if_neg (by omega)]
theorem val_cut {f g:Nat->Int}:∀(k:Nat),(∀j,j<k->g j=f j)->val g k=val f k
 | 0,_=>rfl
 | k+1,h=>by
  show val g k+128 ^ k*(g k%128)=val f k+128 ^ k*(f k%128)
  rw [val_cut k (fun j hj=>h j (by omega)),h k (by omega)]
theorem sval_cut {f g:Nat->Int} (k:Nat) (h0:0<k) (h:∀j,j<k->g j=f j):sval g k=sval f k:=by
 unfold sval
 rw [val_cut k h,h (k-1) (by omega)]
theorem from_cut (s:ByteArray) (a k j:Nat) (hk:k<=s.size) (h:a+j<k):from_ (s.extract 0 k) a j=from_ s a j:=bt_cut s k (a+j) h hk
theorem ext_size (s:ByteArray) (k:Nat) (hk:k<=s.size):(s.extract 0 k).size=k:=by rw [ByteArray.size_extract];omega
theorem uRead_pre (s:ByteArray) (a k:Nat) (b:Int) (hb:b=32\/b=64) (hk:k<=s.size) (ha:a<=k) (h:(uRead s a b).2.2=0) :
  if (uRead s a b).2.1<=(k:Int) then uRead (s.extract 0 k) a b=uRead s a b else (uRead (s.extract 0 k) a b).2.2≠0:=by
 have ask:asks s.size a b=true:=decide_eq_true ⟨hb,by omega,by omega⟩
 have ask':asks (s.extract 0 k).size a b=true:=by rw [ext_size s k hk];exact decide_eq_true ⟨hb,by omega,by omega⟩
 have e1:uRead s a b=uFin (from_ s a) (grp (from_ s a) (s.size-a) (most b)) a b:=by unfold uRead;rw [if_pos ask];rfl
 have e2:uRead (s.extract 0 k) a b=uFin (from_ (s.extract 0 k) a) (grp (from_ (s.extract 0 k) a) (k-a) (most b)) a b:=by unfold uRead;rw [if_pos ask',ext_size s k hk];rfl
 have hg:grp (from_ s a) (s.size-a) (most b)≠0:=fun h0=>by rw [e1,h0] at h;unfold uFin at h;rw [if_pos (.inl rfl)] at h;exact absurd h (by decide)
 have hc:=grpF_cut (f:=from_ s a) (g:=from_ (s.extract 0 k) a) (L:=s.size-a) (L':=k-a) (by omega) (fun j hj=>from_cut s a k j hk (by omega)) (most b) 0 hg
 have hs:=grp_some _ _ _ hg
 have hm:most b<=10:=by unfold most;split<;>omega
 rw [e1,e2]
 rw [e1] at h
 unfold grp at *
 rw [hc]
 generalize hG:grpF (from_ s a) (s.size-a) (most b) 0=G at *
 have hA:¬ (G=0\/(b=32/\4294967295<val (from_ s a) G)\/(G=10/\1<from_ s a 9)):=fun hc=>by unfold uFin at h;rw [if_pos hc] at h;exact absurd h (by decide)
 have e3:uFin (from_ s a) G a b=(val (from_ s a) G,(a:Int)+G,0):=by unfold uFin;rw [if_neg hA]
 by_cases hk2:G<=k-a
 ·rw [if_pos hk2,e3]
  rw [if_pos (by show (a:Int)+G<=k;omega)]
  unfold uFin
  rw [val_cut G (fun j hj=>from_cut s a k j hk (by omega))]
  rw [if_neg]
  intro hc
  refine hA ?_
  rcases hc with h|h|⟨h1,h2⟩
  ·exact .inl h
  ·exact .inr (.inl h)
  ·rw [from_cut s a k 9 hk (by omega)] at h2;exact .inr (.inr ⟨h1,h2⟩)
 ·rw [if_neg hk2,e3,if_neg (by show ¬ ((a:Int)+G<=k);omega)]
  unfold uFin
  rw [if_pos (.inl rfl)]
  decide
theorem sRead_pre (s:ByteArray) (a k:Nat) (b:Int) (hb:b=32\/b=64) (hk:k<=s.size) (ha:a<=k) (h:(sRead s a b).2.2=0) :
  if (sRead s a b).2.1<=(k:Int) then sRead (s.extract 0 k) a b=sRead s a b else (sRead (s.extract 0 k) a b).2.2≠0:=by
 have ask:asks s.size a b=true:=decide_eq_true ⟨hb,by omega,by omega⟩
 have ask':asks (s.extract 0 k).size a b=true:=by rw [ext_size s k hk];exact decide_eq_true ⟨hb,by omega,by omega⟩
 have e1:sRead s a b=sFin (from_ s a) (grp (from_ s a) (s.size-a) (most b)) a b:=by unfold sRead;rw [if_pos ask];rfl
 have e2:sRead (s.extract 0 k) a b=sFin (from_ (s.extract 0 k) a) (grp (from_ (s.extract 0 k) a) (k-a) (most b)) a b:=by unfold sRead;rw [if_pos ask',ext_size s k hk];rfl
 have hg:grp (from_ s a) (s.size-a) (most b)≠0:=fun h0=>by rw [e1,h0] at h;unfold sFin at h;rw [if_pos (.inl rfl)] at h;exact absurd h (by decide)
 have hc:=grpF_cut (f:=from_ s a) (g:=from_ (s.extract 0 k) a) (L:=s.size-a) (L':=k-a) (by omega) (fun j hj=>from_cut s a k j hk (by omega)) (most b) 0 hg
 have hs:=grp_some _ _ _ hg
 rw [e1,e2]
 rw [e1] at h
 unfold grp at *
 rw [hc]
 generalize hG:grpF (from_ s a) (s.size-a) (most b) 0=G at *
 have hA:¬ (G=0\/(b=32/\(sval (from_ s a) G < -2147483648\/2147483647<sval (from_ s a) G))\/(G=10/\from_ s a 9≠0/\from_ s a 9≠127)):=fun hc=>by unfold sFin at h;rw [if_pos hc] at h;exact absurd h (by decide)
 have e3:sFin (from_ s a) G a b=(sval (from_ s a) G,(a:Int)+G,0):=by unfold sFin;rw [if_neg hA]
 by_cases hk2:G<=k-a
 ·rw [if_pos hk2,e3]
  rw [if_pos (by show (a:Int)+G<=k;omega)]
  unfold sFin
  rw [sval_cut G (by omega) (fun j hj=>from_cut s a k j hk (by omega))]
  rw [if_neg]
  intro hc
  refine hA ?_
  rcases hc with h|h|⟨h1,h2⟩
  ·exact .inl h
  ·exact .inr (.inl h)
  ·rw [from_cut s a k 9 hk (by omega)] at h2;exact .inr (.inr ⟨h1,h2⟩)
 ·rw [if_neg hk2,e3,if_neg (by show ¬ ((a:Int)+G<=k);omega)]
  unfold sFin
  rw [if_pos (.inl rfl)]
  decide
end Leb
namespace Dec
theorem ext_ext (s:ByteArray) (k m:Nat) (h:m<=k):(s.extract 0 k).extract 0 m=s.extract 0 m:=by
 rw [ByteArray.extract_extract]
 congr 1
 omega
def Cut {α:Type} (f:ByteArray->Nat->Nat->R α):Prop:=∀(s:ByteArray) (en i:Nat) (a:α) (j k:Nat),en<=s.size->k<=s.size->i<=k->i<=en->f s en i=.ok (a,j) ->
 i<=j/\j<=en/\f (s.extract 0 k) (min en k) i=if j<=k then .ok (a,j) else .error 50
theorem nx_cut:Cut nx:=by
 intro s en i a j k he hk hi hie h
 have h1:=nx_ok h
 obtain ⟨rfl,h2,_,_⟩:=h1
 refine ⟨by omega,by omega,?_⟩
 unfold nx at h ⊢
 rw [if_pos h2] at h
 injection h with h
 injection h with h _
 by_cases hj:i+1<=k
 ·rw [if_pos (by omega),if_pos hj,Leb.bt_cut s k i (by omega) hk,h]
 ·rw [if_neg (by omega),if_neg hj]
theorem ru_cut:Cut ru:=by
 intro s en i a j k he hk hi hie h
 have h1:=ru_ok he h
 refine ⟨by omega,h1.2.1,?_⟩
 unfold ru at h ⊢
 have hin:i<=min en k:=by omega
 rw [ext_ext s k (min en k) (by omega),show s.extract 0 (min en k)=(s.extract 0 en).extract 0 (min en k) from (ext_ext s en _ (by omega)).symm]
 by_cases h0:(Leb.uRead (s.extract 0 en) i 32).2.2=0
 ·have hp:=Leb.uRead_pre (s.extract 0 en) i (min en k) 32 (.inl rfl) (by rw [Leb.ext_size s en he];omega) hin h0
  have hb:=uRead_at32 (s.extract 0 en) i h0
  rw [Leb.ext_size s en he] at hb
  rw [if_pos h0] at h
  injection h with h
  injection h with h3 h4
  by_cases hj:j<=k
  ·rw [if_pos (by omega)] at hp
   rw [if_pos hj,hp,if_pos h0,h3,h4]
  ·rw [if_neg (by omega)] at hp
   rw [if_neg hj,if_neg hp]
 ·rw [if_neg h0] at h;cases h
theorem rs_cut (b:Int) (hb:b=32\/b=64):Cut (fun s en i=>rs s en b i):=by
 intro s en i a j k he hk hi hie h
 have h1:=rs_ok he h
 refine ⟨by omega,h1.2.1,?_⟩
 show rs (s.extract 0 k) (min en k) b i=_
 have h:rs s en b i=.ok (a,j):=h
 unfold rs at h ⊢
 have hin:i<=min en k:=by omega
 rw [ext_ext s k (min en k) (by omega),show s.extract 0 (min en k)=(s.extract 0 en).extract 0 (min en k) from (ext_ext s en _ (by omega)).symm]
 by_cases h0:(Leb.sRead (s.extract 0 en) i b).2.2=0
 ·have hp:=Leb.sRead_pre (s.extract 0 en) i (min en k) b hb (by rw [Leb.ext_size s en he];omega) hin h0
  rw [if_pos h0] at h
  injection h with h
  injection h with h3 h4
  by_cases hj:j<=k
  ·rw [if_pos (by omega)] at hp
   rw [if_pos hj,hp,if_pos h0,h3,h4]
  ·rw [if_neg (by omega)] at hp
   rw [if_neg hj,if_neg hp]
 ·rw [if_neg h0] at h;cases h
theorem Cut.bd {α β:Type} {f:ByteArray->Nat->Nat->R α} {g:α->ByteArray->Nat->Nat->R β} (hf:Cut f) (hg:∀a,Cut (g a)):Cut (fun s en i=>bd (f s en i) fun a j=>g a s en j):=by
 intro s en i b j k he hk hi hie h
 obtain ⟨a,m,h1,h2⟩:=bd_in h
 obtain ⟨p1,p2,p3⟩:=hf s en i a m k he hk hi hie h1
 by_cases hm:m<=k
 ·obtain ⟨q1,q2,q3⟩:=hg a s en m b j k he hk hm p2 h2
  refine ⟨by omega,q2,?_⟩
  show Dec.bd (f (s.extract 0 k) (min en k) i) _=_
  rw [p3,if_pos hm]
  exact q3
 ·obtain ⟨q1,q2,q3⟩:=hg a s en m b j s.size he (Nat.le_refl _) (by omega) p2 h2
  refine ⟨by omega,q2,?_⟩
  show Dec.bd (f (s.extract 0 k) (min en k) i) _=_
  rw [p3,if_neg hm,if_neg (by omega)]
  rfl
theorem Cut.ok {α:Type} (a:α):Cut (fun _ _ i=>.ok (a,i)):=by
 intro s en i b j k he hk hi hie h
 injection h with h
 injection h with h1 h2
 subst h2
 subst h1
 exact ⟨Nat.le_refl _,hie,by rw [if_pos hi]⟩
theorem Cut.err {α:Type} (e:Int):Cut (α:=α) (fun _ _ _=>.error e):=by
 intro s en i b j k he hk hi hie h
 cases h
theorem Cut.ite {α:Type} {c:Prop} [Decidable c] {f g:ByteArray->Nat->Nat->R α} (hf:Cut f) (hg:Cut g):Cut (fun s en i=>if c then f s en i else g s en i):=by
 by_cases h:c
 ·simp only [if_pos h];exact hf
 ·simp only [if_neg h];exact hg
theorem must_cut (b:Int):Cut (fun s en i=>must s en b i):=Cut.bd (g:=fun x _ _ i=>if x=b then .ok ((),i) else .error 50) nx_cut fun x=>Cut.ite (Cut.ok _) (Cut.err _)
theorem vty_cut (b:Int):Cut (fun _ _ i=>vty b i):=Cut.ite (f:=fun _ _ _=>.error 51) (g:=fun _ _ i=>if b=127\/b=126 then .ok (b,i) else .error 50) (Cut.err _) (Cut.ite (Cut.ok _) (Cut.err _))
theorem rt_cut:Cut rt:=Cut.bd (g:=fun b _ _ i=>vty b i) nx_cut vty_cut
theorem rres_cut:Cut rres:=Cut.bd (g:=fun b _ _ i=>if b=64 then .ok (0,i) else vty b i) nx_cut fun b=>Cut.ite (Cut.ok _) (vty_cut b)
theorem rc_cut:Cut rc:=Cut.bd (g:=fun n _ _ i=>if n<=4096 then .ok (n,i) else .error 3) ru_cut fun n=>Cut.ite (Cut.ok _) (Cut.err _)
theorem rep_cut {α:Type} {f:ByteArray->Nat->Nat->R α} (hf:Cut f):∀n,Cut (fun s en i=>rep (f s en) n i)
 | 0=>Cut.ok _
 | n+1=>Cut.bd (g:=fun x s en j=>bd (rep (f s en) n j) fun l m=>.ok (x :: l,m)) hf fun x=>Cut.bd (g:=fun l _ _ m=>.ok (x :: l,m)) (rep_cut hf n) fun l=>Cut.ok _
theorem rl_cut:Cut rl:=Cut.bd (g:=fun (n:Int) s en i=>rep (ru s en) n.toNat i) rc_cut fun n=>rep_cut ru_cut _
theorem rsim_cut {α:Type} (z:α) (op:Int):Cut (fun s en i=>rsim z s en op i):=by
 unfold rsim
 refine Cut.ite (c:=form op=1) (Cut.ite (Cut.bd (must_cut 0) fun _=>Cut.ok _) (Cut.ok _)) ?_
 refine Cut.ite (Cut.bd ru_cut fun a=>Cut.ok _) ?_
 refine Cut.ite (Cut.bd (g:=fun l s en j=>bd (ru s en j) fun a m=>.ok (_,m)) rl_cut fun l=>Cut.bd ru_cut fun a=>Cut.ok _) ?_
 refine Cut.ite (Cut.bd (g:=fun a s en j=>bd (must s en 0 j) fun _ m=>.ok (_,m)) ru_cut fun a=>Cut.bd (must_cut 0) fun _=>Cut.ok _) ?_
 refine Cut.ite (Cut.bd (g:=fun a s en j=>bd (ru s en j) fun b m=>.ok (_,m)) ru_cut fun a=>Cut.bd ru_cut fun b=>Cut.ok _) ?_
 refine Cut.ite (Cut.bd (f:=fun s en i=>rs s en (if op=65 then 32 else 64) i) (rs_cut _ (by split;exact .inl rfl;exact .inr rfl)) fun n=>Cut.ok _) (Cut.ok _)
def Cut2 {α:Type} (f:ByteArray->Nat->Nat->Nat->R2 α):Prop:=∀(s:ByteArray) (en i n:Nat) (a:α) (j m k:Nat),en<=s.size->k<=s.size->i<=k->i<=en->f s en i n=.ok (a,j,m) ->
 i<=j/\j<=en/\f (s.extract 0 k) (min en k) i n=if j<=k then .ok (a,j,m) else .error 50
theorem Cut.lift {α:Type} {f:ByteArray->Nat->Nat->R α} (hf:Cut f):Cut2 (fun s en i n=>lift (f s en i) n):=by
 intro s en i n a j m k he hk hi hie h
 obtain ⟨h1,rfl⟩:=lift_in h
 obtain ⟨p1,p2,p3⟩:=hf s en i a j k he hk hi hie h1
 refine ⟨p1,p2,?_⟩
 show Dec.lift (f (s.extract 0 k) (min en k) i) m=_
 rw [p3]
 split<;>rfl
theorem Cut2.bd {α β:Type} {f:ByteArray->Nat->Nat->Nat->R2 α} {g:α->ByteArray->Nat->Nat->Nat->R2 β} (hf:Cut2 f) (hg:∀a,Cut2 (g a)):Cut2 (fun s en i n=>bd2 (f s en i n) fun a j m=>g a s en j m):=by
 intro s en i n b j n2 k he hk hi hie h
 obtain ⟨a,m,n1,h1,h2⟩:=bd2_in h
 obtain ⟨p1,p2,p3⟩:=hf s en i n a m n1 k he hk hi hie h1
 by_cases hm:m<=k
 ·obtain ⟨q1,q2,q3⟩:=hg a s en m n1 b j n2 k he hk hm p2 h2
  refine ⟨by omega,q2,?_⟩
  show bd2 (f (s.extract 0 k) (min en k) i n) _=_
  rw [p3,if_pos hm]
  exact q3
 ·obtain ⟨q1,q2,q3⟩:=hg a s en m n1 b j n2 s.size he (Nat.le_refl _) (by omega) p2 h2
  refine ⟨by omega,q2,?_⟩
  show bd2 (f (s.extract 0 k) (min en k) i n) _=_
  rw [p3,if_neg hm,if_neg (by omega)]
  rfl
theorem Cut2.ok {α:Type} (a:α):Cut2 (fun _ _ i n=>.ok (a,i,n)):=by
 intro s en i n b j m k he hk hi hie h
 injection h with h
 injection h with h1 h2
 injection h2 with h2 h3
 subst h2
 subst h1
 subst h3
 exact ⟨Nat.le_refl _,hie,by rw [if_pos hi]⟩
theorem Cut2.err {α:Type} (e:Int):Cut2 (α:=α) (fun _ _ _ _=>.error e):=by
 intro s en i n b j m k he hk hi hie h
 cases h
theorem Cut2.ite {α:Type} {c:Prop} [Decidable c] {f g:ByteArray->Nat->Nat->Nat->R2 α} (hf:Cut2 f) (hg:Cut2 g):Cut2 (fun s en i n=>if c then f s en i n else g s en i n):=by
 by_cases h:c
 ·simp only [if_pos h];exact hf
 ·simp only [if_neg h];exact hg
theorem rblk_cut {α:Type} (z:α) {sub:ByteArray->Nat->Nat->Nat->R2 (α × Int)} (hs:Cut2 sub) (op:Int):Cut2 (fun s en i n=>rblk z s en (sub s en) op i n):=by
 unfold rblk
 refine Cut2.bd (g:=fun (a:Int) s en j n1=>bd2 (sub s en j n1) fun bt m n2=>if bt.2=5/\form op=3 then bd2 (sub s en m n2) fun et q n3=>if et.2=11 then .ok (({ op:=op,a:=a,b:=0,n:=0,labels:=[],body:=bt.1,els:=et.1 }:Ins α),q,n3) else .error 50
  else if bt.2=11 then .ok (({ op:=op,a:=a,b:=0,n:=0,labels:=[],body:=bt.1,els:=z }:Ins α),m,n2) else .error 50) (Cut.lift rres_cut) fun a=>?_
 refine Cut2.bd (g:=fun (bt:α × Int) s en m n2=>if bt.2=5/\form op=3 then bd2 (sub s en m n2) fun et q n3=>if et.2=11 then .ok (({ op:=op,a:=a,b:=0,n:=0,labels:=[],body:=bt.1,els:=et.1 }:Ins α),q,n3) else .error 50
  else if bt.2=11 then .ok (({ op:=op,a:=a,b:=0,n:=0,labels:=[],body:=bt.1,els:=z }:Ins α),m,n2) else .error 50) hs fun bt=>?_
 refine Cut2.ite ?_ (Cut2.ite (Cut2.ok _) (Cut2.err _))
 exact Cut2.bd (g:=fun (et:α × Int) _ _ q n3=>if et.2=11 then .ok (({ op:=op,a:=a,b:=0,n:=0,labels:=[],body:=bt.1,els:=et.1 }:Ins α),q,n3) else .error 50) hs fun et=>Cut2.ite (Cut2.ok _) (Cut2.err _)
theorem Cut2.up {α:Type} {f:ByteArray->Nat->Nat->Nat->R2 α} (hf:Cut2 f):Cut2 (fun s en i n=>f s en i (n+1)):=fun s en i n a j m k he hk hi hie h=>hf s en i (n+1) a j m k he hk hi hie h
theorem rins_cut {d:Nat} {sub:ByteArray->Nat->Nat->Nat->R2 (IL d × Int)} (hs:Cut2 sub) (dep:Nat) (op:Int):Cut2 (fun s en i n=>rins (sub s en) s en dep op i n):=by
 intro s en i n a j m k he hk hi hie h
 have e:∀s en,rins (sub s en) s en dep op i n=match rask dep op n with|some e=>.error e|none=>if form op=2\/form op=3 then rblk (none_ d) s en (sub s en) op i (n+1) else lift (rsim (none_ d) s en op i) (n+1):=fun _ _=>rfl
 cases hk2:rask dep op n with
 | some y =>
  have h:rins (sub s en) s en dep op i n=.ok (a,j,m):=h
  rw [e,hk2] at h;cases h
 | none =>
  show i<=j/\j<=en/\rins (sub (s.extract 0 k) (min en k)) (s.extract 0 k) (min en k) dep op i n=_
  have h:rins (sub s en) s en dep op i n=.ok (a,j,m):=h
  rw [e,hk2] at h
  rw [e,hk2]
  exact Cut2.ite (c:=form op=2\/form op=3) (Cut2.up (rblk_cut (none_ d) hs op)) (Cut2.up (Cut.lift (rsim_cut (none_ d) op))) s en i n a j m k he hk hi hie h
theorem rloop_cut {d:Nat} {sub:ByteArray->Nat->Nat->Nat->R2 (IL d × Int)} (hs:Cut2 sub) (dep:Nat) (s:ByteArray) (en k:Nat) (he:en<=s.size) (hk:k<=s.size):∀(F F' i n:Nat) (a:List (Ins (IL d)) × Int) (j m:Nat),min en k-i+1<=F'->i<=k->i<=en->rloop (sub s en) s en dep F i n=.ok (a,j,m) ->
  i<=j/\j<=en/\rloop (sub (s.extract 0 k) (min en k)) (s.extract 0 k) (min en k) dep F' i n=if j<=k then .ok (a,j,m) else .error 50
 | 0,F',i,n,a,j,m,hF,hi,hie,h=>by cases h
 | F+1,F',i,n,a,j,m,hF,hi,hie,h=>by
  obtain ⟨G,rfl⟩:∃G,F'=G+1:=⟨F'-1,by omega⟩
  unfold rloop at h ⊢
  obtain ⟨op,i1,n1,h1,h2⟩:=bd2_in h
  obtain ⟨h1',rfl⟩:=lift_in h1
  obtain ⟨p1,p2,p3⟩:=nx_cut s en i op i1 k he hk hi hie h1'
  have hx:=nx_ok h1'
  by_cases hm:i1<=k
  ·rw [p3,if_pos hm]
   show i<=j/\j<=en/\(if op=11\/op=5 then _ else _)=_
   by_cases ho:op=11\/op=5
   ·rw [if_pos ho] at h2 ⊢
    injection h2 with h2
    injection h2 with h3 h4
    injection h4 with h4 h5
    subst h3;subst h4;subst h5
    exact ⟨p1,p2,by rw [if_pos hm]⟩
   ·rw [if_neg ho] at h2 ⊢
    obtain ⟨x,i2,n2,h3,h4⟩:=bd2_in h2
    obtain ⟨q1,q2,q3⟩:=rins_cut hs dep op s en i1 n1 x i2 n2 k he hk hm p2 h3
    have q3:rins (sub (s.extract 0 k) (min en k)) (s.extract 0 k) (min en k) dep op i1 n1=_:=q3
    obtain ⟨r,i3,n3,h5,h6⟩:=bd2_in h4
    injection h6 with h6
    injection h6 with h7 h8
    injection h8 with h8 h9
    subst h7;subst h8;subst h9
    by_cases hm2:i2<=k
    ·obtain ⟨r1,r2,r3⟩:=rloop_cut hs dep s en k he hk F G i2 n2 r i3 n3 (by omega) hm2 q2 h5
     refine ⟨by omega,r2,?_⟩
     rw [q3,if_pos hm2]
     show bd2 (rloop _ _ _ dep G i2 n2) _=_
     rw [r3]
     split<;>rfl
    ·have hgo:i2<=i3/\i3<=en:=by
      obtain ⟨r1,r2,_⟩:=rloop_cut hs dep s en s.size he (Nat.le_refl _) F (min en s.size-i2+1) i2 n2 r i3 n3 (Nat.le_refl _) (by omega) q2 h5
      exact ⟨r1,r2⟩
     refine ⟨by omega,hgo.2,?_⟩
     rw [q3,if_neg hm2,if_neg (by omega)]
     rfl
  ·have hgo:i1<=j/\j<=en:=by
    by_cases ho:op=11\/op=5
    ·rw [if_pos ho] at h2
     injection h2 with h2
     injection h2 with h3 h4
     injection h4 with h4 h5
     omega
    ·rw [if_neg ho] at h2
     obtain ⟨x,i2,n2,h3,h4⟩:=bd2_in h2
     obtain ⟨q1,q2,_⟩:=rins_cut hs dep op s en i1 n1 x i2 n2 s.size he (Nat.le_refl _) (by omega) p2 h3
     obtain ⟨r,i3,n3,h5,h6⟩:=bd2_in h4
     obtain ⟨r1,r2,_⟩:=rloop_cut hs dep s en s.size he (Nat.le_refl _) F (min en s.size-i2+1) i2 n2 r i3 n3 (Nat.le_refl _) (by omega) q2 h5
     injection h6 with h6
     injection h6 with h7 h8
     injection h8 with h8 h9
     omega
   refine ⟨by omega,hgo.2,?_⟩
   rw [p3,if_neg hm,if_neg (by omega)]
   rfl
theorem rseq_cut:∀(d dep:Nat),Cut2 (fun s en i n=>rseq s en d dep i n)
 | 0,dep=>by
  refine Cut2.bd (g:=fun op _ _ j n1=>if op=11\/op=5 then .ok (((),op),j,n1) else .error ((rask dep op n1).getD 4)) (Cut.lift nx_cut) fun op=>?_
  refine Cut2.ite (Cut2.ok _) ?_
  intro s en i n b j m k he hk hi hie h
  cases h
 | d+1,dep=>fun s en i n a j m k he hk hi hie h=>rloop_cut (rseq_cut d (dep+1)) dep s en k he hk (en-i+1) (min en k-i+1) i n a j m (Nat.le_refl _) hi hie h
theorem rexpr_cut:Cut2 rexpr:=Cut2.bd (g:=fun (lt:IL 81 × Int) _ _ j m=>if lt.2=11 then .ok (lt.1,j,m) else .error 50) (rseq_cut 81 0) fun lt=>Cut2.ite (Cut2.ok _) (Cut2.err _)
end Dec
end Go.Proofs.YtgbbmdknbflilaaDoor

namespace Go.Proofs.YtgbbmdknbflilaaDoor
open Go.RowKit Rep
set_option linter.unusedVariables false
def gave (k:Int):List PanicEntry:=[{ v:=.iface 34 (.int .i64 k),recovered:=false }]
def Needs (ok:Bool) (k:Int) (e:Ending):Prop:=(ok=true/\e=.returned (.tuple #[]))\/(ok=false/\e=.panicked (gave k))
theorem Needs.yes {k:Int} {e:Ending} (h:Needs true k e):e=.returned (.tuple #[]):=by rcases h with ⟨_,h⟩|⟨h,_⟩;exact h;cases h
theorem Needs.no {k:Int} {e:Ending} (h:Needs false k e):e=.panicked (gave k):=by rcases h with ⟨h,_⟩|⟨_,h⟩;cases h;exact h
end Go.Proofs.YtgbbmdknbflilaaDoor

namespace Go.Proofs.YtgbbmdknbflilaaDoor
open Go.RowKit Rep
namespace Rep
structure FT where
 params:List Int
 results:List Int
structure Imp where
 mod:ByteArray
 name:ByteArray
 type:Int
structure Fun (d:Nat) where
 type:Int
 locals:List Int
 body:IL d
structure Lim where
 min:Int
 max:Int
 has:Bool
structure Glo (d:Nat) where
 type:Int
 mtb:Bool
 init:Ins (IL d)
structure Exp where
 name:ByteArray
 kind:Int
 index:Int
structure Elm (d:Nat) where
 offset:Ins (IL d)
 funcs:List Int
structure Dat (d:Nat) where
 offset:Ins (IL d)
 bytes:ByteArray
structure Mod (d:Nat) where
 types:List FT
 imports:List Imp
 funcs:List (Fun d)
 tables:List Lim
 mems:List Lim
 globals:List (Glo d)
 exports:List Exp
 start:List Int
 elems:List (Elm d)
 datas:List (Dat d)
structure FTAt (w:World) (bk o:Nat) (x:FT):Prop where
 params:∃v,w.cell? ⟨bk,o,none⟩=.some v/\Ints w v x.params
 results:∃v,w.cell? ⟨bk,o+1,none⟩=.some v/\Ints w v x.results
structure ImpAt (w:World) (bk o:Nat) (x:Imp):Prop where
 mod:w.cell? ⟨bk,o,none⟩=.some (.string x.mod)
 name:w.cell? ⟨bk,o+1,none⟩=.some (.string x.name)
 type:w.cell? ⟨bk,o+2,none⟩=.some (.int .i64 x.type)
structure FunAt (w:World) (d:Nat) (bk o:Nat) (x:Fun d):Prop where
 type:w.cell? ⟨bk,o,none⟩=.some (.int .i64 x.type)
 locals:∃v,w.cell? ⟨bk,o+1,none⟩=.some v/\Ints w v x.locals
 body:∃v,w.cell? ⟨bk,o+2,none⟩=.some v/\At w d v x.body
structure LimAt (w:World) (bk o:Nat) (x:Lim):Prop where
 min:w.cell? ⟨bk,o,none⟩=.some (.int .i64 x.min)
 max:w.cell? ⟨bk,o+1,none⟩=.some (.int .i64 x.max)
 has:w.cell? ⟨bk,o+2,none⟩=.some (.bool x.has)
structure GloAt (w:World) (d:Nat) (bk o:Nat) (x:Glo d):Prop where
 type:w.cell? ⟨bk,o,none⟩=.some (.int .i64 x.type)
 mtb:w.cell? ⟨bk,o+1,none⟩=.some (.bool x.mtb)
 init:InsAt w (At w d) bk (o+2) x.init
structure ExpAt (w:World) (bk o:Nat) (x:Exp):Prop where
 name:w.cell? ⟨bk,o,none⟩=.some (.string x.name)
 kind:w.cell? ⟨bk,o+1,none⟩=.some (.int .i64 x.kind)
 index:w.cell? ⟨bk,o+2,none⟩=.some (.int .i64 x.index)
structure ElmAt (w:World) (d:Nat) (bk o:Nat) (x:Elm d):Prop where
 offset:InsAt w (At w d) bk o x.offset
 funcs:∃v,w.cell? ⟨bk,o+7,none⟩=.some v/\Ints w v x.funcs
structure DatAt (w:World) (d:Nat) (bk o:Nat) (x:Dat d):Prop where
 offset:InsAt w (At w d) bk o x.offset
 bytes:w.cell? ⟨bk,o+7,none⟩=.some (.string x.bytes)
structure ModAt (w:World) (d:Nat) (v0 v1 v2 v3 v4 v5 v6 v7 v8 v9:Value) (m:Mod d):Prop where
 types:Row 2 (FTAt w) v0 m.types
 imports:Row 3 (ImpAt w) v1 m.imports
 funcs:Row 3 (FunAt w d) v2 m.funcs
 tables:Row 3 (LimAt w) v3 m.tables
 mems:Row 3 (LimAt w) v4 m.mems
 globals:Row 9 (GloAt w d) v5 m.globals
 exports:Row 3 (ExpAt w) v6 m.exports
 start:Ints w v7 m.start
 elems:Row 8 (ElmAt w d) v8 m.elems
 datas:Row 8 (DatAt w d) v9 m.datas
section On
variable {w w':World} (hb:Below w.heap.size w w')
include hb
theorem FTAt.on {bk o:Nat} {x:FT} (h:FTAt w bk o x):FTAt w' bk o x :=
 ⟨let ⟨v,a,b⟩:=h.params;⟨v,cell_on hb a,b.on hb⟩,let ⟨v,a,b⟩:=h.results;⟨v,cell_on hb a,b.on hb⟩⟩
theorem ImpAt.on {bk o:Nat} {x:Imp} (h:ImpAt w bk o x):ImpAt w' bk o x:=⟨cell_on hb h.mod,cell_on hb h.name,cell_on hb h.type⟩
theorem FunAt.on {d bk o:Nat} {x:Fun d} (h:FunAt w d bk o x):FunAt w' d bk o x :=
 ⟨cell_on hb h.type,let ⟨v,a,b⟩:=h.locals;⟨v,cell_on hb a,b.on hb⟩,let ⟨v,a,b⟩:=h.body;⟨v,cell_on hb a,At.on hb d v _ b⟩⟩
theorem LimAt.on {bk o:Nat} {x:Lim} (h:LimAt w bk o x):LimAt w' bk o x:=⟨cell_on hb h.min,cell_on hb h.max,cell_on hb h.has⟩
theorem GloAt.on {d bk o:Nat} {x:Glo d} (h:GloAt w d bk o x):GloAt w' d bk o x:=⟨cell_on hb h.type,cell_on hb h.mtb,h.init.on hb (At.on hb d)⟩
theorem ExpAt.on {bk o:Nat} {x:Exp} (h:ExpAt w bk o x):ExpAt w' bk o x:=⟨cell_on hb h.name,cell_on hb h.kind,cell_on hb h.index⟩
theorem ElmAt.on {d bk o:Nat} {x:Elm d} (h:ElmAt w d bk o x):ElmAt w' d bk o x:=⟨h.offset.on hb (At.on hb d),let ⟨v,a,b⟩:=h.funcs;⟨v,cell_on hb a,b.on hb⟩⟩
theorem DatAt.on {d bk o:Nat} {x:Dat d} (h:DatAt w d bk o x):DatAt w' d bk o x:=⟨h.offset.on hb (At.on hb d),cell_on hb h.bytes⟩
theorem ModAt.on {d : Nat} {v0 v1 v2 v3 v4 v5 v6 v7 v8 v9 : Value} {m : Mod d} (h : ModAt w d v0 v1 v2 v3 v4 v5 v6 v7 v8 v9 m) : ModAt w' d v0 v1 v2 v3 v4 v5 v6 v7 v8 v9 m :=
  ⟨h.types.imp fun _ _ _ _ => FTAt.on hb, h.imports.imp fun _ _ _ _ => ImpAt.on hb, h.funcs.imp fun _ _ _ _ => FunAt.on hb, h.tables.imp fun _ _ _ _ => LimAt.on hb, h.mems.imp fun _ _ _ _ => LimAt.on hb,
   h.globals.imp fun _ _ _ _ => GloAt.on hb, h.exports.imp fun _ _ _ _ => ExpAt.on hb, h.start.on hb, h.elems.imp fun _ _ _ _ => ElmAt.on hb, h.datas.imp fun _ _ _ _ => DatAt.on hb⟩
end On
def size:(d:Nat)->IL d->Nat
 | 0,_=>0
 | _+1,l=>List.length l
theorem At.len {w:World}:∀(d:Nat) (v:Value) (l:IL d),At w d v l->∃o cap,v=.slice o (size d l) cap
 | 0,_,_,h=>h
 | _+1,_,_,h=>Row.len h
end Rep
end Go.Proofs.YtgbbmdknbflilaaDoor

namespace Go.Proofs.YtgbbmdknbflilaaDoor
open Go.RowKit Rep
set_option linter.unusedVariables false
theorem hideR {p:Prop} (h:p):Hid p:=h
end Go.Proofs.YtgbbmdknbflilaaDoor

