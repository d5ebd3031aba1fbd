/- Texts that the claim needs. -/
import Derived.Test.YtegboefdolfdgaaGreatDoorQDM32
import Derived.Test.YtegboefdolfdgaaGreatDoorQDM33
import Derived.Test.YtegboefdolfdgaaGreatDoorQDM34
import Derived.Test.YtegboefdolfdgaaGreatDoorQDM35
import Derived.Laws.Strings
import Derived.Test.YtegboefdolfdgaaGreatDoorQDM26
namespace Go.Proofs.YtegboefdolfdgaaGreatDoor
open Go.RowKit aA ai
set_option linter.unusedVariables false
set_option maxRecDepth 100000
set_option maxHeartbeats 2000000
namespace ai
def Ho (f:Nat):Int:=[1,2,3,4,5,6,7,8,9,11].getD f 11
structure mD (w0:World) (p q:Nat) (s:ByteArray) (en i:Nat) (st:Sg) (c:Nat->Value) (last:Int) (u:World):Prop where
 dm:DM w0 p q s en i st.cnt 0 c u
 few:st.cnt<=65536
 nU:st.m.funcs.length<=4096
 mg:∃g,MG p g st.m c u
 nil:∀f,f<10->last<Ho f->c f=.slice none 0 0
def mE (w0:World) (p q:Nat) (s:ByteArray) (en:Nat) (last:Int) (X:R Sg) (e:Ending) (u:World):Prop :=
 e=.returned (.tuple #[])/\match X with
 | .ok (st,j)=>∃c,mD w0 p q s en j st c last u
 | .error z=>z≠0/\∃i n c,DM w0 p q s en i n z c u
theorem Rq {w:World} {B k n:Nat} {T:TypeId} {v:Value} {xs:List Value} (h:w.ownsRow B T n v k xs):k<=9223372036854775807:=by
 rcases h.2 with ⟨_,h0⟩|⟨g,cap,cur,_,_,_,h1,h2,_⟩
 ·omega
 ·unfold maxLen at h2;omega
theorem Fz {α:Type} {rd:Nat->R α} {s:ByteArray} {en i:Nat} {l:List α} {j:Nat} (he:en<=s.size) (h:aV rd s en i=.ok (l,j)):l.length<=4096:=by
 obtain ⟨a,k,h1,h2⟩:=fJ h;obtain ⟨_,_,h3,h4⟩:=jl he h1
 have:∀(m k:Nat) (l:List α) (j:Nat),rep rd m k=.ok (l,j)->l.length=m:=by
  intro m
  induction m with
  | zero=>intro k l j h;cases h;rfl
  | succ m ih =>
   intro k l j h;obtain ⟨x,j1,h1,h2⟩:=fJ h;obtain ⟨l2,j2,h3,h4⟩:=fJ h2;cases h4;simp [ih _ _ _ h3]
 rw [this _ _ _ _ h2];omega
theorem DU {p q:Nat} {w u:World} (hq:q<p) (h:bn p q w u):Kp p w u:=⟨fun b hb hl=>h.block b hl (by omega) (by omega),h.size⟩
theorem Hp {c c':Nat->Value} {f:Nat} (h:∀g,g≠f->c' g=c g):c'=upd c f (c' f):=by
 funext g
 unfold upd;by_cases hg:g=f
 ·rw [if_pos hg,hg]
 ·rw [if_neg hg];exact h g hg
theorem rQ {α:Type} {w0 w:World} {p q f N:Nat} {T:TypeId} {K:EK α} {F:EA α} (hK:dH K) (hF:jT T K F) {rd:Nat->R α} {s:ByteArray} {en i:Nat} {st:Sg} {c:Nat->Value} {last id:Int} (put:List α->Mod 81)
  (hput:∀u v l,Kp p w u->aI N F u (Since w.heap.size u none) v l->∃g,MG p g (put l) (upd c f v) u)
  (hfn:∀l j,aV rd s en i=.ok (l,j)->(put l).funcs.length<=4096)
  (h:mD w0 p q s en i st c last w) (hid:last<id) (Rs:∀g,g<10->id<Ho g->g≠f) {X:R Sg} (hX:X=bd (aV rd s en i) fun l j=>.ok ({ st with m:=put l },j))
  {e:Ending} {u:World} (hy:YS w0 p q s en f c w (lift (aV rd s en i) st.cnt) (fun i' n' c' u l=>∃ps,ps.map (·.1)=l/\LE w0 w p q f N T K s en i' n' 0 c' ps u) e u):mE w0 p q s en id X e u:=by
 obtain ⟨rfl,i',n',z',c',hd,hb,ow,hf⟩:=hy;refine ⟨rfl,?_⟩;rw [hX];cases hr:aV rd s en i with
 | error z =>
  rw [hr] at hf;obtain ⟨rfl,hz⟩:=hf;exact ⟨hz,i',n',c',hd⟩
 | ok v =>
  obtain ⟨l,j⟩:=v;rw [hr] at hf;obtain ⟨⟨ps,hps,hle⟩,rfl,rfl,rfl⟩:=hf;have hrow:aI N F u (Since w.heap.size u none) (c' f) l:=row_of hK hF l ps hps (by rw [<- hps,List.length_map];exact (Rq hle.own)) hle.wid hle.own hle.kk;have hu:=Hp ow;obtain ⟨g,hg⟩:=hput u (c' f) l (DU hd.qp hb) hrow;refine ⟨c',hd,h.few,hfn l _ hr,⟨g,by rw [hu];exact hg⟩,fun g' hg' hlt=>?_⟩;rw [ow g' (Rs g' hg' hlt)];exact h.nil g' hg' (by omega)
end ai
section
variable (w0:World) (p q:Nat) (s:ByteArray) (en i:Nat) (st:Sg) (c:Nat->Value) (last:Int) (w:World) (h:mD w0 p q s en i st c last w)
include h
theorem Rt (hl:last<1):Calls Tryz.prog 18 #[.pointer (some ⟨p,0,none⟩),.int .i64 1,.pointer (some ⟨q,0,none⟩)] w (mE w0 p q s en 1 (bB s 1 st en i)):=by
 obtain ⟨g0,hg0⟩:=h.mg;obtain ⟨g,hgl,hg⟩:=hg0.lt h.dm.ds.lt;refine (rE 1 0 2 63 gL Bf (ku s en) w0 p q s en (by decide) (fun wS ps i n c u hL hp=>QW w0 wS p q s en i n c ps u hL hp) i st.cnt c w h.dm (h.nil 0 (by decide) (by show last<(1:Int);exact hl))).mono fun e u hy=>?_;exact rQ Bf FM (fun l=>{ st.m with types:=l }) (fun u v l hk hr=>⟨g,hg.Hq hk h.dm.ds.lt hgl hr⟩) (fun l j _=>h.nU) h hl (fun g' h1 h2 e=>by subst e;exact absurd h2 (by decide)) rfl hy
theorem Ru (hl:last<2):Calls Tryz.prog 18 #[.pointer (some ⟨p,0,none⟩),.int .i64 2,.pointer (some ⟨q,0,none⟩)] w (mE w0 p q s en 2 (bB s 2 st en i)):=by
 obtain ⟨g0,hg0⟩:=h.mg;obtain ⟨g,hgl,hg⟩:=hg0.lt h.dm.ds.lt;refine (rE 2 1 3 65 iX (jB _) (jv s en) w0 p q s en (by decide) (fun wS ps i n c u hL hp=>Rv w0 wS p q s en i n c ps u hL hp) i st.cnt c w h.dm (h.nil 1 (by decide) (by show last<(2:Int);exact hl))).mono fun e u hy=>?_;exact rQ (jB _) FN (fun l=>{ st.m with imports:=l }) (fun u v l hk hr=>⟨g,hg.Hr hk h.dm.ds.lt hgl hr⟩) (fun l j _=>h.nU) h hl (fun g' h1 h2 e=>by subst e;exact absurd h2 (by decide)) rfl hy
theorem Rw (hl:last<4):Calls Tryz.prog 18 #[.pointer (some ⟨p,0,none⟩),.int .i64 4,.pointer (some ⟨q,0,none⟩)] w (mE w0 p q s en 4 (bB s 4 st en i)):=by
 obtain ⟨g0,hg0⟩:=h.mg;obtain ⟨g,hgl,hg⟩:=hg0.lt h.dm.ds.lt;refine (rE 4 3 3 71 cH (jB _) (lX s en) w0 p q s en (by decide) (fun wS ps i n c u hL hp=>Rx w0 wS p q s en i n c ps u hL hp) i st.cnt c w h.dm (h.nil 3 (by decide) (by show last<(4:Int);exact hl))).mono fun e u hy=>?_;exact rQ (jB _) Bg (fun l=>{ st.m with tables:=l }) (fun u v l hk hr=>⟨g,hg.Hs hk h.dm.ds.lt hgl hr⟩) (fun l j _=>h.nU) h hl (fun g' h1 h2 e=>by subst e;exact absurd h2 (by decide)) rfl hy
theorem Ry (hl:last<5):Calls Tryz.prog 18 #[.pointer (some ⟨p,0,none⟩),.int .i64 5,.pointer (some ⟨q,0,none⟩)] w (mE w0 p q s en 5 (bB s 5 st en i)):=by
 obtain ⟨g0,hg0⟩:=h.mg;obtain ⟨g,hgl,hg⟩:=hg0.lt h.dm.ds.lt;refine (rE 5 4 3 71 cH (jB _) (iz s en) w0 p q s en (by decide) (fun wS ps i n c u hL hp=>Rz w0 wS p q s en i n c ps u hL hp) i st.cnt c w h.dm (h.nil 4 (by decide) (by show last<(5:Int);exact hl))).mono fun e u hy=>?_;exact rQ (jB _) Bg (fun l=>{ st.m with dU:=l }) (fun u v l hk hr=>⟨g,hg.Ht hk h.dm.ds.lt hgl hr⟩) (fun l j _=>h.nU) h hl (fun g' h1 h2 e=>by subst e;exact absurd h2 (by decide)) rfl hy
theorem RA (hl:last<6):Calls Tryz.prog 18 #[.pointer (some ⟨p,0,none⟩),.int .i64 6,.pointer (some ⟨q,0,none⟩)] w (mE w0 p q s en 6 (bB s 6 st en i)):=by
 obtain ⟨g0,hg0⟩:=h.mg;obtain ⟨g,hgl,hg⟩:=hg0.lt h.dm.ds.lt;refine (rE 6 5 9 75 (iQ 81) (Bh 81) (jR 81 s en) w0 p q s en (by decide) (fun wS ps i n c u hL hp=>RB w0 wS p q s en i n c ps u hL hp) i st.cnt c w h.dm (h.nil 5 (by decide) (by show last<(6:Int);exact hl))).mono fun e u hy=>?_;exact rQ (Bh 81) (FR 81) (fun l=>{ st.m with globals:=l }) (fun u v l hk hr=>⟨g,hg.Hu hk h.dm.ds.lt hgl hr⟩) (fun l j _=>h.nU) h hl (fun g' h1 h2 e=>by subst e;exact absurd h2 (by decide)) rfl hy
theorem RE (hl:last<7):Calls Tryz.prog 18 #[.pointer (some ⟨p,0,none⟩),.int .i64 7,.pointer (some ⟨q,0,none⟩)] w (mE w0 p q s en 7 (bB s 7 st en i)):=by
 obtain ⟨g0,hg0⟩:=h.mg;obtain ⟨g,hgl,hg⟩:=hg0.lt h.dm.ds.lt;refine (rE 7 6 3 78 iY (jB _) (jw s en) w0 p q s en (by decide) (fun wS ps i n c u hL hp=>RF w0 wS p q s en i n c ps u hL hp) i st.cnt c w h.dm (h.nil 6 (by decide) (by show last<(7:Int);exact hl))).mono fun e u hy=>?_;exact rQ (jB _) FP (fun l=>{ st.m with exports:=l }) (fun u v l hk hr=>⟨g,hg.Hv hk h.dm.ds.lt hgl hr⟩) (fun l j _=>h.nU) h hl (fun g' h1 h2 e=>by subst e;exact absurd h2 (by decide)) rfl hy
theorem RG (hl:last<9):Calls Tryz.prog 18 #[.pointer (some ⟨p,0,none⟩),.int .i64 9,.pointer (some ⟨q,0,none⟩)] w (mE w0 p q s en 9 (bB s 9 st en i)):=by
 obtain ⟨g0,hg0⟩:=h.mg;obtain ⟨g,hgl,hg⟩:=hg0.lt h.dm.ds.lt;refine (rE 9 8 8 80 (fW 81) (A7 81) (lj 81 s en) w0 p q s en (by decide) (fun wS ps i n c u hL hp=>LM w0 wS p q s en i n c ps u hL hp) i st.cnt c w h.dm (h.nil 8 (by decide) (by show last<(9:Int);exact hl))).mono fun e u hy=>?_;exact rQ (A7 81) (FU 81) (fun l=>{ st.m with elems:=l }) (fun u v l hk hr=>⟨g,hg.Hw hk h.dm.ds.lt hgl hr⟩) (fun l j _=>h.nU) h hl (fun g' h1 h2 e=>by subst e;exact absurd h2 (by decide)) rfl hy
theorem RH (hl:last<11):Calls Tryz.prog 18 #[.pointer (some ⟨p,0,none⟩),.int .i64 11,.pointer (some ⟨q,0,none⟩)] w (mE w0 p q s en 11 (bB s 11 st en i)):=by
 obtain ⟨g0,hg0⟩:=h.mg;obtain ⟨g,hgl,hg⟩:=hg0.lt h.dm.ds.lt;refine (rE 11 9 8 82 (gb 81) (A8 81) (lq 81 s en) w0 p q s en (by decide) (fun wS ps i n c u hL hp=>LO w0 wS p q s en i n c ps u hL hp) i st.cnt c w h.dm (h.nil 9 (by decide) (by show last<(11:Int);exact hl))).mono fun e u hy=>?_;exact rQ (A8 81) (FV 81) (fun l=>{ st.m with dV:=l }) (fun u v l hk hr=>⟨g,hg.Hy hk h.dm.ds.lt hgl hr⟩) (fun l j _=>h.nU) h hl (fun g' h1 h2 e=>by subst e;exact absurd h2 (by decide)) rfl hy
theorem RI (hl:last<3):Calls Tryz.prog 18 #[.pointer (some ⟨p,0,none⟩),.int .i64 3,.pointer (some ⟨q,0,none⟩)] w (mE w0 p q s en 3 (bB s 3 st en i)):=by
 obtain ⟨g,hg⟩:=h.mg;refine (rE 3 2 3 68 gW (jB _) (lW s en) w0 p q s en (by decide) (fun wS ps i n c u hL hp=>RJ w0 wS p q s en i n c ps u hL hp) i st.cnt c w h.dm (h.nil 2 (by decide) (by show last<(3:Int);exact hl))).mono fun e u hy=>?_;exact rQ (jB _) FO (fun l=>{ st.m with funcs:=l.map uI }) (fun u v l hk hr=>hg.Hz hk h.dm.ds.lt hr) (fun l j hr=>by rw [List.length_map];exact Fz h.dm.ds.len hr) h hl (fun g' h1 h2 e=>by subst e;exact absurd h2 (by decide)) rfl hy
theorem RL (hl:last<8):Calls Tryz.prog 18 #[.pointer (some ⟨p,0,none⟩),.int .i64 8,.pointer (some ⟨q,0,none⟩)] w (mE w0 p q s en 8 (bB s 8 st en i)):=by
 obtain ⟨g0,hg0⟩:=h.mg;obtain ⟨g,hgl,hg⟩:=hg0.lt h.dm.ds.lt;refine (LP w0 p q s en i st.cnt c w h.dm).mono fun e u hy=>?_;obtain ⟨rfl,i',n',z',c',hd,hb,ow,hf⟩:=hy;refine ⟨rfl,?_⟩
 show match (bd (qX s en i) fun l j=>(.ok ({ st with m:={ st.m with start:=l } },j):R Sg)) with
  | .ok (st,j)=>∃c,mD w0 p q s en j st c 8 u
  | .error z=>z≠0/\∃i n c,DM w0 p q s en i n z c u
 cases hr:qX s en i with
 | error z=>rw [hr] at hf;obtain ⟨rfl,hz⟩:=hf;exact ⟨hz,i',n',c',hd⟩
 | ok v =>
  obtain ⟨l,j⟩:=v;rw [hr] at hf;obtain ⟨⟨hn,hrow⟩,rfl,rfl,rfl⟩:=hf;refine ⟨c',hd,h.few,h.nU,⟨g,by rw [Hp ow];exact hg.H9 (DU hd.qp hb) h.dm.ds.lt hgl hrow⟩,fun g' hg' hlt=>?_⟩;rw [ow g' (fun e=>by subst e;exact absurd hlt (by decide))];exact h.nil g' hg' (by omega)
theorem RN:Calls Tryz.prog 18 #[.pointer (some ⟨p,0,none⟩),.int .i64 0,.pointer (some ⟨q,0,none⟩)] w (mE w0 p q s en last (bB s 0 st en i)):=by
 obtain ⟨g,hg⟩:=h.mg;refine (PW w0 p q s en i st.cnt c w h.dm).mono fun e u hy=>?_;obtain ⟨rfl,i',n',z',c',hd,hb,ow,hf⟩:=hy;refine ⟨rfl,?_⟩
 show match (bd (nu s en i) fun _ j=>(.ok (st,j):R Sg)) with
  | .ok (st,j)=>∃c,mD w0 p q s en j st c last u
  | .error z=>z≠0/\∃i n c,DM w0 p q s en i n z c u
 cases hr:nu s en i with
 | error z=>rw [hr] at hf;obtain ⟨rfl,hz⟩:=hf;exact ⟨hz,i',n',c',hd⟩
 | ok v =>
  obtain ⟨l,j⟩:=v;rw [hr] at hf;obtain ⟨⟨hn,rfl⟩,rfl,rfl,rfl⟩:=hf;exact ⟨c',hd,h.few,h.nU,⟨g,hg.keep (DU hd.qp hb)⟩,h.nil⟩
theorem RO (hl:last<10):Calls Tryz.prog 18 #[.pointer (some ⟨p,0,none⟩),.int .i64 10,.pointer (some ⟨q,0,none⟩)] w (mE w0 p q s en 10 (bB s 10 st en i)):=by
 obtain ⟨g0,hg0⟩:=h.mg
 have fin:∀g,MG p g st.m c w->Calls Tryz.prog 18 #[.pointer (some ⟨p,0,none⟩),.int .i64 10,.pointer (some ⟨q,0,none⟩)] w (mE w0 p q s en 10 (bB s 10 st en i)):=fun g hg=>by
  obtain ⟨o,ob,cap,ty,a,b,h1,h2,h3⟩:=hg.funcs;refine (OM w0 p q s en i st.cnt c g ob st.m.funcs.length cap o ty w h.dm h.few h.nU h1 (fun h0=>⟨(h2 h0).1,⟨a,b,(h2 h0).2.1⟩,(h2 h0).2.2⟩)).mono fun e u hy=>?_;obtain ⟨rfl,i',n',z',hd,hb,hn,hf⟩:=hy;refine ⟨rfl,?_⟩
  show match (match gQ s en st.m.funcs.length i st.cnt with
   | .ok (fs,j,n)=>(.ok (⟨{ st.m with funcs:=List.zipWith nY st.m.funcs fs },st.m.funcs.length,n⟩,j):R Sg)
   | .error z=>.error z) with
   | .ok (st,j)=>∃c,mD w0 p q s en j st c 10 u
   | .error z=>z≠0/\∃i n c,DM w0 p q s en i n z c u
  cases hr:gQ s en st.m.funcs.length i st.cnt with
  | error z=>rw [hr] at hf;obtain ⟨rfl,hz⟩:=hf;exact ⟨hz,i',n',c,hd⟩
  | ok v =>
   obtain ⟨fs,j,m⟩:=v;rw [hr] at hf;obtain ⟨⟨hl1,hx⟩,rfl,rfl,rfl⟩:=hf;refine ⟨c,hd,hn rfl,?_,⟨g,hg.code hb h.dm.ds.lt hl1 h1 h2 (fun j f hj=>(h3 j f hj).1) hx⟩,fun g' hg' hlt=>h.nil g' hg' (by omega)⟩;show (List.zipWith nY st.m.funcs fs).length<=4096;rw [List.length_zipWith,hl1,Nat.min_self];exact h.nU
 exact fin g0 hg0
end
namespace ai
end ai
section
variable (w0:World) (p:Nat) (s:ByteArray) (en i n:Nat) (z:Int) (w:World) (h:DS w0 p s en i n z w)
include h
theorem QQ (b:Int):Calls Tryz.prog 14 #[.pointer (some ⟨p,0,none⟩),.int .i64 b] w fun e w'=>e=.returned (.tuple #[])/\∃(i' n':Nat) (z':Int),DS w0 p s en i' n' z' w'/\But p w w'/\Fits (aG z (lift (must s en b i) n)) (fun _=>True) i' n' z':=by
 have HY:=aa (xQ w0 p s en i n z w h);have HF:Hid (∀(y:Int) (i1 n1:Nat) (z1:Int) (i2 n2:Nat) (z2:Int),Fits (aG z (lift (nx s en i) n)) (fun a=>a=y) i1 n1 z1->Fits (aG z1 (lift (if y=b then (.ok ((),i1):R Unit) else .error 50) n1)) (fun _=>True) i2 n2 z2->Fits (aG z (lift (must s en b i) n)) (fun _=>True) i2 n2 z2):=aa (fun _ _ _ _ _ _ _ h1 h2=>Fits.cQ h1 h2);clear h;generalize aG z (lift (must s en b i) n)=G at HF ⊢;go_enter Tryz.func14,Tryz.ntmps14;go_wp2_with fail;refine HY.out.mono ?_;rintro e u ⟨y,i1,n1,z1,rfl,h1,h2,hF⟩;have H1:=aa h1;have H2:=aa h2;have da:=aa hF;clear h1 h2 hF HY;by_cases hyb:y=b
 ·have HX:Hid (Fits G (fun _=>True) i1 n1 z1):=aa (HF.out _ _ _ _ _ _ _ da.out (by rw [if_pos hyb];exact Fits.fin fun _=>trivial));have q1:(y != b)=false:=by simp [hyb]
  clear HF da hyb;go_wp2;go_end0;exact ⟨rfl,i1,n1,z1,H1.out,H2.out,HX.out⟩
 ·have HX:Hid (Fits G (fun _=>True) i1 n1 (if z1=0 then 50 else z1)):=aa (HF.out _ _ _ _ _ _ _ da.out (by rw [if_neg hyb];exact Fits.bad));have q1:(y != b)=true:=by simp [hyb]
  clear HF da hyb;go_wp2_with fail;refine (fD w0 p s en i1 n1 z1 _ H1.out 50).mono ?_;rintro e u3 ⟨rfl,h3,h4⟩;have H3:=aa h3;have H4:Hid (But p w u3):=aa (H2.out.trans h4);clear h3 h4;go_wp2;go_end0;exact ⟨rfl,i1,n1,_,H3.out,H4.out,HX.out⟩
end
theorem BK {w0:World} {p q:Nat} {s:ByteArray} {en i:Nat} {st:Sg} {c:Nat->Value} {last:Int} {w:World} (h:mD w0 p q s en i st c last w) (id:Int) (h0:0<=id) (h1:id<=11) (hl:id=0\/last<id) :
  Calls Tryz.prog 18 #[.pointer (some ⟨p,0,none⟩),.int .i64 id,.pointer (some ⟨q,0,none⟩)] w (mE w0 p q s en (if id=0 then last else id) (bB s id st en i)):=by
 have hc:id=0\/id=1\/id=2\/id=3\/id=4\/id=5\/id=6\/id=7\/id=8\/id=9\/id=10\/id=11:=by omega
 rcases hc with rfl|rfl|rfl|rfl|rfl|rfl|rfl|rfl|rfl|rfl|rfl|rfl
 ·exact RN w0 p q s en i st c last w h
 ·exact Rt w0 p q s en i st c last w h (by omega)
 ·exact Ru w0 p q s en i st c last w h (by omega)
 ·exact RI w0 p q s en i st c last w h (by omega)
 ·exact Rw w0 p q s en i st c last w h (by omega)
 ·exact Ry w0 p q s en i st c last w h (by omega)
 ·exact RA w0 p q s en i st c last w h (by omega)
 ·exact RE w0 p q s en i st c last w h (by omega)
 ·exact RL w0 p q s en i st c last w h (by omega)
 ·exact RG w0 p q s en i st c last w h (by omega)
 ·exact RO w0 p q s en i st c last w h (by omega)
 ·exact RH w0 p q s en i st c last w h (by omega)
namespace ai
def iZ:List UInt8:=[0,97,115,109,1,0,0,0]
def vA (s:ByteArray) (k:Nat):Prop:=∀j,j<k->j<s.size/\ae.bt s j=((iZ.getD j 0).toNat:Int)
theorem ext_get (s:ByteArray) (j:Nat) (hj:j<8):(s.extract 0 8).toList[j]?=if h:j<s.size then some (s[j]'h) else none:=by
 rw [ByteArray.toList_eq,ByteArray.data_extract,Array.toList_extract,List.extract_eq_take_drop];simp only [List.drop_zero,Nat.sub_zero];rw [List.getElem?_take_of_lt hj,Array.getElem?_toList];by_cases h:j<s.size
 ·rw [dif_pos h,Array.getElem?_eq_getElem (show j<s.data.size from h)];rfl
 ·rw [dif_neg h,Array.getElem?_eq_none (show s.data.size<=j from Nat.le_of_not_lt h)]
theorem Gv (s:ByteArray):pfx s=true↔vA s 8:=by
 unfold pfx vA;rw [Bool.and_eq_true,decide_eq_true_eq,beq_iff_eq];constructor
 ·rintro ⟨h1,h2⟩ j hj;have hlt:j<s.size:=by omega
  refine ⟨hlt,?_⟩;have h3:=ext_get s j hj;rw [h2,dif_pos hlt] at h3;rw [<- ae.get_bt s j hlt];have h4:iZ[j]?=some (s[j]'hlt):=h3;rw [List.getD_eq_getElem?_getD,h4];rfl
 ·intro h;have h8:8<=s.size:=by have:=(h 7 (by decide)).1;omega
  refine ⟨h8,List.ext_getElem? fun j=>?_⟩;by_cases hj:j<8
  ·obtain ⟨hlt,hb⟩:=h j hj;rw [ext_get s j hj,dif_pos hlt];rw [<- ae.get_bt s j hlt] at hb;have hb':(s[j]'hlt).toNat=(iZ.getD j 0).toNat:=by omega
   have hb2:s[j]'hlt=iZ.getD j 0:=UInt8.toNat_inj.1 hb';rw [hb2];show some (iZ.getD j 0)=iZ[j]?;rw [List.getD_eq_getElem?_getD,List.getElem?_eq_getElem (show j<iZ.length from hj)];rfl
  ·have hl:(s.extract 0 8).toList.length=8:=by
    rw [ByteArray.toList_eq,Array.length_toList];show (s.extract 0 8).size=8;rw [ByteArray.size_extract];omega
   rw [List.getElem?_eq_none (by rw [hl];omega),List.getElem?_eq_none (by show 8<=j;omega)]
theorem O2 {s:ByteArray} {k:Nat} (h:vA s k) (hk:k<8):(vA s (k+1)/\must s s.size ((iZ.getD k 0).toNat:Int) k=.ok ((),k+1))\/(¬ vA s 8/\must s s.size ((iZ.getD k 0).toNat:Int) k=.error 50):=by
 unfold must nx;by_cases hs:k<s.size
 ·rw [if_pos hs,aM];by_cases hb:ae.bt s k=((iZ.getD k 0).toNat:Int)
  ·rw [if_pos hb]
   exact .inl ⟨fun j hj=>by
    by_cases e:j=k
    ·subst e;exact ⟨hs,hb⟩
    ·exact h j (by omega),rfl⟩
  ·rw [if_neg hb];exact .inr ⟨fun h8=>hb (h8 k hk).2,rfl⟩
 ·rw [if_neg hs];exact .inr ⟨fun h8=>hs (h8 k hk).1,rfl⟩
end ai
namespace ai
theorem G6 {s:ByteArray} {en:Nat}:∀(r:Nat) (l:List (List Int × IL 81)) (i n:Nat) (fs:List (List Int × IL 81)) (j m:Nat),oq s en r l i n=.ok (fs,j,m)->fs.length=l.length+r
 | 0,l,i,n,fs,j,m,h=>by cases h;rfl
 | r+1,l,i,n,fs,j,m,h=>by
  rw [xV] at h;obtain ⟨x,j1,n1,h1,h2⟩:=fO h;rw [G6 r _ _ _ _ _ _ h2,List.length_append];simp;omega
theorem QN {s:ByteArray} {en L i n:Nat} {fs:List (List Int × IL 81)} {j m:Nat} (h:gQ s en L i n=.ok (fs,j,m)):fs.length=L:=by
 unfold gQ at h;obtain ⟨z,j1,n1,h1,h2⟩:=fO h;by_cases hz:z=(L:Int)
 ·rw [if_pos hz] at h2;have:=G6 _ _ _ _ _ _ _ h2;simpa using this
 ·rw [if_neg hz] at h2;cases h2
theorem FA {s:ByteArray} {id:Int} {st st':Sg} {en i j:Nat} (h0:0<=id) (h1:id<=11) (h:bB s id st en i=.ok (st',j)):(id=10->st'.codes=st'.m.funcs.length)/\(id≠10->st'.codes=st.codes)/\(id≠10->id≠3->st'.m.funcs=st.m.funcs):=by
 have hc:id=10\/id=3\/id=0\/id=1\/id=2\/id=4\/id=5\/id=6\/id=7\/id=8\/id=9\/id=11:=by omega
 rcases hc with rfl|rfl|rfl|rfl|rfl|rfl|rfl|rfl|rfl|rfl|rfl|rfl
 ·have h':(match gQ s en st.m.funcs.length i st.cnt with
   | .ok (fs,j,n)=>(.ok (⟨{ st.m with funcs:=List.zipWith nY st.m.funcs fs },st.m.funcs.length,n⟩,j):R Sg)
   | .error z=>.error z)=.ok (st',j):=h
  cases hr:gQ s en st.m.funcs.length i st.cnt with
  | error z=>rw [hr] at h';cases h'
  | ok v =>
   obtain ⟨fs,k,n⟩:=v;rw [hr] at h';have hl:=QN hr;cases h';exact ⟨fun _=>by simp [hl],fun e=>absurd rfl e,fun e=>absurd rfl e⟩
 ·obtain ⟨a,k,h2,h3⟩:=fJ (show bd _ _=_ from h);cases h3;exact ⟨fun e=>absurd e (by decide),fun _=>rfl,fun _ e=>absurd rfl e⟩
 all_goals
  obtain ⟨a,k,h2,h3⟩:=fJ (show bd _ _=_ from h);cases h3;exact ⟨fun e=>absurd e (by decide),fun _=>rfl,fun _ _=>rfl⟩
section
variable {w0 u u2:World} {p q:Nat} {s:ByteArray} {en tN i i2:Nat} {st:Sg} {c:Nat->Value} {last:Int} {b:Bool} {X:R Sg}
theorem mD.call (h:mD w0 p q s en i st c last u) (h1:DS w0 p s tN i2 st.cnt 0 u2) (h2:But p u u2):mD w0 p q s tN i2 st c last u2 :=
 ⟨h.dm.call h1 h2,h.few,h.nU,let ⟨g,hg⟩:=h.mg;⟨g,hg.keep (Kp.but h2)⟩,h.nil⟩
theorem mD.on (h:mD w0 p q s en i st c last u) (hb:Below u.heap.size u u2):mD w0 p q s en i st c last u2:=h.call (h.dm.ds.on hb) (But.of p hb)
end
structure RT (w0:World) (p q:Nat) (s:ByteArray) (X:R Sg) (last:Int) (b:Bool) (i:Nat) (st:Sg) (c:Nat->Value) (u:World):Prop where
 d:mD w0 p q s s.size i st c last u
 run:∃f,wh s f last st i=some X
 lim:0<=last/\last<=11
 no:b=false->st.codes=0
 yes:b=true->st.codes=st.m.funcs.length/\10<=last
def KS (w0:World) (p q:Nat) (s:ByteArray) (X:R Sg) (last:Int) (b:Bool) (u:World):Prop :=
 (∃i st c,RT w0 p q s X last b i st c u)\/∃(z:Int) (i n:Nat) (c:Nat->Value),z≠0/\X=.error z/\DM w0 p q s s.size i n z c u
def yz (p:Nat) (s:ByteArray) (u:World):Nat:=match u.cell? ⟨p,4,none⟩ with
 | some (.int _ z)=>if z=0 then s.size+1-rL p u else 0
 | _=>0
section
variable {w0 u u2:World} {p q:Nat} {s:ByteArray} {i:Nat} {st:Sg} {c:Nat->Value} {last:Int} {b:Bool} {X:R Sg}
theorem DS.yA {en n:Nat} {z:Int} (h:DS w0 p s en i n z u):rL p u=i:=by unfold rL;rw [h.cell 1 _ rfl];rfl
theorem DS.yB {en n:Nat} (h:DS w0 p s en i n 0 u):yz p s u=s.size+1-i:=by
 unfold yz;rw [h.cell 4 _ rfl];show (if (0:Int)=0 then s.size+1-rL p u else 0)=_;rw [if_pos rfl,h.yA]
theorem DS.lF {en n:Nat} {z:Int} (h:DS w0 p s en i n z u) (hz:z≠0):yz p s u=0:=by
 unfold yz;rw [h.cell 4 _ rfl];show (if z=0 then s.size+1-rL p u else 0)=_;rw [if_neg hz]
theorem RT.on (h:RT w0 p q s X last b i st c u) (hb:Below u.heap.size u u2):RT w0 p q s X last b i st c u2:=⟨h.d.on hb,h.run,h.lim,h.no,h.yes⟩
theorem RT.bad (h:RT w0 p q s X last b i st c u) (hi:i<s.size) (hb:11<ae.bt s i\/(ae.bt s i≠0/\¬ last<ae.bt s i)):X=.error 50:=by
 obtain ⟨f,hf⟩:=h.run;have hs:=BB hi hf;rcases hb with hb|hb
 ·exact hs.1 hb
 ·by_cases h11:11<ae.bt s i
  ·exact hs.1 h11
  ·exact hs.2.1 h11 hb
theorem RT.err (h:RT w0 p q s X last b i st c u) (hi:i<s.size) (h11:¬ 11<ae.bt s i) (hl:¬ (ae.bt s i≠0/\¬ last<ae.bt s i)) {z:Int} (hr:dZ (bB s (ae.bt s i)) s st s.size (i+1)=.error z):X=.error z:=by
 obtain ⟨f,hf⟩:=h.run;exact ((BB hi hf).2.2 h11 hl).2.1 z hr
theorem RT.next (h:RT w0 p q s X last b i st c u) (hi:i<s.size) (h11:¬ 11<ae.bt s i) (hl:¬ (ae.bt s i≠0/\¬ last<ae.bt s i)) {st':Sg} {m:Nat} {c':Nat->Value} (hr:dZ (bB s (ae.bt s i)) s st s.size (i+1)=.ok (st',m))
  {la:Int} (hla:la=if ae.bt s i=0 then last else ae.bt s i) {b':Bool} (hb':b'=(b || ae.bt s i == 10)) (hd:mD w0 p q s s.size m st' c' la u2):RT w0 p q s X la b' m st' c' u2:=by
 obtain ⟨f,hf⟩:=h.run;obtain ⟨f',hf'⟩:=((BB hi hf).2.2 h11 hl).2.2 st' m hr;have hbt:=ae.lQ s i;have hlast:=h.lim
 have Dx:∃en j,bB s (ae.bt s i) st en j=.ok (st',m):=by
  unfold dZ at hr;obtain ⟨z,j,h1,h2⟩:=fJ hr;obtain ⟨st2,m2,h3,h4⟩:=fJ h2;by_cases hm:m2=j+z.toNat
  ·rw [if_pos hm] at h4;cases h4;exact ⟨_,_,h3⟩
  ·rw [if_neg hm] at h4;cases h4
 obtain ⟨rM,j1,Dx⟩:=Dx;obtain ⟨c1,c2,c3⟩:=FA (by omega) (by omega) Dx;refine ⟨hd,⟨f',by rw [hla];exact hf'⟩,?_,fun hb=>?_,fun hb=>?_⟩
 ·rw [hla];split<;>omega
 ·subst hb';rw [Bool.or_eq_false_iff] at hb;have h10:ae.bt s i≠10:=by simpa using hb.2
  rw [c2 h10];exact h.no hb.1
 ·subst hb';by_cases h10:ae.bt s i=10
  ·exact ⟨c1 h10,by rw [hla,if_neg (by omega)];omega⟩
  ·have hbb:b=true:=by simpa [h10] using hb
   obtain ⟨y1,y2⟩:=h.yes hbb;have hid:ae.bt s i=0\/ae.bt s i=11:=by omega
   refine ⟨by rw [c2 h10,y1,c3 h10 (by omega)],?_⟩;rw [hla];rcases hid with e|e
   ·rw [if_pos e];exact y2
   ·rw [if_neg (by omega),e];decide
theorem RT.fin (h:RT w0 p q s X last b i st c u) (hi:¬ i<s.size):(0<st.m.funcs.length/\b=false->X=.error 50)/\(¬ (0<st.m.funcs.length/\b=false)->X=.ok (st,i)):=by
 obtain ⟨f,hf⟩:=h.run;have he:=G7 hi hf
 have hc:Sg.codes st=qi st↔¬ (0<st.m.funcs.length/\b=false):=by
  cases hb:b with
  | false =>
   rw [h.no hb];unfold qi;constructor
   ·intro e h';omega
   ·intro h'
    have:¬ 0<st.m.funcs.length:=fun e=>h' ⟨e,rfl⟩
    omega
  | true =>
   have:=(h.yes hb).1
   unfold qi;simp [this]
 constructor
 ·intro hx;rw [he,if_neg (fun e=>(hc.1 e) hx)]
 ·intro hx;rw [he,if_pos (hc.2 hx)]
end
def HS (w0:World) (p q:Nat) (s:ByteArray) (k:Nat) (u:World):Prop :=
 ∃(i n:Nat) (z:Int),DM w0 p q s s.size i n z (fun _=>.slice none 0 0) u/\((z=0/\vA s k/\i=k/\n=0)\/(z=50/\¬ vA s 8))
def ib:Array Value:=#[.slice none 0 0,.slice none 0 0,.slice none 0 0,.slice none 0 0,.slice none 0 0,.slice none 0 0,.slice none 0 0,.slice none 0 0,.slice none 0 0,.slice none 0 0]
def dA (w:World):World:=w.alloc (.cells ib 33)
def dB (w:World):World:=(dA w).alloc (.cells ib 33)
def dC (w:World) (s:ByteArray):World:=(dB w).alloc (.cells #[.string s,.int .i64 0,.int .i64 s.size,.int .i64 0,.int .i64 0] 53)
theorem wN (w:World):(dA w).heap.size=w.heap.size+1:=by simp [dA]
theorem BC (w:World):(dB w).heap.size=w.heap.size+2:=by simp [dB,dA]
theorem G8 (w:World):(dB w).heap[w.heap.size+1]?=some (.cells ib 33 (0,0)):=fB _ _ (wN w).symm
theorem G9 (w:World):Below w.heap.size w (dA w):=(Below.refl _ _).alloc (Nat.le_refl _) _
theorem QO (w:World) (s:ByteArray) (hs:s.size<=262144):HS (dA w) (dB w).heap.size (w.heap.size+1) s 0 (dC w s):=by
 have hb:Below (dB w).heap.size (dB w) (dC w s):=(Below.refl _ _).alloc (Nat.le_refl _) _;have h1:Below (dA w).heap.size (dA w) (dB w):=(Below.refl _ _).alloc (Nat.le_refl _) _;refine ⟨0,0,0,⟨⟨h1.trans (hb.mono h1.size),by rw [wN,BC];omega,fB _ _ rfl,by omega,Nat.le_refl _,hs⟩,?_,by rw [wN];omega,by rw [BC];omega⟩,.inl ⟨rfl,fun j hj=>absurd hj (by omega),rfl,rfl⟩⟩;rw [hb.block _ (by rw [BC];omega)];exact G8 w
theorem HS.on {w0 u u2:World} {p q:Nat} {s:ByteArray} {k:Nat} (h:HS w0 p q s k u) (hb:Below u.heap.size u u2):HS w0 p q s k u2:=by
 obtain ⟨i,n,z,hd,hx⟩:=h;exact ⟨i,n,z,hd.on hb,hx⟩
theorem HS.fin {w0 u:World} {p q:Nat} {s:ByteArray} (h:HS w0 p q s 8 u) (hs:¬ 262144<s.size) (hp:p<u.heap.size):KS w0 p q s (lh s) 0 false u:=by
 have hr:=Cr s;rw [if_neg hs] at hr;obtain ⟨i,n,z,hd,⟨rfl,hk,rfl,rfl⟩|⟨rfl,hk⟩⟩:=h
 ·have hp1:pfx s=true:=(Gv s).2 hk;rw [if_neg (by simp [hp1])] at hr;refine .inl ⟨8,tO,_,⟨⟨hd,by decide,by decide,?_,fun f _ _=>rfl⟩,⟨s.size+1,hr⟩,by omega,fun _=>rfl,fun e=>by cases e⟩⟩;obtain ⟨_,_,_,g,hg⟩:=Cs p u;exact ⟨g,hg⟩
 ·have hp1:pfx s=false:=by
   cases hx:pfx s with
   | false=>rfl
   | true=>exact absurd ((Gv s).1 hx) hk
  rw [if_pos hp1] at hr;exact .inr ⟨50,i,n,_,by decide,(Option.some.inj hr).symm,hd⟩
end ai
theorem QP {w0:World} {p q:Nat} {s:ByteArray} {k:Nat} (hk:k<8) {u:World} (h:HS w0 p q s k u):Calls Tryz.prog 14 #[.pointer (some ⟨p,0,none⟩),.int .i64 ((iZ.getD k 0).toNat:Int)] u fun e u'=>e=.returned (.tuple #[])/\HS w0 p q s (k+1) u':=by
 obtain ⟨i,n,z,hd,hx⟩:=h;refine (QQ w0 p s s.size i n z u hd.ds ((iZ.getD k 0).toNat:Int)).mono ?_;rintro e u' ⟨rfl,i',n',z',h1,h2,hF⟩;refine ⟨rfl,i',n',z',hd.call h1 h2,?_⟩;rcases hx with ⟨rfl,hok,rfl,rfl⟩|⟨rfl,hno⟩
 ·rw [bJ] at hF;rcases O2 hok hk with ⟨h3,h4⟩|⟨h3,h4⟩
  ·rw [h4] at hF;obtain ⟨_,rfl,rfl,rfl⟩:=hF;exact .inl ⟨rfl,h3,rfl,rfl⟩
  ·rw [h4] at hF;obtain ⟨rfl,_⟩:=hF;exact .inr ⟨rfl,h3⟩
 ·rw [gH (by decide)] at hF;obtain ⟨rfl,_⟩:=hF;exact .inr ⟨rfl,hno⟩
end Go.Proofs.YtegboefdolfdgaaGreatDoor
namespace Go.Proofs.YtegboefdolfdgaaGreatDoor
open Go.RowKit aA
set_option linter.unusedVariables false
namespace af
section
variable {P:Program} {ops:Array Oper} {Q:Exit->Act->World->Prop} {id:Nat} {a0:Act} {w0:World}
theorem Ij (n:Nat) (dst:Nat->Nat) (fp:Nat->Option Nat) (K:World->Prop) (R:Nat->World->Prop) (G:Nat->Value->World->Prop) (hm:P.follows .mixedOrders=true) (hT:qc ops n=true)
  (hinj:∀i j,i<n->j<n->dst i=dst j->i=j)
  (hdst:∀i,i<n->∃o,ops[i]?=some o/\(o.dst=some (dst i)\/(o.dst=none/\∀v v' w,G i v w->G i v' w))/\o.guard=none/\dst i<a0.tmps.size)
  (lC:∀i k v w w',i<n->k<n->i≠k->K w->G i v w->w.grownBy w' (fp k)->G i v w')
  (hres:∀i k w w',i<n->k<n->i≠k->R i w->w.grownBy w' (fp k)->R i w')
  (hK:∀k w w',k<n->K w->w.grownBy w' (fp k)->K w')
  (hstep:∀i o a w,i<n->ops[i]?=some o->Fr a0 dst n a->K w->R i w->(∀j ∈ deps o,G j (a.eval (.tmp (dst j))) w)->o.wp P a w (fun a' w'=>∃v,a'=a.put o.dst v/\w.grownBy w' (fp i)/\G i v w') Q)
  (fu:∀a w,Fr a0 dst n a->K w->(∀i,i<n->G i (a.eval (.tmp (dst i))) w)->wpList P ops Q (ops.toList.drop n) a w)
  (Eh:K { w0 with drawn:=w0.drawn+1 }) (oz:∀i,i<n->R i { w0 with drawn:=w0.drawn+1 }) :
  (Code.region id ops true).wp P Q a0 w0:=by
 have fM:=hT;unfold qc at fM;rw [Bool.and_eq_true,List.all_eq_true,decide_eq_true_eq] at fM;obtain ⟨hn,fM⟩:=fM
 have hlow:∀i,i<ops.size->∀j ∈ iw ops i,j<i:=fun i hi j hj=>by
  have:=fM i (List.mem_range.2 hi)
  rw [Bool.and_eq_true,List.all_eq_true] at this;exact of_decide_eq_true (this.1 j hj)
 have hbig:∀(L:Array Bool) i,n<=i->i<ops.size->Closed ops L->(∀j ∈ iw ops i,L.getD j false=true)->∀j,j<i->L.getD j false=true:=fun L i hi hs hc hd j hj=>by
  have:=fM i (List.mem_range.2 hs)
  rw [Bool.and_eq_true,Bool.or_eq_true,decide_eq_true_eq] at this;rcases this.2 with h|h
  ·omega
  ·have hjm:j ∈ sK ops [i] i:=by simpa using (List.all_eq_true.1 h) j (List.mem_range.2 hj)
   rcases xH hc hd i [i] (fun m hm=>.inl (List.mem_singleton.1 hm)) j hjm with h|h
   ·omega
   ·exact h
 refine xE (fun L a w=>L.size=ops.size/\Closed ops L/\(wV ops a0 n dst K R G L a w\/Behind P ops Q n L a w)) hm ?_ ?_ ?_
 ·rintro L i a w hi ⟨hsz,hc,zZ⟩;obtain ⟨qN,o,ho,hd⟩:=xF hi;obtain ⟨dW,iK⟩:=xG qN;have hd':∀j ∈ iw ops i,L.getD j false=true:=by rw [oJ ho];exact hd
  have hsz':(L.setIfInBounds i true).size=ops.size:=by rw [Array.size_setIfInBounds,hsz]
  have hc':Closed ops (L.setIfInBounds i true):=fun m hm j hj=>by
   rw [fN L i _ dW] at hm ⊢;split
   ·rfl
   ·by_cases he:m=i
    ·subst he;exact hd' j hj
    ·rw [if_neg he] at hm;exact hc m hm j hj
  have low:∀k,n<=k->(∀j,j<k->L.getD j false=true)->(∀j,k<=j->L.getD j false=false)->n<=i->i=k:=fun k hnk hk1 hk2 hni=>by
   have h1:=hbig L i hni (by omega) hc hd';rcases Nat.lt_trichotomy i k with h|h|h
   ·rw [hk1 i h] at iK;cases iK
   ·exact h
   ·have:=h1 k h;rw [hk2 k (Nat.le_refl _)] at this;cases this
  have tZ:∀k,k=i->n<=k->(∀j,j<k->L.getD j false=true)->(∀j,k<=j->L.getD j false=false)->wpList P ops Q (ops.toList.drop k) a w->wpOp P ops Q i (fun a w=>(L.setIfInBounds i true).size=ops.size/\Closed ops (L.setIfInBounds i true)/\(wV ops a0 n dst K R G (L.setIfInBounds i true) a w\/Behind P ops Q n (L.setIfInBounds i true) a w)) a w:=by
   rintro k rfl hnk hk1 hk2 hwp;have hks:k<ops.size:=by omega
   have qM:ops.toList.drop k=o :: ops.toList.drop (k+1):=by
    rw [List.drop_eq_getElem_cons (by simpa using hks)];congr 1
    have:=Array.getElem?_eq_getElem hks
    rw [ho] at this;simpa using (Option.some.inj this).symm
   rw [qM] at hwp
   have up:∀a w,wpList P ops Q (ops.toList.drop (k+1)) a w->(L.setIfInBounds k true).size=ops.size/\Closed ops (L.setIfInBounds k true)/\(wV ops a0 n dst K R G (L.setIfInBounds k true) a w\/Behind P ops Q n (L.setIfInBounds k true) a w):=fun a w h =>
    ⟨hsz',hc',.inr ⟨k+1,by omega,fun j hj=>by
     rw [fN L k _ dW];split
     ·rfl
     ·exact hk1 j (by omega),fun j hj=>by
     rw [fN L k _ dW,if_neg (by omega)];exact hk2 j (by omega),h⟩⟩
   unfold wpOp;rw [ho];unfold wpList at hwp;show ite _ _ _;split
   ·rename_i hw;rw [if_pos hw] at hwp;exact hwp.imp (Oper.wp_mono up) (fun h=>h)
   ·rename_i hw;rw [if_neg hw] at hwp;exact up _ _ hwp
  rcases zZ with ⟨hk,hF,hB,hR,hG⟩|⟨k,hnk,hk1,hk2,hwp⟩
  ·by_cases hin:i<n
   ·obtain ⟨o',ho',ja,hog,hos⟩:=hdst i hin
    have:o'=o:=by rw [ho] at ho';exact (Option.some.inj ho').symm
    subst this;have hs:=hstep i o' a w hin ho hF hB (hR i hin iK) (fun j hj=>hG j (by have:=hlow i (by omega) j (by rw [oJ ho];exact hj);omega) (hd j hj));unfold wpOp;rw [ho];show ite _ _ _;rw [if_pos (by simp [Region.wanted,hog])];refine .inl (Oper.wp_mono ?_ hs);rintro a' w' ⟨v,rfl,hBw,qB⟩;have rG:dst i<a.tmps.size:=by rw [hF.size];exact hos
    refine ⟨hsz',hc',.inl ⟨fun k hnk=>?_,(by rcases ja with ja|⟨ja,_⟩<;>(rw [ja];first|exact hF.put hin v|exact hF)),?_,fun j hj iD=>?_,fun j hj iD=>?_⟩⟩
    ·rw [fN L i _ dW,if_neg (by omega)];exact hk k hnk
    ·exact hK i w w' hin hB hBw
    ·by_cases he:j=i
     ·subst he;rw [fN L j _ dW,if_pos rfl] at iD;cases iD
     ·rw [fN L i _ dW,if_neg he] at iD;exact hres j i w w' hj hin he (hR j hj iD) hBw
    ·rcases ja with ja|⟨ja,SG⟩
     ·rw [ja];by_cases he:j=i
      ·subst he;rw [uD v rG];exact qB
      ·rw [fN L i _ dW,if_neg he] at iD;rw [qg v (fun e=>he (hinj i j hin hj e).symm)];exact lC j i _ w w' hj hin he hB (hG j hj iD) hBw
     ·rw [ja];by_cases he:j=i
      ·subst he;exact SG _ _ _ qB
      ·rw [fN L i _ dW,if_neg he] at iD;exact lC j i _ w w' hj hin he hB (hG j hj iD) hBw
   ·have h1:=hbig L i (by omega) (by omega) hc hd'
    have Aa:n=i:=by
     rcases Nat.lt_or_ge n i with h|h
     ·have:=h1 n h;rw [hk n (Nat.le_refl _)] at this;cases this
     ·omega
    refine tZ n Aa (Nat.le_refl _) (fun j hj=>h1 j (by omega)) hk (fu a w hF hB fun j hj=>hG j hj (h1 j (by omega)))
  ·rcases Nat.lt_or_ge i n with h|h
   ·rw [hk1 i (by omega)] at iK;cases iK
   ·exact tZ k (low k hnk hk1 hk2 h).symm hnk hk1 hk2 hwp
 ·rintro L a w hr ⟨hsz,hc,⟨hk,_⟩|⟨k,hnk,hk1,hk2,hwp⟩⟩
  ·have:=uE hT hsz hr n hn
   rw [hk n (Nat.le_refl _)] at this;cases this
  ·have:ops.size<=k:=by
    rcases Nat.lt_or_ge k ops.size with h|h
    ·have:=uE hT hsz hr k h
     rw [hk2 k (Nat.le_refl _)] at this;cases this
    ·exact h
   rw [List.drop_eq_nil_of_le (by simpa using this)] at hwp;exact hwp
 ·have hf:∀k,(Array.replicate ops.size false).getD k false=false:=fun k=>by
   simp [Array.getD]
  refine ⟨by simp,fun i hi=>?_,.inl ⟨fun k _=>hf k,⟨rfl,rfl,fun _ _=>rfl⟩,Eh,fun i hi _=>oz i hi,fun i _ hL=>?_⟩⟩
  ·rw [hf] at hi;cases hi
  ·rw [hf] at hL;cases hL
end
end af
end Go.Proofs.YtegboefdolfdgaaGreatDoor
