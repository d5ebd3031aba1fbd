/- Texts that the claim needs. -/
import Derived.Test.YtiailkiepndliaaGreatDoorQDWi14
import Derived.Test.YtiailkiepndliaaGreatDoorQDWi12
import Derived.Deep.CutRange
namespace Go.Proofs.YtiailkiepndliaaGreatDoor
open Go.RowKit Rep Dec
set_option linter.unusedVariables false
namespace Dec
def rsecs {σ:Type} (sec:Int->Sec σ) (ok:Int->Bool) (cd fl:σ->Nat) (s:ByteArray) (en:Nat):Nat->Int->σ->Nat->Option (R σ)
 | 0,_,_,_=>none
 | f+1,last,st,i=>if i<en then
   match nx s en i with
   | .error z=>some (.error z)
   | .ok (id,j)=>if 11<id then some (.error 50) else if id≠0/\¬ last<id then some (.error 50) else if ok id=true then
     match rsized (sec id) s st en j with
     | .error z=>some (.error z)
     | .ok (st',m)=>rsecs sec ok cd fl s en f (if id=0 then last else id) st' m
    else none
  else some (if cd st=fl st then .ok (st,i) else .error 50)
theorem rsized_gt {σ:Type} {sec:Sec σ} {s:ByteArray} {st st':σ} {en i m:Nat} (he:en<=s.size) (h:rsized sec s st en i=.ok (st',m)):i<m:=by
 unfold rsized at h
 obtain ⟨z,j,h1,h2⟩:=bd_in h
 obtain ⟨st2,m2,h3,h4⟩:=bd_in h2
 obtain ⟨hij,_⟩:=ru_ok he h1
 by_cases hm:m2=j+z.toNat
 ·rw [if_pos hm] at h4
  cases h4
  omega
 ·rw [if_neg hm] at h4;cases h4
def atOf (p:Nat) (w:World):Nat:=match w.cell? ⟨p,1,none⟩ with
 | some (.int _ i)=>i.toNat
 | _=>0
def eG (br p k f:Nat) (o:Option Addr) (cap:Nat):Nat->Value
 | 0=>.pointer (some ⟨p,0,none⟩)
 | 1=>.pointer (some ⟨p,0,none⟩)
 | 2=>.pointer (some ⟨p,13,none⟩)
 | 3=>.int .i64 (k:Int)
 | 4=>.pointer (some ⟨p,0,none⟩)
 | 5=>.pointer (some ⟨p,0,none⟩)
 | 6=>.pointer (some ⟨p,3,none⟩)
 | 7=>.pointer (some ⟨p,5,none⟩)
 | 8=>.slice o f cap
 | 9=>.int .i64 (f:Int)
 | _=>.bool false
structure LS {σ:Type} (w0:World) (p:Nat) (s:ByteArray) (M:σ->(Nat->Value)->Nat->Nat->World->Prop) (sec:Int->Sec σ) (ok:Int->Bool) (cd fl:σ->Nat) (en br:Nat) (W:World) (X:R σ) (last:Int) (st:σ) (c:Nat->Value) (k i n:Nat) (wr:World):Prop where
 rs:RS w0 p s c en k i n wr
 m:M st c k n wr
 but:But p W wr
 cr:wr.cell? ⟨br,0,none⟩=some (.pointer (some ⟨p,0,none⟩))
 run:∃f,rsecs sec ok cd fl s en f last st i=some X
 last:0<=last/\last<=11
theorem LS.on {σ:Type} {w0:World} {p:Nat} {s:ByteArray} {M:σ->(Nat->Value)->Nat->Nat->World->Prop} {sec:Int->Sec σ} {ok:Int->Bool} {cd fl:σ->Nat} {en br:Nat} {W:World} {X:R σ} {last:Int} {st:σ} {c:Nat->Value} {k i n:Nat} {wr wr':World} (hK:Keeps5 p M)
  (h:LS w0 p s M sec ok cd fl en br W X last st c k i n wr) (hb:Below wr.heap.size wr wr'):LS w0 p s M sec ok cd fl en br W X last st c k i n wr' :=
 ⟨h.rs.on hb,hK _ _ _ _ _ _ h.m (But.of p hb),h.but.trans (But.of p hb),cell_on hb h.cr,h.run,h.last⟩
section
variable {σ:Type} {sec:Int->Sec σ} {ok:Int->Bool} {cd fl:σ->Nat} {s:ByteArray} {en f:Nat} {last:Int} {st:σ} {i:Nat} {X:R σ}
theorem rsecs_end (hi:¬ i<en) (h:rsecs sec ok cd fl s en f last st i=some X):X=if cd st=fl st then .ok (st,i) else .error 50:=by
 cases f with
 | zero=>cases h
 | succ f=>simp only [rsecs,if_neg hi,Option.some.injEq] at h;exact h.symm
theorem rsecs_step (hi:i<en) (h:rsecs sec ok cd fl s en f last st i=some X):(11<Leb.bt s i->X=.error 50)/\(¬ 11<Leb.bt s i->Leb.bt s i≠0/\¬ last<Leb.bt s i->X=.error 50) /\
  (¬ 11<Leb.bt s i->¬ (Leb.bt s i≠0/\¬ last<Leb.bt s i)->ok (Leb.bt s i)=true/\(∀z,rsized (sec (Leb.bt s i)) s st en (i+1)=.error z->X=.error z) /\
   ∀st' m,rsized (sec (Leb.bt s i)) s st en (i+1)=.ok (st',m)->∃f',rsecs sec ok cd fl s en f' (if Leb.bt s i=0 then last else Leb.bt s i) st' m=some X):=by
 cases f with
 | zero=>cases h
 | succ f =>
  have hn:nx s en i=.ok (Leb.bt s i,i+1):=by unfold nx;rw [if_pos hi]
  simp only [rsecs,if_pos hi,hn] at h
  refine ⟨fun h1=>?_,fun h1 h2=>?_,fun h1 h2=>?_⟩
  ·rw [if_pos h1] at h;exact (Option.some.inj h).symm
  ·rw [if_neg h1,if_pos h2] at h;exact (Option.some.inj h).symm
  ·rw [if_neg h1,if_neg h2] at h
   by_cases h3:ok (Leb.bt s i)=true
   ·rw [if_pos h3] at h
    refine ⟨h3,fun z hz=>?_,fun st' m hm=>?_⟩
    ·rw [hz] at h;exact (Option.some.inj h).symm
    ·rw [hm] at h;exact ⟨f,h⟩
   ·rw [if_neg h3] at h;cases h
end
theorem RS.atOf_ {w0 w:World} {p:Nat} {s:ByteArray} {c:Nat->Value} {en k i n:Nat} (h:RS w0 p s c en k i n w):atOf p w=i:=by
 unfold atOf;rw [h.cell 1 _ rfl];rfl
end Dec
set_option maxRecDepth 100000 in
set_option maxHeartbeats 4000000 in
theorem dSections {σ:Type} {w0:World} {p:Nat} {s:ByteArray} {M:σ->(Nat->Value)->Nat->Nat->World->Prop} (hK:Keeps5 p M) {sec:Int->Sec σ} {ok:Int->Bool} {cd fl:σ->Nat} (hS:∀id,ok id=true->SecSays w0 p s M (sec id) id)
  (hF:∀st c k n w,M st c k n w->k=cd st/\∃o cap,c 2=.slice o (fl st) cap)
  (st:σ) (c:Nat->Value) (en k i n f:Nat) (w:World) (h:RS w0 p s c en k i n w) (hM:M st c k n w) (X:R σ) (hX:rsecs sec ok cd fl s en f 0 st i=some X) :
  Calls Tryz.prog 22 #[.pointer (some ⟨p,0,none⟩)] w (SecR w0 p s M en w X):=by
 have hB0:Below w.heap.size w (w.alloc (.cells #[.pointer (some ⟨p,0,none⟩)] 68)):=(Below.refl _ _).alloc (Nat.le_refl _) _
 have hlt:=h.lt
 have hcr:(w.alloc (.cells #[.pointer (some ⟨p,0,none⟩)] 68)).cell? ⟨w.heap.size,0,none⟩=some (.pointer (some ⟨p,0,none⟩)):=by simp
 have hbut:But p w (w.alloc (.cells #[.pointer (some ⟨p,0,none⟩)] 68)):=But.of p hB0
 have HL0:Hid (LS w0 p s M sec ok cd fl en w.heap.size (w.alloc (.cells #[.pointer (some ⟨p,0,none⟩)] 68)) X 0 st c k i n (w.alloc (.cells #[.pointer (some ⟨p,0,none⟩)] 68))):=hideR ⟨h.on hB0,hK _ _ _ _ _ _ hM hbut,But.refl _ _,hcr,⟨f,hX⟩,by omega⟩
 have HBUT:=hideR hbut
 have hbrp:w.heap.size≠p:=by omega
 have hen:=h.len
 have hs0:=h.big
 have fin:Hid (∀e w',SecR w0 p s M en w X e w'->SecR w0 p s M en w X e w'):=hideR fun _ _ h=>h
 clear h hM hX hB0 hcr hbut hlt
 go_enter Tryz.func22,Tryz.ntmps22
 go_wp2_with fail
 generalize w.alloc (.cells #[.pointer (some ⟨p,0,none⟩)] 68)=W at *
 go_loopw [2] (fun la wr=>∃(last:Int) (st:σ) (c:Nat->Value) (k i n:Nat),la=.int .i64 last/\Hid (LS w0 p s M sec ok cd fl en w.heap.size W X last st c k i n wr)) (fun _ wr=>en-atOf p wr)
 case atStart=>exact ⟨0,st,c,k,i,n,rfl,HL0⟩
 case round =>
  clear HL0
  obtain ⟨last,st,c,k,i,n,rfl,HL⟩:=hrel
  have hat:atOf p wr=i:=HL.out.rs.atOf_
  have HAT:=hideR hat
  clear hat
  have c1:=HL.out.rs.cell 1 _ rfl
  have c2:=HL.out.rs.cell 2 _ rfl
  have cb:=HL.out.cr
  have hla:=HL.out.last
  go_wp2_with fail
  go_quiet (fail)
  have HL1:=hideR (HL.out.on hK (below_drewN' wr nq))
  generalize wr.drewN nq=u1 at *
  clear c1 c2 cb HL
  have cb:=HL1.out.cr
  by_cases hi:i<en
  ·have dl:decide ((i:Int)<(en:Int))=true:=decide_eq_true (by omega)
   have hnx:nx s en i=.ok (Leb.bt s i,i+1):=by unfold nx;rw [if_pos hi]
   have HN:=hideR (dNext w0 p s c en k i n u1 HL1.out.rs)
   rw [hnx] at HN
   obtain ⟨f',hrun⟩:=HL1.out.run
   have HST:=hideR (rsecs_step hi hrun)
   have hbt:=Leb.bt_bd s i
   clear hrun hnx
   obtain ⟨id,hid⟩:∃id,id=Leb.bt s i:=⟨_,rfl⟩
   rw [<- hid] at HN HST hbt
   clear hid
   go_wp2_with fail
   refine HN.out.mono ?_
   rintro e u ⟨⟨v,rfl,hv⟩,h1,h2⟩
   have hv:v=.int .i64 id:=hv
   subst hv
   clear hv
   have HX:=hideR (And.intro h1 h2)
   clear h1 h2 HN
   have hB2:Below u.heap.size u (u.alloc (.cells #[.int .i64 id] 3)):=(Below.refl _ _).alloc (Nat.le_refl _) _
   have hbi:(u.alloc (.cells #[.int .i64 id] 3)).cell? ⟨u.heap.size,0,none⟩=some (.int .i64 id):=by simp
   have hb2:But p u1 (u.alloc (.cells #[.int .i64 id] 3)):=HX.out.2.trans (But.of p hB2)
   have hup:u.heap.size≠p:=by have:=HX.out.1.lt;omega
   have HR2:=hideR (And.intro (HX.out.1.on hB2) (And.intro (hK _ _ _ _ _ _ HL1.out.m hb2) (And.intro (but_cell hb2 hbrp HL1.out.cr) (And.intro hbi (And.intro hup (HL1.out.but.trans hb2))))))
   have hci:=hbi
   by_cases h11:11<id
   ·have d11:decide (id<=11)=false:=decide_eq_false (by omega)
    go_wp2_with fail
    refine (needN _ _).mono ?_
    rintro e w' ⟨rfl,rfl⟩
    refine ⟨rfl,fin.out _ _ ?_⟩
    rw [HST.out.1 h11]
    exact ⟨rfl,HR2.out.1.below⟩
   ·have d11:decide (id<=11)=true:=decide_eq_true (by omega)
    have h11':id<=11:=by omega
    clear hB2 hb2 hbi
    go_wp2_with fail
    generalize u.alloc (.cells #[.int .i64 id] 3)=u2 at *
    have cb2:=HR2.out.2.2.1
    refine (needY _ _).mono ?_
    rintro e w' ⟨rfl,rfl⟩
    by_cases h0:id=0
    ·have q0:(id != 0)=false:=by simp [h0]
     have h3:=HST.out.2.2 h11' (by omega)
     have hok:=h3.1
     have HZ:=hideR (dSized hK (hS id hok) st c en k (i+1) n w.heap.size u.heap.size _ HR2.out.1 HR2.out.2.1 HR2.out.2.2.1 HR2.out.2.2.2.1 hbrp HR2.out.2.2.2.2.1)
     generalize hrz:rsized (sec id) s st en (i+1)=Y at HZ
     go_wp2_with fail
     refine HZ.out.mono ?_
     intro e w3 hr
     cases Y with
     | error z =>
      obtain ⟨rfl,hb⟩:=hr
      have hXe:=h3.2.1 z hrz
      refine ⟨rfl,fin.out _ _ ?_⟩
      rw [hXe]
      exact ⟨rfl,hb⟩
     | ok vv =>
      obtain ⟨st',m⟩:=vv
      obtain ⟨rfl,⟨c',k',n',hr3,hm3⟩,hb3⟩:=hr
      have hgt:=rsized_gt hen hrz
      have hmen:=hr3.le
      have HN3:Hid (LS w0 p s M sec ok cd fl en w.heap.size W X last st' c' k' m n' w3):=hideR ⟨hr3,hm3,HR2.out.2.2.2.2.2.trans hb3,but_cell hb3 hbrp HR2.out.2.2.1,by have:=h3.2.2 st' m hrz;rwa [if_pos h0] at this,by omega⟩
      have HA3:=hideR hr3.atOf_
      clear hr3 hm3 hb3 HZ
      go_wp2
      go_roundw
      case rel=>exact ⟨_,st',c',k',m,n',rfl,HN3⟩
      case measure=>rw [HA3.out,HAT.out];omega
    ·have q0:(id != 0)=true:=by simp [h0]
     by_cases hl:last<id
     ·have dl2:decide (id > last)=true:=decide_eq_true (by omega)
      have h3:=HST.out.2.2 h11' (by omega)
      have hok:=h3.1
      go_wp2_with fail
      refine (needY _ _).mono ?_
      rintro e w' ⟨rfl,rfl⟩
      have HZ:=hideR (dSized hK (hS id hok) st c en k (i+1) n w.heap.size u.heap.size _ HR2.out.1 HR2.out.2.1 HR2.out.2.2.1 HR2.out.2.2.2.1 hbrp HR2.out.2.2.2.2.1)
      generalize hrz:rsized (sec id) s st en (i+1)=Y at HZ
      go_wp2_with fail
      refine HZ.out.mono ?_
      intro e w3 hr
      cases Y with
      | error z =>
       obtain ⟨rfl,hb⟩:=hr
       have hXe:=h3.2.1 z hrz
       refine ⟨rfl,fin.out _ _ ?_⟩
       rw [hXe]
       exact ⟨rfl,hb⟩
      | ok vv =>
       obtain ⟨st',m⟩:=vv
       obtain ⟨rfl,⟨c',k',n',hr3,hm3⟩,hb3⟩:=hr
       have hgt:=rsized_gt hen hrz
       have hmen:=hr3.le
       have HN3:Hid (LS w0 p s M sec ok cd fl en w.heap.size W X id st' c' k' m n' w3):=hideR ⟨hr3,hm3,HR2.out.2.2.2.2.2.trans hb3,but_cell hb3 hbrp HR2.out.2.2.1,by have:=h3.2.2 st' m hrz;rwa [if_neg h0] at this,by omega⟩
       have HA3:=hideR hr3.atOf_
       clear hr3 hm3 hb3 HZ
       go_wp2
       go_roundw
       case rel=>exact ⟨_,st',c',k',m,n',rfl,HN3⟩
       case measure=>rw [HA3.out,HAT.out];omega
     ·have dl2:decide (id > last)=false:=decide_eq_false (by omega)
      go_wp2_with fail
      refine (needN _ _).mono ?_
      rintro e w' ⟨rfl,rfl⟩
      refine ⟨rfl,fin.out _ _ ?_⟩
      rw [HST.out.2.1 h11' (by omega)]
      exact ⟨rfl,HR2.out.1.below⟩
  ·have dl:decide ((i:Int)<(en:Int))=false:=decide_eq_false (by omega)
   obtain ⟨f',hrun⟩:=HL1.out.run
   have hXe:=rsecs_end hi hrun
   obtain ⟨hk,o2,cap2,hc2⟩:=hF _ _ _ _ _ HL1.out.m
   have c13:=HL1.out.rs.cell 13 _ rfl
   have c5:u1.cell? ⟨p,5,none⟩=some (c 2):=HL1.out.rs.cell 5 _ rfl
   rw [hc2] at c5
   have HXE:=hideR hXe
   have HF:=hideR (And.intro HL1.out.rs (And.intro HL1.out.m HL1.out.but))
   clear hrun hXe hc2
   subst hk
   by_cases hcf:cd st=fl st
   ·have dq:((cd st:Int) == (fl st:Int))=true:=by simp [hcf]
    go_wp2_with fail
    go_quiet (first|(go_at_call 17;exact Calls.quiet_of_same (needY _ _)))
    go_wp2
    go_end0
    refine fin.out _ _ ?_
    rw [HXE.out,if_pos hcf]
    have hb:=below_drewN' u1 nq
    exact ⟨rfl,⟨_,_,_,HF.out.1.on hb,hK _ _ _ _ _ _ HF.out.2.1 (But.of p hb)⟩,HBUT.out.trans (HF.out.2.2.trans (But.of p hb))⟩
   ·have dq:((cd st:Int) == (fl st:Int))=false:=by simp;omega
    go_wp2_with fail
    refine Reg.wp_region_two 11 (fun i=>28+i) (fun j v _=>v=eG w.heap.size p (cd st) (fl st) o2 cap2 j) (by kernel_rfl) (by kernel_rfl) (fun i j h1 h2 h=>by have h':28+i=28+j:=h;omega) (Reg.dst_ok (size:=40) (by kernel_rfl)) (fun i v w w' _ h _=>h) ?hstep ?htail
    case hstep =>
     intro j o a u hj ho hF2 hB hd
     have f1:a.tmps[1]?.getD undef=.pointer (some ⟨w.heap.size,0,none⟩):=Reg.ev_get (hF2.eval 1 (fun i hi=>by show 28+i≠1;omega))
     have db:=cell_on hB cb
     have d13:=cell_on hB c13
     have d5:=cell_on hB c5
     have hcase:j=0\/j=1\/j=2\/j=3\/j=4\/j=5\/j=6\/j=7\/j=8\/j=9\/j=10:=by omega
     clear hj cb c13 c5
     rcases hcase with rfl|rfl|rfl|rfl|rfl|rfl|rfl|rfl|rfl|rfl|rfl
     all_goals (simp only [List.getElem?_toArray,List.getElem?_cons_succ,List.getElem?_cons_zero,Option.some.injEq] at ho;subst ho;refine Reg.step_k fun K hK=>?_)
     ·go_simp
      exact hK _ _ ⟨_,rfl,Below.refl _ _,rfl⟩
     ·have q:a.tmps[28]?.getD undef=.pointer (some ⟨p,0,none⟩):=Reg.ev_get (hd 0 (by decide))
      go_simp
      exact hK _ _ ⟨_,rfl,Below.refl _ _,rfl⟩
     ·have q:a.tmps[29]?.getD undef=.pointer (some ⟨p,0,none⟩):=Reg.ev_get (hd 1 (by decide))
      go_simp
      exact hK _ _ ⟨_,rfl,Below.refl _ _,rfl⟩
     ·have q:a.tmps[30]?.getD undef=.pointer (some ⟨p,13,none⟩):=Reg.ev_get (hd 2 (by decide))
      go_simp
      exact hK _ _ ⟨_,rfl,Below.refl _ _,rfl⟩
     ·go_simp
      exact hK _ _ ⟨_,rfl,Below.refl _ _,rfl⟩
     ·have q:a.tmps[32]?.getD undef=.pointer (some ⟨p,0,none⟩):=Reg.ev_get (hd 4 (by decide))
      go_simp
      exact hK _ _ ⟨_,rfl,Below.refl _ _,rfl⟩
     ·have q:a.tmps[33]?.getD undef=.pointer (some ⟨p,0,none⟩):=Reg.ev_get (hd 5 (by decide))
      go_simp
      exact hK _ _ ⟨_,rfl,Below.refl _ _,rfl⟩
     ·have q:a.tmps[34]?.getD undef=.pointer (some ⟨p,3,none⟩):=Reg.ev_get (hd 6 (by decide))
      go_simp
      exact hK _ _ ⟨_,rfl,Below.refl _ _,rfl⟩
     ·have q:a.tmps[35]?.getD undef=.pointer (some ⟨p,5,none⟩):=Reg.ev_get (hd 7 (by decide))
      go_simp
      exact hK _ _ ⟨_,rfl,Below.refl _ _,rfl⟩
     ·have q:a.tmps[36]?.getD undef=.slice o2 (fl st) cap2:=Reg.ev_get (hd 8 (by decide))
      go_simp
      exact hK _ _ ⟨_,rfl,Below.refl _ _,rfl⟩
     ·have q:a.tmps[31]?.getD undef=.int .i64 (cd st:Int):=Reg.ev_get (hd 3 (by decide))
      have q2:a.tmps[37]?.getD undef=.int .i64 (fl st:Int):=Reg.ev_get (hd 9 (by decide))
      go_simp
      exact hK _ _ ⟨_,rfl,Below.refl _ _,rfl⟩
    case htail =>
     intro a u hF2 hB hG
     have q:a.tmps[38]?.getD undef=.bool false:=Reg.ev_get (hG 10 (by decide))
     simp only [List.drop_succ_cons,List.drop_zero]
     refine wpList_plain rfl fun K hK=>?_
     go_simp
     refine (needN _ _).mono ?_
     rintro e u2 ⟨rfl,rfl⟩
     refine ⟨hF2.defers,fin.out _ _ ?_⟩
     rw [HXE.out,if_neg hcf]
     exact ⟨rfl,HF.out.1.below.trans (hB.mono HF.out.1.below.size)⟩
end Go.Proofs.YtiailkiepndliaaGreatDoor

namespace Go.Proofs.YtiailkiepndliaaGreatDoor
open Go.RowKit Rep Dec
set_option linter.unusedVariables false
set_option maxRecDepth 100000 in
set_option maxHeartbeats 16000000 in
theorem seqCS (d:Nat) (IH:SeqC d):SeqC (d+1):=by
 intro w0 p s c en k i n w dep h hn hd hdep
 have hpw:=h.lt
 have hlen:=h.len
 obtain ⟨sub,hsub⟩:∃sub,sub=rseq s en d (dep+1):=⟨_,rfl⟩
 have hfw:Fwd en sub:=by rw [hsub];exact rseq_fwd hlen d (dep+1)
 have hnb:Nb sub:=by rw [hsub];exact rseq_nb s en d (dep+1)
 have e:rseq s en (d+1) dep i n=rloop sub s en dep (en-i+1) i n:=by rw [hsub];rfl
 rw [e]
 obtain ⟨R,hR⟩:∃R,R=rloop sub s en dep (en-i+1) i n:=⟨_,rfl⟩
 rw [<- hR]
 have HR:=hideR hR
 have H:=hideR h
 have HI:Hid (∀(j n:Nat) (u:World) (op:Int),RS w0 p s c en k j n u->n<=65536->dep<=65->Calls Tryz.prog 54 #[.pointer (some ⟨p,0,none⟩),.int .i64 op,.int .i64 dep] u (Rds2 w0 p s c en k (vIns u.heap.size d) u (rins sub s en dep op j n))):=hideR (fun j n u op hu hn hp=>by
  rw [hsub];exact dIns w0 p s c en k j n u hu hn op dep hp IH (by omega))
 have HFW:=hideR hfw
 have HNB:=hideR hnb
 clear e hR h hsub hfw hnb IH
 go_enter Tryz.func37,Tryz.ntmps37
 go_wp2_with fail
 go_loopw [4] (fun t wr=>∃(l:List (Ins (IL d))) (ps:List (Pc d)) (iq nq f:Nat),(∃o c,t=.slice o l.length c)/\nq<=65536/\en-iq+1<=f/\l.length<=iq/\Hid (R=prq l (rloop sub s en dep f iq nq))/\Hid (RS w0 p s c en k iq nq wr)/\Hid (But p w wr)/\Hid (ps.map (·.1)=l)/\Hid (wr.ownsRow w.heap.size 50 7 t l.length (flat7 ps))/\Hid (∀q ∈ ps,PcOk wr (Since w.heap.size wr t.ownBlock) q)) (fun _ wr=>en-(RowKit.intOf ((wr.cell? ⟨p,1,none⟩).getD (.int .i64 0))).toNat)
 case atStart=>exact ⟨[],[],i,n,en-i+1,⟨none,0,rfl⟩,hn,Nat.le_refl _,by simp,hideR (by rw [HR.out,prq_nil]),H,hideR (But.refl p w),hideR rfl,hideR (World.ownsRow_nil _ _ _ _),hideR (fun q hq=>by cases hq)⟩
 case round =>
  obtain ⟨l,ps,iq,nq,f,⟨oT,cT,rfl⟩,hnq,hf,hll,HP,HS,HB,HM,HO,HK⟩:=hrel
  obtain ⟨f',rfl⟩:∃f',f=f'+1:=⟨f-1,by omega⟩
  have hbig:=HS.out.big
  have hle:=HS.out.le
  have hN:=dNext w0 p s c en k iq nq wr HS.out
  cases hx:nx s en iq with
  | error z =>
   rw [hx] at hN
   have HN:=hideR hN
   have HZ:Hid (R=.error z):=hideR (by rw [HP.out];exact prq_err hx)
   clear hN hx HP HO HK HM
   go_wp2_with fail
   refine HN.out.mono ?_
   rintro e w1 ⟨rfl,hb⟩
   exact ⟨rfl,by rw [HZ.out];exact ⟨rfl,hb⟩⟩
  | ok v =>
   obtain ⟨op,j⟩:=v
   have hnx:=nx_ok hx
   rw [hx] at hN
   have HN:=hideR hN
   clear hN
   by_cases ho:op=11\/op=5
   ·have HZ:Hid (R=.ok ((l,op),j,nq)):=hideR (by rw [HP.out];exact prq_end hx ho)
    have HV:Hid (AtS wr (Since w.heap.size wr none) (d+1) (.slice oT l.length cT) l):=hideR (at_of_row l ps HM.out (by omega) (by rw [show ps.length=l.length by rw [<- HM.out,List.length_map]];exact HO.out) HK.out)
    have hq:(op == 11)=true\/((op == 11)=false/\(op == 5)=true):=by rcases ho with rfl|rfl<;>decide
    clear ho hx HP HO HK HM hnx hf
    generalize l.length=nl at *
    rcases hq with q1|⟨q1,q2⟩
    all_goals
     go_wp2_with fail
     refine HN.out.mono ?_
     rintro e w1 ⟨⟨v,rfl,hv⟩,h1,h2⟩
     have hv:v=.int .i64 op:=hv
     subst hv
     have HF:=hideR (⟨h1,HB.out.trans h2⟩:_/\_)
     have HV2:=hideR (AtS.keep (since_but hpw h2) (d+1) _ _ HV.out)
     clear h1 h2 HN HV
     go_wp2
     go_ret2
     rw [HZ.out]
     exact ⟨⟨_,rfl,_,_,_,rfl,HV2.out⟩,HF.out.1,HF.out.2⟩
   ·have q1:(op == 11)=false:=by rw [beq_eq_false_iff_ne];omega
    have q2:(op == 5)=false:=by rw [beq_eq_false_iff_ne];omega
    cases hr:rins sub s en dep op j nq with
    | error z =>
     have HZ:Hid (R=.error z):=hideR (by rw [HP.out];exact prq_bad hx ho hr)
     have HRR:=hideR hr
     clear ho hx hr HP HO HK HM hnx hf hll
     generalize l.length=nl at *
     go_wp2_with fail
     refine HN.out.mono ?_
     rintro e w1 ⟨⟨v,rfl,hv⟩,h1,h2⟩
     have hv:v=.int .i64 op:=hv
     subst hv
     have hC:=HI.out j nq w1 op h1 hnq hdep
     rw [HRR.out] at hC
     have HC:=hideR hC
     clear h1 h2 HN hC HRR
     go_wp2_with fail
     refine HC.out.mono ?_
     rintro e w2 ⟨rfl,hb⟩
     exact ⟨rfl,by rw [HZ.out];exact ⟨rfl,hb⟩⟩
    | ok v =>
     obtain ⟨x,m,n2⟩:=v
     have hro:=rins_ok hlen HFW.out (by omega) hr
     have hn2:n2<=65536:=rins_nb HNB.out _ _ _ _ _ hnq hr
     have HZ:Hid (R=prq (l++[x]) (rloop sub s en dep f' m n2)):=hideR (by rw [HP.out];exact prq_on hx ho hr)
     have HRR:=hideR hr
     clear ho hx hr HP
     generalize hnl:l.length=nl at *
     go_wp2_with fail
     refine HN.out.mono ?_
     rintro e w1 ⟨⟨v,rfl,hv⟩,h1,h2⟩
     have hv:v=.int .i64 op:=hv
     subst hv
     have hC:=HI.out j nq w1 op h1 hnq hdep
     rw [HRR.out] at hC
     have HC:=hideR hC
     have HO1:=hideR (own_but HO.out hpw h2)
     have HK1:=hideR (fun q hq=>(HK.out q hq).keep (since_butO hpw h2))
     have HB1:=hideR (HB.out.trans h2)
     have HSZ1:Hid (∀q',(Value.slice oT nl cT).ownBlock=some q'->w.heap.size<=q'/\q'<w1.heap.size):=hideR (fun q' hq'=>HO1.out.lt q' hq')
     have HWS:Hid (w.heap.size<=w1.heap.size):=hideR (Nat.le_trans HB.out.size h2.size)
     clear h1 h2 HN hC HRR HO HK HB
     go_wp2_with fail
     refine HC.out.mono ?_
     rintro e w2 ⟨⟨v,rfl,hv⟩,h1,h2⟩
     obtain ⟨o4,n4,k4,o5,n5,k5,o6,n6,k6,rfl,hI4,hA5,hA6⟩:=hv
     have hup:=since_new (B:=w.heap.size) (B2:=w1.heap.size) (u:=w2) (row:=(Value.slice oT nl cT).ownBlock) HWS.out (fun q' hq'=>(HSZ1.out q' hq').2)
     have HNEW:Hid (PcOk w2 (Since w.heap.size w2 (Value.slice oT nl cT).ownBlock) (mkPc x (.slice o4 n4 k4) (.slice o5 n5 k5) (.slice o6 n6 k6))):=hideR ⟨hI4.keep hup,AtS.keep hup _ _ _ hA5,AtS.keep hup _ _ _ hA6⟩
     have HO2:=hideR ((own_but HO1.out hpw h2).alloc (.cells #[.int .i64 x.op,.int .i64 x.a,.int .i64 x.b,.int .i64 x.n,.slice o4 n4 k4,.slice o5 n5 k5,.slice o6 n6 k6] 50))
     have HN2:=hideR (pc_cells w2 x (.slice o4 n4 k4) (.slice o5 n5 k5) (.slice o6 n6 k6))
     have HK2:=hideR (fun q hq=>(HK1.out q hq).keep (since_butO hpw h2))
     have HB2:=hideR ((HB1.out.trans h2).trans (But.of p (new_on' w2 (.cells #[.int .i64 x.op,.int .i64 x.a,.int .i64 x.b,.int .i64 x.n,.slice o4 n4 k4,.slice o5 n5 k5,.slice o6 n6 k6] 50))))
     have HS2:=hideR (h1.on (new_on' w2 (.cells #[.int .i64 x.op,.int .i64 x.a,.int .i64 x.b,.int .i64 x.n,.slice o4 n4 k4,.slice o5 n5 k5,.slice o6 n6 k6] 50)))
     have HBL:=hideR (new_on' w2 (.cells #[.int .i64 x.op,.int .i64 x.a,.int .i64 x.b,.int .i64 x.n,.slice o4 n4 k4,.slice o5 n5 k5,.slice o6 n6 k6] 50))
     have HSZ:Hid (w.heap.size<=w2.heap.size):=hideR (Nat.le_trans HWS.out h2.size)
     clear h1 h2 hI4 hA5 hA6 hup HC HO1 HK1 HB1 HSZ1 HWS
     obtain ⟨i1,hi1,hy0,hy1,hy2⟩:=info_parts insInfo
     go_wp2_with (first|(at_builtin;refine wpList_appS rfl _ _ 22 rfl w.heap.size 50 i1 _ 7 104 Tryz.underlying22 hi1 hy0 hy1 hy2 rfl (by decide) _ _ _ rfl HO2.out (some ⟨w2.heap.size,0,none⟩) 1 1 (pc7 (mkPc x (.slice o4 n4 k4) (.slice o5 n5 k5) (.slice o6 n6 k6))) rfl ?c6 ?c0 ?c1 ?c2 ?c3 ?c4 ?c5 ?_))
     case c6=>intro h;cases h
     case c0=>rfl
     case c1=>exact fun ad h=>by injection h with h;subst h;exact HN2.out
     case c2=>exact pc7_one _ rfl rfl rfl
     case c3=>unfold maxLen;omega
     case c4=>omega
     case c5=>have:=HSZ.out;simp;omega
     intro v9 w9 hown9 hg9 hv9
     have ho9:∀q',(Value.slice oT nl cT).ownBlock=some q'->w.heap.size<=q':=fun q' hq'=>(HO2.out.lt q' hq').1
     have HS9:=hideR (HS2.out.grown hg9 (fun q' hq'=>Nat.lt_of_lt_of_le hpw (ho9 q' hq')))
     have HB9:=hideR (But.grown (p:=p) HB2.out hg9 ho9)
     have HO9:Hid (w9.ownsRow w.heap.size 50 7 v9 (nl+1) (flat7 (ps++[mkPc x (.slice o4 n4 k4) (.slice o5 n5 k5) (.slice o6 n6 k6)]))):=hideR (by rw [flat7_snoc];exact hown9)
     have HK9:Hid (∀q ∈ ps++[mkPc x (.slice o4 n4 k4) (.slice o5 n5 k5) (.slice o6 n6 k6)],PcOk w9 (Since w.heap.size w9 v9.ownBlock) q):=hideR (fun q hq=>by
      have key:∀q:Pc d,PcOk w2 (Since w.heap.size w2 (Value.slice oT nl cT).ownBlock) q->PcOk w9 (Since w.heap.size w9 v9.ownBlock) q:=fun q h=>(h.keep (since_below HBL.out)).keep (since_grown hg9 (by simpa using hv9))
      rcases List.mem_append.1 hq with hq|hq
      ·exact key q (HK2.out q hq)
      ·rw [List.mem_singleton.1 hq];exact key _ HNEW.out)
     have HM9:Hid ((ps++[mkPc x (.slice o4 n4 k4) (.slice o5 n5 k5) (.slice o6 n6 k6)]).map (·.1)=l++[x]):=hideR (by rw [List.map_append,HM.out];rfl)
     have hsl:=own_slice hown9
     have HLN:Hid ((l++[x]).length=nl+1):=hideR (by rw [List.length_append,hnl];rfl)
     have hc9:=HS9.out.cell 1 _ rfl
     have hcr:=HS.out.cell 1 _ rfl
     clear hown9 hg9 hv9 ho9 HO2 HN2 HB2 HS2 HK2 HNEW HBL
     obtain ⟨oN,cN,rfl⟩:=hsl
     go_wp2
     go_roundw
     case rel=>exact ⟨l++[x],_,m,n2,f',⟨oN,cN,by rw [HLN.out]⟩,hn2,by omega,by rw [HLN.out];omega,HZ,HS9,HB9,HM9,by rw [HLN.out];exact HO9,HK9⟩
     case measure=>rw [hc9,hcr];simp [RowKit.intOf];omega
theorem seqC:∀d,SeqC d
 | 0=>seqC0
 | d+1=>seqCS d (seqC d)
end Go.Proofs.YtiailkiepndliaaGreatDoor

namespace Go.Proofs.YtiailkiepndliaaGreatDoor
open Go.RowKit Rep Dec
set_option linter.unusedVariables false
namespace Dec
def vIL (B d:Nat) (a:IL d) (v:Value) (w:World):Prop:=∃o n k,v=.slice o n k/\AtS w (Since B w none) d (.slice o n k) a
def xE (s:ByteArray) (a:Int):R2 (IL 81):=if 262144<s.size then .error 2 else if 0<=a/\a<=s.size then rexpr s s.size a.toNat 0 else .error 1
def XSays (s:ByteArray) (a:Int) (w:World) (e:Ending) (w':World):Prop:=Below w.heap.size w w' /\
 match xE s a with
 | .error z=>e=.returned (.tuple #[.slice none 0 0,.int .i64 0,.int .i64 z])
 | .ok (l,j,_)=>∃o n k,e=.returned (.tuple #[.slice o n k,.int .i64 j,.int .i64 0])/\At w' 81 (.slice o n k) l
end Dec
set_option maxRecDepth 100000 in
set_option maxHeartbeats 4000000 in
theorem dExpression (w0:World) (p:Nat) (s:ByteArray) (c:Nat->Value) (en k i n:Nat) (w:World) (h:RS w0 p s c en k i n w) (hn:n<=65536) :
  Calls Tryz.prog 18 #[.pointer (some ⟨p,0,none⟩)] w (Rds2 w0 p s c en k (vIL w.heap.size 81) w (rexpr s en i n)):=by
 have hC:=seqC 81 w0 p s c en k i n w 0 h hn (by omega) (by omega)
 unfold rexpr
 cases hx:rseq s en 81 0 i n with
 | error z =>
  rw [hx] at hC
  have HC:=hideR hC
  rw [bd2_err]
  clear hC hx h
  go_enter Tryz.func18,Tryz.ntmps18
  go_wp2_with fail
  refine HC.out.mono ?_
  rintro e w1 ⟨rfl,hb⟩
  exact ⟨rfl,rfl,hb⟩
 | ok v =>
  obtain ⟨⟨l,t⟩,j,m⟩:=v
  have htt:t=5\/t=11:=rseq_tb s en 81 0 _ _ _ _ _ hx
  rw [hx] at hC
  have HC:=hideR hC
  rw [bd2_ok']
  dsimp only
  clear hC hx h
  rcases htt with rfl|rfl
  ·rw [if_neg (by decide)]
   go_enter Tryz.func18,Tryz.ntmps18
   go_wp2_with fail
   refine HC.out.mono ?_
   rintro e w1 ⟨⟨v,rfl,o,nn,kk,hv,hA⟩,h1,h2⟩
   have hv:v=.tuple #[.slice o nn kk,.int .i64 5]:=hv
   subst hv
   have HF:=hideR h1.below
   clear h1 h2 hA HC
   go_wp2_with fail
   refine (needN _ _).mono ?_
   rintro e u ⟨rfl,rfl⟩
   exact ⟨rfl,rfl,HF.out⟩
  ·rw [if_pos rfl]
   go_enter Tryz.func18,Tryz.ntmps18
   go_wp2_with fail
   refine HC.out.mono ?_
   rintro e w1 ⟨⟨v,rfl,o,nn,kk,hv,hA⟩,h1,h2⟩
   have hv:v=.tuple #[.slice o nn kk,.int .i64 11]:=hv
   subst hv
   have HF:=hideR (⟨h1,h2,hA⟩:_/\_/\_)
   clear h1 h2 hA HC
   go_wp2_with fail
   refine (needY _ _).mono ?_
   rintro e u ⟨rfl,rfl⟩
   go_wp2
   go_ret
   exact ⟨⟨_,rfl,_,_,_,rfl,HF.out.2.2⟩,HF.out.1,HF.out.2.1⟩
theorem xassert_yes (k:Int) (w:World):(Instr.typeAssert (.iface 38 (.int .i64 k)) 20 38 true).run Tryz.prog w=.ok (.tuple #[.int .i64 k,.bool true]) w:=by
 kernel_rfl
theorem xassert_no (w:World):(Instr.typeAssert .nilIface 20 38 true).run Tryz.prog w=.ok (.tuple #[.int .i64 0,.bool false]) w:=by
 kernel_rfl
theorem cell_oth {w:World} {a:Addr} {b j:Nat} {v:Value} (h:a.block≠b):(w.setCell ⟨b,j,none⟩ v).cell? a=w.cell? a:=World.cell?_of_block (Below.heap_setCell _ _ _ _ h)
theorem exprCatch (p q r:Nat) (v y x:Value) (k:Int) (older:List PanicEntry) (w:World) (hp:w.cell? ⟨p,0,none⟩=some v) (hq:w.cell? ⟨q,0,none⟩=some y) (hr:w.cell? ⟨r,0,none⟩=some x) (fp:w.frozen? ⟨p,0,none⟩=false) (fq:w.frozen? ⟨q,0,none⟩=false) (fr:w.frozen? ⟨r,0,none⟩=false) (hpq:q≠p) (hpr:r≠p) (hqr:r≠q) :
  CallsD Tryz.prog 16 #[.pointer (some ⟨p,0,none⟩),.pointer (some ⟨q,0,none⟩),.pointer (some ⟨r,0,none⟩)] (.panicking ({ v:=.iface 38 (.int .i64 k),recovered:=false } :: older)) w fun e u' w' =>
   e=.returned (.tuple #[])/\u'=.panicking ({ v:=.iface 38 (.int .i64 k),recovered:=true } :: older)/\w'=((w.setCell ⟨p,0,none⟩ (.slice none 0 0)).setCell ⟨q,0,none⟩ (.int .i64 0)).setCell ⟨r,0,none⟩ (.int .i64 k):=by
 have hq':(w.setCell ⟨p,0,none⟩ (.slice none 0 0)).cell? ⟨q,0,none⟩=some y:=by rw [cell_oth hpq];exact hq
 have hr':((w.setCell ⟨p,0,none⟩ (.slice none 0 0)).setCell ⟨q,0,none⟩ (.int .i64 0)).cell? ⟨r,0,none⟩=some x:=by rw [cell_oth hqr,cell_oth hpr];exact hr
 refine callsD_of_wpS Tryz.func16 rfl fun c₀ cs hu=>?_
 apply wpS_seq
 apply wpS_region
 simp [wpOpsS,go_sem,recoverD,hu,Tryz.ntmps16,Exit.thenS,xassert_yes]
 apply wpS_seq
 apply wpS_region
 simp [wpOpsS,go_sem,Exit.thenS]
 refine wpS_cond (t:=true) (by simp [Act.eval,Array.replicate]) ?_
 simp only [if_true]
 apply wpS_region
 simp [wpOpsS,go_sem,hp,hq',hr',fp,fq,fr,bodyPostS,results,Tryz.results16]
theorem exprIdle (p q r:Nat) (w:World) :
  CallsD Tryz.prog 16 #[.pointer (some ⟨p,0,none⟩),.pointer (some ⟨q,0,none⟩),.pointer (some ⟨r,0,none⟩)] .returning w fun e u' w'=>e=.returned (.tuple #[])/\u'=.returning/\w'=w:=by
 refine callsD_of_wpS Tryz.func16 rfl fun c₀ cs hu=>?_
 apply wpS_seq
 apply wpS_region
 simp [wpOpsS,go_sem,recoverD,hu,Tryz.ntmps16,Exit.thenS,xassert_no]
 apply wpS_seq
 apply wpS_region
 simp [wpOpsS,go_sem,Exit.thenS]
 refine wpS_cond (t:=false) (by simp [Act.eval,Array.replicate]) ?_
 simp only [Bool.false_eq_true,if_false]
 refine wpS_of_wp (wp_skip ?_)
 cases c₀
 simp_all [bodyPostS,results,Tryz.results16]
end Go.Proofs.YtiailkiepndliaaGreatDoor

