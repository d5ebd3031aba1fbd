/- Texts that the claim needs. -/
import Derived.Test.YtgbbmdknbflilaaDoorQDcu23
import Derived.Test.YtgbbmdknbflilaaDoorQDcu22
import Derived.Test.YtgbbmdknbflilaaDoorQDcu21
import Derived.Deep.MidRow
namespace Go.Proofs.YtgbbmdknbflilaaDoor
open Go.RowKit Rep Dec
set_option linter.unusedVariables false
namespace Dec
theorem rexpr_nb {s:ByteArray} {en i n:Nat} {l:IL 81} {j m:Nat} (hn:n<=65536) (h:rexpr s en i n=.ok (l,j,m)):m<=65536:=by
 unfold rexpr at h
 obtain ⟨a,i1,k1,h1,h2⟩:=bd2_in h
 by_cases h3:a.2=11
 ·rw [if_pos h3] at h2;cases h2;exact rseq_nb s en 81 0 _ _ _ _ _ hn h1
 ·rw [if_neg h3] at h2;cases h2
theorem rsizedF_nb {s:ByteArray} {en i n:Nat} {x:List Int × IL 81} {j m:Nat} (hn:n<=65536) (h:rsizedF s en i n=.ok (x,j,m)):m<=65536:=by
 unfold rsizedF at h
 obtain ⟨z,j1,n1,h1,h2⟩:=bd2_in h
 obtain ⟨y,j2,n2,h3,h4⟩:=bd2_in h2
 have e1:=(lift_in h1).2
 have h5:n2=m:=by
  by_cases hm:j2=j1+z.toNat
  ·rw [if_pos hm] at h4;cases h4;rfl
  ·rw [if_neg hm] at h4;cases h4
 unfold rfun at h3
 obtain ⟨l,j3,n3,h6,h7⟩:=bd2_in h3
 obtain ⟨b,j4,n4,h8,h9⟩:=bd2_in h7
 have e2:=(lift_in h6).2
 cases h9
 rw [<- h5]
 exact rexpr_nb (by omega) h8
def rfs (s:ByteArray) (en:Nat):Nat->List (List Int × IL 81)->Nat->Nat->R2 (List (List Int × IL 81))
 | 0,l,i,n=>.ok (l,i,n)
 | r+1,l,i,n=>bd2 (rsizedF s en i n) fun x j m=>rfs s en r (l++[x]) j m
theorem rfs_step (s:ByteArray) (en r:Nat) (l:List (List Int × IL 81)) (i n:Nat):rfs s en (r+1) l i n=bd2 (rsizedF s en i n) fun x j m=>rfs s en r (l++[x]) j m:=rfl
def rcode (s:ByteArray) (en L i n:Nat):R2 (List (List Int × IL 81)):=bd2 (lift (rc s en i) n) fun z j m=>if z=(L:Int) then rfs s en L [] j m else .error 50
theorem RS.cod {w0 w:World} {p:Nat} {s:ByteArray} {c:Nat->Value} {en k i n:Nat} (h:RS w0 p s c en k i n w) (m:Nat):RS w0 p s c en m i n (w.setCell ⟨p,13,none⟩ (.int .i64 m)) :=
 ⟨h.below.setCell h.base _,h.base,heap_setCell_same w p 13 _ _ _ h.blk,h.le,h.len,h.big⟩
def FnsR (w0:World) (p:Nat) (s:ByteArray) (c:Nat->Value) (en g ob L:Nat) (ty:Nat->Int) (w:World) (x:R2 (List (List Int × IL 81))) (e:Ending) (w':World):Prop :=
 match x with
 | .ok (fs,j,m)=>e=.returned (.tuple #[])/\(RS w0 p s c en L j m w'/\fs.length=L/\(0<L->∃a b,FB g ob L ty a b w'/\∀q x,fs[q]?=some x->IntsS w' (Since w.heap.size w' none) (a q) x.1/\AtS w' (Since w.heap.size w' none) 81 (b q) x.2))/\Bu2 p g w w'
 | .error z=>e=.panicked (gave z)/\Below w0.heap.size w0 w'
structure KR (p br:Nat) (W w:World):Prop where
 but:But p W w
 hr:w.heap[br]?=some (.cells #[.pointer (some ⟨p,0,none⟩)] 43 (0,0))
theorem KR.on {p br:Nat} {W w w':World} (h:KR p br W w) (hrp:br≠p) (hb:But p w w'):KR p br W w':=⟨h.but.trans hb,but_heap hb hrp h.hr⟩
def G2 (RD:Int × Nat->World->Prop) (X:Option (Int × Nat)) (p:Nat):Nat->Value->World->Prop
 | 0,v,_=>v=.pointer (some ⟨p,0,none⟩)
 | 1,v,_=>v=.pointer (some ⟨p,0,none⟩)
 | 2,v,w=>match X with
  | some x=>v=.int .i64 x.1/\RD x w
  | none=>False
 | 3,v,_=>v=.pointer (some ⟨p,0,none⟩)
 | _,v,_=>v=.pointer (some ⟨p,13,none⟩)
def eF (p:Nat) (z:Int) (L:Nat) (o:Option Addr) (cap:Nat):Nat->Value
 | 0=>.pointer (some ⟨p,0,none⟩)
 | 1=>.pointer (some ⟨p,0,none⟩)
 | 2=>.pointer (some ⟨p,13,none⟩)
 | 3=>.int .i64 z
 | 4=>.pointer (some ⟨p,0,none⟩)
 | 5=>.pointer (some ⟨p,0,none⟩)
 | 6=>.pointer (some ⟨p,3,none⟩)
 | 7=>.pointer (some ⟨p,5,none⟩)
 | 8=>.slice o L cap
 | 9=>.int .i64 (L:Int)
 | _=>.bool (z == (L:Int))
structure LF (w0:World) (p:Nat) (s:ByteArray) (c:Nat->Value) (en g ob L:Nat) (ty:Nat->Int) (w:World) (j n q:Nat) (fs:List (List Int × IL 81)) (a b:Nat->Value) (jq nq:Nat) (wr:World):Prop where
 rs:RS w0 p s c en L jq nq wr
 few:nq<=65536
 len:fs.length=q
 run:rfs s en L [] j n=rfs s en (L-q) fs jq nq
 fb:0<L->FB g ob L ty a b wr/\∀q' x,fs[q']?=some x->IntsS wr (Since w.heap.size wr none) (a q') x.1/\AtS wr (Since w.heap.size wr none) 81 (b q') x.2
 bu:Bu2 p g w wr
 hr:wr.heap[w.heap.size]?=some (.cells #[.pointer (some ⟨p,0,none⟩)] 43 (0,0))
theorem LF.on {w0:World} {p:Nat} {s:ByteArray} {c:Nat->Value} {en g ob L:Nat} {ty:Nat->Int} {w:World} {j n q:Nat} {fs:List (List Int × IL 81)} {a b:Nat->Value} {jq nq:Nat} {wr wr':World} (h:LF w0 p s c en g ob L ty w j n q fs a b jq nq wr) (hb:Below wr.heap.size wr wr'):LF w0 p s c en g ob L ty w j n q fs a b jq nq wr' :=
 ⟨h.rs.on hb,h.few,h.len,h.run,fun h0=>⟨(h.fb h0).1.keep (hb.block g (h.fb h0).1.lt),fun q' x hx=>⟨((h.fb h0).2 q' x hx).1.keep (since_below hb),AtS.keep (since_below hb) _ _ _ ((h.fb h0).2 q' x hx).2⟩⟩,h.bu.trans (Bu2.of (But.of p hb)),heap_on hb h.hr⟩
end Dec
set_option maxRecDepth 100000 in
set_option maxHeartbeats 4000000 in
theorem dFunctions (w0:World) (p:Nat) (s:ByteArray) (c:Nat->Value) (en k i n g ob L cap:Nat) (o:Option Addr) (ty:Nat->Int) (a b:Nat->Value) (w:World) (h:RS w0 p s c en k i n w) (hn:n<=65536) (hc:c 2=.slice o L cap)
  (hf:0<L->o=some ⟨g,ob,none⟩/\FB g ob L ty a b w/\g≠p/\w0.heap.size<=g) :
  Calls Tryd.prog 37 #[.pointer (some ⟨p,0,none⟩)] w (FnsR w0 p s c en g ob L ty w (rcode s en L i n)):=by
 obtain ⟨w1,hw1⟩:∃w1,w1=w.alloc (.cells #[.pointer (some ⟨p,0,none⟩)] 43):=⟨_,rfl⟩
 have hb1:Below w.heap.size w w1:=by rw [hw1];exact new_on' w _
 have hr1:w1.heap[w.heap.size]?=some (.cells #[.pointer (some ⟨p,0,none⟩)] 43 (0,0)):=by rw [hw1];exact heap_alloc_new' _ _ rfl
 have hd:Below w1.heap.size w1 w1.drew:=⟨rfl,rfl,rfl,Nat.le_refl _,fun _ _=>rfl⟩
 have hpw:=h.lt
 have hlen:=h.len
 have hrp:w.heap.size≠p:=by omega
 have HL:=fun u hu=>hideR (dCnt w0 p s c en k i n u hu)
 have HK:Hid (KR p w.heap.size w w1.drew):=hideR ⟨But.of p (below_go' hb1 hd),heap_on hd hr1⟩
 have HR:=hideR ((h.on hb1).on hd)
 have HF:=hideR hf
 have HW:=hideR hw1
 generalize hX:rc s en i=X at HL
 clear h hf hb1 hr1 hd hw1
 go_enter Tryd.func37,Tryd.ntmps37
 go_wp2_with fail
 rw [<- HW.out]
 clear HW
 refine Reg.wp_region_eff 5 (fun i=>4+i) (fp1 p) (KR p w.heap.size w) (fun j u=>j=2->RS w0 p s c en k i n u) (G2 (fun x u=>RS w0 p s c en k x.2 n u) (match X with | .ok x=>some x | .error _=>none) p) (by kernel_rfl) (by kernel_rfl) (fun i j h1 h2 h=>by have h':4+i=4+j:=h;omega) (Reg.dst_ok (size:=41) (by kernel_rfl)) ?hstab ?hres ?hK ?hstep ?htail HK.out (fun j hj e=>HR.out)
 case hK=>exact fun k' u u' hk hKu hg=>hKu.on hrp (grown_but (fp1_or p k') hg)
 case hres =>
  intro i' k' u u' hi hk hne hRu hg e
  subst e
  have:fp1 p k'=none:=by unfold fp1;rw [if_neg (by omega)]
  rw [this] at hg
  exact (hRu rfl).on (grown_below hg)
 case hstab =>
  intro i' k' v u u' hi hk hne hKu hG hg
  match i',hi with
  | 0,_=>exact hG
  | 1,_=>exact hG
  | 2,_ =>
   have:fp1 p k'=none:=by unfold fp1;rw [if_neg (by omega)]
   rw [this] at hg
   cases X with
   | error z=>exact hG
   | ok x=>exact ⟨hG.1,RS.on hG.2 (grown_below hg)⟩
  | 3,_=>exact hG
  | 4,_=>exact hG
 case hstep =>
  intro j o1 a1 u hj ho hF hKu hRu hd
  have c1:=box_cell hKu.hr
  have q0:a1.tmps[1]?.getD undef=.pointer (some ⟨w.heap.size,0,none⟩):=Reg.ev_get (hF.eval 1 (fun i hi=>by show 4+i≠1;omega))
  have hcase:j=0\/j=1\/j=2\/j=3\/j=4:=by omega
  clear hj
  rcases hcase with rfl|rfl|rfl|rfl|rfl
  all_goals (simp only [List.getElem?_toArray,List.getElem?_cons_succ,List.getElem?_cons_zero,Option.some.injEq] at ho;subst ho;refine Reg.step_k fun K hK=>?_)
  ·go_simp
   exact hK _ _ ⟨_,rfl,below_grown0 (Below.refl _ _),rfl⟩
  ·go_simp
   exact hK _ _ ⟨_,rfl,below_grown0 (Below.refl _ _),rfl⟩
  ·have q3:a1.tmps[5]?.getD undef=.pointer (some ⟨p,0,none⟩):=Reg.ev_get (hd 1 (by decide))
   go_simp
   refine (HL u (hRu rfl)).out.mono ?_
   intro e u2 hr2
   cases X with
   | error z =>
    obtain ⟨rfl,hb⟩:=hr2
    refine ⟨hF.defers,?_⟩
    unfold rcode
    rw [hX]
    exact ⟨rfl,hb⟩
   | ok x =>
    obtain ⟨l,j⟩:=x
    obtain ⟨⟨v,rfl,hv⟩,h1,h2⟩:=hr2
    exact hK _ _ ⟨_,rfl,h2,hv,h1⟩
  ·have q2:a1.tmps[4]?.getD undef=.pointer (some ⟨p,0,none⟩):=Reg.ev_get (hd 0 (by decide))
   go_simp
   exact hK _ _ ⟨_,rfl,below_grown0 (Below.refl _ _),rfl⟩
  ·have q2:a1.tmps[7]?.getD undef=.pointer (some ⟨p,0,none⟩):=Reg.ev_get (hd 3 (by decide))
   go_simp
   exact hK _ _ ⟨_,rfl,below_grown0 (Below.refl _ _),rfl⟩
 case htail =>
  intro a1 u hF hKu hG
  have hG2:=hG 2 (by omega)
  cases X with
  | error z=>exact absurd hG2 id
  | ok x =>
   obtain ⟨z,j⟩:=x
   obtain ⟨hv,hrs⟩:=hG2
   have hv:a1.eval (.tmp 6)=.int .i64 z:=hv
   have hrs:RS w0 p s c en k j n u:=hrs
   have g4:a1.eval (.tmp 8)=.pointer (some ⟨p,13,none⟩):=hG 4 (by omega)
   have hrc:=rc_ok hlen hX
   obtain ⟨z,rfl⟩:=Int.eq_ofNat_of_zero_le hrc.2.2.1
   obtain ⟨xl,hxl,rfl,hev⟩:=hF.lit (by simp)
   obtain ⟨x0,x1,x2,x3,x4,rfl⟩:=len5 hxl
   have e2:=hev 2 (by omega)
   have e4:=hev 4 (by omega)
   simp only [List.getD_cons_succ,List.getD_cons_zero] at e2 e4
   rw [show (4+4)=8 from rfl,g4] at e4
   rw [show (4+2)=6 from rfl,hv] at e2
   subst e4 e2
   clear hev hxl hF hG g4 hv HL HR HK
   have c1:=hrs.cell 13 _ rfl
   have f1:=hrs.frz 13
   obtain ⟨W1,hW1⟩:∃W1,W1=u.setCell ⟨p,13,none⟩ (.int .i64 (z:Int)):=⟨_,rfl⟩
   have hR1:RS w0 p s c en z j n W1:=by rw [hW1];exact hrs.cod z
   have hK1:KR p w.heap.size w W1:=by rw [hW1];exact hKu.on hrp (But.set p 13 u _)
   have HRC:Hid (rcode s en L i n=if (z:Int)=(L:Int) then rfs s en L [] j n else .error 50):=hideR (by unfold rcode;rw [hX];rfl)
   have HW1:=hideR hW1
   have HR1:=hideR hR1
   have HK1:=hideR hK1
   clear hR1 hK1 hrs hKu hW1 hX
   simp only [List.take_succ_cons,List.take_zero,List.drop_succ_cons,List.drop_zero,List.cons_append,List.nil_append]
   go_wp2_with fail
   rw [<- HW1.out]
   clear HW1
   have cb:=box_cell HK1.out.hr
   have c13:=HR1.out.cell 13 _ rfl
   have c5:W1.cell? ⟨p,5,none⟩=some (c 2):=HR1.out.cell 5 _ rfl
   rw [hc] at c5
   by_cases hz:z=L
   ·subst hz
    have dq:((z:Int) == (z:Int))=true:=by simp
    go_quiet (first|(go_at_call 9;exact Calls.quiet_of_same (needY _ _)))
    have HN1:=hideR (below_drewN' W1 nq)
    have HL0:Hid (LF w0 p s c en g ob z ty w j n 0 [] a b j n (W1.drewN nq)):=hideR (LF.on (wr:=W1) ⟨HR1.out,hn,rfl,rfl,fun h0=>⟨(HF.out h0).2.1.keep (HK1.out.but.block g (HF.out h0).2.1.lt (by simpa using (HF.out h0).2.2.1)),fun q' x hx=>by simp at hx⟩,Bu2.of HK1.out.but,HK1.out.hr⟩ HN1.out)
    generalize W1.drewN nq=W2 at *
    clear HN1 cb c13 c5 HR1 HK1
    have cb:=box_cell HL0.out.hr
    have c5:W2.cell? ⟨p,5,none⟩=some (c 2):=HL0.out.rs.cell 5 _ rfl
    rw [hc] at c5
    go_wp2_with fail
    clear cb c5
    go_loopw [27] (fun u wr=>∃(q:Nat) (fs:List (List Int × IL 81)) (a b:Nat->Value) (jq nq:Nat),u=.int .i64 q/\q<=z/\Hid (LF w0 p s c en g ob z ty w j n q fs a b jq nq wr)) (fun u _=>z-(RowKit.intOf u).toNat)
    case atStart=>exact ⟨0,[],a,b,j,n,rfl,by omega,HL0⟩
    case round =>
     clear HL0
     obtain ⟨q,fs,a2,b2,jq,nq,rfl,hq,HL⟩:=hrel
     by_cases hgo:q<z
     ·obtain ⟨rfl,hF0,hgp,hg0⟩:=HF.out (by omega)
      have hgw:=hF0.lt
      have cb:=box_cell HL.out.hr
      have c5:wr.cell? ⟨p,5,none⟩=some (c 2):=HL.out.rs.cell 5 _ rfl
      rw [hc] at c5
      have hwp:=HL.out.bu.size
      obtain ⟨W3,hW3⟩:∃W3,W3=wr.alloc (.cells #[.pointer (some ⟨g,ob+q*3,none⟩)] 97):=⟨_,rfl⟩
      have hb3:Below wr.heap.size wr W3:=by rw [hW3];exact new_on' wr _
      have hx3:W3.heap[wr.heap.size]?=some (.cells #[.pointer (some ⟨g,ob+q*3,none⟩)] 97 (0,0)):=by
       rw [hW3]
       exact heap_alloc_new' _ _ rfl
      have HL3:=hideR (HL.out.on hb3)
      have hs3:=hb3.size
      have hl3:wr.heap.size<W3.heap.size:=(Array.getElem?_eq_some_iff.1 hx3).1
      have HZ:=hideR (dSizedF w0 p s c en z jq nq g ob z ty a2 b2 q w.heap.size wr.heap.size W3 HL3.out.rs HL3.out.few (HL3.out.fb (by omega)).1 hgo hgp hg0 (by omega) (by omega) hrp (by omega) HL3.out.hr hx3)
      have HW3:=hideR hW3
      have HX3:=hideR hx3
      have hrun:=HL3.out.run
      have hr1:z-q=(z-(q+1))+1:=by omega
      rw [hr1,rfs_step] at hrun
      generalize hY:rsizedF s en jq nq=Y at HZ hrun
      have HRUN:=hideR hrun
      clear hrun hW3 hx3 hb3 hF0
      have cb3:=box_cell HL3.out.hr
      go_upto_region 7 with fail
      rw [<- HW3.out]
      clear HW3 cb c5
      have HL0:=HL
      clear HL
      go_wp2_with fail
      refine HZ.out.mono ?_
      intro e w4 hr4
      cases Y with
      | error zz =>
       obtain ⟨rfl,hb⟩:=hr4
       refine ⟨rfl,?_⟩
       rw [HRC.out,if_pos trivial,HRUN.out]
       exact ⟨rfl,hb⟩
      | ok x =>
       obtain ⟨x,j4,n4⟩:=x
       obtain ⟨rfl,⟨vl,vb,h4,f4,i4,a4⟩,b4⟩:=hr4
       have hb4:w.heap.size<=W3.heap.size:=by omega
       have HL4:Hid (LF w0 p s c en g ob z ty w j n (q+1) (fs++[x]) (upd a2 q vl) (upd b2 q vb) j4 n4 w4):=hideR (by
        have hkp:∀k',Since w.heap.size W3 none k'->Since w.heap.size w4 none k'/\w4.heap[k']?=W3.heap[k']?:=fun k' hk'=>⟨⟨hk'.1,Nat.lt_of_lt_of_le hk'.2.1 b4.size,by simp⟩,b4.block k' hk'.2.1 (by have:=hk'.1;omega) (by have:=hk'.1;omega)⟩
        have hk2:∀k',Since W3.heap.size w4 none k'->Since w.heap.size w4 none k'/\w4.heap[k']?=w4.heap[k']?:=fun k' hk'=>⟨⟨Nat.le_trans hb4 hk'.1,hk'.2⟩,rfl⟩
        refine ⟨h4,rsizedF_nb HL3.out.few hY,by rw [List.length_append,HL3.out.len];rfl,HRUN.out,fun h0=>⟨f4,fun q' y hy=>?_⟩,HL3.out.bu.trans b4,b4.heap hrp (by omega) HL3.out.hr⟩
        by_cases hqq:q'=q
        ·subst hqq
         rw [List.getElem?_append_right (by rw [HL3.out.len];omega),HL3.out.len,Nat.sub_self] at hy
         have hy:x=y:=by simpa using hy
         subst hy
         unfold upd
         rw [if_pos rfl,if_pos rfl]
         exact ⟨i4.keep hk2,AtS.keep hk2 _ _ _ a4⟩
        ·have hlt:q'<fs.length:=by
          have:=(List.getElem?_eq_some_iff.1 hy).1
          rw [List.length_append,HL3.out.len] at this
          rw [HL3.out.len]
          simp at this
          omega
         rw [List.getElem?_append_left hlt] at hy
         unfold upd
         rw [if_neg hqq,if_neg hqq]
         have:=(HL3.out.fb h0).2 q' y hy
         exact ⟨this.1.keep hkp,AtS.keep hkp _ _ _ this.2⟩)
       clear h4 f4 i4 a4 b4 HZ HL3 HL0 cb3 HX3
       go_wp2
       go_roundw
       case rel=>exact ⟨q+1,_,_,_,j4,n4,by go_num,by omega,HL4⟩
       case measure=>simp [RowKit.intOf];omega
     ·obtain rfl:q=z:=by omega
      have HFIN:Hid (FnsR w0 p s c en g ob q ty w (rcode s en q i n) (.returned (.tuple #[])) wr):=hideR (by
       rw [HRC.out,if_pos trivial,HL.out.run,Nat.sub_self]
       exact ⟨rfl,⟨HL.out.rs,HL.out.len,fun h0=>⟨a2,b2,HL.out.fb h0⟩⟩,HL.out.bu⟩)
      clear HL
      go_wp2
      go_end0
      exact HFIN.out
   ·have hzi:¬ (z:Int)=(L:Int):=by omega
    refine Reg.wp_region_two 11 (fun i=>9+i) (fun j v _=>v=eF p (z:Int) L o cap j) (by kernel_rfl) (by kernel_rfl) (fun i j h1 h2 h=>by have h':9+i=9+j:=h;omega) (Reg.dst_ok (size:=41) (by kernel_rfl)) (fun i v w w' _ h _=>h) ?hstep2 ?htail2
    case hstep2 =>
     intro j o1 a1 u hj ho hF2 hB hd
     have f1:a1.tmps[1]?.getD undef=.pointer (some ⟨w.heap.size,0,none⟩):=Reg.ev_get (hF2.eval 1 (fun i hi=>by show 9+i≠1;omega))
     have db:=cell_on hB cb
     have d13:=cell_on hB c13
     have d5:=cell_on hB c5
     have hcase:j=0\/j=1\/j=2\/j=3\/j=4\/j=5\/j=6\/j=7\/j=8\/j=9\/j=10:=by omega
     clear hj cb c13 c5
     rcases hcase with rfl|rfl|rfl|rfl|rfl|rfl|rfl|rfl|rfl|rfl|rfl
     all_goals (simp only [List.getElem?_toArray,List.getElem?_cons_succ,List.getElem?_cons_zero,Option.some.injEq] at ho;subst ho;refine Reg.step_k fun K hK=>?_)
     ·go_simp
      exact hK _ _ ⟨_,rfl,Below.refl _ _,rfl⟩
     ·have q:a1.tmps[9]?.getD undef=.pointer (some ⟨p,0,none⟩):=Reg.ev_get (hd 0 (by decide))
      go_simp
      exact hK _ _ ⟨_,rfl,Below.refl _ _,rfl⟩
     ·have q:a1.tmps[10]?.getD undef=.pointer (some ⟨p,0,none⟩):=Reg.ev_get (hd 1 (by decide))
      go_simp
      exact hK _ _ ⟨_,rfl,Below.refl _ _,rfl⟩
     ·have q:a1.tmps[11]?.getD undef=.pointer (some ⟨p,13,none⟩):=Reg.ev_get (hd 2 (by decide))
      go_simp
      exact hK _ _ ⟨_,rfl,Below.refl _ _,rfl⟩
     ·go_simp
      exact hK _ _ ⟨_,rfl,Below.refl _ _,rfl⟩
     ·have q:a1.tmps[13]?.getD undef=.pointer (some ⟨p,0,none⟩):=Reg.ev_get (hd 4 (by decide))
      go_simp
      exact hK _ _ ⟨_,rfl,Below.refl _ _,rfl⟩
     ·have q:a1.tmps[14]?.getD undef=.pointer (some ⟨p,0,none⟩):=Reg.ev_get (hd 5 (by decide))
      go_simp
      exact hK _ _ ⟨_,rfl,Below.refl _ _,rfl⟩
     ·have q:a1.tmps[15]?.getD undef=.pointer (some ⟨p,3,none⟩):=Reg.ev_get (hd 6 (by decide))
      go_simp
      exact hK _ _ ⟨_,rfl,Below.refl _ _,rfl⟩
     ·have q:a1.tmps[16]?.getD undef=.pointer (some ⟨p,5,none⟩):=Reg.ev_get (hd 7 (by decide))
      go_simp
      exact hK _ _ ⟨_,rfl,Below.refl _ _,rfl⟩
     ·have q:a1.tmps[17]?.getD undef=.slice o L cap:=Reg.ev_get (hd 8 (by decide))
      go_simp
      exact hK _ _ ⟨_,rfl,Below.refl _ _,rfl⟩
     ·have q:a1.tmps[12]?.getD undef=.int .i64 (z:Int):=Reg.ev_get (hd 3 (by decide))
      have q2:a1.tmps[18]?.getD undef=.int .i64 (L:Int):=Reg.ev_get (hd 9 (by decide))
      have dq:((z:Int) == (L:Int))=false:=by simp;omega
      go_simp
      exact hK _ _ ⟨_,rfl,Below.refl _ _,dq.symm ▸ rfl⟩
    case htail2 =>
     intro a1 u hF2 hB hG
     have dq:((z:Int) == (L:Int))=false:=by simp;omega
     have q:a1.tmps[19]?.getD undef=.bool false:=by rw [<- dq];exact Reg.ev_get (hG 10 (by decide))
     simp only [List.drop_succ_cons,List.drop_zero]
     refine wpList_plain rfl fun K hK=>?_
     go_simp
     refine (needN _ _).mono ?_
     rintro e u2 ⟨rfl,rfl⟩
     refine ⟨hF2.defers,?_⟩
     rw [HRC.out,if_neg hzi]
     exact ⟨rfl,HR1.out.below.trans (hB.mono HR1.out.below.size)⟩
end Go.Proofs.YtgbbmdknbflilaaDoor

namespace Go.Proofs.YtgbbmdknbflilaaDoor
open Go.RowKit Rep Dec
set_option linter.unusedVariables false
set_option maxRecDepth 100000 in
set_option maxHeartbeats 4000000 in
theorem sec10 (w0:World) (p:Nat) (s:ByteArray) (c:Nat->Value) (en k i n g ob L cap:Nat) (o:Option Addr) (ty:Nat->Int) (a b:Nat->Value) (w:World) (h:RS w0 p s c en k i n w) (hn:n<=65536) (hc:c 2=.slice o L cap)
  (hf:0<L->o=some ⟨g,ob,none⟩/\FB g ob L ty a b w/\g≠p/\w0.heap.size<=g) :
  Calls Tryd.prog 17 #[.pointer (some ⟨p,0,none⟩),.int .i64 10] w (FnsR w0 p s c en g ob L ty w (rcode s en L i n)):=by
 have HC:=hideR (dFunctions w0 p s c en k i n g ob L cap o ty a b w h hn hc hf)
 clear h hf
 generalize rcode s en L i n=R at HC ⊢
 go_enter Tryd.func17,Tryd.ntmps17
 go_wp2_with fail
 refine HC.out.mono ?_
 intro e u hr
 cases R with
 | error z =>
  obtain ⟨rfl,hb⟩:=hr
  exact ⟨rfl,rfl,hb⟩
 | ok v =>
  obtain ⟨fs,j,m⟩:=v
  obtain ⟨rfl,hr⟩:=hr
  have HR:=hideR hr
  clear hr HC
  go_wp2
  go_end0
  exact ⟨rfl,HR.out⟩
end Go.Proofs.YtgbbmdknbflilaaDoor

namespace Go.Proofs.YtgbbmdknbflilaaDoor
open Go.RowKit Rep Dec
set_option linter.unusedVariables false
namespace Dec
structure EI (w u:World):Prop where
 b4:u.heap[w.heap.size]?=some (.cells #[.slice none 0 0] 65 (0,0))
 b5:u.heap[w.heap.size+1]?=some (.cells #[.int .i64 0] 3 (0,0))
 b6:u.heap[w.heap.size+2]?=some (.cells #[.int .i64 0] 34 (0,0))
 bel:Below w.heap.size w u
def ew (w:World):World:=((w.alloc (.cells #[.slice none 0 0] 65)).alloc (.cells #[.int .i64 0] 3)).alloc (.cells #[.int .i64 0] 34)
theorem EI.start (w:World):EI w (ew w):=by
 have h1:(w.alloc (.cells #[.slice none 0 0] 65)).heap[w.heap.size]?=some (.cells #[.slice none 0 0] 65 (0,0)):=heap_alloc_new' w _ rfl
 have h2:((w.alloc (.cells #[.slice none 0 0] 65)).alloc (.cells #[.int .i64 0] 3)).heap[w.heap.size+1]?=some (.cells #[.int .i64 0] 3 (0,0)):=heap_alloc_new' _ _ (by simp)
 have h3:(ew w).heap[w.heap.size+2]?=some (.cells #[.int .i64 0] 34 (0,0)):=heap_alloc_new' _ _ (by simp)
 exact ⟨heap_alloc_of (heap_alloc_of h1),heap_alloc_of h2,h3,below_go' (below_go' (new_on' _ _) (new_on' _ _)) (new_on' _ _)⟩
theorem EI.on {w u u':World} (h:EI w u) (hb:Below u.heap.size u u'):EI w u' :=
 ⟨by rw [hb.block _ (Array.getElem?_eq_some_iff.1 h.b4).1];exact h.b4,by rw [hb.block _ (Array.getElem?_eq_some_iff.1 h.b5).1];exact h.b5,by rw [hb.block _ (Array.getElem?_eq_some_iff.1 h.b6).1];exact h.b6,below_go' h.bel hb⟩
def e3 (w u:World) (v y x:Value):World:=((u.setCell ⟨w.heap.size,0,none⟩ v).setCell ⟨w.heap.size+1,0,none⟩ y).setCell ⟨w.heap.size+2,0,none⟩ x
theorem EI.set {w u:World} (h:EI w u) (v y x:Value):(e3 w u v y x).cell? ⟨w.heap.size,0,none⟩=some v/\(e3 w u v y x).cell? ⟨w.heap.size+1,0,none⟩=some y/\(e3 w u v y x).cell? ⟨w.heap.size+2,0,none⟩=some x/\Below w.heap.size w (e3 w u v y x):=by
 have a4:=heap_setCell_same u w.heap.size 0 _ _ v h.b4
 have a5:=heap_setCell_same (u.setCell ⟨w.heap.size,0,none⟩ v) (w.heap.size+1) 0 _ _ y (by rw [Below.heap_setCell _ _ _ _ (by show w.heap.size+1≠w.heap.size;omega)];exact h.b5)
 have a6:=heap_setCell_same ((u.setCell ⟨w.heap.size,0,none⟩ v).setCell ⟨w.heap.size+1,0,none⟩ y) (w.heap.size+2) 0 _ _ x (by rw [Below.heap_setCell _ _ _ _ (by show w.heap.size+2≠w.heap.size+1;omega),Below.heap_setCell _ _ _ _ (by show w.heap.size+2≠w.heap.size;omega)];exact h.b6)
 refine ⟨?_,?_,?_,((h.bel.setCell (Nat.le_refl _) v).setCell (by show w.heap.size<=w.heap.size+1;omega) y).setCell (by show w.heap.size<=w.heap.size+2;omega) x⟩
 ·unfold e3
  rw [cell_oth (by show w.heap.size≠w.heap.size+2;omega),cell_oth (by show w.heap.size≠w.heap.size+1;omega)]
  unfold World.cell?;rw [a4];rfl
 ·unfold e3
  rw [cell_oth (by show w.heap.size+1≠w.heap.size+2;omega)]
  unfold World.cell?;rw [a5];rfl
 ·unfold e3
  unfold World.cell?;rw [a6];rfl
end Dec
end Go.Proofs.YtgbbmdknbflilaaDoor

namespace Go.Proofs.YtgbbmdknbflilaaDoor
open Go.RowKit Rep Dec
set_option linter.unusedVariables false
namespace Dec
theorem cells_heap (g:Nat) (t:TypeId):∀(vs:List Value) (o:Nat) (w:World) (cur:Array Value),w.heap[g]?=some (.cells cur t (0,0))->o+vs.length<=cur.size ->
  (w.setCells g o vs).heap[g]?=some (.cells (cur.toList.take o++vs++cur.toList.drop (o+vs.length)).toArray t (0,0))
 | [],o,w,cur,h,_=>by simpa [World.setCells] using h
 | v :: r,o,w,cur,h,hl=>by
  simp only [List.length_cons] at hl
  have h1:=cells_heap g t r (o+1) (w.setCell ⟨g,o,none⟩ v) (cur.setIfInBounds o v) (heap_setCell_same w g o cur t v h) (by rw [Array.size_setIfInBounds];omega)
  rw [World.setCells,h1,Array.toList_setIfInBounds]
  have hs:o<cur.toList.length:=by rw [Array.length_toList];omega
  have e1:(cur.toList.set o v).take (o+1)=cur.toList.take o++[v]:=by
   rw [List.take_add_one,List.take_set_of_le (Nat.le_refl o),List.getElem?_set_self hs];rfl
  have e2:(cur.toList.set o v).drop (o+1+r.length)=cur.toList.drop (o+1+r.length):=List.drop_set_of_lt (by omega)
  rw [e1,e2]
  simp only [List.length_cons,List.append_assoc,List.cons_append,List.nil_append]
  rw [show o+1+r.length=o+(r.length+1) by omega]
theorem cells_other (g k:Nat) (hk:k≠g):∀(vs:List Value) (o:Nat) (w:World),(w.setCells g o vs).heap[k]?=w.heap[k]?
 | [],_,_=>rfl
 | v :: r,o,w=>by rw [World.setCells,cells_other g k hk r,Below.heap_setCell _ _ _ _ (by exact hk)]
theorem cells_size (g:Nat):∀(vs:List Value) (o:Nat) (w:World),(w.setCells g o vs).heap.size=w.heap.size
 | [],_,_=>rfl
 | v :: r,o,w=>by rw [World.setCells,cells_size g r];simp
theorem cells_but (g:Nat):∀(vs:List Value) (o:Nat) (w:World),But g w (w.setCells g o vs)
 | [],_,w=>But.refl _ _
 | v :: r,o,w=>(But.set g o w v).trans (cells_but g r (o+1) _)
theorem ten_heap {w:World} {b:Nat} {t:TypeId} {cs vs:Array Value} (h:w.heap[b]?=some (.cells cs t (0,0))) (hc:cs.size=10) (hv:vs.size=10):(w.setCells b 0 vs.toList).heap[b]?=some (.cells vs t (0,0)):=by
 rw [cells_heap b t vs.toList 0 w cs h (by simp;omega)]
 have hd:List.drop 10 cs.toList = []:=List.drop_eq_nil_of_le (by simp [hc])
 simp [hv,hd]
structure DI (w u:World):Prop where
 b4:u.heap[w.heap.size]?=some (.cells #[.slice none 0 0,.slice none 0 0,.slice none 0 0,.slice none 0 0,.slice none 0 0,.slice none 0 0,.slice none 0 0,.slice none 0 0,.slice none 0 0,.slice none 0 0] 33 (0,0))
 b5:u.heap[w.heap.size+1]?=some (.cells #[.int .i64 0] 34 (0,0))
 bel:Below w.heap.size w u
def dw (w:World):World:=(w.alloc (.cells #[.slice none 0 0,.slice none 0 0,.slice none 0 0,.slice none 0 0,.slice none 0 0,.slice none 0 0,.slice none 0 0,.slice none 0 0,.slice none 0 0,.slice none 0 0] 33)).alloc (.cells #[.int .i64 0] 34)
theorem DI.start (w:World):DI w (dw w):=by
 have h1:(w.alloc (.cells #[.slice none 0 0,.slice none 0 0,.slice none 0 0,.slice none 0 0,.slice none 0 0,.slice none 0 0,.slice none 0 0,.slice none 0 0,.slice none 0 0,.slice none 0 0] 33)).heap[w.heap.size]?=some (.cells #[.slice none 0 0,.slice none 0 0,.slice none 0 0,.slice none 0 0,.slice none 0 0,.slice none 0 0,.slice none 0 0,.slice none 0 0,.slice none 0 0,.slice none 0 0] 33 (0,0)):=heap_alloc_new' w _ rfl
 have h2:(dw w).heap[w.heap.size+1]?=some (.cells #[.int .i64 0] 34 (0,0)):=heap_alloc_new' _ _ (by simp)
 exact ⟨heap_alloc_of h1,h2,below_go' (new_on' _ _) (new_on' _ _)⟩
theorem DI.on {w u u':World} (h:DI w u) (hb:Below u.heap.size u u'):DI w u' :=
 ⟨by rw [hb.block _ (Array.getElem?_eq_some_iff.1 h.b4).1];exact h.b4,by rw [hb.block _ (Array.getElem?_eq_some_iff.1 h.b5).1];exact h.b5,below_go' h.bel hb⟩
theorem there_of {w:World} {b:Nat} {t:TypeId} {cs:Array Value} (h:w.heap[b]?=some (.cells cs t (0,0))) (hc:cs.size=10):w.there b 0 10:=fun j hj=>by
 refine ⟨?_,?_⟩
 ·unfold World.cell?;rw [h,Nat.zero_add]
  show (cs[j]?).isSome=true
  rw [Array.getElem?_eq_getElem (by omega)];rfl
 ·unfold World.frozen?;rw [h];simp
theorem size41:(Tryd.prog.info? 33).map (·.size)=some 10:=by kernel_rfl
end Dec
theorem dassert_yes (k:Int) (w:World):(Instr.typeAssert (.iface 34 (.int .i64 k)) 20 34 true).run Tryd.prog w=.ok (.tuple #[.int .i64 k,.bool true]) w:=by
 kernel_rfl
set_option maxRecDepth 100000 in
set_option maxHeartbeats 1000000 in
theorem decCatch (p q:Nat) (y:Value) (k:Int) (older:List PanicEntry) (w:World) (cs:Array Value) (hp:w.heap[p]?=some (.cells cs 33 (0,0))) (hc:cs.size=10) (hq:w.cell? ⟨q,0,none⟩=some y) (fq:w.frozen? ⟨q,0,none⟩=false) (hpq:q≠p) (W2:World) (hW2:w.setCells p 0 (#[.slice none 0 0,.slice none 0 0,.slice none 0 0,.slice none 0 0,.slice none 0 0,.slice none 0 0,.slice none 0 0,.slice none 0 0,.slice none 0 0,.slice none 0 0]:Array Value).toList=W2) :
  CallsD Tryd.prog 8 #[.pointer (some ⟨p,0,none⟩),.pointer (some ⟨q,0,none⟩)] (.panicking ({ v:=.iface 34 (.int .i64 k),recovered:=false } :: older)) w fun e u' w' =>
   e=.returned (.tuple #[])/\u'=.panicking ({ v:=.iface 34 (.int .i64 k),recovered:=true } :: older)/\w'=W2.setCell ⟨q,0,none⟩ (.int .i64 k):=by
 have hth:=there_of hp hc
 have hall:(#[.slice none 0 0,.slice none 0 0,.slice none 0 0,.slice none 0 0,.slice none 0 0,.slice none 0 0,.slice none 0 0,.slice none 0 0,.slice none 0 0,.slice none 0 0]:Array Value).all (·.oneCell')=true:=by simp [Value.oneCell']
 have hq':W2.cell? ⟨q,0,none⟩=some y:=by rw [<- hW2,World.cell?_of_block (w:=w) (cells_other p q hpq _ 0 w)];exact hq
 have fq':W2.frozen? ⟨q,0,none⟩=false:=by rw [<- hW2,World.frozen?_of_block (w:=w) (cells_other p q hpq _ 0 w)];exact fq
 have HW2:=hideR hW2
 clear hW2
 refine callsD_of_wpS Tryd.func8 rfl fun c₀ cs hu=>?_
 apply wpS_seq
 apply wpS_region
 simp [wpOpsS,go_sem,recoverD,hu,Tryd.ntmps8,Exit.thenS,dassert_yes]
 apply wpS_seq
 apply wpS_region
 simp [wpOpsS,go_sem,Exit.thenS]
 refine wpS_cond (t:=true) (by simp [Act.eval,Array.replicate]) ?_
 simp only [if_true]
 refine wpS_of_wp ?_
 go_wp2_with (refine wpList_store_mid rfl 33 (.tmp 0) (.tmp 10) rfl p 0 #[.slice none 0 0,.slice none 0 0,.slice none 0 0,.slice none 0 0,.slice none 0 0,.slice none 0 0,.slice none 0 0,.slice none 0 0,.slice none 0 0,.slice none 0 0] (by simp [Act.eval,Array.replicate]) (by simp [Act.eval,Array.replicate]) hth size41 hall ?_;rw [HW2.out])
 simp [bodyPostS,results,Tryd.results8]
theorem decIdle (p q:Nat) (w:World) :
  CallsD Tryd.prog 8 #[.pointer (some ⟨p,0,none⟩),.pointer (some ⟨q,0,none⟩)] .returning w fun e u' w'=>e=.returned (.tuple #[])/\u'=.returning/\w'=w:=by
 refine callsD_of_wpS Tryd.func8 rfl fun c₀ cs hu=>?_
 apply wpS_seq
 apply wpS_region
 simp [wpOpsS,go_sem,recoverD,hu,Tryd.ntmps8,Exit.thenS,xassert_no]
 apply wpS_seq
 apply wpS_region
 simp [wpOpsS,go_sem,Exit.thenS]
 refine wpS_cond (t:=false) (by simp [Act.eval,Array.replicate]) ?_
 simp only [Bool.false_eq_true,if_false]
 refine wpS_of_wp (wp_skip ?_)
 cases c₀
 simp_all [bodyPostS,results,Tryd.results8]
end Go.Proofs.YtgbbmdknbflilaaDoor

