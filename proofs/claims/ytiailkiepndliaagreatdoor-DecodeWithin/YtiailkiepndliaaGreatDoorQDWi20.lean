/- Texts that the claim needs. -/
import Derived.Test.YtiailkiepndliaaGreatDoorQDWi19
import Derived.Test.YtiailkiepndliaaGreatDoorQDWi1
import Derived.Test.YtiailkiepndliaaGreatDoorQDWi18
import Derived.Lib.AppendStr
import Derived.Test.YtiailkiepndliaaGreatDoorQDWi7
import Derived.Test.YtiailkiepndliaaGreatDoorQDWi2

namespace Go.Proofs.YtiailkiepndliaaGreatDoor
open Go.RowKit Rep
set_option linter.unusedVariables false
namespace Enc
theorem u8Info:(Tryz.prog.info? 5).map (fun i=>(i.zero,i.size,i.bytes))=some (some (.int .u8 0),1,1):=by kernel_rfl
def cells (bs:List Int):List Value:=bs.map (Value.int .u8)
structure WS (w0:World) (p:Nat) (c:Nat->Value) (v:Value) (bs:List Int) (w:World):Prop where
 below:Below w0.heap.size w0 w
 base:w0.heap.size<=p
 blk:w.heap[p]?=some (.cells #[c 0,c 1,c 2,c 3,c 4,c 5,c 6,c 7,c 8,c 9,v] 63 (0,0))
 own:w.ownsRow w0.heap.size 5 1 v bs.length (cells bs)
 apart:v.ownBlock≠some p
section
variable {w0 w w':World} {p:Nat} {c:Nat->Value} {v:Value} {bs:List Int}
theorem WS.cell (h:WS w0 p c v bs w):w.cell? ⟨p,10,none⟩=some v:=by unfold World.cell?;rw [h.blk];rfl
theorem WS.frz (h:WS w0 p c v bs w):w.frozen? ⟨p,10,none⟩=false:=by unfold World.frozen?;rw [h.blk];simp
theorem WS.lt (h:WS w0 p c v bs w):p<w.heap.size:=(Array.getElem?_eq_some_iff.1 h.blk).1
theorem WS.slice (h:WS w0 p c v bs w):∃o k,v=.slice o bs.length k:=by
 rcases h.own.2 with ⟨rfl,h0⟩|⟨g,cap,cur,rfl,_⟩
 ·rw [h0];exact ⟨none,0,rfl⟩
 ·exact ⟨_,_,rfl⟩
theorem own_on' {B:Nat} {e:TypeId} {size:Nat} {v:Value} {n:Nat} {xs:List Value} (h:w.ownsRow B e size v n xs) (hb:Below w.heap.size w w'):w'.ownsRow B e size v n xs :=
 ⟨h.1,h.2.imp id fun ⟨g,cap,cur,h1,h2,h3,h4⟩=>⟨g,cap,cur,h1,h2,by rw [hb.block g (Array.getElem?_eq_some_iff.1 h3).1];exact h3,h4⟩⟩
theorem WS.on (h:WS w0 p c v bs w) (hb:Below w.heap.size w w'):WS w0 p c v bs w' :=
 ⟨h.below.trans (hb.mono h.below.size),h.base,by rw [hb.block p h.lt];exact h.blk,own_on' h.own hb,h.apart⟩
theorem WS.store {w9:World} {v':Value} {bs':List Int} (h:WS w0 p c v bs w) (ho:w9.ownsRow w0.heap.size 5 1 v' bs'.length (cells bs')) (hg:w.grownBy w9 v.ownBlock):WS w0 p c v' bs' (w9.setCell ⟨p,10,none⟩ v'):=by
 have hp9:w9.heap[p]?=some (.cells #[c 0,c 1,c 2,c 3,c 4,c 5,c 6,c 7,c 8,c 9,v] 63 (0,0)):=by rw [hg.block p h.lt (fun e=>h.apart e.symm)];exact h.blk
 have hap:v'.ownBlock≠some p:=by
  rcases ho.2 with ⟨rfl,_⟩|⟨g,cap,cur,rfl,_,hgg,_⟩
  ·simp [Value.ownBlock]
  ·intro e
   have:g=p:=by simpa [Value.ownBlock] using e
   subst this
   rw [hgg] at hp9
   injection hp9 with hp9
   injection hp9 with _ hp9
   exact absurd hp9 (by decide)
 refine ⟨(h.below.grown hg h.below.size fun k hk=>(h.own.lt k hk).1).setCell h.base _,h.base,heap_setCell_same w9 p 10 _ _ v' hp9,?_,hap⟩
 refine ⟨ho.1,ho.2.imp id fun ⟨g,cap,cur,k1,k2,k3,k4⟩=>⟨g,cap,cur,k1,k2,?_,k4⟩⟩
 rw [Below.heap_setCell _ _ _ _ (by show g≠p;intro e;subst e;exact hap (by rw [k1];rfl))]
 exact k3
end
def Adds (bs add bs':List Int):Prop:=bs'=bs++add\/(262144<bs'.length/\262144<bs.length+add.length/\bs.length<=bs'.length)
theorem Adds.le {bs add bs':List Int} (h:Adds bs add bs'):bs.length<=bs'.length:=by
 rcases h with rfl|⟨_,_,h⟩
 ·rw [List.length_append];omega
 ·exact h
theorem Adds.refl (bs:List Int):Adds bs [] bs:=.inl (by simp)
theorem Adds.trans {a b c x y:List Int} (h:Adds a x b) (h':Adds b y c):Adds a (x++y) c:=by
 rcases h with rfl|⟨h1,h2,h5⟩
 ·rcases h' with rfl|⟨h3,h4,h6⟩
  ·exact .inl (by rw [List.append_assoc])
  ·exact .inr ⟨h3,by rw [List.length_append] at h4 ⊢;omega,by rw [List.length_append] at h6;omega⟩
 ·rcases h' with rfl|⟨h3,h4,h6⟩
  ·exact .inr ⟨by rw [List.length_append];omega,by rw [List.length_append];omega,by rw [List.length_append];omega⟩
  ·exact .inr ⟨h3,by rw [List.length_append];omega,by omega⟩
structure Kept (p:Nat) (v:Value) (w:World) (v':Value) (w':World):Prop where
 size:w.heap.size<=w'.heap.size
 block:∀k,k<w.heap.size->k≠p->some k≠v.ownBlock->w'.heap[k]?=w.heap[k]?
 own:∀k,v'.ownBlock=some k->v.ownBlock=some k\/w.heap.size<=k
theorem Kept.refl (p:Nat) (v:Value) (w:World):Kept p v w v w:=⟨Nat.le_refl _,fun _ _ _ _=>rfl,fun k h=>.inl h⟩
theorem Kept.trans {p:Nat} {v v1 v2:Value} {w w1 w2:World} (h:Kept p v w v1 w1) (h':Kept p v1 w1 v2 w2):Kept p v w v2 w2 :=
 ⟨Nat.le_trans h.size h'.size,fun k hk hp hv=>by
  rw [h'.block k (Nat.lt_of_lt_of_le hk h.size) hp (fun e=>?_),h.block k hk hp hv]
  rcases h.own k e.symm with h1|h1
  ·exact hv h1.symm
  ·omega,fun k hk=>by
  rcases h'.own k hk with h1|h1
  ·exact h.own k h1
  ·exact .inr (Nat.le_trans h.size h1)⟩
theorem Kept.below {p:Nat} {v:Value} {w w1:World} (hb:Below w.heap.size w w1):Kept p v w v w1:=⟨hb.size,fun k hk _ _=>hb.block k hk,fun k h=>.inl h⟩
theorem Kept.store {p i:Nat} {v v':Value} {w w9:World} (hg:w.grownBy w9 v.ownBlock) (hv:v'.ownBlock=v.ownBlock\/v'.ownBlock=some w.heap.size) (u:Value):Kept p v w v' (w9.setCell ⟨p,i,none⟩ u) :=
 ⟨by simpa using hg.size,fun k hk hp ho=>by rw [Below.heap_setCell _ _ _ _ (by show k≠p;exact hp),hg.block k hk ho],fun k hk=>by
  rcases hv with h|h
  ·exact .inl (h ▸ hk)
  ·rw [h] at hk;injection hk with hk;exact .inr (by omega)⟩
def Does (w0:World) (p:Nat) (c:Nat->Value) (v:Value) (w:World) (bs:List Int) (e:Ending) (w':World):Prop:=∃v',e=.returned (.tuple #[])/\WS w0 p c v' bs w'/\Kept p v w v' w'
end Enc
open Enc
theorem wrap_u8 (b:Int):IntKind.u8.wrap b=b%256:=by simp [IntKind.wrap,IntKind.signed,IntKind.bits]
set_option maxRecDepth 100000 in
set_option maxHeartbeats 1000000 in
theorem wPut (w0:World) (p:Nat) (c:Nat->Value) (v:Value) (bs:List Int) (b:Int) (w:World) (h:WS w0 p c v bs w) (hn:bs.length<=100000000000000) :
  Calls Tryz.prog 35 #[.pointer (some ⟨p,0,none⟩),.int .i64 b] w (Does w0 p c v w (bs++[b%256])):=by
 obtain ⟨o,k,rfl⟩:=h.slice
 have HS:=hideR h
 have kc:=h.cell
 clear h
 obtain ⟨i0,hi,hz0,hz1,hz2⟩:=info_parts u8Info
 have HSA:=hideR (HS.out.on (new_on' w (.cells #[.int .u8 (b%256)] 5)))
 have hw:=wrap_u8 b
 go_enter Tryz.func35,Tryz.ntmps35
 go_wp2_with (first|(at_builtin;refine wpList_appS rfl _ _ 61 rfl w0.heap.size 5 i0 _ 1 1 Tryz.underlying61 hi hz0 hz1 hz2 rfl (by decide) _ _ _ rfl HSA.out.own (some ⟨w.heap.size,0,none⟩) 1 1 [.int .u8 (b%256)] rfl ?c6 ?c0 ?c1 ?c2 ?c3 ?c4 ?c5 ?_))
 case c6=>intro h;cases h
 case c0=>rfl
 case c1=>exact fun ad h=>by injection h with h;subst h;exact one_new _ _ _
 case c2=>intro u hu;rw [List.mem_singleton.1 hu];rfl
 case c3=>unfold maxLen;omega
 case c4=>omega
 case c5=>exact HSA.out.below.size
 intro v' w9 hown hg hv
 have HKP:=hideR ((Kept.below (p:=p) (v:=.slice o bs.length k) (new_on' w (.cells #[.int .u8 (b%256)] 5))).trans (Kept.store (i:=10) hg (by simpa using hv) v'))
 have HE:=hideR (HSA.out.store (bs':=bs++[b%256]) (by rw [List.length_append];simpa [cells] using hown) hg)
 obtain ⟨o9,k9,rfl⟩:∃o9 k9,v'=.slice o9 (bs.length+1) k9:=by
  rcases hown.2 with ⟨rfl,h0⟩|⟨g,cap,cur,rfl,_⟩
  ·omega
  ·exact ⟨_,_,rfl⟩
 have hS9:WS w0 p c (.slice o bs.length k) bs (w.alloc (.cells #[.int .u8 (b%256)] 5)):=HSA.out
 have kc9:w9.cell? ⟨p,10,none⟩=some (.slice o bs.length k):=by rw [World.cell?_of_block (a:=⟨p,10,none⟩) (hg.block p hS9.lt (fun e=>hS9.apart e.symm))];exact hS9.cell
 have kf9:w9.frozen? ⟨p,10,none⟩=false:=by rw [World.frozen?_of_block (a:=⟨p,10,none⟩) (hg.block p hS9.lt (fun e=>hS9.apart e.symm))];exact hS9.frz
 clear hown hg hv hS9 HSA HS kc
 go_wp2
 go_end0
 exact ⟨_,rfl,HE.out,HKP.out⟩
end Go.Proofs.YtiailkiepndliaaGreatDoor

namespace Go.Proofs.YtiailkiepndliaaGreatDoor
open Go.RowKit Rep
set_option linter.unusedVariables false
namespace Reg
def midOk (ops:Array Oper) (n:Nat) (pure:Nat->Bool):Bool :=
 decide (n+1<ops.size) && (List.range ops.size).all (fun i=>(depsAt ops i).all (fun j=>decide (j<i)) && (decide (i<n) || (List.range i).all (fun j=>(clos ops [i] i).contains j || (decide (i=n) && pure j)))) && (List.range n).all (fun i=>!pure i || (depsAt ops i).isEmpty)
section
variable {P:Program} {ops:Array Oper} {Q:Exit->Act->World->Prop} {id:Nat} {a0:Act} {w0:World}
theorem wp_region_mid (n : Nat) (dst : Nat → Nat) (pure : Nat → Bool) (G : Nat → Value → World → Prop) (H : Value → World → Prop) (hm : P.follows .mixedOrders = true) (hT : midOk ops n pure = true)
    (hinj : ∀ i j, i < n + 1 → j < n + 1 → dst i = dst j → i = j)
    (hdst : ∀ i, i < n + 1 → ∃ o, ops[i]? = some o ∧ o.dst = some (dst i) ∧ o.guard = none ∧ dst i < a0.tmps.size)
    (hstab : ∀ i v w w', i < n → G i v w → Below w.heap.size w w' → G i v w')
    (hpure : ∀ i v w w', i < n → pure i = true → G i v w → G i v w')
    (hstep : ∀ i o a w, i < n → ops[i]? = some o → Fr a0 dst (n + 1) a → Below w0.heap.size w0 w → (∀ j ∈ deps o, G j (a.eval (.tmp (dst j))) w) → o.wp P a w (fun a' w' => ∃ v, a' = a.put o.dst v ∧ Below w.heap.size w w' ∧ G i v w') Q)
    (hstepP : ∀ i o a w, i < n → pure i = true → ops[i]? = some o → Fr a0 dst (n + 1) a → o.wp P a w (fun a' w' => ∃ v, a' = a.put o.dst v ∧ w' = w ∧ G i v w') Q)
    (happ : ∀ o a w, ops[n]? = some o → Fr a0 dst (n + 1) a → Below w0.heap.size w0 w → (∀ j, j < n → pure j = false → G j (a.eval (.tmp (dst j))) w) → o.wp P a w (fun a' w' => ∃ v, a' = a.put o.dst v ∧ H v w') Q)
    (htail : ∀ a w, Fr a0 dst (n + 1) a → (∀ i, i < n → pure i = true → G i (a.eval (.tmp (dst i))) w) → H (a.eval (.tmp (dst n))) w → wpList P ops Q (ops.toList.drop (n + 1)) a w) :
    (Code.region id ops true).wp P Q a0 w0 := by
  unfold midOk at hT
  rw [Bool.and_eq_true, Bool.and_eq_true, List.all_eq_true, List.all_eq_true, decide_eq_true_eq] at hT
  obtain ⟨⟨hn, hT2⟩, hT3⟩ := hT
  have hlow : ∀ i, i < ops.size → ∀ j ∈ depsAt ops i, j < i := fun i hi j hj => by
    have := hT2 i (List.mem_range.2 hi)
    rw [Bool.and_eq_true, List.all_eq_true] at this
    exact of_decide_eq_true (this.1 j hj)
  have hbig : ∀ (L : Array Bool) i, n ≤ i → i < ops.size → Closed ops L → (∀ j ∈ depsAt ops i, L.getD j false = true) → ∀ j, j < i → (i = n → pure j = false) → L.getD j false = true := fun L i hi hs hc hd j hj hp => by
    have := hT2 i (List.mem_range.2 hs)
    rw [Bool.and_eq_true, Bool.or_eq_true, decide_eq_true_eq] at this
    rcases this.2 with h | h
    · omega
    · have h2 := (List.all_eq_true.1 h) j (List.mem_range.2 hj)
      rw [Bool.or_eq_true] at h2
      rcases h2 with h2 | h2
      · have hjm : j ∈ clos ops [i] i := by simpa using h2
        rcases clos_mem hc hd i [i] (fun m hm => .inl (List.mem_singleton.1 hm)) j hjm with h | h
        · omega
        · exact h
      · rw [Bool.and_eq_true, decide_eq_true_eq] at h2
        rw [hp h2.1] at h2
        cases h2.2
  refine wp_region_inv (fun L a w => L.size = ops.size ∧ Closed ops L ∧
      (((∀ k, n ≤ k → L.getD k false = false) ∧ Fr a0 dst (n + 1) a ∧ Below w0.heap.size w0 w ∧ ∀ i, i < n → L.getD i false = true → G i (a.eval (.tmp (dst i))) w) ∨
       (L.getD n false = true ∧ (∀ k, n < k → L.getD k false = false) ∧ (∀ j, j < n → pure j = false → L.getD j false = true) ∧ Fr a0 dst (n + 1) a ∧ (∀ i, i < n → pure i = true → L.getD i false = true → G i (a.eval (.tmp (dst i))) w) ∧ H (a.eval (.tmp (dst n))) w) ∨
       Behind P ops Q (n + 1) L a w)) hm ?_ ?_ ?_
  · rintro L i a w hi ⟨hsz, hc, hph⟩
    obtain ⟨hLi, o, ho, hd⟩ := ready_deps hi
    obtain ⟨hiL, hLf⟩ := getD_false hLi
    have hd' : ∀ j ∈ depsAt ops i, L.getD j false = true := by rw [depsAt_some ho]; exact hd
    have hsz' : (L.setIfInBounds i true).size = ops.size := by rw [Array.size_setIfInBounds, hsz]
    have hc' : Closed ops (L.setIfInBounds i true) := fun m hm j hj => by
      rw [getD_set L i _ hiL] at hm ⊢
      split
      · rfl
      · by_cases he : m = i
        · subst he; exact hd' j hj
        · rw [if_neg he] at hm; exact hc m hm j hj
    have onBehind : ∀ k, k = i → n + 1 ≤ k → (∀ j, j < k → L.getD j false = true) → (∀ j, k ≤ j → L.getD j false = false) → wpList P ops Q (ops.toList.drop k) a w → wpOp P ops Q i (fun a w => (L.setIfInBounds i true).size = ops.size ∧ Closed ops (L.setIfInBounds i true) ∧
      (((∀ k, n ≤ k → (L.setIfInBounds i true).getD k false = false) ∧ Fr a0 dst (n + 1) a ∧ Below w0.heap.size w0 w ∧ ∀ j, j < n → (L.setIfInBounds i true).getD j false = true → G j (a.eval (.tmp (dst j))) w) ∨
       ((L.setIfInBounds i true).getD n false = true ∧ (∀ k, n < k → (L.setIfInBounds i true).getD k false = false) ∧ (∀ j, j < n → pure j = false → (L.setIfInBounds i true).getD j false = true) ∧ Fr a0 dst (n + 1) a ∧ (∀ j, j < n → pure j = true → (L.setIfInBounds i true).getD j false = true → G j (a.eval (.tmp (dst j))) w) ∧ H (a.eval (.tmp (dst n))) w) ∨
       Behind P ops Q (n + 1) (L.setIfInBounds i true) a w)) a w := by
      rintro k rfl hnk hk1 hk2 hwp
      have hks : k < ops.size := by omega
      have hcons : ops.toList.drop k = o :: ops.toList.drop (k + 1) := by
        rw [List.drop_eq_getElem_cons (by simpa using hks)]
        congr 1
        have := Array.getElem?_eq_getElem hks
        rw [ho] at this
        simpa using (Option.some.inj this).symm
      rw [hcons] at hwp
      have up : ∀ a w, wpList P ops Q (ops.toList.drop (k + 1)) a w → Behind P ops Q (n + 1) (L.setIfInBounds k true) a w := fun a w h =>
        ⟨k + 1, by omega, fun j hj => by
          rw [getD_set L k _ hiL]
          split
          · rfl
          · exact hk1 j (by omega), fun j hj => by
          rw [getD_set L k _ hiL, if_neg (by omega)]
          exact hk2 j (by omega), h⟩
      unfold wpOp
      rw [ho]
      unfold wpList at hwp
      show ite _ _ _
      split
      · rename_i hw
        rw [if_pos hw] at hwp
        exact hwp.imp (Oper.wp_mono fun a w h => ⟨hsz', hc', .inr (.inr (up a w h))⟩) (fun h => h)
      · rename_i hw
        rw [if_neg hw] at hwp
        exact ⟨hsz', hc', .inr (.inr (up _ _ hwp))⟩
    rcases hph with ⟨hk, hF, hB, hG⟩ | ⟨hLn, hk, hnp, hF, hG, hH⟩ | ⟨k, hnk, hk1, hk2, hwp⟩
    · rcases Nat.lt_trichotomy i n with hin | hin | hin
      · obtain ⟨o', ho', hod, hog, hos⟩ := hdst i (by omega)
        have : o' = o := by rw [ho] at ho'; exact (Option.some.inj ho').symm
        subst this
        have hs := hstep i o' a w hin ho hF hB (fun j hj => hG j (by have := hlow i (by omega) j (by rw [depsAt_some ho]; exact hj); omega) (hd j hj))
        unfold wpOp
        rw [ho]
        show ite _ _ _
        rw [if_pos (by simp [Region.wanted, hog])]
        refine .inl (Oper.wp_mono ?_ hs)
        rintro a' w' ⟨v, rfl, hBw, hGv⟩
        have hos' : dst i < a.tmps.size := by rw [hF.size]; exact hos
        refine ⟨hsz', hc', .inl ⟨fun k hnk => ?_, by rw [hod]; exact hF.put (by omega) v, ?_, fun j hj hLj => ?_⟩⟩
        · rw [getD_set L i _ hiL, if_neg (by omega)]; exact hk k hnk
        · exact hB.trans (hBw.mono hB.size)
        · rw [hod]
          by_cases he : j = i
          · subst he; rw [put_eval_same v hos']; exact hGv
          · rw [getD_set L i _ hiL, if_neg he] at hLj
            rw [put_eval_ne v (fun e => he (hinj i j (by omega) (by omega) e).symm)]
            exact hstab j _ w w' hj (hG j hj hLj) hBw
      · subst hin
        have h1 := hbig L i (Nat.le_refl _) (by omega) hc hd'
        obtain ⟨o', ho', hod, hog, hos⟩ := hdst i (by omega)
        have : o' = o := by rw [ho] at ho'; exact (Option.some.inj ho').symm
        subst this
        have hs := happ o' a w ho hF hB (fun j hj hp => hG j hj (h1 j hj (fun _ => hp)))
        have hGw : ∀ j, j < i → pure j = true → L.getD j false = true → ∀ w', G j (a.eval (.tmp (dst j))) w' := fun j hj hp hL w' => hpure j _ w w' hj hp (hG j hj hL)
        unfold wpOp
        rw [ho]
        show ite _ _ _
        rw [if_pos (by simp [Region.wanted, hog])]
        refine .inl (Oper.wp_mono ?_ hs)
        rintro a' w' ⟨v, rfl, hHv⟩
        have hos' : dst i < a.tmps.size := by rw [hF.size]; exact hos
        refine ⟨hsz', hc', .inr (.inl ⟨?_, fun k hnk => ?_, fun j hj hp => ?_, by rw [hod]; exact hF.put (by omega) v, fun j hj hp hLj => ?_, ?_⟩)⟩
        · rw [getD_set L i _ hiL, if_pos rfl]
        · rw [getD_set L i _ hiL, if_neg (by omega)]; exact hk k (by omega)
        · rw [getD_set L i _ hiL, if_neg (by omega)]; exact h1 j hj (fun _ => hp)
        · rw [getD_set L i _ hiL, if_neg (by omega)] at hLj
          rw [hod, put_eval_ne v (fun e => by have := hinj i j (by omega) (by omega) e; omega)]
          exact hGw j hj hp hLj w'
        · rw [hod, put_eval_same v hos']; exact hHv
      · have h1 := hbig L i (by omega) (by omega) hc hd' n hin (fun e => by omega)
        rw [hk n (Nat.le_refl _)] at h1; cases h1
    · rcases Nat.lt_trichotomy i n with hin | hin | hin
      · have hpi : pure i = true := by
          cases hpi : pure i with
          | true => rfl
          | false => rw [hnp i hin hpi] at hLf; cases hLf
        obtain ⟨o', ho', hod, hog, hos⟩ := hdst i (by omega)
        have : o' = o := by rw [ho] at ho'; exact (Option.some.inj ho').symm
        subst this
        unfold wpOp
        rw [ho]
        show ite _ _ _
        rw [if_pos (by simp [Region.wanted, hog])]
        refine .inl (Oper.wp_mono ?_ (hstepP i o' a w hin hpi ho hF))
        rintro a' w' ⟨v, rfl, rfl, hGv⟩
        have hos' : dst i < a.tmps.size := by rw [hF.size]; exact hos
        refine ⟨hsz', hc', .inr (.inl ⟨?_, fun k hnk => ?_, fun j hj hp => ?_, by rw [hod]; exact hF.put (by omega) v, fun j hj hp hLj => ?_, ?_⟩)⟩
        · rw [getD_set L i _ hiL, if_neg (by omega)]; exact hLn
        · rw [getD_set L i _ hiL, if_neg (by omega)]; exact hk k hnk
        · rw [getD_set L i _ hiL]
          split
          · rfl
          · exact hnp j hj hp
        · rw [hod]
          by_cases he : j = i
          · subst he; rw [put_eval_same v hos']; exact hGv
          · rw [getD_set L i _ hiL, if_neg he] at hLj
            rw [put_eval_ne v (fun e => he (hinj i j (by omega) (by omega) e).symm)]
            exact hG j hj hp hLj
        · rw [hod, put_eval_ne v (fun e => by have := hinj i n (by omega) (by omega) e; omega)]
          exact hH
      · subst hin; rw [hLn] at hLf; cases hLf
      · have h1 := hbig L i (by omega) (by omega) hc hd'
        have hin' : n + 1 = i := by
          rcases Nat.lt_or_ge (n + 1) i with h | h
          · have := h1 (n + 1) h (fun e => by omega); rw [hk (n + 1) (by omega)] at this; cases this
          · omega
        refine onBehind (n + 1) hin' (Nat.le_refl _) (fun j hj => h1 j (by omega) (fun e => by omega)) (fun j hj => hk j (by omega)) (htail a w hF (fun j hj hp => hG j hj hp (h1 j (by omega) (fun e => by omega))) hH)
    · rcases Nat.lt_or_ge i k with h | h
      · rw [hk1 i h] at hLf; cases hLf
      · have h1 := hbig L i (by omega) (by omega) hc hd'
        have : k = i := by
          rcases Nat.lt_or_ge k i with h' | h'
          · have := h1 k h' (fun e => by omega); rw [hk2 k (Nat.le_refl _)] at this; cases this
          · omega
        exact onBehind k this hnk hk1 hk2 hwp
  · rintro L a w hr ⟨hsz, hc, hph⟩
    have key : ∀ k, k < ops.size → L.getD k false = true := by
      intro k
      induction k using Nat.strongRecOn with
      | _ k ih =>
        intro hk
        cases hL : L.getD k false with
        | true => rfl
        | false =>
          obtain ⟨o, ho⟩ : ∃ o, ops[k]? = some o := ⟨_, Array.getElem?_eq_getElem hk⟩
          have hm : k ∈ Region.ready .any ops L := by
            refine ready_of ho ?_ fun j hj => ?_
            · have : k < L.size := by omega
              simp only [Array.getD, this] at hL ⊢
              exact hL
            · have hj' : j ∈ depsAt ops k := by rw [depsAt_some ho]; exact hj
              have := hlow k hk j hj'
              exact ih j this (by omega)
          rw [hr] at hm
          cases hm
    rcases hph with ⟨hk, _⟩ | ⟨_, hk, _⟩ | ⟨k, hnk, hk1, hk2, hwp⟩
    · have := key n (by omega)
      rw [hk n (Nat.le_refl _)] at this; cases this
    · have := key (n + 1) (by omega)
      rw [hk (n + 1) (by omega)] at this; cases this
    · have : ops.size ≤ k := by
        rcases Nat.lt_or_ge k ops.size with h | h
        · have := key k h
          rw [hk2 k (Nat.le_refl _)] at this; cases this
        · exact h
      rw [List.drop_eq_nil_of_le (by simpa using this)] at hwp
      exact hwp
  · have hf : ∀ k, (Array.replicate ops.size false).getD k false = false := fun k => by
      simp [Array.getD]
    refine ⟨by simp, fun i hi => ?_, .inl ⟨fun k _ => hf k, ⟨rfl, rfl, fun _ _ => rfl⟩, ⟨rfl, rfl, rfl, Nat.le_refl _, fun _ _ => rfl⟩, fun i _ hL => ?_⟩⟩
    · rw [hf] at hi; cases hi
    · rw [hf] at hL; cases hL
end
end Reg
end Go.Proofs.YtiailkiepndliaaGreatDoor

namespace Go.Proofs.YtiailkiepndliaaGreatDoor
open Go.RowKit Rep
set_option linter.unusedVariables false
namespace Rep
def Sub (w w':World):Prop:=∀b o u,w.cell? ⟨b,o,none⟩=.some u->w'.cell? ⟨b,o,none⟩=.some u
theorem Sub.refl (w:World):Sub w w:=fun _ _ _ h=>h
theorem Sub.trans {w1 w2 w3:World} (h:Sub w1 w2) (h':Sub w2 w3):Sub w1 w3:=fun b o u e=>h' b o u (h b o u e)
section On
variable {w w':World} (hb:Sub w w')
include hb
theorem Ints.sub {v:Value} {l:List Int} (h:Ints w v l):Ints w' v l:=Row.imp h fun _ _ _ _ h=>hb _ _ _ h
theorem InsAt.sub {α : Type} {f g : Value → α → Prop} (hfg : ∀ v x, f v x → g v x) {b o : Nat} {x : Ins α} (h : InsAt w f b o x) : InsAt w' g b o x :=
  ⟨hb _ _ _ h.op, hb _ _ _ h.a, hb _ _ _ h.b, hb _ _ _ h.n,
   let ⟨v, h1, h2⟩ := h.labels; ⟨v, hb _ _ _ h1, h2.sub hb⟩,
   let ⟨v, h1, h2⟩ := h.body; ⟨v, hb _ _ _ h1, hfg _ _ h2⟩,
   let ⟨v, h1, h2⟩ := h.els; ⟨v, hb _ _ _ h1, hfg _ _ h2⟩⟩
theorem At.sub:∀(d:Nat) (v:Value) (l:IL d),At w d v l->At w' d v l
 | 0,_,_,h=>h
 | d+1,_,_,h=>Row.imp (α:=Ins (IL d)) h fun _ _ _ _ h=>h.sub hb (At.sub d)
theorem FTAt.sub {bk o:Nat} {x:FT} (h:FTAt w bk o x):FTAt w' bk o x :=
 ⟨let ⟨v,a,b⟩:=h.params;⟨v,hb _ _ _ a,b.sub hb⟩,let ⟨v,a,b⟩:=h.results;⟨v,hb _ _ _ a,b.sub hb⟩⟩
theorem ImpAt.sub {bk o:Nat} {x:Imp} (h:ImpAt w bk o x):ImpAt w' bk o x:=⟨hb _ _ _ h.mod,hb _ _ _ h.name,hb _ _ _ h.type⟩
theorem FunAt.sub {d bk o:Nat} {x:Fun d} (h:FunAt w d bk o x):FunAt w' d bk o x :=
 ⟨hb _ _ _ h.type,let ⟨v,a,b⟩:=h.locals;⟨v,hb _ _ _ a,b.sub hb⟩,let ⟨v,a,b⟩:=h.body;⟨v,hb _ _ _ a,At.sub hb d v _ b⟩⟩
theorem LimAt.sub {bk o:Nat} {x:Lim} (h:LimAt w bk o x):LimAt w' bk o x:=⟨hb _ _ _ h.min,hb _ _ _ h.max,hb _ _ _ h.has⟩
theorem GloAt.sub {d bk o:Nat} {x:Glo d} (h:GloAt w d bk o x):GloAt w' d bk o x:=⟨hb _ _ _ h.type,hb _ _ _ h.mtb,h.init.sub hb (At.sub hb d)⟩
theorem ExpAt.sub {bk o:Nat} {x:Exp} (h:ExpAt w bk o x):ExpAt w' bk o x:=⟨hb _ _ _ h.name,hb _ _ _ h.kind,hb _ _ _ h.index⟩
theorem ElmAt.sub {d bk o:Nat} {x:Elm d} (h:ElmAt w d bk o x):ElmAt w' d bk o x:=⟨h.offset.sub hb (At.sub hb d),let ⟨v,a,b⟩:=h.funcs;⟨v,hb _ _ _ a,b.sub hb⟩⟩
theorem DatAt.sub {d bk o:Nat} {x:Dat d} (h:DatAt w d bk o x):DatAt w' d bk o x:=⟨h.offset.sub hb (At.sub hb d),hb _ _ _ h.bytes⟩
end On
def only (w:World) (S:Nat->Bool):World:={ w with heap:=w.heap.mapIdx fun i x=>if S i then x else .cells #[] 0 (0,0) }
theorem only_block (w:World) (S:Nat->Bool) (k:Nat):(only w S).heap[k]?=(w.heap[k]?).map fun x=>if S k then x else .cells #[] 0 (0,0):=by
 unfold only;simp [Array.getElem?_mapIdx]
theorem only_cell {w:World} {S:Nat->Bool} {b o:Nat} {u:Value}:(only w S).cell? ⟨b,o,none⟩=.some u↔S b=true/\w.cell? ⟨b,o,none⟩=.some u:=by
 unfold World.cell?
 rw [only_block]
 cases hs:S b with
 | true=>simp
 | false =>
  cases w.heap[b]? with
  | none=>simp
  | some x=>simp
theorem sub_only {w w':World} {S S':Nat->Bool} (h:∀k,k<w.heap.size->S k=true->S' k=true/\w'.heap[k]?=w.heap[k]?):Sub (only w S) (only w' S'):=fun b o u hu=>by
 obtain ⟨h1,h2⟩:=only_cell.1 hu
 obtain ⟨h3,h4⟩:=h b (World.block_lt_of_cell? _ _ h2) h1
 exact only_cell.2 ⟨h3,(World.cell?_of_block (a:=⟨b,o,none⟩) h4).trans h2⟩
structure Piece {α:Type} (R:World) (c:Nat) (f:World->Nat->Nat->α->Prop) (x:α) (cs:List Value):Prop where
 len:cs.length=c
 one:∀u ∈ cs,u.oneCell'=true
 lay:∀R' b o,Sub R R'->(∀k u,cs[k]?=.some u->R'.cell? ⟨b,o+k,none⟩=.some u)->f R' b o x
theorem Piece.sub {α:Type} {R R2:World} {c:Nat} {f:World->Nat->Nat->α->Prop} {x:α} {cs:List Value} (h:Piece R c f x cs) (hs:Sub R R2):Piece R2 c f x cs :=
 ⟨h.len,h.one,fun R' b o h' hc=>h.lay R' b o (hs.trans h') hc⟩
def flat {α:Type} (ps:List (α × List Value)):List Value:=ps.flatMap (·.2)
theorem flat_len {α:Type} {c:Nat}:∀ps:List (α × List Value),(∀p ∈ ps,p.2.length=c)->(flat ps).length=ps.length*c
 | [],_=>by simp [flat]
 | p :: r,h=>by
  show (p.2++flat r).length=(r.length+1)*c
  rw [List.length_append,flat_len r fun q hq=>h q (List.mem_cons_of_mem _ hq),h p (List.mem_cons_self ..),Nat.add_mul]
  omega
theorem flat_get {α:Type} {c:Nat}:∀(ps:List (α × List Value)),(∀p ∈ ps,p.2.length=c)->∀(i:Nat) (p:α × List Value),ps[i]?=.some p->∀k u,p.2[k]?=.some u->(flat ps)[i*c+k]?=.some u
 | [],_,_,_,h,_,_,_=>by simp at h
 | q :: r,hl,0,p,h,k,u,hu=>by
  have:q=p:=by simpa using h
  subst this
  show (q.2++flat r)[0*c+k]?=.some u
  have hk:k<q.2.length:=(List.getElem?_eq_some_iff.1 hu).1
  rw [Nat.zero_mul,Nat.zero_add,List.getElem?_append_left hk]
  exact hu
 | q :: r,hl,i+1,p,h,k,u,hu=>by
  have h':r[i]?=.some p:=by simpa using h
  have hq:q.2.length=c:=hl q (List.mem_cons_self ..)
  show (q.2++flat r)[(i+1)*c+k]?=.some u
  have e:(i+1)*c+k=c+(i*c+k):=by rw [Nat.add_mul];omega
  rw [List.getElem?_append_right (by omega),show (i+1)*c+k-q.2.length=i*c+k by omega]
  exact flat_get r (fun p hp=>hl p (List.mem_cons_of_mem _ hp)) i p h' k u hu
theorem row_of_own {α:Type} {w:World} {B:Nat} {e:TypeId} {c:Nat} {t:Value} {f:World->Nat->Nat->α->Prop} {S S':Nat->Bool} (ps:List (α × List Value)) (ho:w.ownsRow B e c t ps.length (flat ps)) (hp:∀p ∈ ps,Piece (only w S) c f p.1 p.2)
  (hS:∀k,S k=true->S' k=true) (ht:∀g,t.ownBlock=some g->S' g=true) (hn:ps.length<=9223372036854775807):Row c (f (only w S')) t (ps.map (·.1)):=by
 refine ⟨by rw [List.length_map];exact hn,?_⟩
 rcases ho.2 with ⟨rfl,h0⟩|⟨g,cap,cur,rfl,hbg,hg,_,_,_,_⟩
 ·have:ps = []:=List.length_eq_zero_iff.1 h0
  subst this
  exact .inl ⟨rfl,none,0,rfl⟩
 ·refine .inr ⟨g,0,cap,by rw [List.length_map],fun i x hx=>?_⟩
  rw [List.getElem?_map] at hx
  obtain ⟨p,hpi,rfl⟩:=Option.map_eq_some_iff.1 hx
  refine (hp p (List.mem_of_getElem? hpi)).lay _ _ _ (sub_only fun k _ hk=>⟨hS k hk,rfl⟩) fun k u hu=>?_
  have:=ho.cells (g:=g) rfl (i*c+k) u (flat_get ps (fun p hp'=>(hp p hp').len) i p hpi k u hu)
  rw [add_addr] at this
  refine only_cell.2 ⟨ht g rfl,?_⟩
  rw [Nat.add_assoc];exact this
def sel (B b:Nat) (t:Value) (k:Nat):Bool:=decide (B<=k) && (k != b) && (t.ownBlock != some k)
theorem sel_iff {B b:Nat} {t:Value} {k:Nat}:sel B b t k=true↔B<=k/\k≠b/\t.ownBlock≠some k:=by
 unfold sel;simp [and_assoc]
theorem sub_below {B b:Nat} {t:Value} {w w':World} (hb:Below w.heap.size w w'):Sub (only w (sel B b t)) (only w' (sel B b t)):=sub_only fun k hk hs=>⟨hs,hb.block k hk⟩
theorem sub_set {B b i:Nat} {t u:Value} {w:World}:Sub (only w (sel B b t)) (only (w.setCell ⟨b,i,none⟩ u) (sel B b t)):=sub_only fun k hk hs=>⟨hs,Below.heap_setCell _ _ _ _ (by show k≠b;exact (sel_iff.1 hs).2.1)⟩
section App
variable {P:Program}
end App
end Rep
end Go.Proofs.YtiailkiepndliaaGreatDoor

