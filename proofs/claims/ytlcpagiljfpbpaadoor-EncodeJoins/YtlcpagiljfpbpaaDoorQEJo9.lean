/- Texts that the claim needs. -/
import Derived.Test.YtlcpagiljfpbpaaDoorQEJo8
namespace Go.Proofs.YtlcpagiljfpbpaaDoor
open Go.RowKit Rep
set_option linter.unusedVariables false
namespace Reg
def deps (o:Oper):List Nat:=(o.after.toList.filter (fun e=>Region.binds .any e)).map (·.on)
def depsAt (ops:Array Oper) (i:Nat):List Nat:=match ops[i]? with
 | some o=>deps o
 | none=>[]
def clos (ops:Array Oper):List Nat->Nat->List Nat
 | acc,0=>acc
 | acc,i+1=>clos ops (if acc.any (fun m=>(depsAt ops m).contains i) then i :: acc else acc) i
def Closed (ops:Array Oper) (L:Array Bool):Prop:=∀i,L.getD i false=true->∀j ∈ depsAt ops i,L.getD j false=true
theorem clos_mem {ops:Array Oper} {L:Array Bool} {k:Nat} (hc:Closed ops L) (hk:∀j ∈ depsAt ops k,L.getD j false=true):∀(i:Nat) (acc:List Nat),(∀m ∈ acc,m=k\/L.getD m false=true)->∀m ∈ clos ops acc i,m=k\/L.getD m false=true
 | 0,acc,h=>h
 | i+1,acc,h=>by
  unfold clos
  refine clos_mem hc hk i _ ?_
  split
  ·rename_i ha
   intro m hm
   rcases List.mem_cons.1 hm with rfl|hm
   ·obtain ⟨q,hq,hqi⟩:=List.any_eq_true.1 ha
    have hqi':m ∈ depsAt ops q:=by simpa using hqi
    rcases h q hq with rfl|hL
    ·exact .inr (hk _ hqi')
    ·exact .inr (hc q hL _ hqi')
   ·exact h m hm
  ·exact h
theorem getD_set (L:Array Bool) (i j:Nat) (hi:i<L.size):(L.setIfInBounds i true).getD j false=if j=i then true else L.getD j false:=by
 by_cases h:j=i
 ·subst h
  rw [if_pos rfl]
  simp [Array.getD,hi]
 ·rw [if_neg h]
  simp only [Array.getD,Array.size_setIfInBounds]
  split
  ·rename_i hj
   exact Array.getElem_setIfInBounds_ne (xs:=L) hj (fun e=>h e.symm)
  ·rfl
theorem getD_false {L:Array Bool} {i:Nat} (h:L.getD i true=false):i<L.size/\L.getD i false=false:=by
 have hi:i<L.size:=by
  rcases Nat.lt_or_ge i L.size with h'|h'
  ·exact h'
  ·simp [Array.getD,Nat.not_lt.2 h'] at h
 refine ⟨hi,?_⟩
 simpa [Array.getD,hi] using h
structure Fr (a0:Act) (dst:Nat->Nat) (n:Nat) (a:Act):Prop where
 defers:a.defers=a0.defers
 size:a.tmps.size=a0.tmps.size
 rest:∀k,(∀i,i<n->dst i≠k)->a.tmps[k]?=a0.tmps[k]?
theorem Fr.eval {a0:Act} {dst:Nat->Nat} {n:Nat} {a:Act} (h:Fr a0 dst n a) (k:Nat) (hk:∀i,i<n->dst i≠k):a.eval (.tmp k)=a0.eval (.tmp k):=by
 show a.tmps.getD k undef=a0.tmps.getD k undef
 rw [Array.getD_eq_getD_getElem?,Array.getD_eq_getD_getElem?,h.rest k hk]
theorem Fr.put {a0:Act} {dst:Nat->Nat} {n i:Nat} {a:Act} (h:Fr a0 dst n a) (hi:i<n) (v:Value):Fr a0 dst n (a.put (some (dst i)) v):=by
 refine ⟨h.defers,?_,fun k hk=>?_⟩
 ·show (a.tmps.setIfInBounds (dst i) v).size=_
  rw [Array.size_setIfInBounds,h.size]
 ·show (a.tmps.setIfInBounds (dst i) v)[k]?=_
  rw [Array.getElem?_setIfInBounds_ne (hk i hi),h.rest k hk]
theorem Fr.mono {a0:Act} {dst:Nat->Nat} {n n':Nat} {a:Act} (h:Fr a0 dst n a) (hn:n<=n'):Fr a0 dst n' a:=⟨h.defers,h.size,fun k hk=>h.rest k fun i hi=>hk i (by omega)⟩
theorem put_eval_same {a:Act} {k:Nat} (v:Value) (hk:k<a.tmps.size):(a.put (some k) v).eval (.tmp k)=v:=by
 show (a.tmps.setIfInBounds k v).getD k undef=v
 simp [Array.getD,hk]
theorem put_eval_ne {a:Act} {k j:Nat} (v:Value) (hk:k≠j):(a.put (some k) v).eval (.tmp j)=a.eval (.tmp j):=by
 show (a.tmps.setIfInBounds k v).getD j undef=a.tmps.getD j undef
 rw [Array.getD_eq_getD_getElem?,Array.getD_eq_getD_getElem?,Array.getElem?_setIfInBounds_ne hk]
theorem ev_get {a:Act} {k:Nat} {v:Value} (h:a.eval (.tmp k)=v):a.tmps[k]?.getD undef=v:=by
 rw [<- Array.getD_eq_getD_getElem?];exact h
def dstOk (ops:Array Oper) (n:Nat) (dst:Nat->Nat) (size:Nat):Bool :=
 (List.range n).all fun i=>match ops[i]? with
  | some o=>o.dst == some (dst i) && o.guard.isNone && decide (dst i<size)
  | none=>false
theorem dst_ok {ops:Array Oper} {n:Nat} {dst:Nat->Nat} {size:Nat} (h:dstOk ops n dst size=true):∀i,i<n->∃o,ops[i]?=some o/\o.dst=some (dst i)/\o.guard=none/\dst i<size:=fun i hi=>by
 unfold dstOk at h
 have:=(List.all_eq_true.1 h) i (List.mem_range.2 hi)
 cases ho:ops[i]? with
 | none=>rw [ho] at this;cases this
 | some o =>
  rw [ho] at this
  simp only [Bool.and_eq_true,beq_iff_eq,decide_eq_true_eq,Option.isNone_iff_eq_none] at this
  exact ⟨o,rfl,this.1.1,this.1.2,this.2⟩
theorem step_k {P:Program} {o:Oper} {a:Act} {w:World} {R:Act->World->Prop} {Q:Exit->Act->World->Prop} (h:∀K:Act->World->Prop,(∀a w,R a w->K a w)->o.wp P a w K Q):o.wp P a w R Q:=h R (fun _ _ h=>h)
section
variable {P:Program} {ops:Array Oper} {Q:Exit->Act->World->Prop} {id:Nat} {a0:Act} {w0:World}
def Behind (P:Program) (ops:Array Oper) (Q:Exit->Act->World->Prop) (n:Nat) (L:Array Bool) (a:Act) (w:World):Prop :=
 ∃k,n<=k/\(∀i,i<k->L.getD i false=true)/\(∀i,k<=i->L.getD i false=false)/\wpList P ops Q (ops.toList.drop k) a w
theorem depsAt_some {o:Oper} {i:Nat} (h:ops[i]?=some o):depsAt ops i=deps o:=by unfold depsAt;rw [h]
theorem ready_deps {L:Array Bool} {i:Nat} (h:i ∈ Region.ready .any ops L):L.getD i true=false/\∃o,ops[i]?=some o/\∀j ∈ deps o,L.getD j false=true:=by
 obtain ⟨h1,o,ho,hd⟩:=mem_ready.1 h
 refine ⟨h1,o,ho,fun j hj=>?_⟩
 obtain ⟨e,he,rfl⟩:=List.mem_map.1 hj
 obtain ⟨he1,he2⟩:=List.mem_filter.1 he
 exact hd e (by simpa using he1) he2
theorem ready_of {L:Array Bool} {i:Nat} {o:Oper} (ho:ops[i]?=some o) (h1:L.getD i true=false) (hd:∀j ∈ deps o,L.getD j false=true):i ∈ Region.ready .any ops L:=by
 refine mem_ready.2 ⟨h1,o,ho,fun e he hb=>hd _ ?_⟩
 exact List.mem_map.2 ⟨e,List.mem_filter.2 ⟨by simpa using he,hb⟩,rfl⟩
end
end Reg
end Go.Proofs.YtlcpagiljfpbpaaDoor

namespace Go.Proofs.YtlcpagiljfpbpaaDoor
open Go.RowKit Rep
set_option linter.unusedVariables false
namespace Reg
def midOk (ops:Array Oper) (n:Nat) (pure:Nat->Bool):Bool :=
 decide (n+1<ops.size) && (List.range ops.size).all (fun i=>(depsAt ops i).all (fun j=>decide (j<i)) && (decide (i<n) || (List.range i).all (fun j=>(clos ops [i] i).contains j || (decide (i=n) && pure j)))) && (List.range n).all (fun i=>!pure i || (depsAt ops i).isEmpty)
section
variable {P:Program} {ops:Array Oper} {Q:Exit->Act->World->Prop} {id:Nat} {a0:Act} {w0:World}
theorem wp_region_mid (n : Nat) (dst : Nat → Nat) (pure : Nat → Bool) (G : Nat → Value → World → Prop) (H : Value → World → Prop) (hm : P.follows .mixedOrders = true) (hT : midOk ops n pure = true)
    (hinj : ∀ i j, i < n + 1 → j < n + 1 → dst i = dst j → i = j)
    (hdst : ∀ i, i < n + 1 → ∃ o, ops[i]? = some o ∧ o.dst = some (dst i) ∧ o.guard = none ∧ dst i < a0.tmps.size)
    (hstab : ∀ i v w w', i < n → G i v w → Below w.heap.size w w' → G i v w')
    (hpure : ∀ i v w w', i < n → pure i = true → G i v w → G i v w')
    (hstep : ∀ i o a w, i < n → ops[i]? = some o → Fr a0 dst (n + 1) a → Below w0.heap.size w0 w → (∀ j ∈ deps o, G j (a.eval (.tmp (dst j))) w) → o.wp P a w (fun a' w' => ∃ v, a' = a.put o.dst v ∧ Below w.heap.size w w' ∧ G i v w') Q)
    (hstepP : ∀ i o a w, i < n → pure i = true → ops[i]? = some o → Fr a0 dst (n + 1) a → o.wp P a w (fun a' w' => ∃ v, a' = a.put o.dst v ∧ w' = w ∧ G i v w') Q)
    (happ : ∀ o a w, ops[n]? = some o → Fr a0 dst (n + 1) a → Below w0.heap.size w0 w → (∀ j, j < n → pure j = false → G j (a.eval (.tmp (dst j))) w) → o.wp P a w (fun a' w' => ∃ v, a' = a.put o.dst v ∧ H v w') Q)
    (htail : ∀ a w, Fr a0 dst (n + 1) a → (∀ i, i < n → pure i = true → G i (a.eval (.tmp (dst i))) w) → H (a.eval (.tmp (dst n))) w → wpList P ops Q (ops.toList.drop (n + 1)) a w) :
    (Code.region id ops true).wp P Q a0 w0 := by
  unfold midOk at hT
  rw [Bool.and_eq_true, Bool.and_eq_true, List.all_eq_true, List.all_eq_true, decide_eq_true_eq] at hT
  obtain ⟨⟨hn, hT2⟩, hT3⟩ := hT
  have hlow : ∀ i, i < ops.size → ∀ j ∈ depsAt ops i, j < i := fun i hi j hj => by
    have := hT2 i (List.mem_range.2 hi)
    rw [Bool.and_eq_true, List.all_eq_true] at this
    exact of_decide_eq_true (this.1 j hj)
  have hbig : ∀ (L : Array Bool) i, n ≤ i → i < ops.size → Closed ops L → (∀ j ∈ depsAt ops i, L.getD j false = true) → ∀ j, j < i → (i = n → pure j = false) → L.getD j false = true := fun L i hi hs hc hd j hj hp => by
    have := hT2 i (List.mem_range.2 hs)
    rw [Bool.and_eq_true, Bool.or_eq_true, decide_eq_true_eq] at this
    rcases this.2 with h | h
    · omega
    · have h2 := (List.all_eq_true.1 h) j (List.mem_range.2 hj)
      rw [Bool.or_eq_true] at h2
      rcases h2 with h2 | h2
      · have hjm : j ∈ clos ops [i] i := by simpa using h2
        rcases clos_mem hc hd i [i] (fun m hm => .inl (List.mem_singleton.1 hm)) j hjm with h | h
        · omega
        · exact h
      · rw [Bool.and_eq_true, decide_eq_true_eq] at h2
        rw [hp h2.1] at h2
        cases h2.2
  refine wp_region_inv (fun L a w => L.size = ops.size ∧ Closed ops L ∧
      (((∀ k, n ≤ k → L.getD k false = false) ∧ Fr a0 dst (n + 1) a ∧ Below w0.heap.size w0 w ∧ ∀ i, i < n → L.getD i false = true → G i (a.eval (.tmp (dst i))) w) ∨
       (L.getD n false = true ∧ (∀ k, n < k → L.getD k false = false) ∧ (∀ j, j < n → pure j = false → L.getD j false = true) ∧ Fr a0 dst (n + 1) a ∧ (∀ i, i < n → pure i = true → L.getD i false = true → G i (a.eval (.tmp (dst i))) w) ∧ H (a.eval (.tmp (dst n))) w) ∨
       Behind P ops Q (n + 1) L a w)) hm ?_ ?_ ?_
  · rintro L i a w hi ⟨hsz, hc, hph⟩
    obtain ⟨hLi, o, ho, hd⟩ := ready_deps hi
    obtain ⟨hiL, hLf⟩ := getD_false hLi
    have hd' : ∀ j ∈ depsAt ops i, L.getD j false = true := by rw [depsAt_some ho]; exact hd
    have hsz' : (L.setIfInBounds i true).size = ops.size := by rw [Array.size_setIfInBounds, hsz]
    have hc' : Closed ops (L.setIfInBounds i true) := fun m hm j hj => by
      rw [getD_set L i _ hiL] at hm ⊢
      split
      · rfl
      · by_cases he : m = i
        · subst he; exact hd' j hj
        · rw [if_neg he] at hm; exact hc m hm j hj
    have onBehind : ∀ k, k = i → n + 1 ≤ k → (∀ j, j < k → L.getD j false = true) → (∀ j, k ≤ j → L.getD j false = false) → wpList P ops Q (ops.toList.drop k) a w → wpOp P ops Q i (fun a w => (L.setIfInBounds i true).size = ops.size ∧ Closed ops (L.setIfInBounds i true) ∧
      (((∀ k, n ≤ k → (L.setIfInBounds i true).getD k false = false) ∧ Fr a0 dst (n + 1) a ∧ Below w0.heap.size w0 w ∧ ∀ j, j < n → (L.setIfInBounds i true).getD j false = true → G j (a.eval (.tmp (dst j))) w) ∨
       ((L.setIfInBounds i true).getD n false = true ∧ (∀ k, n < k → (L.setIfInBounds i true).getD k false = false) ∧ (∀ j, j < n → pure j = false → (L.setIfInBounds i true).getD j false = true) ∧ Fr a0 dst (n + 1) a ∧ (∀ j, j < n → pure j = true → (L.setIfInBounds i true).getD j false = true → G j (a.eval (.tmp (dst j))) w) ∧ H (a.eval (.tmp (dst n))) w) ∨
       Behind P ops Q (n + 1) (L.setIfInBounds i true) a w)) a w := by
      rintro k rfl hnk hk1 hk2 hwp
      have hks : k < ops.size := by omega
      have hcons : ops.toList.drop k = o :: ops.toList.drop (k + 1) := by
        rw [List.drop_eq_getElem_cons (by simpa using hks)]
        congr 1
        have := Array.getElem?_eq_getElem hks
        rw [ho] at this
        simpa using (Option.some.inj this).symm
      rw [hcons] at hwp
      have up : ∀ a w, wpList P ops Q (ops.toList.drop (k + 1)) a w → Behind P ops Q (n + 1) (L.setIfInBounds k true) a w := fun a w h =>
        ⟨k + 1, by omega, fun j hj => by
          rw [getD_set L k _ hiL]
          split
          · rfl
          · exact hk1 j (by omega), fun j hj => by
          rw [getD_set L k _ hiL, if_neg (by omega)]
          exact hk2 j (by omega), h⟩
      unfold wpOp
      rw [ho]
      unfold wpList at hwp
      show ite _ _ _
      split
      · rename_i hw
        rw [if_pos hw] at hwp
        exact hwp.imp (Oper.wp_mono fun a w h => ⟨hsz', hc', .inr (.inr (up a w h))⟩) (fun h => h)
      · rename_i hw
        rw [if_neg hw] at hwp
        exact ⟨hsz', hc', .inr (.inr (up _ _ hwp))⟩
    rcases hph with ⟨hk, hF, hB, hG⟩ | ⟨hLn, hk, hnp, hF, hG, hH⟩ | ⟨k, hnk, hk1, hk2, hwp⟩
    · rcases Nat.lt_trichotomy i n with hin | hin | hin
      · obtain ⟨o', ho', hod, hog, hos⟩ := hdst i (by omega)
        have : o' = o := by rw [ho] at ho'; exact (Option.some.inj ho').symm
        subst this
        have hs := hstep i o' a w hin ho hF hB (fun j hj => hG j (by have := hlow i (by omega) j (by rw [depsAt_some ho]; exact hj); omega) (hd j hj))
        unfold wpOp
        rw [ho]
        show ite _ _ _
        rw [if_pos (by simp [Region.wanted, hog])]
        refine .inl (Oper.wp_mono ?_ hs)
        rintro a' w' ⟨v, rfl, hBw, hGv⟩
        have hos' : dst i < a.tmps.size := by rw [hF.size]; exact hos
        refine ⟨hsz', hc', .inl ⟨fun k hnk => ?_, by rw [hod]; exact hF.put (by omega) v, ?_, fun j hj hLj => ?_⟩⟩
        · rw [getD_set L i _ hiL, if_neg (by omega)]; exact hk k hnk
        · exact hB.trans (hBw.mono hB.size)
        · rw [hod]
          by_cases he : j = i
          · subst he; rw [put_eval_same v hos']; exact hGv
          · rw [getD_set L i _ hiL, if_neg he] at hLj
            rw [put_eval_ne v (fun e => he (hinj i j (by omega) (by omega) e).symm)]
            exact hstab j _ w w' hj (hG j hj hLj) hBw
      · subst hin
        have h1 := hbig L i (Nat.le_refl _) (by omega) hc hd'
        obtain ⟨o', ho', hod, hog, hos⟩ := hdst i (by omega)
        have : o' = o := by rw [ho] at ho'; exact (Option.some.inj ho').symm
        subst this
        have hs := happ o' a w ho hF hB (fun j hj hp => hG j hj (h1 j hj (fun _ => hp)))
        have hGw : ∀ j, j < i → pure j = true → L.getD j false = true → ∀ w', G j (a.eval (.tmp (dst j))) w' := fun j hj hp hL w' => hpure j _ w w' hj hp (hG j hj hL)
        unfold wpOp
        rw [ho]
        show ite _ _ _
        rw [if_pos (by simp [Region.wanted, hog])]
        refine .inl (Oper.wp_mono ?_ hs)
        rintro a' w' ⟨v, rfl, hHv⟩
        have hos' : dst i < a.tmps.size := by rw [hF.size]; exact hos
        refine ⟨hsz', hc', .inr (.inl ⟨?_, fun k hnk => ?_, fun j hj hp => ?_, by rw [hod]; exact hF.put (by omega) v, fun j hj hp hLj => ?_, ?_⟩)⟩
        · rw [getD_set L i _ hiL, if_pos rfl]
        · rw [getD_set L i _ hiL, if_neg (by omega)]; exact hk k (by omega)
        · rw [getD_set L i _ hiL, if_neg (by omega)]; exact h1 j hj (fun _ => hp)
        · rw [getD_set L i _ hiL, if_neg (by omega)] at hLj
          rw [hod, put_eval_ne v (fun e => by have := hinj i j (by omega) (by omega) e; omega)]
          exact hGw j hj hp hLj w'
        · rw [hod, put_eval_same v hos']; exact hHv
      · have h1 := hbig L i (by omega) (by omega) hc hd' n hin (fun e => by omega)
        rw [hk n (Nat.le_refl _)] at h1; cases h1
    · rcases Nat.lt_trichotomy i n with hin | hin | hin
      · have hpi : pure i = true := by
          cases hpi : pure i with
          | true => rfl
          | false => rw [hnp i hin hpi] at hLf; cases hLf
        obtain ⟨o', ho', hod, hog, hos⟩ := hdst i (by omega)
        have : o' = o := by rw [ho] at ho'; exact (Option.some.inj ho').symm
        subst this
        unfold wpOp
        rw [ho]
        show ite _ _ _
        rw [if_pos (by simp [Region.wanted, hog])]
        refine .inl (Oper.wp_mono ?_ (hstepP i o' a w hin hpi ho hF))
        rintro a' w' ⟨v, rfl, rfl, hGv⟩
        have hos' : dst i < a.tmps.size := by rw [hF.size]; exact hos
        refine ⟨hsz', hc', .inr (.inl ⟨?_, fun k hnk => ?_, fun j hj hp => ?_, by rw [hod]; exact hF.put (by omega) v, fun j hj hp hLj => ?_, ?_⟩)⟩
        · rw [getD_set L i _ hiL, if_neg (by omega)]; exact hLn
        · rw [getD_set L i _ hiL, if_neg (by omega)]; exact hk k hnk
        · rw [getD_set L i _ hiL]
          split
          · rfl
          · exact hnp j hj hp
        · rw [hod]
          by_cases he : j = i
          · subst he; rw [put_eval_same v hos']; exact hGv
          · rw [getD_set L i _ hiL, if_neg he] at hLj
            rw [put_eval_ne v (fun e => he (hinj i j (by omega) (by omega) e).symm)]
            exact hG j hj hp hLj
        · rw [hod, put_eval_ne v (fun e => by have := hinj i n (by omega) (by omega) e; omega)]
          exact hH
      · subst hin; rw [hLn] at hLf; cases hLf
      · have h1 := hbig L i (by omega) (by omega) hc hd'
        have hin' : n + 1 = i := by
          rcases Nat.lt_or_ge (n + 1) i with h | h
          · have := h1 (n + 1) h (fun e => by omega); rw [hk (n + 1) (by omega)] at this; cases this
          · omega
        refine onBehind (n + 1) hin' (Nat.le_refl _) (fun j hj => h1 j (by omega) (fun e => by omega)) (fun j hj => hk j (by omega)) (htail a w hF (fun j hj hp => hG j hj hp (h1 j (by omega) (fun e => by omega))) hH)
    · rcases Nat.lt_or_ge i k with h | h
      · rw [hk1 i h] at hLf; cases hLf
      · have h1 := hbig L i (by omega) (by omega) hc hd'
        have : k = i := by
          rcases Nat.lt_or_ge k i with h' | h'
          · have := h1 k h' (fun e => by omega); rw [hk2 k (Nat.le_refl _)] at this; cases this
          · omega
        exact onBehind k this hnk hk1 hk2 hwp
  · rintro L a w hr ⟨hsz, hc, hph⟩
    have key : ∀ k, k < ops.size → L.getD k false = true := by
      intro k
      induction k using Nat.strongRecOn with
      | _ k ih =>
        intro hk
        cases hL : L.getD k false with
        | true => rfl
        | false =>
          obtain ⟨o, ho⟩ : ∃ o, ops[k]? = some o := ⟨_, Array.getElem?_eq_getElem hk⟩
          have hm : k ∈ Region.ready .any ops L := by
            refine ready_of ho ?_ fun j hj => ?_
            · have : k < L.size := by omega
              simp only [Array.getD, this] at hL ⊢
              exact hL
            · have hj' : j ∈ depsAt ops k := by rw [depsAt_some ho]; exact hj
              have := hlow k hk j hj'
              exact ih j this (by omega)
          rw [hr] at hm
          cases hm
    rcases hph with ⟨hk, _⟩ | ⟨_, hk, _⟩ | ⟨k, hnk, hk1, hk2, hwp⟩
    · have := key n (by omega)
      rw [hk n (Nat.le_refl _)] at this; cases this
    · have := key (n + 1) (by omega)
      rw [hk (n + 1) (by omega)] at this; cases this
    · have : ops.size ≤ k := by
        rcases Nat.lt_or_ge k ops.size with h | h
        · have := key k h
          rw [hk2 k (Nat.le_refl _)] at this; cases this
        · exact h
      rw [List.drop_eq_nil_of_le (by simpa using this)] at hwp
      exact hwp
  · have hf : ∀ k, (Array.replicate ops.size false).getD k false = false := fun k => by
      simp [Array.getD]
    refine ⟨by simp, fun i hi => ?_, .inl ⟨fun k _ => hf k, ⟨rfl, rfl, fun _ _ => rfl⟩, ⟨rfl, rfl, rfl, Nat.le_refl _, fun _ _ => rfl⟩, fun i _ hL => ?_⟩⟩
    · rw [hf] at hi; cases hi
    · rw [hf] at hL; cases hL
end
end Reg
end Go.Proofs.YtlcpagiljfpbpaaDoor

