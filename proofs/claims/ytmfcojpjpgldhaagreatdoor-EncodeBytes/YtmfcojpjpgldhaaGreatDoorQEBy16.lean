/- Texts that the claim needs. -/
import Derived.Test.YtmfcojpjpgldhaaGreatDoorQEBy1
import Derived.Test.YtmfcojpjpgldhaaGreatDoorQEBy15
import Derived.Test.YtmfcojpjpgldhaaGreatDoorQEBy9
namespace Go.Proofs.YtmfcojpjpgldhaaGreatDoor
open Go.RowKit aA
set_option linter.unusedVariables false
namespace ai
def Mr (ops:Array Oper) (n:Nat) (pure:Nat->Bool):Bool :=
 decide (n+1<ops.size)&&(List.range ops.size).all (λi=>(lU ops i).all (λj=>decide (j<i))&&(decide (i<n) || (List.range i).all (λj=>(yS ops [i] i).contains j || (decide (i=n)&&pure j))))&&(List.range n).all (λi=>!pure i || (lU ops i).isEmpty)
section
variable {P:Program} {ops:Array Oper} {Q:Exit->Act->World->Prop} {id:Nat} {a0:Act} {w0:World}
theorem J5 (n : Nat) (dst : Nat → Nat) (pure : Nat → Bool) (G : Nat → Value → World → Prop) (H : Value → World → Prop) (hm : P.follows .mixedOrders = true) (hT : Mr ops n pure = true)
    (hinj : ∀ i j, i < n + 1 → j < n + 1 → dst i = dst j → i = j)
    (hdst : ∀ i, i < n + 1 → ∃ o, ops[i]? = some o ∧ o.dst = some (dst i) ∧ o.guard = none ∧ dst i < a0.tmps.size)
    (uN : ∀ i v w w', i < n → G i v w → Below w.heap.size w w' → G i v w')
    (X7 : ∀ i v w w', i < n → pure i = true → G i v w → G i v w')
    (hstep : ∀ i o a w, i < n → ops[i]? = some o → Fr a0 dst (n + 1) a → Below w0.heap.size w0 w → (∀ j ∈ deps o, G j (a.eval (.tmp (dst j))) w) → o.wp P a w (λa' w' => ∃ v, a' = a.put o.dst v ∧ Below w.heap.size w w' ∧ G i v w') Q)
    (Cj : ∀ i o a w, i < n → pure i = true → ops[i]? = some o → Fr a0 dst (n + 1) a → o.wp P a w (λa' w' => ∃ v, a' = a.put o.dst v ∧ w' = w ∧ G i v w') Q)
    (happ : ∀ o a w, ops[n]? = some o → Fr a0 dst (n + 1) a → Below w0.heap.size w0 w → (∀ j, j < n → pure j = false → G j (a.eval (.tmp (dst j))) w) → o.wp P a w (λa' w' => ∃ v, a' = a.put o.dst v ∧ H v w') Q)
    (cH : ∀ a w, Fr a0 dst (n + 1) a → (∀ i, i < n → pure i = true → G i (a.eval (.tmp (dst i))) w) → H (a.eval (.tmp (dst n))) w → wpList P ops Q (ops.toList.drop (n + 1)) a w) :
    (Code.region id ops true).wp P Q a0 w0 := by
  unfold Mr at hT;rw [gm, gm, iF, iF, decide_eq_true_eq] at hT;obtain ⟨⟨hn, qj⟩, hT3⟩ := hT
  have hlow : ∀ i, i < ops.size → ∀ j ∈ lU ops i, j < i := λi hi j hj => by
    have := qj i (List.mem_range.2 hi);rw [gm, iF] at this;exact of_decide_eq_true (this.1 j hj)
  have hbig : ∀ (L : Array Bool) i, n ≤ i → i < ops.size → Closed ops L → (∀ j ∈ lU ops i, L.getD j false = true) → ∀ j, j < i → (i = n → pure j = false) → L.getD j false = true := λL i hi hs hc hd j hj hp => by
    have := qj i (List.mem_range.2 hs);rw [gm, Bool.or_eq_true, decide_eq_true_eq] at this;rcases this.2 with h | h
    · omega
    have h2 := (iF.1 h) j (List.mem_range.2 hj);rw [Bool.or_eq_true] at h2;rcases h2 with h2 | h2
    · have hjm : j ∈ yS ops [i] i := by simpa using h2
      rcases EW hc hd i [i] (λm hm => .inl (List.mem_singleton.1 hm)) j hjm with h | h
      · omega
      exact h
    rw [gm, decide_eq_true_eq] at h2;rw [hp h2.1] at h2;cases h2.2
  refine Ex (λL a w => L.size = ops.size ∧ Closed ops L ∧
      (((∀ k, n ≤ k → L.getD k false = false) ∧ Fr a0 dst (n + 1) a ∧ Below w0.heap.size w0 w ∧ ∀ i, i < n → L.getD i false = true → G i (a.eval (.tmp (dst i))) w) ∨
       (L.getD n false = true ∧ (∀ k, n < k → L.getD k false = false) ∧ (∀ j, j < n → pure j = false → L.getD j false = true) ∧ Fr a0 dst (n + 1) a ∧ (∀ i, i < n → pure i = true → L.getD i false = true → G i (a.eval (.tmp (dst i))) w) ∧ H (a.eval (.tmp (dst n))) w) ∨
       Behind P ops Q (n + 1) L a w)) hm ?_ ?_ ?_
  · rintro L i a w hi ⟨hsz, hc, zW⟩
    obtain ⟨vN, o, ho, hd⟩ := Ey hi;obtain ⟨jT, oZ⟩ := Ez vN;have hd' : ∀ j ∈ lU ops i, L.getD j false = true := by rw [vO ho]; exact hd
    have hsz' : (L.setIfInBounds i true).size = ops.size := by rw [Array.size_setIfInBounds, hsz]
    have hc' : Closed ops (L.setIfInBounds i true) := λm hm j hj => by
      rw [kP L i _ jT] at hm ⊢;split
      · rfl
      by_cases he : m = i
      · subst he; exact hd' j hj
      rw [if_neg he] at hm; exact hc m hm j hj
    have yT : ∀ k, k = i → n + 1 ≤ k → (∀ j, j < k → L.getD j false = true) → (∀ j, k ≤ j → L.getD j false = false) → wpList P ops Q (ops.toList.drop k) a w → wpOp P ops Q i (λa w => (L.setIfInBounds i true).size = ops.size ∧ Closed ops (L.setIfInBounds i true) ∧
      (((∀ k, n ≤ k → (L.setIfInBounds i true).getD k false = false) ∧ Fr a0 dst (n + 1) a ∧ Below w0.heap.size w0 w ∧ ∀ j, j < n → (L.setIfInBounds i true).getD j false = true → G j (a.eval (.tmp (dst j))) w) ∨
       ((L.setIfInBounds i true).getD n false = true ∧ (∀ k, n < k → (L.setIfInBounds i true).getD k false = false) ∧ (∀ j, j < n → pure j = false → (L.setIfInBounds i true).getD j false = true) ∧ Fr a0 dst (n + 1) a ∧ (∀ j, j < n → pure j = true → (L.setIfInBounds i true).getD j false = true → G j (a.eval (.tmp (dst j))) w) ∧ H (a.eval (.tmp (dst n))) w) ∨
       Behind P ops Q (n + 1) (L.setIfInBounds i true) a w)) a w := by
      rintro k rfl hnk hk1 hk2 hwp;have hks : k < ops.size := by omega
      have xx : ops.toList.drop k = o :: ops.toList.drop (k + 1) := by
        rw [lX (by simpa using hks)];congr 1;have := uz hks;rw [ho] at this;simpa using (Option.some.inj this).symm
      rw [xx] at hwp
      have up : ∀ a w, wpList P ops Q (ops.toList.drop (k + 1)) a w → Behind P ops Q (n + 1) (L.setIfInBounds k true) a w := λa w h =>
        ⟨k + 1, by omega, λj hj => by
          rw [kP L k _ jT];split
          · rfl
          · exact hk1 j (by omega), λj hj => by
          rw [kP L k _ jT, if_neg (by omega)];exact hk2 j (by omega), h⟩
      unfold wpOp;rw [ho];unfold wpList at hwp;show ite _ _ _;split
      · rename_i hw
        rw [if_pos hw] at hwp;exact hwp.imp (Oper.wp_mono λa w h => ⟨hsz', hc', .inr (.inr (up a w h))⟩) (λh => h)
      rename_i hw;rw [if_neg hw] at hwp;exact ⟨hsz', hc', .inr (.inr (up _ _ hwp))⟩
    rcases zW with ⟨hk, hF, hB, hG⟩ | ⟨Ms, hk, rP, hF, hG, hH⟩ | ⟨k, hnk, hk1, hk2, hwp⟩
    · rcases Nat.lt_trichotomy i n with hin | hin | hin
      · obtain ⟨o', ho', lI, hog, hos⟩ := hdst i (by omega)
        have : o' = o := by rw [ho] at ho'; exact (Option.some.inj ho').symm
        subst this;have hs := hstep i o' a w hin ho hF hB (λj hj => hG j (by have := hlow i (by omega) j (by rw [vO ho]; exact hj); omega) (hd j hj));unfold wpOp;rw [ho];show ite _ _ _;rw [if_pos (by simp [Region.wanted, hog])];refine .inl (Oper.wp_mono ?_ hs);rintro a' w' ⟨v, rfl, hBw, sO⟩;have qI : dst i < a.tmps.size := by rw [hF.size]; exact hos
        refine ⟨hsz', hc', .inl ⟨λk hnk => ?_, by rw [lI]; exact hF.put (by omega) v, ?_, λj hj mJ => ?_⟩⟩
        · rw [kP L i _ jT, if_neg (by omega)]; exact hk k hnk
        · exact hB.trans (hBw.mono hB.size)
        rw [lI];by_cases he : j = i
        · subst he; rw [xw v qI]; exact sO
        rw [kP L i _ jT, if_neg he] at mJ;rw [vP v (λe => he (hinj i j (by omega) (by omega) e).symm)];exact uN j _ w w' hj (hG j hj mJ) hBw
      · subst hin
        have h1 := hbig L i (aI _) (by omega) hc hd';obtain ⟨o', ho', lI, hog, hos⟩ := hdst i (by omega);have : o' = o := by rw [ho] at ho'; exact (Option.some.inj ho').symm
        subst this;have hs := happ o' a w ho hF hB (λj hj hp => hG j hj (h1 j hj (λ_ => hp)));have X8 : ∀ j, j < i → pure j = true → L.getD j false = true → ∀ w', G j (a.eval (.tmp (dst j))) w' := λj hj hp hL w' => X7 j _ w w' hj hp (hG j hj hL);unfold wpOp;rw [ho];show ite _ _ _;rw [if_pos (by simp [Region.wanted, hog])];refine .inl (Oper.wp_mono ?_ hs);rintro a' w' ⟨v, rfl, X9⟩;have qI : dst i < a.tmps.size := by rw [hF.size]; exact hos
        refine ⟨hsz', hc', .inr (.inl ⟨?_, λk hnk => ?_, λj hj hp => ?_, by rw [lI]; exact hF.put (by omega) v, λj hj hp mJ => ?_, ?_⟩)⟩
        · rw [kP L i _ jT, if_pos rfl]
        · rw [kP L i _ jT, if_neg (by omega)]; exact hk k (by omega)
        · rw [kP L i _ jT, if_neg (by omega)]; exact h1 j hj (λ_ => hp)
        · rw [kP L i _ jT, if_neg (by omega)] at mJ
          rw [lI, vP v (λe => by have := hinj i j (by omega) (by omega) e; omega)];exact X8 j hj hp mJ w'
        rw [lI, xw v qI]; exact X9
      have h1 := hbig L i (by omega) (by omega) hc hd' n hin (λe => by omega);rw [hk n (aI _)] at h1; cases h1
    · rcases Nat.lt_trichotomy i n with hin | hin | hin
      · have hpi : pure i = true := by
          cases hpi : pure i with
          | true => rfl
          | false => rw [rP i hin hpi] at oZ; cases oZ
        obtain ⟨o', ho', lI, hog, hos⟩ := hdst i (by omega);have : o' = o := by rw [ho] at ho'; exact (Option.some.inj ho').symm
        subst this;unfold wpOp;rw [ho];show ite _ _ _;rw [if_pos (by simp [Region.wanted, hog])];refine .inl (Oper.wp_mono ?_ (Cj i o' a w hin hpi ho hF));rintro a' w' ⟨v, rfl, rfl, sO⟩;have qI : dst i < a.tmps.size := by rw [hF.size]; exact hos
        refine ⟨hsz', hc', .inr (.inl ⟨?_, λk hnk => ?_, λj hj hp => ?_, by rw [lI]; exact hF.put (by omega) v, λj hj hp mJ => ?_, ?_⟩)⟩
        · rw [kP L i _ jT, if_neg (by omega)]; exact Ms
        · rw [kP L i _ jT, if_neg (by omega)]; exact hk k hnk
        · rw [kP L i _ jT]
          split
          · rfl
          exact rP j hj hp
        · rw [lI]
          by_cases he : j = i
          · subst he; rw [xw v qI]; exact sO
          rw [kP L i _ jT, if_neg he] at mJ;rw [vP v (λe => he (hinj i j (by omega) (by omega) e).symm)];exact hG j hj hp mJ
        rw [lI, vP v (λe => by have := hinj i n (by omega) (by omega) e; omega)];exact hH
      · subst hin; rw [Ms] at oZ; cases oZ
      have h1 := hbig L i (by omega) (by omega) hc hd'
      have CW : n + 1 = i := by
        rcases Nat.lt_or_ge (n + 1) i with h | h
        · have := h1 (n + 1) h (λe => by omega); rw [hk (n + 1) (by omega)] at this; cases this
        omega
      refine yT (n + 1) CW (aI _) (λj hj => h1 j (by omega) (λe => by omega)) (λj hj => hk j (by omega)) (cH a w hF (λj hj hp => hG j hj hp (h1 j (by omega) (λe => by omega))) hH)
    rcases Nat.lt_or_ge i k with h | h
    · rw [hk1 i h] at oZ; cases oZ
    have h1 := hbig L i (by omega) (by omega) hc hd'
    have : k = i := by
      rcases Nat.lt_or_ge k i with h' | h'
      · have := h1 k h' (λe => by omega); rw [hk2 k (aI _)] at this; cases this
      omega
    exact yT k this hnk hk1 hk2 hwp
  · rintro L a w hr ⟨hsz, hc, zW⟩
    have key : ∀ k, k < ops.size → L.getD k false = true := by
      intro k
      induction k using Nat.strongRecOn with
      | _ k ih =>
        intro hk;cases hL : L.getD k false with
        | true => rfl
        | false =>
          obtain ⟨o, ho⟩ : ∃ o, ops[k]? = some o := ⟨_, uz hk⟩
          have hm : k ∈ Region.ready .any ops L := by
            refine GR ho ?_ λj hj => ?_
            · have : k < L.size := by omega
              simp only [Array.getD, this] at hL ⊢;exact hL
            have hj' : j ∈ lU ops k := by rw [vO ho]; exact hj
            have := hlow k hk j hj';exact ih j this (by omega)
          rw [hr] at hm;cases hm
    rcases zW with ⟨hk, _⟩ | ⟨_, hk, _⟩ | ⟨k, hnk, hk1, hk2, hwp⟩
    · have := key n (by omega)
      rw [hk n (aI _)] at this; cases this
    · have := key (n + 1) (by omega)
      rw [hk (n + 1) (by omega)] at this; cases this
    have : ops.size ≤ k := by
      rcases Nat.lt_or_ge k ops.size with h | h
      · have := key k h
        rw [hk2 k (aI _)] at this; cases this
      exact h
    rw [zz (by simpa using this)] at hwp;exact hwp
  have hf : ∀ k, (Array.replicate ops.size false).getD k false = false := λk => by
    simp [Array.getD]
  refine ⟨by simp, λi hi => ?_, .inl ⟨λk _ => hf k, ⟨rfl, rfl, λ_ _ => rfl⟩, ⟨rfl, rfl, rfl, aI _, λ_ _ => rfl⟩, λi _ hL => ?_⟩⟩
  · rw [hf] at hi; cases hi
  rw [hf] at hL; cases hL
end
end ai
end Go.Proofs.YtmfcojpjpgldhaaGreatDoor
namespace Go.Proofs.YtmfcojpjpgldhaaGreatDoor
open Go.RowKit aA Enc Go.Lib Go.Proofs.Tryz
set_option linter.unusedVariables false
set_option maxRecDepth 100000
set_option maxHeartbeats 2000000
namespace Enc
theorem Ci:∀(f:Nat) (n:Int),0<=n->n.toNat<=f->∀x ∈ ak.uB n,0<=x/\x<=255
 | 0,n,h0,hf=>by
  rw [ak.yh h0 (by omega)];intro x hx;rw [List.mem_singleton.1 hx];omega
 | f+1,n,h0,hf=>by
  by_cases h:n<128
  ·rw [ak.yh h0 h];intro x hx;rw [List.mem_singleton.1 hx];omega
  rw [ak.Aw (by omega)];intro x hx;rcases pR.1 hx with rfl|hx
  ·omega
  exact Ci f (n / 128) (by omega) (by omega) x hx
theorem F6:∀(f:Nat) (n:Int),n.natAbs<=f->∀x ∈ ak.sB n,0<=x/\x<=255
 | 0,n,hf=>by
  rw [ak.Ay (by omega)];intro x hx;rw [List.mem_singleton.1 hx];omega
 | f+1,n,hf=>by
  by_cases h:-64<=n/\n<=63
  ·rw [ak.Ay h];intro x hx;rw [List.mem_singleton.1 hx];omega
  rw [ak.D9 h];intro x hx;rcases pR.1 hx with rfl|hx
  ·omega
  exact F6 f (n / 128) (by omega) x hx
theorem Ea (xs:List Int) (h:∀x ∈ xs,0<=x/\x<=255):strCells (strOfNums xs)=cells xs:=by
 unfold strCells cells;rw [strOfNums_data,List.map_map];refine List.map_congr_left λx hx=>?_;obtain ⟨h0,h1⟩:=h x hx;show Value.int .u8 ((UInt8.ofNat x.toNat).toNat:Int)=Value.int .u8 x;congr 1;rw [UInt8.toNat_ofNat'];omega
def nums (s:ByteArray):List Int:=s.data.toList.map λb=>(b.toNat:Int)
theorem yj (s:ByteArray):(nums s).length=s.size:=by unfold nums;rw [oI,Array.length_toList];rfl
theorem F7 (s:ByteArray):strCells s=cells (nums s):=by unfold strCells cells nums;rw [List.map_map];rfl
def App (w0:World) (p:Nat) (c:Nat->Value) (v:Value) (w:World) (bs bs':List Int) (v':Value) (w9:World):Prop:=∃w8,WS w0 p c v bs w8/\w9.ownsRow w0.heap.size 5 1 v' bs'.length (cells bs')/\w8.grownBy w9 v.ownBlock/\(v'.ownBlock=v.ownBlock\/v'.ownBlock=some w8.heap.size)/\Below w.heap.size w w8
theorem App.cell {w0 w w9:World} {p:Nat} {c:Nat->Value} {v v':Value} {bs bs':List Int} (h:App w0 p c v w bs bs' v' w9):w9.cell? ⟨p,10,none⟩=some v/\w9.frozen? ⟨p,10,none⟩=false:=by
 obtain ⟨w8,h1,h2,h3,h4,h5⟩:=h;have hb:=h3.block p h1.lt (λe=>h1.apart e.symm);exact ⟨by rw [World.cell?_of_block (a:=⟨p,10,none⟩) hb];exact h1.cell,by rw [World.frozen?_of_block (a:=⟨p,10,none⟩) hb];exact h1.fM⟩
theorem App.slice {w0 w w9:World} {p:Nat} {c:Nat->Value} {v v':Value} {bs bs':List Int} (h:App w0 p c v w bs bs' v' w9):∃o k,v'=.slice o bs'.length k:=by
 obtain ⟨w8,h1,h2,h3,h4,h5⟩:=h;rcases h2.2 with ⟨rfl,h0⟩|⟨g,cap,cur,rfl,_⟩
 ·rw [h0];exact ⟨none,0,rfl⟩
 exact ⟨_,_,rfl⟩
theorem App.ws {w0 w w9:World} {p:Nat} {c:Nat->Value} {v v':Value} {bs bs':List Int} (h:App w0 p c v w bs bs' v' w9):WS w0 p c v' bs' (w9.setCell ⟨p,10,none⟩ v'):=by
 obtain ⟨w8,h1,h2,h3,h4,h5⟩:=h;exact h1.store h2 h3
theorem App.kept {w0 w w9:World} {p:Nat} {c:Nat->Value} {v v':Value} {bs bs':List Int} (h:App w0 p c v w bs bs' v' w9):Kept p v w v' (w9.setCell ⟨p,10,none⟩ v'):=by
 obtain ⟨w8,h1,h2,h3,h4,h5⟩:=h;exact (Kept.below h5).trans (Kept.store h3 h4 v')
theorem J3 {P:Program} (w:World) (base:Nat) (t u ty e:TypeId) (i:TypeInfo) (ht:P.underlying t=some (.slice e)) (hu:P.underlying u=some .string) (hi:P.info? e=some i) (hz:i.zero=some (.int .u8 0)) (hsize:i.size=1) (hby:i.bytes=1)
  (v:Value) (n:Nat) (xs:List Value) (hown:w.ownsRow base e 1 v n xs) (s:ByteArray) (h63:n+s.size<=maxLen) (hbytes:n+s.size<=140737488355328) (hbase:base<=w.heap.size) :
  ∃v' w',(Builtin.append_ #[t,u] ty #[v,.string s]).run P w=.ok v' w'/\w'.ownsRow base e 1 v' (n+s.size) (xs++strCells s)/\w.grownBy w' v.ownBlock/\(v'.ownBlock=v.ownBlock\/v'.ownBlock=some w.heap.size):=by
 obtain ⟨v',w',hr,h2,h3,h4⟩:=run_append_own_string (P:=P) w base t u ty e i ht hu hi hz hsize hby v n xs hown s h63 hbytes hbase;refine ⟨v',w',hr,h2,h3,?_⟩;have hsmall:n+s.size<=9223372036854775807:=by simp only [maxLen] at h63;omega
 have hxl:xs.length=n:=by simpa using hown.1
 rcases hown.2 with ⟨rfl,rfl⟩|⟨g,cap,cur,rfl,hbg,hg,hnc,hcm,hcs,htake⟩
 ·by_cases hm:s.size=0
  ·left;rw [h4.2 ⟨rfl,hm⟩]
  rw [run_append_nil_string (P:=P) w t u ty e i (.int .u8 0) ht hu hi hz s (by omega) (by omega) (by rw [hby];omega)] at hr;injection hr with hv _;right;rw [<- hv];rfl
 by_cases hroom:n+s.size<=cap
 ·have hcs':cur.size=cap:=by simpa using hcs
  rw [run_append_room_string (P:=P) w t u ty e i ht hu hi hsize g n cap cur hg s hroom (by omega)] at hr;injection hr with hv _;left;rw [<- hv];rfl
 have holds:∀j u,xs[j]?=some u->w.cell? ((⟨g,0,none⟩:Addr).add j)=some u:=hown.cells (g:=g) rfl;rw [run_append_grow_string (P:=P) w t u ty e i (.int .u8 0) ht hu hi hz ⟨g,0,none⟩ n cap xs (by rw [hsize];simpa using hxl) holds s (by omega) (by omega) (by rw [hby];exact growslice_fits (by omega) (by omega))] at hr;injection hr with hv _;right;rw [<- hv];rfl
theorem J4 {w0 wb w:World} {p:Nat} {c:Nat->Value} {v:Value} {bs:List Int} {op:Oper} {a:Act} {K:Act->World->Prop} {Q:Exit->Act->World->Prop} (s x:Operand)
  (ho:op.op=.call { callee:=.builtin .append,args:=#[s,x],argTypes:=#[59,9] }) (h:WS w0 p c v bs w) (hs:a.eval s=v) (str:ByteArray) (hx:a.eval x=.string str) (add:List Int) (hc:strCells str=cells add) (hl:str.size=add.length) (hbw:Below wb.heap.size wb w) (hn:bs.length+add.length<=140737488355328)
  (hK:∀v' w',App w0 p c v wb bs (bs++add) v' w'->K (a.put op.dst v') w'):op.wp prog a w K Q:=by
 obtain ⟨i,hi,hz,hsz,hby⟩:=info_parts yf;obtain ⟨v',w',hr,h2,h3,h4⟩:=J3 (P:=prog) w w0.heap.size 59 9 op.type 5 i underlying59 underlying9 hi hz hsz hby v bs.length (cells bs) h.own str (by unfold maxLen;omega) (by omega) h.below.size;unfold Oper.wp execOp;simp only [ho,resolve,invoke,builtin,Sem.run_bind,Sem.run_pure,Result.andThen_ok,List.map_toArray,List.map_cons,List.map_nil,hs,hx,hr];refine hK _ _ ⟨w,h,?_,h3,h4,hbw⟩;rw [aB];rw [hc,hl] at h2
 have:cells (bs++add)=cells bs++cells add:=by unfold cells;rw [zA]
 rw [this];exact h2
def TU (p:Nat) (oV:Option Addr) (kV:Nat) (bs:List Int) (n:Int) (s:ByteArray):Nat->jK
 | 0=>bh (.pointer (some ⟨p,0,none⟩))
 | 1=>bh (.pointer (some ⟨p,0,none⟩))
 | 2=>bh (.pointer (some ⟨p,0,none⟩))
 | 3=>bh (.pointer (some ⟨p,10,none⟩))
 | 4=>bh (.slice oV bs.length kV)
 | 5=>bh (.int .i64 n)
 | 6=>bh (.int .u64 n)
 | 7=>bh (.string s)
 | _=>bh undef
def TS (p:Nat) (oV:Option Addr) (kV:Nat) (bs:List Int) (n:Int) (s:ByteArray):Nat->jK
 | 0=>bh (.pointer (some ⟨p,0,none⟩))
 | 1=>bh (.pointer (some ⟨p,0,none⟩))
 | 2=>bh (.pointer (some ⟨p,0,none⟩))
 | 3=>bh (.pointer (some ⟨p,10,none⟩))
 | 4=>bh (.slice oV bs.length kV)
 | 5=>bh (.int .i64 n)
 | 6=>bh (.string s)
 | _=>bh undef
end Enc
theorem wU (w0:World) (p:Nat) (c:Nat->Value) (v:Value) (bs:List Int) (n:Int) (w:World) (h:WS w0 p c v bs w) (h0:0<=n) (h1:n<=9223372036854775807) (hn:bs.length<=100000000000000):Calls prog 48 #[.pointer (some ⟨p,0,none⟩),.int .i64 n] w (Does w0 p c v w (bs++ak.uB n)):=by
 obtain ⟨b2,hb2⟩:∃b2,b2=bs++ak.uB n:=⟨_,rfl⟩;rw [<- hb2];have HB2:=aa hb2;clear hb2;obtain ⟨oV,kV,rfl⟩:=h.slice;have HS:=aa h;clear h;obtain ⟨s,hs⟩:∃s,s=strOfNums (ak.uB n):=⟨_,rfl⟩;have HC:Hid (strCells s=cells (ak.uB n)):=aa (by rw [hs];exact Ea _ (Ci n.toNat n h0 (aI _)));have HL:Hid (s.size=(ak.uB n).length):=aa (by rw [hs];exact strOfNums_size _);have HT:Hid ((ak.uB n).length<=10):=aa (ak.gT h0 (by omega));have tj:=aa hs;clear hs;have hwr:IntKind.u64.wrap n=n:=by simp [IntKind.wrap,IntKind.signed,IntKind.bits];omega
 go_enter func48,ntmps48;refine ai.J5 8 (λi=>4+i) (λi=>decide (i=0)) (λi=>(TU p oV kV bs n s i).1) (App w0 p c (.slice oV bs.length kV) w bs b2) (by kernel_rfl) (by kernel_rfl) (λi j h1 h2 h=>by have h':4+i=4+j:=h;omega) (ai.kz (size:=15) (by kernel_rfl)) (λi v w w' _ h hb=>(TU p oV kV bs n s i).2 v w w' h hb) (λi v w w' _ hp h=>by obtain rfl:i=0:=of_decide_eq_true hp;exact h) ?hstep ?Cj ?happ ?cH
 case hstep =>
  intro i o a w2 hi ho hF hB hd;have f0:a.tmps[0]?.getD undef=.pointer (some ⟨p,0,none⟩):=ai.av (hF.eval 0 (λi hi=>by show 4+i≠0;omega));have f1:a.tmps[1]?.getD undef=.int .i64 n:=ai.av (hF.eval 1 (λi hi=>by show 4+i≠1;omega));have kc:=(HS.out.on hB).cell;have hcase:i=0\/i=1\/i=2\/i=3\/i=4\/i=5\/i=6\/i=7:=by omega
  clear hi;rcases hcase with rfl|rfl|rfl|rfl|rfl|rfl|rfl|rfl
  all_goals (simp only [fI,gX,gz,gA] at ho;subst ho)
  ·refine ai.az λK hK=>?_;go_simp;exact hK _ _ ⟨_,rfl,Below.refl _ _,rfl⟩
  ·refine ai.az λK hK=>?_;go_simp;exact hK _ _ ⟨_,rfl,Below.refl _ _,rfl⟩
  ·have q0:a.tmps[5]?.getD undef=.pointer (some ⟨p,0,none⟩):=ai.av (hd 1 (by decide));refine ai.az λK hK=>?_;go_simp;exact hK _ _ ⟨_,rfl,Below.refl _ _,rfl⟩
  ·have q0:a.tmps[6]?.getD undef=.pointer (some ⟨p,0,none⟩):=ai.av (hd 2 (by decide));refine ai.az λK hK=>?_;go_simp;exact hK _ _ ⟨_,rfl,Below.refl _ _,rfl⟩
  ·have q0:a.tmps[7]?.getD undef=.pointer (some ⟨p,10,none⟩):=ai.av (hd 3 (by decide));refine ai.az λK hK=>?_;go_simp;exact hK _ _ ⟨_,rfl,Below.refl _ _,rfl⟩
  ·refine ai.az λK hK=>?_;go_simp;exact hK _ _ ⟨_,rfl,Below.refl _ _,rfl⟩
  ·have q0:a.tmps[9]?.getD undef=.int .i64 n:=ai.av (hd 5 (by decide));refine ai.az λK hK=>?_;go_simp;exact hK _ _ ⟨_,rfl,Below.refl _ _,rfl⟩
  have q0:a.tmps[10]?.getD undef=.int .u64 n:=ai.av (hd 6 (by decide));refine ai.az λK hK=>?_;have gY:=aa hK;clear hK;go_simp;refine (F8 n w2 h0 (by omega)).mono ?_;rintro e w3 ⟨rfl,hb3⟩;exact gY.out _ _ ⟨_,rfl,hb3,by rw [tj.out];rfl⟩
 case Cj =>
  intro i o a w2 hi hp ho hF;obtain rfl:i=0:=of_decide_eq_true hp;have f0:a.tmps[0]?.getD undef=.pointer (some ⟨p,0,none⟩):=ai.av (hF.eval 0 (λi hi=>by show 4+i≠0;omega));simp only [fI,gz,gA] at ho;subst ho;refine ai.az λK hK=>?_;go_simp;exact hK _ _ ⟨_,rfl,rfl,rfl⟩
 case happ =>
  intro o a w2 ho hF hB hG;simp only [fI,gX,gz,gA] at ho;subst ho;have g4:a.eval (.tmp 8)=.slice oV bs.length kV:=hG 4 (by omega) rfl;have g7:a.eval (.tmp 11)=.string s:=hG 7 (by omega) rfl;have hT:=HT.out;exact J4 _ _ rfl (HS.out.on hB) g4 s g7 (ak.uB n) HC.out HL.out hB (by omega) λv' w' hA=>⟨v',rfl,by rw [HB2.out];exact hA⟩
 case cH =>
  intro a w2 hF hG hA;have g0:a.tmps[4]?.getD undef=.pointer (some ⟨p,0,none⟩):=ai.av (show a.eval (.tmp 4)=_ from hG 0 (by omega) rfl);obtain ⟨o2,k2,hv⟩:=hA.slice;have g8:=ai.av (a:=a) (k:=12) hv;rw [show a.eval (.tmp (4+8))=_ from hv] at hA;have HA:=aa hA;obtain ⟨kc,kf⟩:=hA.cell;have HAS:=aa hF.size;have F9:=aa hF.defers;clear hA hv hG hF;simp only [fK,fB];refine wpList_plain rfl λK hK=>?_;go_simp;refine hK _ _ ?_;clear hK;have has:a.tmps.size=15:=HAS.out;have h12:a.tmps[12]'(by rw [has];decide)=.slice o2 b2.length k2:=by simpa [has] using g8
  refine wpList_plain rfl λK hK=>?_;go_simp;refine hK _ _ ?_;clear hK;refine wpList_plain rfl λK hK=>?_;go_simp;refine hK _ _ (wpList_nil ?_);exact bodyPost_end (results_none rfl _ _ _) F9.out ⟨_,rfl,HA.out.ws,HA.out.kept⟩
theorem wS (w0:World) (p:Nat) (c:Nat->Value) (v:Value) (bs:List Int) (n:Int) (w:World) (h:WS w0 p c v bs w) (h0:-9223372036854775808<=n) (h1:n<=9223372036854775807) (hn:bs.length<=100000000000000):Calls prog 125 #[.pointer (some ⟨p,0,none⟩),.int .i64 n] w (Does w0 p c v w (bs++ak.sB n)):=by
 obtain ⟨b2,hb2⟩:∃b2,b2=bs++ak.sB n:=⟨_,rfl⟩;rw [<- hb2];have HB2:=aa hb2;clear hb2;obtain ⟨oV,kV,rfl⟩:=h.slice;have HS:=aa h;clear h;obtain ⟨s,hs⟩:∃s,s=strOfNums (ak.sB n):=⟨_,rfl⟩;have HC:Hid (strCells s=cells (ak.sB n)):=aa (by rw [hs];exact Ea _ (F6 n.natAbs n (aI _)));have HL:Hid (s.size=(ak.sB n).length):=aa (by rw [hs];exact strOfNums_size _);have HT:Hid ((ak.sB n).length<=10):=aa (ak.Ck h0 (by omega));have tj:=aa hs;clear hs;have hwr:IntKind.i64.wrap n=n:=by simp [IntKind.wrap,IntKind.signed,IntKind.bits];omega
 go_enter func125,ntmps125;refine ai.J5 7 (λi=>4+i) (λi=>decide (i=0)) (λi=>(TS p oV kV bs n s i).1) (App w0 p c (.slice oV bs.length kV) w bs b2) (by kernel_rfl) (by kernel_rfl) (λi j h1 h2 h=>by have h':4+i=4+j:=h;omega) (ai.kz (size:=14) (by kernel_rfl)) (λi v w w' _ h hb=>(TS p oV kV bs n s i).2 v w w' h hb) (λi v w w' _ hp h=>by obtain rfl:i=0:=of_decide_eq_true hp;exact h) ?hstep ?Cj ?happ ?cH
 case hstep =>
  intro i o a w2 hi ho hF hB hd;have f0:a.tmps[0]?.getD undef=.pointer (some ⟨p,0,none⟩):=ai.av (hF.eval 0 (λi hi=>by show 4+i≠0;omega));have f1:a.tmps[1]?.getD undef=.int .i64 n:=ai.av (hF.eval 1 (λi hi=>by show 4+i≠1;omega));have kc:=(HS.out.on hB).cell;have hcase:i=0\/i=1\/i=2\/i=3\/i=4\/i=5\/i=6:=by omega
  clear hi;rcases hcase with rfl|rfl|rfl|rfl|rfl|rfl|rfl
  all_goals (simp only [fI,gX,gz,gA] at ho;subst ho)
  ·refine ai.az λK hK=>?_;go_simp;exact hK _ _ ⟨_,rfl,Below.refl _ _,rfl⟩
  ·refine ai.az λK hK=>?_;go_simp;exact hK _ _ ⟨_,rfl,Below.refl _ _,rfl⟩
  ·have q0:a.tmps[5]?.getD undef=.pointer (some ⟨p,0,none⟩):=ai.av (hd 1 (by decide));refine ai.az λK hK=>?_;go_simp;exact hK _ _ ⟨_,rfl,Below.refl _ _,rfl⟩
  ·have q0:a.tmps[6]?.getD undef=.pointer (some ⟨p,0,none⟩):=ai.av (hd 2 (by decide));refine ai.az λK hK=>?_;go_simp;exact hK _ _ ⟨_,rfl,Below.refl _ _,rfl⟩
  ·have q0:a.tmps[7]?.getD undef=.pointer (some ⟨p,10,none⟩):=ai.av (hd 3 (by decide));refine ai.az λK hK=>?_;go_simp;exact hK _ _ ⟨_,rfl,Below.refl _ _,rfl⟩
  ·refine ai.az λK hK=>?_;go_simp;exact hK _ _ ⟨_,rfl,Below.refl _ _,rfl⟩
  have q0:a.tmps[9]?.getD undef=.int .i64 n:=ai.av (hd 5 (by decide));refine ai.az λK hK=>?_;have gY:=aa hK;clear hK;go_simp;refine (RV n w2 h0 h1).mono ?_;rintro e w3 ⟨rfl,hb3⟩;exact gY.out _ _ ⟨_,rfl,hb3,by rw [tj.out];rfl⟩
 case Cj =>
  intro i o a w2 hi hp ho hF;obtain rfl:i=0:=of_decide_eq_true hp;have f0:a.tmps[0]?.getD undef=.pointer (some ⟨p,0,none⟩):=ai.av (hF.eval 0 (λi hi=>by show 4+i≠0;omega));simp only [fI,gz,gA] at ho;subst ho;refine ai.az λK hK=>?_;go_simp;exact hK _ _ ⟨_,rfl,rfl,rfl⟩
 case happ =>
  intro o a w2 ho hF hB hG;simp only [fI,gX,gz,gA] at ho;subst ho;have g4:a.eval (.tmp 8)=.slice oV bs.length kV:=hG 4 (by omega) rfl;have g7:a.eval (.tmp 10)=.string s:=hG 6 (by omega) rfl;have hT:=HT.out;exact J4 _ _ rfl (HS.out.on hB) g4 s g7 (ak.sB n) HC.out HL.out hB (by omega) λv' w' hA=>⟨v',rfl,by rw [HB2.out];exact hA⟩
 case cH =>
  intro a w2 hF hG hA;have g0:a.tmps[4]?.getD undef=.pointer (some ⟨p,0,none⟩):=ai.av (show a.eval (.tmp 4)=_ from hG 0 (by omega) rfl);obtain ⟨o2,k2,hv⟩:=hA.slice;have g8:=ai.av (a:=a) (k:=11) hv;rw [show a.eval (.tmp (4+7))=_ from hv] at hA;have HA:=aa hA;obtain ⟨kc,kf⟩:=hA.cell;have HAS:=aa hF.size;have F9:=aa hF.defers;clear hA hv hG hF;simp only [fK,fB];refine wpList_plain rfl λK hK=>?_;go_simp;refine hK _ _ ?_;clear hK;have has:a.tmps.size=14:=HAS.out;have h12:a.tmps[11]'(by rw [has];decide)=.slice o2 b2.length k2:=by simpa [has] using g8
  refine wpList_plain rfl λK hK=>?_;go_simp;refine hK _ _ ?_;clear hK;refine wpList_plain rfl λK hK=>?_;go_simp;refine hK _ _ (wpList_nil ?_);exact bodyPost_end (results_none rfl _ _ _) F9.out ⟨_,rfl,HA.out.ws,HA.out.kept⟩
theorem rE (w0:World) (p:Nat) (c:Nat->Value) (v:Value) (bs:List Int) (w:World) (h:WS w0 p c v bs w) (hn:bs.length<=100000000000000) :
  Calls prog 49 #[.pointer (some ⟨p,0,none⟩)] w λe w'=>e=.returned (.bool (decide (262144<bs.length)))/\w'=w:=by
 obtain ⟨oV,kV,rfl⟩:=h.slice;have kc:=h.cell;clear h
 have hd:decide ((262144:Int)<(bs.length:Int))=decide (262144<bs.length):=by
  by_cases hb:262144<bs.length
  ·rw [aC hb];exact aC (by omega)
  rw [au hb];exact au (by omega)
 rw [<- hd];clear hd;generalize bs.length=n at *;go_enter func49,ntmps49;go_wp2;go_ret;exact ⟨rfl,rfl⟩
def one (b:Bool):Int:=if b then 1 else 0
theorem He (w0:World) (p:Nat) (c:Nat->Value) (v:Value) (bs:List Int) (b:Bool) (w:World) (h:WS w0 p c v bs w) (hn:bs.length<=100000000000000) :
  Calls prog 79 #[.pointer (some ⟨p,0,none⟩),.bool b] w (Does w0 p c v w (bs++[one b])):=by
 have H1:=aa (gZ w0 p c v bs 1 w h hn);have H0:=aa (gZ w0 p c v bs 0 w h hn);clear h;cases b
 ·go_enter func79,ntmps79;go_wp2_with fail;refine H0.out.mono ?_;rintro e w1 ⟨v1,rfl,h1,k1⟩;have HE:=aa h1;have HK:=aa k1;clear h1 k1;go_wp2;go_end0;exact ⟨_,rfl,HE.out,HK.out⟩
 go_enter func79,ntmps79;go_wp2_with fail;refine H1.out.mono ?_;rintro e w1 ⟨v1,rfl,h1,k1⟩;have HE:=aa h1;have HK:=aa k1;clear h1 k1;go_wp2;go_end0;exact ⟨_,rfl,HE.out,HK.out⟩
theorem Mf {P:Program} {w:World} {ops:Array Oper} {rest:List Oper} {o:Oper} {a:Act} {Q:Exit->Act->World->Prop} (hgd:o.guard=none) (sl x:Operand) (t u:TypeId)
  (ho:o.op=.call { callee:=.builtin .append,args:=#[sl,x],argTypes:=#[t,u] })
  (base:Nat) (e:TypeId) (i:TypeInfo) (ht:P.underlying t=some (.slice e)) (hu:P.underlying u=some .string) (hi:P.info? e=some i) (hz:i.zero=some (.int .u8 0)) (hsize:i.size=1) (hby:i.bytes=1)
  (v:Value) (n:Nat) (xs:List Value) (hs:a.eval sl=v) (hown:w.ownsRow base e 1 v n xs) (s:ByteArray) (hx:a.eval x=.string s) (h63:n+s.size<=maxLen) (hbytes:n+s.size<=140737488355328) (hbase:base<=w.heap.size)
  (h:∀v' w',w'.ownsRow base e 1 v' (n+s.size) (xs++strCells s)->w.grownBy w' v.ownBlock->(v'.ownBlock=v.ownBlock\/v'.ownBlock=some w.heap.size)->wpList P ops Q rest (a.put o.dst v') w'):wpList P ops Q (o :: rest) a w:=by
 refine wpList_plain hgd λK hK=>?_;obtain ⟨v',w',hr,h2,h3,h4⟩:=J3 (P:=P) w base t u o.type e i ht hu hi hz hsize hby v n xs hown s h63 hbytes hbase;unfold Oper.wp execOp;simp only [ho,resolve,invoke,builtin,Sem.run_bind,Sem.run_pure,Result.andThen_ok,List.map_toArray,List.map_cons,List.map_nil,hs,hx,hr];exact hK _ _ (h v' w' h2 h3 h4)
theorem ER (w0:World) (p:Nat) (c:Nat->Value) (v:Value) (bs:List Int) (s:ByteArray) (w:World) (h:WS w0 p c v bs w) (hn:bs.length<=100000000000000) (hs:s.size<=100000000) :
  Calls prog 77 #[.pointer (some ⟨p,0,none⟩),.string s] w (Does w0 p c v w (bs++ak.uB (s.size:Int)++nums s)):=by
 have H1:=aa (wU w0 p c v bs (s.size:Int) w h (by omega) (by omega) hn);have ma:=ak.gT (n:=(s.size:Int)) (by omega) (by omega);have HLEN:Hid ((bs++ak.uB (s.size:Int)).length<=100000001000000):=aa (by rw [aB];omega);clear h ma;obtain ⟨i0,hi,hz0,hz1,hz2⟩:=info_parts yf;go_enter func77,ntmps77;go_wp2_with fail;refine H1.out.mono ?_;rintro e w1 ⟨v1,rfl,h1,k1⟩;have aO:=aa k1;clear k1;obtain ⟨oV,kV,rfl⟩:=h1.slice;have HS:=aa h1;have kc:=h1.cell;clear h1 H1;have hlen:=HLEN.out;generalize hbs:bs++ak.uB (s.size:Int)=b1 at *;go_wp2_with (first|(at_builtin;refine Mf rfl _ _ 59 9 rfl w0.heap.size 5 i0 underlying59 underlying9 hi hz0 hz1 hz2 _ _ _ rfl HS.out.own s rfl ?c3 ?c4 ?c5 ?_))
 case c3=>unfold maxLen;omega
 case c4=>omega
 case c5=>exact HS.out.below.size
 intro v' w9 hown hg hv
 have hA:App w0 p c (.slice oV b1.length kV) w1 b1 (b1++nums s) v' w9:=⟨w1,HS.out,by
  rw [aB,yj]
  have:cells (b1++nums s)=cells b1++strCells s:=by rw [F7];unfold cells;rw [zA]
  rw [this];exact hown,hg,hv,Below.refl _ _⟩
 clear hown hg hv;generalize hb2:b1++nums s=b2 at *;obtain ⟨o9,k9,rfl⟩:=hA.slice;obtain ⟨Cc,Ce⟩:=hA.cell;have HE:=aa hA.ws;have aW:=aa (aO.out.trans hA.kept);clear hA HS kc;go_wp2;go_end0;exact ⟨_,rfl,HE.out,aW.out⟩
end Go.Proofs.YtmfcojpjpgldhaaGreatDoor
