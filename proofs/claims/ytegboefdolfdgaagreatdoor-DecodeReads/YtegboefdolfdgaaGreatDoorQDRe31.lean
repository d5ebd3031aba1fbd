/- Texts that the claim needs. -/
import Derived.Test.YtegboefdolfdgaaGreatDoorQDRe30
import Derived.Test.YtegboefdolfdgaaGreatDoorQDRe23
import Derived.Test.YtegboefdolfdgaaGreatDoorQDRe28
namespace Go.Proofs.YtegboefdolfdgaaGreatDoor
open Go.RowKit aA
set_option linter.unusedVariables false
namespace af
def EP (ops:Array Oper) (C:List Nat) (lo size:Nat):Bool :=
 pU ops (ops.size-1) && decide (C.getLast?=some (ops.size-1)) && decide C.Nodup &&
 (List.range ops.size).all (fun i=>match ops[i]? with
  | some o=>o.guard.isNone && (if C.contains i then decide (o.dst=none\/(o.dst=some (lo+i)/\lo+i<size)) else (decide (o.dst=some (lo+i)) && decide (lo+i<size) && (deps o).all (fun j=>!C.contains j)))
  | none=>false) &&
 (List.range (C.length-1)).all (fun k=>(il ops (C.getD (k+1) 0)).contains (C.getD k 0))
section
variable {P:Program} {ops:Array Oper} {Q:Exit->Act->World->Prop} {id:Nat} {a0:Act} {w0:World}
def env (C:List Nat) (lo:Nat) (a:Act) (j:Nat):Value:=a.eval (.tmp (lo+C.getD j 0))
structure Low (a0:Act) (lo N:Nat) (a:Act):Prop where
 defers:a.defers=a0.defers
 size:a.tmps.size=a0.tmps.size
 rest:∀k,k<lo\/lo+N<=k->a.tmps[k]?=a0.tmps[k]?
theorem Low.eval {lo N:Nat} {a:Act} (h:Low a0 lo N a) (k:Nat) (hk:k<lo\/lo+N<=k):a.eval (.tmp k)=a0.eval (.tmp k):=by
 show a.tmps.getD k undef=a0.tmps.getD k undef;rw [Array.getD_eq_getD_getElem?,Array.getD_eq_getD_getElem?,h.rest k hk]
theorem Low.put {lo N i:Nat} {a:Act} (h:Low a0 lo N a) (hi:i<N) (v:Value):Low a0 lo N (a.put (some (lo+i)) v):=by
 refine ⟨h.defers,?_,fun k hk=>?_⟩
 ·show (a.tmps.setIfInBounds (lo+i) v).size=_;rw [Array.size_setIfInBounds,h.size]
 ·show (a.tmps.setIfInBounds (lo+i) v)[k]?=_;rw [Array.getElem?_setIfInBounds_ne (by omega),h.rest k hk]
theorem ER {a:Act} {lo j:Nat} {v:Value} (h:a.eval (.tmp (lo+j))=v):a.tmps[j+lo]?.getD undef=v:=by
 rw [Nat.add_comm];exact ax h
theorem pV (N lo size : Nat) (vals : Nat → Value) (C : List Nat) (S : World → Prop) (U : Nat → (Nat → Value) → World → Prop) (hm : P.follows .mixedOrders = true) (hN : ops.size = N) (hok : EP ops C lo size = true) (hs : a0.tmps.size = size)
    (ES : ∀ k f g w, (∀ j, j < k → f j = g j) → U k f w → U k g w)
    (hread : ∀ i o a w, i < N → C.contains i = false → ops[i]? = some o → Low a0 lo N a → S w → (∀ j ∈ deps o, a.tmps[j + lo]?.getD undef = vals j) → o.wp P a w (fun a' w' => a' = a.put o.dst (vals i) ∧ w' = w) Q)
    (iV : ∀ k i o a w, C[k]? = some i → ops[i]? = some o → Low a0 lo N a → S w → U k (env C lo a) w → (∀ j ∈ deps o, C.contains j = false → a.tmps[j + lo]?.getD undef = vals j) → o.wp P a w (fun a' w' => ∃ v, a' = a.put o.dst v ∧ (k + 1 < C.length → S w' ∧ o.dst = some (lo + i)) ∧ U (k + 1) (fun j => if j = k then v else env C lo a j) w') Q)
    (hend : ∀ a w, Low a0 lo N a → (∃ f, (∀ j, j + 1 < C.length → f j = env C lo a j) ∧ U C.length f w) → Q .normal a w)
    (hS0 : S { w0 with drawn := w0.drawn + 1 }) (KU : ∀ f, U 0 f { w0 with drawn := w0.drawn + 1 }) :
    (Code.region id ops true).wp P Q a0 w0 := by
  subst hN;unfold EP at hok;simp only [Bool.and_eq_true, List.all_eq_true, decide_eq_true_eq] at hok;obtain ⟨⟨⟨⟨hT, hlast⟩, hnd⟩, KV⟩, qH⟩ := hok;have fM := hT;unfold pU at fM;rw [Bool.and_eq_true, List.all_eq_true, decide_eq_true_eq] at fM;obtain ⟨hn, fM⟩ := fM
  have KW : ∀ i o, ops[i]? = some o → o.guard = none ∧ (C.contains i = true → o.dst = none ∨ (o.dst = some (lo + i) ∧ lo + i < size)) ∧ (C.contains i = false → o.dst = some (lo + i) ∧ lo + i < size ∧ ∀ j ∈ deps o, C.contains j = false) := fun i o ho => by
    have hi : i < ops.size := (Array.getElem?_eq_some_iff.1 ho).1;have h := KV i (List.mem_range.2 hi);rw [ho] at h;simp only [Bool.and_eq_true, Option.isNone_iff_eq_none] at h;refine ⟨h.1, fun hc => ?_, fun hc => ?_⟩
    · have h2 := h.2; rw [if_pos hc] at h2; exact of_decide_eq_true h2
    · have h2 := h.2; rw [if_neg (by simp only [hc]; decide)] at h2
      simp only [Bool.and_eq_true, decide_eq_true_eq, List.all_eq_true, Bool.not_eq_true'] at h2;exact ⟨h2.1.1, h2.1.2, h2.2⟩
  have hlen : 0 < C.length := by
    cases C with
    | nil => simp at hlast
    | cons x r => simp
  have ET : C[C.length - 1]? = some (ops.size - 1) := by rw [← List.getLast?_eq_getElem?]; exact hlast
  have hinj : ∀ j k i, C[j]? = some i → C[k]? = some i → j = k := fun j k i h1 h2 => by
    obtain ⟨a1, a2⟩ := List.getElem?_eq_some_iff.1 h1;obtain ⟨b1, b2⟩ := List.getElem?_eq_some_iff.1 h2;have hp := List.pairwise_iff_getElem.1 hnd;rcases Nat.lt_trichotomy j k with h | h | h
    · exact absurd (a2.trans b2.symm) (hp j k a1 b1 h)
    · exact h
    · exact absurd (b2.trans a2.symm) (hp k j b1 a1 h)
  refine xw (fun L a w => L.size = ops.size ∧ Closed ops L ∧ Low a0 lo ops.size a ∧ ∃ k, k ≤ C.length ∧ (∀ j i, C[j]? = some i → (L.getD i false = true ↔ j < k)) ∧ (∀ i, i < ops.size → C.contains i = false → L.getD i false = true → a.eval (.tmp (lo + i)) = vals i) ∧ (k < C.length → S w ∧ U k (env C lo a) w) ∧ (k = C.length → (∀ i, i < ops.size → L.getD i false = true) ∧ ∃ f, (∀ j, j + 1 < C.length → f j = env C lo a j) ∧ U C.length f w)) hm ?_ ?_ ?_
  · rintro L i a w hi ⟨hsz, hc, hF, k, hkl, hk, hG, hA, hB⟩
    obtain ⟨qI, o, ho, hd⟩ := xx hi;obtain ⟨dW, iK⟩ := xy qI;have his : i < ops.size := by omega
    have hd' : ∀ j ∈ il ops i, L.getD j false = true := by rw [oG ho]; exact hd
    have hkn : k < C.length := by
      rcases Nat.lt_or_ge k C.length with h | h
      · exact h
      · have := (hB (by omega)).1 i his; rw [this] at iK; cases iK
    obtain ⟨hS, hU⟩ := hA hkn;obtain ⟨hgd, hch, hrd⟩ := KW i o ho;have hsz' : (L.setIfInBounds i true).size = ops.size := by rw [Array.size_setIfInBounds, hsz]
    have hc' : Closed ops (L.setIfInBounds i true) := fun m hm j hj => by
      rw [fN L i _ dW] at hm ⊢;split
      · rfl
      · by_cases he : m = i
        · subst he; exact hd' j hj
        · rw [if_neg he] at hm; exact hc m hm j hj
    have hlow : ∀ j ∈ deps o, j < ops.size := fun j hj => by
      have := fM i (List.mem_range.2 his);rw [Bool.and_eq_true, List.all_eq_true] at this;have := of_decide_eq_true (this.1 j (by rw [oG ho]; exact hj));omega
    unfold wpOp;rw [ho];show ite _ _ _;rw [if_pos (by simp [Region.wanted, hgd])];left;cases hci : C.contains i with
    | false =>
      obtain ⟨hdst, hdl, KX⟩ := hrd hci;refine Oper.wp_mono ?_ (hread i o a w his hci ho hF hS fun j hj => ER (hG j (hlow j hj) (KX j hj) (hd j hj)));rintro a' w' ⟨rfl, rfl⟩;rw [hdst];refine ⟨hsz', hc', hF.put his _, k, hkl, fun j i' hj => ?_, fun i' hi' vN hL' => ?_, fun h => ⟨hS, ES k _ _ _ (fun j hj => ?_) hU⟩, fun h => absurd h (by omega)⟩
      · have hne : i' ≠ i := fun e => by (subst e; have : C.contains i' = true := (by simpa using List.mem_of_getElem? hj); rw [hci] at this; cases this)
        rw [fN L i _ dW, if_neg hne]; exact hk j i' hj
      · by_cases he : i' = i
        · subst he; exact um _ (by rw [hF.size, hs]; exact hdl)
        · rw [fN L i _ dW, if_neg he] at hL'
          rw [pW _ (by omega)]; exact hG i' hi' vN hL'
      · have hj' : j < C.length := by omega
        have hcm : C.contains (C.getD j 0) = true := by
          rw [List.getD_eq_getElem?_getD, List.getElem?_eq_getElem hj']; simp
        exact (pW _ (fun e => by (have : C.getD j 0 = i := (by omega); rw [this, hci] at hcm; cases hcm))).symm
    | true =>
      obtain ⟨kk, hkk⟩ : ∃ kk, C[kk]? = some i := List.getElem?_of_mem (by simpa using hci);have UK : kk < C.length := (List.getElem?_eq_some_iff.1 hkk).1
      have e1 : kk = k := by
        have h1 : ¬ kk < k := fun h => by rw [(hk kk i hkk).2 h] at iK; cases iK
        rcases Nat.eq_zero_or_pos kk with h0 | h0
        · omega
        · have hp := qH (kk - 1) (List.mem_range.2 (by omega))
          rw [show kk - 1 + 1 = kk by omega] at hp;have hg1 : C.getD kk 0 = i := by rw [List.getD_eq_getElem?_getD, hkk]; rfl
          rw [hg1] at hp;have hpl : kk - 1 < C.length := by omega
          have hq : C[kk - 1]? = some (C.getD (kk - 1) 0) := by rw [List.getD_eq_getElem?_getD, List.getElem?_eq_getElem hpl]; rfl
          have := (hk (kk - 1) _ hq).1 (hd' _ (by simpa using hp));omega
      subst e1;have Ar := hch hci;refine Oper.wp_mono ?_ (iV kk i o a w hkk ho hF hS hU fun j hj hjc => ER (hG j (hlow j hj) hjc (hd j hj)));rintro a' w' ⟨v, rfl, h1, h2⟩;have hgi : C.getD kk 0 = i := by rw [List.getD_eq_getElem?_getD, hkk]; rfl
      have hF' : Low a0 lo ops.size (a.put o.dst v) := by
        rcases Ar with h | h
        · rw [h]; exact hF
        · rw [h.1]; exact hF.put his v
      refine ⟨hsz', hc', hF', kk + 1, by omega, fun j i' hj => ?_, fun i' hi' vN hL' => ?_, fun h => ?_, fun h => ?_⟩
      · rw [fN L i _ dW]
        by_cases he : i' = i
        · subst he; have := hinj j kk i' hj hkk; subst this; simp
        · rw [if_neg he]
          have := hk j i' hj;have hjk : j ≠ kk := fun e => he (by subst e; rw [hkk] at hj; exact (Option.some.inj hj).symm);rw [this]; omega
      · have hne : i' ≠ i := fun e => by subst e; rw [hci] at vN; cases vN
        rw [fN L i _ dW, if_neg hne] at hL';rcases Ar with h | h
        · rw [h]; exact hG i' hi' vN hL'
        · rw [h.1, pW _ (by omega)]; exact hG i' hi' vN hL'
      · obtain ⟨KY, hdd⟩ := h1 h
        refine ⟨KY, ES _ _ _ _ (fun j hj => ?_) h2⟩;show (if j = kk then v else env C lo a j) = _;unfold env;rw [hdd];by_cases he : j = kk
        · subst he; rw [if_pos rfl, hgi]
          exact (um _ (by (rw [hF.size, hs]; rcases Ar with h | h; (rw [h] at hdd; cases hdd); exact h.2))).symm
        · rw [if_neg he]
          exact (pW _ (fun e => by
            have hjl : j < C.length := by omega
            have : C[j]? = some i := by (rw [List.getElem?_eq_getElem hjl]; congr 1; have : C.getD j 0 = i := (by omega); rw [List.getD_eq_getElem?_getD, List.getElem?_eq_getElem hjl] at this; exact this)
            exact he (hinj j kk i this hkk))).symm
      · have hil : i = ops.size - 1 := by
          have : kk = C.length - 1 := by omega
          rw [this, ET] at hkk; exact (Option.some.inj hkk).symm
        refine ⟨fun i' hi' => ?_, fun j => if j = kk then v else env C lo a j, fun j hj => ?_, by rw [← h]; exact h2⟩
        · rw [fN L i _ dW]
          by_cases he : i' = i
          · rw [if_pos he]
          · rw [if_neg he]
            have := fM i (List.mem_range.2 his);rw [Bool.and_eq_true, Bool.or_eq_true, decide_eq_true_eq] at this;rcases this.2 with h9 | h9
            · omega
            · have hjm : i' ∈ sF ops [i] i := by simpa using (List.all_eq_true.1 h9) i' (List.mem_range.2 (by omega))
              rcases xz hc hd' i [i] (fun m hm => .inl (List.mem_singleton.1 hm)) i' hjm with h8 | h8
              · exact absurd h8 he
              · exact h8
        · show (if j = kk then v else env C lo a j) = env C lo (a.put o.dst v) j
          rw [if_neg (by omega)];unfold env;rcases Ar with h7 | h7
          · rw [h7]; rfl
          · rw [h7.1]
            exact (pW _ (fun e => by
              have hjl : j < C.length := by omega
              have : C[j]? = some i := by (rw [List.getElem?_eq_getElem hjl]; congr 1; have : C.getD j 0 = i := (by omega); rw [List.getD_eq_getElem?_getD, List.getElem?_eq_getElem hjl] at this; exact this)
              have := hinj j kk i this hkk;omega)).symm
  · rintro L a w hr ⟨hsz, hc, hF, k, hkl, hk, hG, hA, hB⟩
    have hall : ∀ i, i < ops.size → L.getD i false = true := fun i hi => uo hT hsz hr i hi
    have hkk : k = C.length := by
      have := (hk (C.length - 1) (ops.size - 1) ET).1 (hall _ (by omega));omega
    exact hend a w hF (hB hkk).2
  · have hf : ∀ k, (Array.replicate ops.size false).getD k false = false := fun k => by simp [Array.getD]
    have hcl : Closed ops (Array.replicate ops.size false) := by
      intro i hi;rw [hf] at hi; cases hi
    refine ⟨by simp, hcl, ⟨rfl, rfl, fun _ _ => rfl⟩, 0, by omega, fun j i hj => by rw [hf]; simp, fun i _ _ hL => (by rw [hf] at hL; cases hL), fun _ => ⟨hS0, KU _⟩, fun h => by omega⟩
end
end af
end Go.Proofs.YtegboefdolfdgaaGreatDoor
namespace Go.Proofs.YtegboefdolfdgaaGreatDoor
open Go.RowKit aA ai
set_option linter.unusedVariables false
set_option maxRecDepth 100000
set_option maxHeartbeats 8000000
namespace ai
def ten (c:Nat->Value):Array Value:=#[c 0,c 1,c 2,c 3,c 4,c 5,c 6,c 7,c 8,c 9]
structure DM (w0:World) (p q:Nat) (s:ByteArray) (en i n:Nat) (z:Int) (c:Nat->Value) (u:World):Prop where
 ds:DS w0 p s en i n z u
 mq:u.heap[q]?=some (.cells (ten c) 33 (0,0))
 lo:w0.heap.size<=q
 qp:q<p
section
variable {w0 u u2:World} {p q:Nat} {s:ByteArray} {en tC i n i2 n2:Nat} {z z2:Int} {c:Nat->Value}
theorem DM.cell (h:DM w0 p q s en i n z c u) (f:Nat) (hf:f<10):u.cell? ⟨q,f,none⟩=some (c f):=by
 unfold World.cell?;rw [h.mq]
 have:f=0\/f=1\/f=2\/f=3\/f=4\/f=5\/f=6\/f=7\/f=8\/f=9:=by omega
 rcases this with rfl|rfl|rfl|rfl|rfl|rfl|rfl|rfl|rfl|rfl<;>rfl
theorem DM.ag (h:DM w0 p q s en i n z c u) (j:Nat):u.frozen? ⟨q,j,none⟩=false:=by unfold World.frozen?;rw [h.mq];simp
theorem DM.lt (h:DM w0 p q s en i n z c u):q<u.heap.size:=(Array.getElem?_eq_some_iff.1 h.mq).1
theorem DM.call (h:DM w0 p q s en i n z c u) (h1:DS w0 p s tC i2 n2 z2 u2) (h2:But p u u2):DM w0 p q s tC i2 n2 z2 c u2 :=
 ⟨h1,uC h.mq h2 (by have:=h.qp;omega),h.lo,h.qp⟩
theorem DM.on (h:DM w0 p q s en i n z c u) (hb:Below u.heap.size u u2):DM w0 p q s en i n z c u2:=h.call (h.ds.on hb) (But.of p hb)
theorem DM.grown {o:Option Nat} (h:DM w0 p q s en i n z c u) (hg:u.grownBy u2 o) (ho:∀k,o=some k->p<k):DM w0 p q s en i n z c u2 :=
 ⟨h.ds.grown hg ho,by rw [hg.block q h.lt (fun e=>by have:=ho _ e.symm;have:=h.qp;omega)];exact h.mq,h.lo,h.qp⟩
theorem SH (c:Nat->Value) (f:Nat) (hf:f<10) (v:Value):(ten c).setIfInBounds f v=ten (upd c f v):=by
 have:f=0\/f=1\/f=2\/f=3\/f=4\/f=5\/f=6\/f=7\/f=8\/f=9:=by omega
 rcases this with rfl|rfl|rfl|rfl|rfl|rfl|rfl|rfl|rfl|rfl<;>rfl
theorem DM.put (h:DM w0 p q s en i n z c u) (f:Nat) (hf:f<10) (v:Value):DM w0 p q s en i n z (upd c f v) (u.setCell ⟨q,f,none⟩ v) :=
 ⟨h.ds.set (by have:=h.qp;omega) h.lo _ _,by rw [heap_setCell_same u q f _ _ v h.mq,SH c f hf],h.lo,h.qp⟩
end
theorem bh.mod {p g:Nat} (j:Nat) (u:World) (v:Value):bh p g u (u.setCell ⟨g,j,none⟩ v) :=
 have h:=But.set g j u v
 ⟨h.os,h.tape,h.output,h.size,fun k hk _ hg=>h.block k hk (by simpa using hg)⟩
theorem bh.grown {p g:Nat} {w u u9:World} {o:Option Nat} (h:bh p g w u) (hg:u.grownBy u9 o) (ho:∀k,o=some k->w.heap.size<=k):bh p g w u9 :=
 ⟨hg.os.trans h.os,hg.tape.trans h.tape,hg.output.trans h.output,Nat.le_trans h.size hg.size,fun k hk h1 h2=>by rw [hg.block k (Nat.lt_of_lt_of_le hk h.size) (fun e=>by have:=ho k e.symm;omega)];exact h.block k hk h1 h2⟩
structure LE {α:Type} (w0 wS:World) (p q f N:Nat) (T:TypeId) (K:EK α) (s:ByteArray) (en i n:Nat) (z:Int) (c:Nat->Value) (ps:List (Pe α)) (u:World):Prop where
 dm:DM w0 p q s en i n z c u
 bu:bh p q wS u
 pw:p<wS.heap.size
 own:u.ownsRow wS.heap.size T N (c f) ps.length (fG ps)
 wid:∀y ∈ ps,y.2.length=N
 kk:∀y ∈ ps,K u (Since wS.heap.size u (c f).ownBlock) y.1 y.2
def YE {α:Type} (w0 wS:World) (p q f N:Nat) (T:TypeId) (K:EK α) (s:ByteArray) (en:Nat) (c:Nat->Value) (ps:List (Pe α)) (X:R2 α) (e:Ending) (u:World):Prop :=
 e=.returned (.tuple #[])/\∃(i n:Nat) (z:Int) (c':Nat->Value),DM w0 p q s en i n z c' u/\bh p q wS u/\(∀g,g≠f->c' g=c g)/\Fits X (fun x=>∃vs,LE w0 wS p q f N T K s en i n 0 c' (ps++[(x,vs)]) u) i n z
section
variable {α:Type} {w0 wS u u2:World} {p q f N:Nat} {T:TypeId} {K:EK α} {s:ByteArray} {en i n i2 n2:Nat} {z z2:Int} {c:Nat->Value} {ps:List (Pe α)}
theorem LE.call (hK:dH K) (h:LE w0 wS p q f N T K s en i n z c ps u) (h1:DS w0 p s en i2 n2 z2 u2) (h2:But p u u2):LE w0 wS p q f N T K s en i2 n2 z2 c ps u2 :=
 ⟨h.dm.call h1 h2,h.bu.trans (bh.of h2),h.pw,fw h.own h.pw h2,h.wid,fun y hy=>hK _ _ _ _ (jQ h.pw h2) _ _ (h.kk y hy)⟩
theorem LE.on (hK:dH K) (h:LE w0 wS p q f N T K s en i n z c ps u) (hb:Below u.heap.size u u2):LE w0 wS p q f N T K s en i n z c ps u2:=h.call hK (h.dm.ds.on hb) (But.of p hb)
theorem LE.add {x:α} {vs:List Value} {v9:Value} {w2 w9:World} (hK:dH K) (hf:f<10) (h:LE w0 wS p q f N T K s en i n z c ps w2) (hv:vs.length=N) (hk:K w2 (Since wS.heap.size w2 (c f).ownBlock) x vs) (hown:w9.ownsRow wS.heap.size T N v9 (ps.length+1) (fG ps++vs)) (hg:w2.grownBy w9 (c f).ownBlock) (aN:v9.ownBlock=(c f).ownBlock\/v9.ownBlock=some w2.heap.size) :
  LE w0 wS p q f N T K s en i n z (upd c f v9) (ps++[(x,vs)]) (w9.setCell ⟨q,f,none⟩ v9):=by
 have hq:q<wS.heap.size:=by have:=h.dm.qp;have:=h.pw;omega
 have ho:∀k,(c f).ownBlock=some k->wS.heap.size<=k:=fun k hk=>(h.own.lt k hk).1;have hcf:upd c f v9 f=v9:=if_pos rfl
 have key:∀x vs,K w2 (Since wS.heap.size w2 (c f).ownBlock) x vs->K (w9.setCell ⟨q,f,none⟩ v9) (Since wS.heap.size (w9.setCell ⟨q,f,none⟩ v9) v9.ownBlock) x vs:=fun x vs hx=>by
  refine hK _ _ _ _ (fun k hk=>?_) _ _ (hK _ _ _ _ (ou hg aN) _ _ hx);exact ⟨⟨hk.1,by simpa using hk.2.1,hk.2.2⟩,Below.heap_setCell _ _ _ _ (by have:=hk.1;show k≠q;omega)⟩
 refine ⟨(h.dm.grown hg (fun k hk=>by have:=ho k hk;have:=h.pw;omega)).put f hf v9,(h.bu.grown hg ho).trans (bh.mod f w9 v9),h.pw,?_,fun y hy=>?_,fun y hy=>?_⟩
 ·rw [hcf,qC,List.length_append];exact fw hown hq (But.set q f w9 v9)
 ·rcases List.mem_append.1 hy with hy|hy
  ·exact h.wid y hy
  ·rw [List.mem_singleton.1 hy];exact hv
 ·rw [hcf];rcases List.mem_append.1 hy with hy|hy
  ·exact key _ _ (h.kk y hy)
  ·rw [List.mem_singleton.1 hy];exact key _ _ hk
end
end ai
namespace ai
theorem qL {P:Program} {w:World} {o:Oper} {a:Act} {KK:Act->World->Prop} {Q:Exit->Act->World->Prop} (s x:Operand) (t:TypeId)
  (ho:o.op=.call { callee:=.builtin .append,args:=#[s,x],argTypes:=#[t,t] })
  (base:Nat) (e:TypeId) (i:TypeInfo) (z:Value) (size bytes:Nat) (ht:P.underlying t=some (.slice e)) (hi:P.info? e=some i) (hz:i.zero=some z)
  (hsize:i.size=size) (hby:i.bytes=bytes) (hzs:z.cells.size=size) (hsz:0<size)
  (v:Value) (n:Nat) (xs:List Value) (hs:a.eval s=v) (hown:w.ownsRow base e size v n xs)
  (xo:Option Addr) (m c:Nat) (news:List Value) (hx:a.eval x=.slice xo m c) (xA:xo=none->m=0) (hl:news.length=m*size) (hnews:∀ad,xo=some ad->∀j u,news[j]?=some u->w.cell? (ad.add j)=some u) (h1:∀u ∈ news,u.oneCell'=true)
  (h63:n+m<=maxLen) (hbytes:(n+m)*bytes<=140737488355328) (hbase:base<=w.heap.size)
  (h:∀v' w',w'.ownsRow base e size v' (n+m) (xs++news)->w.grownBy w' v.ownBlock->(v'.ownBlock=v.ownBlock\/v'.ownBlock=some w.heap.size)->KK (a.put o.dst v') w'):o.wp P a w KK Q:=by
 obtain ⟨v',w',hr,h2,h3,h4⟩:=EU w base t o.type e i z size bytes ht hi hz hsize hby hzs hsz v n xs hown xo m c news xA hl hnews h1 h63 hbytes hbase;unfold Oper.wp;simp [execOp,ho,resolve,invoke,builtin,hs,hx,hr,Result.andThen];exact h v' w' h2 h3 h4
def uu (A0:World->Prop) (A B C D:Value->World->Prop) (v3 v4:Value):Nat->(Nat->Value)->World->Prop
 | 0,_,w=>A0 w
 | 1,f,w=>A (f 0) w
 | 2,f,w=>B (f 1) w
 | 3,f,w=>C (f 2) w
 | 4,f,w=>f 3=v3/\C (f 2) w
 | 5,f,w=>f 4=v4/\C (f 2) w
 | 6,f,w=>D (f 5) w
 | _,_,_=>False
theorem xB {A0:World->Prop} {A B C D:Value->World->Prop} {v3 v4:Value}:∀k f g w,(∀j,j<k->f j=g j)->uu A0 A B C D v3 v4 k f w->uu A0 A B C D v3 v4 k g w
 | 0,_,_,_,_,h=>h
 | 1,f,g,w,e,h=>by show A (g 0) w;rw [<- e 0 (by decide)];exact h
 | 2,f,g,w,e,h=>by show B (g 1) w;rw [<- e 1 (by decide)];exact h
 | 3,f,g,w,e,h=>by show C (g 2) w;rw [<- e 2 (by decide)];exact h
 | 4,f,g,w,e,h=>by show g 3=v3/\C (g 2) w;rw [<- e 3 (by decide),<- e 2 (by decide)];exact h
 | 5,f,g,w,e,h=>by show g 4=v4/\C (g 2) w;rw [<- e 4 (by decide),<- e 2 (by decide)];exact h
 | 6,f,g,w,e,h=>by show D (g 5) w;rw [<- e 5 (by decide)];exact h
 | _+7,_,_,_,_,h=>h
def vO (A0:World->Prop) (Z A B C D:Value->World->Prop) (v3 v4:Value):Nat->(Nat->Value)->World->Prop
 | 0,_,w=>A0 w
 | 1,f,w=>Z (f 0) w
 | 2,f,w=>A (f 1) w
 | 3,f,w=>B (f 2) w
 | 4,f,w=>C (f 3) w
 | 5,f,w=>f 4=v3/\C (f 3) w
 | 6,f,w=>f 5=v4/\C (f 3) w
 | 7,f,w=>D (f 6) w
 | _,_,_=>False
theorem Au {A0:World->Prop} {Z A B C D:Value->World->Prop} {v3 v4:Value}:∀k f g w,(∀j,j<k->f j=g j)->vO A0 Z A B C D v3 v4 k f w->vO A0 Z A B C D v3 v4 k g w
 | 0,_,_,_,_,h=>h
 | 1,f,g,w,e,h=>by show Z (g 0) w;rw [<- e 0 (by decide)];exact h
 | 2,f,g,w,e,h=>by show A (g 1) w;rw [<- e 1 (by decide)];exact h
 | 3,f,g,w,e,h=>by show B (g 2) w;rw [<- e 2 (by decide)];exact h
 | 4,f,g,w,e,h=>by show C (g 3) w;rw [<- e 3 (by decide)];exact h
 | 5,f,g,w,e,h=>by show g 4=v3/\C (g 3) w;rw [<- e 4 (by decide),<- e 3 (by decide)];exact h
 | 6,f,g,w,e,h=>by show g 5=v4/\C (g 3) w;rw [<- e 5 (by decide),<- e 3 (by decide)];exact h
 | 7,f,g,w,e,h=>by show D (g 6) w;rw [<- e 6 (by decide)];exact h
 | _+8,_,_,_,_,h=>h
structure GI where
 op:Int
 a:Int
 b:Int
 m:Int
 o4:Option Addr
 n4:Nat
 k4:Nat
 o5:Option Addr
 n5:Nat
 k5:Nat
 o6:Option Addr
 n6:Nat
 k6:Nat
def GI.vs (y:GI):List Value:=[.int .i64 y.op,.int .i64 y.a,.int .i64 y.b,.int .i64 y.m,.slice y.o4 y.n4 y.k4,.slice y.o5 y.n5 y.k5,.slice y.o6 y.n6 y.k6]
theorem BQ {B:Nat} {w w':World} {row:Option Nat} (hg:w.grownBy w' row):∀k,Since B w row k->Since B w' row k/\w'.heap[k]?=w.heap[k]?:=fun k hk =>
 ⟨⟨hk.1,Nat.lt_of_lt_of_le hk.2.1 hg.size,hk.2.2⟩,hg.block k hk.2.1 hk.2.2⟩
theorem Fits.ex {α:Type} {X:R2 α} {P:α->Prop} {i n:Nat} {z:Int} (d0:α) (h:Fits X P i n z):∃x0,Fits X (fun a=>a=x0) i n z/\(z=0->P x0):=by
 cases X with
 | error e=>exact ⟨d0,h,fun hz=>absurd hz h.2⟩
 | ok v=>exact ⟨v.1,⟨rfl,h.2⟩,fun _=>h.1⟩
theorem ko {w:World} {b j:Nat} {cs:Array Value} {t:TypeId} {v:Value} (h:w.heap[b]?=some (.cells cs t (0,0))) (hv:cs[j]?=some v):w.cell? ⟨b,j,none⟩=some v:=by unfold World.cell?;rw [h];exact hv
theorem Av {w w':World} {b:Nat} {o:Obj} (h:w.heap[b]?=some o) (hb:Below w.heap.size w w'):w'.heap[b]?=some o:=by rw [hb.block b (Array.getElem?_eq_some_iff.1 h).1];exact h
theorem EW {w w':World} {b:Nat} {o:Obj} {row:Option Nat} (h:w.heap[b]?=some o) (hg:w.grownBy w' row) (hr:∀k,row=some k->k<b):w'.heap[b]?=some o:=by rw [hg.block b (Array.getElem?_eq_some_iff.1 h).1 (fun e=>by have:=hr b e.symm;omega)];exact h
theorem KZ {α:Type} (x:R α):(bd x fun a j=>.ok (a,j))=x:=by
 cases x with
 | error e=>rfl
 | ok v=>rfl
theorem BR {u w:World} {B d:Nat} {row:Option Nat} {op a b m:Int} {v4 v5 v6:Value} {x:Ins (IL d)} (hB:B<=w.heap.size) (hr:∀k,row=some k->k<w.heap.size) (h:lH u w d op a b m v4 v5 v6 x):oI d u (Since B u row) x [.int .i64 op,.int .i64 a,.int .i64 b,.int .i64 m,v4,v5,v6]:=by
 obtain ⟨rfl,rfl,rfl,rfl,h4,h5,h6⟩:=h;exact ⟨v4,v5,v6,rfl,h4.keep (kG hB hr),ah.keep (kG hB hr) _ _ _ h5,ah.keep (kG hB hr) _ _ _ h6⟩
section
variable {α γ:Type} (w0 wS:World) (p q f N:Nat) (T:TypeId) (K:EK α) (s:ByteArray) (en:Nat) (c:Nat->Value) (ps:List (Pe α)) (V:γ->List Value) (X:R2 α)
def UA (vv:Value) (w:World):Prop:=∃(y:γ) (i n:Nat) (z:Int),vv=.agg (V y).toArray/\LE w0 wS p q f N T K s en i n z c ps w/\Fits X (fun x=>K w (Since wS.heap.size w (c f).ownBlock) x (V y)) i n z
def UZ (W:γ->Value) (vv:Value) (w:World):Prop:=∃(y:γ) (i n:Nat) (z:Int),vv=W y/\LE w0 wS p q f N T K s en i n z c ps w/\Fits X (fun x=>K w (Since wS.heap.size w (c f).ownBlock) x (V y)) i n z
def UB (vv:Value) (w:World):Prop:=∃(y:γ) (i n:Nat) (z:Int) (g:Nat),vv=.slice (some ⟨g,0,none⟩) 1 1/\(∀j v,(V y)[j]?=some v->w.cell? ((⟨g,0,none⟩:Addr).add j)=some v)/\LE w0 wS p q f N T K s en i n z c ps w/\Fits X (fun x=>K w (Since wS.heap.size w (c f).ownBlock) x (V y)) i n z
def UC (vv:Value) (w:World):Prop:=∃(i n:Nat) (z:Int),(∃o k m,vv=.slice o k m)/\DM w0 p q s en i n z c w/\bh p q wS w/\Fits X (fun x=>∃vs,LE w0 wS p q f N T K s en i n 0 (upd c f vv) (ps++[(x,vs)]) (w.setCell ⟨q,f,none⟩ vv)) i n z
def UD (_:Value) (w:World):Prop:=∃(i n:Nat) (z:Int) (c':Nat->Value),DM w0 p q s en i n z c' w/\bh p q wS w/\(∀g,g≠f->c' g=c g)/\Fits X (fun x=>∃vs,LE w0 wS p q f N T K s en i n 0 c' (ps++[(x,vs)]) w) i n z
end
section
variable {α γ:Type} {w0 wS:World} {p q f N:Nat} {T:TypeId} {K:EK α} {s:ByteArray} {en:Nat} {c:Nat->Value} {ps:List (Pe α)} {V:γ->List Value} {X:R2 α} {vv:Value} {w:World}
theorem UC.put (hf:f<10) (h:UC w0 wS p q f N T K s en c ps X vv w):UD w0 wS p q f N T K s en c ps X vv (w.setCell ⟨q,f,none⟩ vv) :=
 let ⟨i,n,z,_,h1,h2,h3⟩:=h
 ⟨i,n,z,upd c f vv,h1.put f hf vv,h2.trans (bh.mod f w vv),fun g hg=>if_neg hg,h3⟩
theorem UB.of (hK:dH K) (h:UA w0 wS p q f N T K s en c ps V X vv w) {vs:Array Value} (hv:vv=.agg vs):UB w0 wS p q f N T K s en c ps V X (.slice (some ⟨w.heap.size,0,none⟩) 1 1) (w.alloc (.cells vs T)):=by
 obtain ⟨y,i,n,z,e,h1,h2⟩:=h;rw [hv] at e;injection e with e;subst e;exact ⟨y,i,n,z,_,rfl,pX w (V y) T,h1.on hK (aD _ _),h2.mono fun x hx=>hK _ _ _ _ (fu (aD _ _)) _ _ hx⟩
theorem UC.of (hK:dH K) (hf:f<10) {y:γ} {i n:Nat} {z:Int} {w9:World} (hn:(V y).length=N) (h1:LE w0 wS p q f N T K s en i n z c ps w) (h2:Fits X (fun x=>K w (Since wS.heap.size w (c f).ownBlock) x (V y)) i n z) (hown:w9.ownsRow wS.heap.size T N vv (ps.length+1) (fG ps++V y)) (hg:w.grownBy w9 (c f).ownBlock) (aN:vv.ownBlock=(c f).ownBlock\/vv.ownBlock=some w.heap.size):UC w0 wS p q f N T K s en c ps X vv w9:=by
 have ho:∀k,(c f).ownBlock=some k->wS.heap.size<=k:=fun k hk=>(h1.own.lt k hk).1;refine ⟨i,n,z,by obtain ⟨o,m,e⟩:=iw hown;exact ⟨o,_,m,e⟩,h1.dm.grown hg (fun k hk=>by have:=ho k hk;have:=h1.pw;omega),h1.bu.grown hg ho,?_⟩;cases X with
 | error e=>exact h2
 | ok v =>
  obtain ⟨x,j,m⟩:=v;obtain ⟨a,b,d,e⟩:=h2;subst e;exact ⟨⟨V y,h1.add hK hf hn a hown hg aN⟩,b,d,rfl⟩
end
end ai
namespace ai
def YS (w0:World) (p q:Nat) (s:ByteArray) (en f:Nat) (c:Nat->Value) (w:World) {β:Type} (X:R2 β) (P:Nat->Nat->(Nat->Value)->World->β->Prop) (e:Ending) (u:World):Prop :=
 e=.returned (.tuple #[])/\∃(i n:Nat) (z:Int) (c':Nat->Value),DM w0 p q s en i n z c' u/\bh p q w u/\(∀g,g≠f->c' g=c g)/\Fits X (P i n c' u) i n z
def SL {α:Type} (w0:World) (p q:Nat) (s:ByteArray) (en n f N:Nat) (T:TypeId) (K:EK α) (rd:Nat->R α) (c:Nat->Value) (w:World) (m:Nat) (R:R2 (List α)) (k:Nat) (wr:World):Prop :=
 (∃(ps:List (Pe α)) (j:Nat) (c':Nat->Value),ps.length=k/\R=lift (pre (ps.map (·.1)) (rep rd (m-k) j)) n/\LE w0 w p q f N T K s en j n 0 c' ps wr/\∀g,g≠f->c' g=c g) \/
 ∃(y:Int) (i' n':Nat) (c':Nat->Value),y≠0/\R=.error y/\DM w0 p q s en i' n' y c' wr/\bh p q w wr/\∀g,g≠f->c' g=c g
end ai
theorem ry {α:Type} (id:Int) (f N:Nat) (T:TypeId) (K:EK α) (hK:dH K) (rd:Nat->R α) (w0:World) (p q:Nat) (s:ByteArray) (en:Nat)
  (hid:(id == 0)=false/\(id == 8)=false/\(id == 10)=false)
  (HE:∀wS ps i n c u,LE w0 wS p q f N T K s en i n 0 c ps u->ps.length<=4096->Calls Tryz.prog 34 #[.pointer (some ⟨p,0,none⟩),.int .i64 id,.pointer (some ⟨q,0,none⟩)] u (YE w0 wS p q f N T K s en c ps (lift (rd i) n)))
  (i n:Nat) (c:Nat->Value) (w:World) (h:DM w0 p q s en i n 0 c w) (hc:c f=.slice none 0 0) :
  Calls Tryz.prog 18 #[.pointer (some ⟨p,0,none⟩),.int .i64 id,.pointer (some ⟨q,0,none⟩)] w (YS w0 p q s en f c w (lift (aV rd s en i) n) fun i' n' c' u l=>∃ps,ps.map (·.1)=l/\LE w0 w p q f N T K s en i' n' 0 c' ps u):=by
 obtain ⟨q0,q8,U6⟩:=hid;have HC:=aa (vQ w0 p s en i n 0 w h.ds);have hlen:=h.ds.len;have hpw:=h.ds.lt;have H0:=aa h;have Po:=aa HE;clear h HE;obtain ⟨G,hG⟩:∃G,G=lift (aV rd s en i) n:=⟨_,rfl⟩;rw [<- hG];have HG:=aa hG;clear hG;rw [bI] at HC;cases hrc:rc s en i with
 | error z =>
  rw [hrc] at HC;have cf:Hid (G=.error z):=aa (by rw [HG.out];unfold aV;rw [hrc];rfl);clear hrc HG;go_enter Tryz.func18,Tryz.ntmps18;go_wp2_with fail;refine HC.out.mono ?_;rintro e u1 ⟨hz,v,i1,n1,rfl,hv,h1,h2⟩;have hv:v=.int .i64 0:=hv;subst hv;have H1:=aa (And.intro (H0.out.call h1 h2) (bh.of (g:=q) h2));have HZ:=aa hz;clear h1 h2 HC H0 hz;go_wp2_with fail;go_loopw [10] (fun v wr=>v=.int .i64 0/\wr=u1) (fun _ _=>0)
  case atStart=>exact ⟨rfl,rfl⟩
  case round =>
   obtain ⟨rfl,rfl⟩:=hrel;go_wp2;go_end0;exact ⟨rfl,i1,n1,z,c,H1.out.1,H1.out.2,fun _ _=>rfl,by rw [cf.out];exact ⟨rfl,HZ.out⟩⟩
 | ok v =>
  obtain ⟨xm,i1⟩:=v;obtain ⟨_,hi1,hm0,hm1⟩:=jl hlen hrc;obtain ⟨m,rfl⟩:∃m:Nat,xm=(m:Int):=⟨xm.toNat,by omega⟩;rw [hrc] at HC;have vg:Hid (G=lift (rep rd m i1) n):=aa (by rw [HG.out];unfold aV;rw [hrc];rfl);have hm:m<=4096:=by omega
  clear hrc HG hm0 hm1;go_enter Tryz.func18,Tryz.ntmps18;go_wp2_with fail;refine HC.out.mono ?_;rintro e u1 ⟨v,rfl,hv,h1,h2⟩;have hv:v=.int .i64 m:=hv;subst hv;have H1:Hid (LE w0 w p q f N T K s en i1 n 0 c [] u1):=aa ⟨H0.out.call h1 h2,bh.of h2,hpw,by rw [hc];exact World.ownsRow_nil _ _ _ _,(fun y hy=>by cases hy),(fun y hy=>by cases hy)⟩;clear h1 h2 HC H0;go_wp2_with fail;go_loopw [10] (fun v wr=>∃k:Nat,k<=m/\v=.int .i64 k/\Hid (SL w0 p q s en n f N T K rd c w m G k wr)) (fun v _=>m-(RowKit.intOf v).toNat)
  case atStart=>exact ⟨0,by omega,rfl,aa (.inl ⟨[],i1,c,rfl,by rw [vg.out];show _=lift (pre [] _) n;rw [pre_nil];rfl,H1.out,fun _ _=>rfl⟩)⟩
  case round =>
   clear H1 vg;obtain ⟨k,hk,rfl,HS⟩:=hrel;rcases HS.out with ⟨ps,j,c1,hps,hP,hL,oo⟩|⟨y,i2,n2,c1,hy,jm,hD,hB,oo⟩
   ·have d4:=hL.dm.ds.cell 4 _ rfl;have HP:=aa hP;have HL:=aa hL;have vp:=aa oo;clear hP hL oo HS;by_cases hgo:k<m
    ·have HU:=aa (Po.out w ps j n c1 wr HL.out (by omega));obtain ⟨r,hr⟩:∃r,m-k=r+1:=⟨m-k-1,by omega⟩;go_wp2_with fail;refine HU.out.mono ?_;rintro e w2 ⟨rfl,i2,n2,z2,c2,hm2,hb2,hg2,hF2⟩
     have oZ:Hid (SL w0 p q s en n f N T K rd c w m G (k+1) w2):=aa (by
      cases hx:rd j with
      | error y =>
       rw [hx] at hF2;obtain ⟨rfl,hy⟩:=hF2;exact .inr ⟨_,i2,n2,c2,hy,by rw [HP.out,hr,mP _ _ r j _ hx];rfl,hm2,hb2,fun g hg=>(hg2 g hg).trans (vp.out g hg)⟩
      | ok v =>
       obtain ⟨x,j2⟩:=v;rw [hx] at hF2;obtain ⟨⟨vs,hle⟩,rfl,rfl,rfl⟩:=hF2;exact .inl ⟨ps++[(x,vs)],_,c2,by simp [hps],by rw [HP.out,hr,pre_on _ _ r j x _ hx,List.map_append,show m-(k+1)=r by omega];rfl,hle,fun g hg=>(hg2 g hg).trans (vp.out g hg)⟩)
     clear hm2 hb2 hg2 hF2 HU HP HL vp d4;go_wp2;go_roundw
     case rel=>exact ⟨k+1,by omega,by go_num,oZ⟩
     case measure=>simp [RowKit.intOf];omega
    ·obtain rfl:k=m:=by omega
     have CM:Hid (G=.ok (ps.map (·.1),j,n)):=aa (by rw [HP.out,Nat.sub_self,mQ];rfl);clear HP;go_wp2;go_end0;exact ⟨rfl,j,n,0,c1,HL.out.dm,HL.out.bu,vp.out,by rw [CM.out];exact ⟨⟨ps,rfl,HL.out⟩,rfl,rfl,rfl⟩⟩
   ·have d4:=hD.ds.cell 4 _ rfl;have HD:=aa hD;have HB:=aa hB;have HZ:=aa hy;have vp:=aa oo;have xP:=aa jm;have q4:(y == 0)=false:=by rw [beq_eq_false_iff_ne];exact hy
    clear hD hB hy oo jm HS;by_cases hgo:k<m
    ·go_wp2;go_end0;exact ⟨rfl,i2,n2,y,c1,HD.out,HB.out,vp.out,by rw [xP.out];exact ⟨rfl,HZ.out⟩⟩
    ·go_wp2;go_end0;exact ⟨rfl,i2,n2,y,c1,HD.out,HB.out,vp.out,by rw [xP.out];exact ⟨rfl,HZ.out⟩⟩
theorem Pp (w0:World) (p q:Nat) (s:ByteArray) (en i n:Nat) (c:Nat->Value) (w:World) (h:DM w0 p q s en i n 0 c w) :
  Calls Tryz.prog 18 #[.pointer (some ⟨p,0,none⟩),.int .i64 0,.pointer (some ⟨q,0,none⟩)] w (YS w0 p q s en 10 c w (lift (ng s en i) n) fun _ n' c' _ _=>n'=n/\c'=c):=by
 have HY:=aa (Cj w0 p s en i n 0 w h.ds);have HF:Hid (∀(y:ByteArray) (i1 n1:Nat) (z1:Int) (i2 n2:Nat) (z2:Int) (P:Unit->Prop),Fits (aG 0 (lift (lU s en i) n)) (fun a=>a=y) i1 n1 z1->Fits (aG z1 (lift (if Lib.validD y.data.toList then (.ok ((),en):R Unit) else .error 50) n1)) P i2 n2 z2->Fits (lift (ng s en i) n) P i2 n2 z2):=aa (fun _ _ _ _ _ _ _ _ h1 h2=>Fits.bd h1 h2);have H0:=aa h;have hle:=h.ds.len;clear h;generalize lift (ng s en i) n=G at HF ⊢;go_enter Tryz.func18,Tryz.ntmps18;go_wp2_with fail;refine HY.out.mono ?_;rintro e u1 ⟨y,i1,n1,z1,rfl,h1,h2,hF,ht⟩;have H1:=aa (And.intro (H0.out.call h1 h2) (bh.of (g:=q) h2));have da:=aa hF;have tu:=aa (Gf y (by omega) u1);clear h1 h2 hF HY H0;have fin:∀(z2:Int) (u:World),z2≠0->DM w0 p q s en i1 n1 z2 c u->bh p q w u->Fits G (fun _=>n1=n/\c=c) i1 n1 z2->YS w0 p q s en 10 c w G (fun _ n' c' _ _=>n'=n/\c'=c) (.returned (.tuple #[])) u:=fun z2 u _ h1 h2 h3=>⟨rfl,i1,n1,z2,c,h1,h2,fun _ _=>rfl,h3⟩;have bn:=aa fin;clear fin;cases hm:Lib.validD y.data.toList with
 | false =>
  rw [hm] at tu;have hz2:(if z1=0 then (50:Int) else z1)≠0:=by split<;>omega
  have pq:=aa hz2;have HX:Hid (Fits G (fun _=>n1=n/\c=c) i1 n1 (if z1=0 then 50 else z1)):=aa (HF.out _ _ _ _ _ _ _ _ da.out (by rw [if_neg (by simp [hm])];exact Fits.bad));have q1:((if z1=0 then (50:Int) else z1) == 0)=false:=by rw [beq_eq_false_iff_ne];exact hz2
  obtain ⟨zz,hzz⟩:∃zz:Int,zz=(if z1=0 then 50 else z1):=⟨_,rfl⟩;rw [<- hzz] at HX q1 pq;have Pq:=aa hzz;clear hzz;clear hm HF da hz2;go_wp2_with fail;refine tu.out.mono ?_;rintro e u2 ⟨rfl,rfl⟩;go_wp2_with fail;refine (fB w0 p s en i1 n1 z1 _ H1.out.1.ds 50).mono ?_;rintro e u3 ⟨rfl,h3,h4⟩;have h3':DS w0 p s en i1 n1 zz u3:=by rw [Pq.out];exact h3
  have d4:=h3'.cell 4 _ rfl;have H3:=aa (And.intro (H1.out.1.call h3' h4) (H1.out.2.trans (bh.of (g:=q) h4)));clear h3 h3' h4 tu;go_wp2;go_end0;exact bn.out _ _ pq.out H3.out.1 H3.out.2 HX.out
 | true =>
  rw [hm] at tu;by_cases hz:z1=0
  ·subst hz;have hn:=(da.out.ok rfl).2.1;have HX:Hid (Fits G (fun _=>n1=n/\c=c) en n1 0):=aa (HF.out _ _ _ _ _ _ _ _ da.out (by rw [if_pos hm,bI];exact ⟨⟨hn,rfl⟩,rfl,rfl,rfl⟩));have d4:=H1.out.1.ds.cell 4 _ rfl;have d2:=H1.out.1.ds.cell 2 _ rfl;have d1:=H1.out.1.ds.cell 1 _ rfl;have f1:=H1.out.1.ds.ag 1;have H3:Hid (DM w0 p q s en en n1 0 c (u1.setCell ⟨p,1,none⟩ (.int .i64 en))/\bh p q w (u1.setCell ⟨p,1,none⟩ (.int .i64 en))):=aa ⟨H1.out.1.call (H1.out.1.ds.at_ (Nat.le_refl _)) (But.set p 1 u1 _),H1.out.2.trans (bh.of (g:=q) (But.set p 1 u1 _))⟩;clear hm HF da hn;go_wp2_with fail;refine tu.out.mono ?_;rintro e u2 ⟨rfl,rfl⟩;clear tu;go_wp2;go_end0;exact ⟨rfl,en,n1,0,c,H3.out.1,H3.out.2,fun _ _=>rfl,HX.out.mono fun _ h=>⟨h.1,rfl⟩⟩
  ·have HZ:=aa hz;have HX:Hid (Fits G (fun _=>n1=n/\c=c) i1 n1 z1):=aa (HF.out _ _ _ _ _ _ _ _ da.out (by rw [gG hz];exact ⟨rfl,hz⟩));have d4:=H1.out.1.ds.cell 4 _ rfl;have q1:(z1 == 0)=false:=by rw [beq_eq_false_iff_ne];exact hz
   clear hm HF da hz;go_wp2_with fail;refine tu.out.mono ?_;rintro e u2 ⟨rfl,rfl⟩;clear tu;go_wp2;go_end0;exact bn.out _ _ HZ.out H1.out.1 H1.out.2 HX.out
end Go.Proofs.YtegboefdolfdgaaGreatDoor
