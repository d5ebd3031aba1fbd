/- Texts that the claim needs. -/
import Derived.Test.YtkflfohoinbenaaQTS2
import Derived.Laws.LoneSync
namespace Go.Proofs.Ytkflfohoinbenaa
open Go.RowKit Lx Pz Rep Ty
set_option linter.unusedVariables false
namespace Reg
section
variable {P:Program} {ops:Array Oper} {Q:Exit->Act->World->Prop} {id:Nat} {a0:Act} {w0:World}
theorem wp_tabd (n lo z size:Nat) (L:List Value) (hm:P.follows .mixedOrders=true) (hT:lowOk ops n=true) (hd:dstOkG ops n (fun i=>if i<n-1 then lo+i else z) size=true) (hs:a0.tmps.size=size) (hz:z<lo/\0<n)
  (hstep:∀i o a w,i<n->ops[i]?=some o->Fr a0 (fun i=>if i<n-1 then lo+i else z) n a->Below w0.heap.size w0 w->(∀j ∈ deps o,a.tmps[j+lo]?.getD undef=L.getD j undef)->Does P ops Q (Tab L i) o a w)
  (hend:∀a w,Fr a0 (fun i=>if i<n-1 then lo+i else z) n a->Below w0.heap.size w0 w->a.eval (.tmp z)=L.getD (n-1) undef->Q .normal a w) :
  (Code.region id ops true).wp P Q a0 w0 :=
 wp_region_all n (fun i=>if i<n-1 then lo+i else z) (Tab L) hm hT (fun i j h1 h2 h=>by have h':(if i<n-1 then lo+i else z)=(if j<n-1 then lo+j else z):=h;split at h'<;>split at h'<;>omega) (fun i hi=>by rw [hs];exact dst_okG hd i hi) (fun _ _ _ _ _ h _=>h)
  (fun i o a w hi ho hF hB hG=>hstep i o a w hi ho hF hB fun j hj=>by
   have hlow:j<i:=by
    unfold lowOk at hT
    rw [Bool.and_eq_true,decide_eq_true_eq,List.all_eq_true] at hT
    have h1:=hT.2 i (List.mem_range.2 (by omega))
    rw [depsAt_some ho] at h1
    exact of_decide_eq_true (List.all_eq_true.1 h1 j hj)
   have h:=hG j hj
   have e:(if j<n-1 then lo+j else z)=lo+j:=if_pos (by omega)
   rw [e] at h
   exact tab_get h)
  (fun a w hF hB hG=>hend a w hF hB (by
   have h:=hG (n-1) (by omega)
   have e:(if n-1<n-1 then lo+(n-1) else z)=z:=if_neg (by omega)
   rw [e] at h
   exact h))
theorem does_tabS {p:Value->World->Prop} {o oj:Oper} {w:World} {a:Act} {j lo:Nat} {b:Bool} {L:List Value} (hg:o.guard=some (j,b)) (hj:ops[j]?=some oj) (hk:oj.dst=some (j+lo)) (hb:L.getD j undef=.bool (!b)) (hd:a.tmps[j+lo]?.getD undef=L.getD j undef) (h:p undef w):Does P ops Q p o a w :=
 Does.skip hg hj hk (by show a.tmps.getD (j+lo) undef=_;rw [Array.getD_eq_getD_getElem?,hd,hb]) h
theorem does_tabU {p:Value->World->Prop} {o oj:Oper} {w:World} {a:Act} {j lo:Nat} {b:Bool} {L:List Value} (hg:o.guard=some (j,b)) (hj:ops[j]?=some oj) (hk:oj.dst=some (j+lo)) (hb:L.getD j undef=undef) (hd:a.tmps[j+lo]?.getD undef=L.getD j undef) (h:p undef w):Does P ops Q p o a w:=by
 refine .inr ⟨?_,h⟩
 have hy:yielded ops a.tmps j=none:=by
  unfold yielded
  rw [hj]
  show (match (oj.dst).bind (a.tmps[·]?) with|some (.bool b)=>some b|_=>none)=none
  rw [hk]
  rw [hb] at hd
  show (match a.tmps[j+lo]? with|some (.bool b)=>some b|_=>none)=none
  cases hx:a.tmps[j+lo]? with
  | none=>rfl
  | some v=>rw [hx] at hd;have hv:v=undef:=hd;rw [hv];rfl
 unfold Region.wanted
 rw [hg]
 show (yielded ops a.tmps j == some b)=false
 rw [hy];rfl
end
end Reg
namespace Ty
structure SV (B p:Nat) (ls:List Value) (vs:Value) (u:World):Prop where
 blk:u.heap[p]?=some (.cells #[.int .i64 (ls.length:Int),vs] 83 (0,0))
 row:∃xs,u.ownsRow B 105 2 vs ls.length xs/\∀i l,ls[i]?=some l->xs[i*2]?=some l/\xs[i*2+1]?=some (.int .i64 ((i:Int)+1))
 few:ls.length<=4096
 apart:vs.ownBlock≠some p
theorem SV.lt {B p:Nat} {ls:List Value} {vs:Value} {u:World} (h:SV B p ls vs u):p<u.heap.size:=(Array.getElem?_eq_some_iff.1 h.blk).1
theorem SV.on {B p:Nat} {ls:List Value} {vs:Value} {u u':World} (h:SV B p ls vs u) (hb:Below u.heap.size u u'):SV B p ls vs u':=by
 obtain ⟨xs,⟨hl,h1⟩,h2⟩:=h.row
 refine ⟨(hb.block p h.lt).trans h.blk,⟨xs,⟨hl,?_⟩,h2⟩,h.few,h.apart⟩
 rcases h1 with h1|⟨g,cap,cur,rfl,hB,hg,hr⟩
 ·exact .inl h1
 ·exact .inr ⟨g,cap,cur,rfl,hB,by rw [hb.block g (Array.getElem?_eq_some_iff.1 hg).1];exact hg,hr⟩
theorem str_nil (x:ByteArray):x.toList.isEmpty=decide (x=e0):=by
 by_cases h:x=e0
 ·subst h;rw [ByteArray.toList_eq];rfl
 ·rw [decide_eq_false h]
  cases hl:x.toList with
  | nil =>
   exfalso;apply h
   rw [ByteArray.toList_eq] at hl
   apply ByteArray.ext
   show x.data=#[]
   exact Array.toList_eq_nil_iff.1 hl
  | cons a l=>rfl
def ndOk (n:Nat) (k:Int) (x:ByteArray) (m:Int) (l:Nat):Bool :=
 if k=1 then decide (x=e0) && (m == 0 && l == 0)
 else if k=2 then decide (x=e0) && (decide (1<=m) && (decide (m<=n) && l == 0))
 else if k=3 then decide (x=e0) && (m == 0 && l == 2)
 else if k=4 then (!decide (x=e0)) && m == 0
 else false
end Ty
set_option maxHeartbeats 2000000 in
theorem t_Vars {B p:Nat} {ls:List Value} {vs:Value} {u:World} (h:SV B p ls vs u):Calls Try.prog 19 #[.pointer (some ⟨p,0,none⟩)] u fun e w'=>e=.returned (.int .i64 (ls.length:Int))/\Below u.heap.size u w':=by
 have c0:=put_cell h.blk 0 _ rfl
 have hl:=run_call_load (P:=Try.prog) Try.func65 (by kernel_rfl) (by kernel_rfl) (by kernel_rfl) .i64 (by kernel_rfl) c0
 clear h
 go_enter Try.func19,Try.ntmps19
 go_wp2
 go_ret
 exact ⟨rfl,Below.refl _ _⟩
set_option maxRecDepth 100000 in
set_option maxHeartbeats 8000000 in
theorem t_nodeFits {B p : Nat} {ls : List Value} {vs : Value} {u : World} (h : SV B p ls vs u) (b o : Nat) (k m : Int) (x : ByteArray) (oR : Option Addr) (l cR : Nat) (c0 : u.cell? ⟨b, o, none⟩ = some (.int .i64 k)) (c1 : u.cell? ⟨b, o + 1, none⟩ = some (.string x)) (c2 : u.cell? ⟨b, o + 2, none⟩ = some (.int .i64 m)) (c3 : u.cell? ⟨b, o + 3, none⟩ = some (.slice oR l cR)) :
    Calls Try.prog 71 #[.pointer (some ⟨p, 0, none⟩), .pointer (some ⟨b, o, none⟩)] u fun e w' => e = .returned (.bool (ndOk ls.length k x m l)) ∧ Below u.heap.size u w' := by
  obtain ⟨R, hR⟩ : ∃ R, R = ndOk ls.length k x m l := ⟨_, rfl⟩
  rw [← hR]
  have hx0 := str_nil x
  have hx1 : (x.toList == ([] : List UInt8)) = x.toList.isEmpty := by cases x.toList <;> rfl
  have hx2 : (x.toList != ([] : List UInt8)) = !x.toList.isEmpty := by cases x.toList <;> rfl
  by_cases k1 : k = 1
  · subst k1
    cases hX : decide (x = e0) with
    | false =>
      rw [hX] at hx0
      rw [hx0] at hx1 hx2
      have HS : Hid (false = R) := hideR (by rw [hR]; unfold ndOk; simp [hX])
      clear hR
      go_enter Try.func71, Try.ntmps71
      go_wp2
      go_ret
      exact ⟨ret_bool HS.out, Below.refl _ _⟩
    | true =>
      rw [hX] at hx0
      rw [hx0] at hx1 hx2
      cases hM : (m == 0) with
      | false =>
        have HS : Hid (false = R) := hideR (by rw [hR]; unfold ndOk; simp [hX, hM])
        clear hR
        go_enter Try.func71, Try.ntmps71
        go_wp2
        go_ret
        exact ⟨ret_bool HS.out, Below.refl _ _⟩
      | true =>
        cases hL : (l == 0) with
        | false =>
          have hl0 : ((l : Int) == 0) = false := by simp; intro h; subst h; cases hL
          have HS : Hid (false = R) := hideR (by rw [hR]; unfold ndOk; simp [hX, hM, hL])
          clear hR
          go_enter Try.func71, Try.ntmps71
          go_wp2
          go_ret
          exact ⟨ret_bool HS.out, Below.refl _ _⟩
        | true =>
          obtain rfl : l = 0 := by simpa using hL
          have HS : Hid (true = R) := hideR (by rw [hR]; unfold ndOk; simp [hX, hM])
          clear hR
          go_enter Try.func71, Try.ntmps71
          go_wp2
          go_ret
          exact ⟨ret_bool HS.out, Below.refl _ _⟩
  have n1 : (k == 1) = false := by simpa using k1
  by_cases k3 : k = 3
  · subst k3
    cases hX : decide (x = e0) with
    | false =>
      rw [hX] at hx0
      rw [hx0] at hx1 hx2
      have HS : Hid (false = R) := hideR (by rw [hR]; unfold ndOk; simp [hX])
      clear hR
      go_enter Try.func71, Try.ntmps71
      go_wp2
      go_ret
      exact ⟨ret_bool HS.out, Below.refl _ _⟩
    | true =>
      rw [hX] at hx0
      rw [hx0] at hx1 hx2
      cases hM : (m == 0) with
      | false =>
        have HS : Hid (false = R) := hideR (by rw [hR]; unfold ndOk; simp [hX, hM])
        clear hR
        go_enter Try.func71, Try.ntmps71
        go_wp2
        go_ret
        exact ⟨ret_bool HS.out, Below.refl _ _⟩
      | true =>
        by_cases hl2 : l = 2
        · subst hl2
          have HS : Hid (true = R) := hideR (by rw [hR]; unfold ndOk; simp [hX, hM])
          clear hR
          go_enter Try.func71, Try.ntmps71
          go_wp2
          go_ret
          exact ⟨ret_bool HS.out, Below.refl _ _⟩
        · have hL : (l == 2) = false := by simpa using hl2
          have hLi : ((l : Int) == 2) = false := by simp; omega
          have HS : Hid (false = R) := hideR (by rw [hR]; unfold ndOk; simp [hX, hM, hL])
          clear hR
          go_enter Try.func71, Try.ntmps71
          go_wp2
          go_ret
          exact ⟨ret_bool HS.out, Below.refl _ _⟩
  have n3 : (k == 3) = false := by simpa using k3
  by_cases k4 : k = 4
  · subst k4
    cases hX : decide (x = e0) with
    | true =>
      rw [hX] at hx0
      rw [hx0] at hx1 hx2
      have HS : Hid (false = R) := hideR (by rw [hR]; unfold ndOk; simp [hX])
      clear hR
      go_enter Try.func71, Try.ntmps71
      go_wp2
      go_ret
      exact ⟨ret_bool HS.out, Below.refl _ _⟩
    | false =>
      rw [hX] at hx0
      rw [hx0] at hx1 hx2
      cases hM : (m == 0) with
      | false =>
        have HS : Hid (false = R) := hideR (by rw [hR]; unfold ndOk; simp [hX, hM])
        clear hR
        go_enter Try.func71, Try.ntmps71
        go_wp2
        go_ret
        exact ⟨ret_bool HS.out, Below.refl _ _⟩
      | true =>
        have HS : Hid (true = R) := hideR (by rw [hR]; unfold ndOk; simp [hX, hM])
        clear hR
        go_enter Try.func71, Try.ntmps71
        go_wp2
        go_ret
        exact ⟨ret_bool HS.out, Below.refl _ _⟩
  have n4 : (k == 4) = false := by simpa using k4
  by_cases k2 : k = 2
  · subst k2
    cases hX : decide (x = e0) with
    | false =>
      rw [hX] at hx0
      rw [hx0] at hx1 hx2
      have HS : Hid (false = R) := hideR (by rw [hR]; unfold ndOk; simp [hX])
      clear hR
      have HV := hideR (fun (u9 : World) (hu : Below u.heap.size u u9) => t_Vars (h.on hu))
      clear h
      go_enter Try.func71, Try.ntmps71
      go_upto_region 5 with fail
      refine Reg.wp_tabd 30 33 4 98 [.pointer (some ⟨b, o, none⟩), .pointer (some ⟨b, o, none⟩), .pointer (some ⟨b, o + 1, none⟩), .string x, .bool false, .bool false, undef, undef, undef, undef, undef, .bool false, .bool false, undef, undef, undef, undef, undef, undef, undef, .bool false, .bool false, undef, undef, undef, undef, undef, undef, .bool false, .bool false] (by kernel_rfl) (by kernel_rfl) (by kernel_rfl) rfl ⟨by decide, by decide⟩ ?hs0000 ?he0000
      case hs0000 =>
        intro j o' a u9 hj ho hF hB hd
        have f0 : a.tmps[0]?.getD undef = .pointer (some ⟨p, 0, none⟩) := Reg.ev_get (hF.eval 0 (fun i hi => by show (if i < 29 then 33 + i else 4) ≠ 0; split <;> omega))
        have f1 : a.tmps[1]?.getD undef = .pointer (some ⟨b, o, none⟩) := Reg.ev_get (hF.eval 1 (fun i hi => by show (if i < 29 then 33 + i else 4) ≠ 1; split <;> omega))
        have c0 := cell_on hB c0
        have c1 := cell_on hB c1
        have c2 := cell_on hB c2
        have c3 := cell_on hB c3
        have HVw := HV.out u9 hB
        iterate 30 (rcases Nat.lt_succ_iff_lt_or_eq.1 hj with hj | rfl)
        exact absurd hj (Nat.not_lt_zero _)
        all_goals (
          simp only [List.getElem?_toArray, List.getElem?_cons_succ, List.getElem?_cons_zero, Option.some.injEq] at ho
          subst ho
          first
          | exact Reg.does_tabS rfl rfl rfl rfl (hd _ (by decide)) rfl
          | exact Reg.does_tabU rfl rfl rfl rfl (hd _ (by decide)) rfl
          | (first
            | refine Reg.Does.go rfl (Reg.step_k fun K hK => ?_)
            | refine Reg.does_tab rfl rfl rfl rfl (hd _ (by decide)) (Reg.step_k fun K hK => ?_)
             simp [Reg.deps, Region.binds] at hd
             go_simp
             first
             | exact hK _ _ ⟨_, rfl, Below.refl _ _, rfl⟩
             | exact hK _ _ ⟨_, rfl, Below.refl _ _, by simp [Reg.Tab, *]⟩
             | (refine Calls.mono HVw ?_; rintro e w' ⟨rfl, hw⟩; exact hK _ _ ⟨.int .i64 (ls.length : Int), rfl, hw, by first | rfl | simp [Reg.Tab]⟩)))
      case he0000 =>
        intro a u9 hF hB hG
        have HB9 := hideR hB
        go_wp2_with fail
        refine bodyPost_ret (v := .bool false) ((results_tmp rfl _ _ _).trans (congrArg (fun v => Result.ok v u9) hG)) hF.defers ⟨ret_bool HS.out, HB9.out⟩
    | true =>
      rw [hX] at hx0
      rw [hx0] at hx1 hx2
      cases hM1 : decide (1 ≤ m) with
      | false =>
        have q1 : decide (m ≥ 1) = false := hM1
        have HS : Hid (false = R) := hideR (by rw [hR]; unfold ndOk; simp [hX, hM1])
        clear hR
        have HV := hideR (fun (u9 : World) (hu : Below u.heap.size u u9) => t_Vars (h.on hu))
        clear h
        go_enter Try.func71, Try.ntmps71
        go_upto_region 5 with fail
        refine Reg.wp_tabd 30 33 4 98 [.pointer (some ⟨b, o, none⟩), .pointer (some ⟨b, o, none⟩), .pointer (some ⟨b, o + 1, none⟩), .string x, .bool true, .bool true, .pointer (some ⟨b, o, none⟩), .pointer (some ⟨b, o, none⟩), .pointer (some ⟨b, o + 2, none⟩), .int .i64 m, .bool false, .bool false, .bool false, undef, undef, undef, undef, undef, undef, undef, .bool false, .bool false, undef, undef, undef, undef, undef, undef, .bool false, .bool false] (by kernel_rfl) (by kernel_rfl) (by kernel_rfl) rfl ⟨by decide, by decide⟩ ?hs1000 ?he1000
        case hs1000 =>
          intro j o' a u9 hj ho hF hB hd
          have f0 : a.tmps[0]?.getD undef = .pointer (some ⟨p, 0, none⟩) := Reg.ev_get (hF.eval 0 (fun i hi => by show (if i < 29 then 33 + i else 4) ≠ 0; split <;> omega))
          have f1 : a.tmps[1]?.getD undef = .pointer (some ⟨b, o, none⟩) := Reg.ev_get (hF.eval 1 (fun i hi => by show (if i < 29 then 33 + i else 4) ≠ 1; split <;> omega))
          have c0 := cell_on hB c0
          have c1 := cell_on hB c1
          have c2 := cell_on hB c2
          have c3 := cell_on hB c3
          have HVw := HV.out u9 hB
          iterate 30 (rcases Nat.lt_succ_iff_lt_or_eq.1 hj with hj | rfl)
          exact absurd hj (Nat.not_lt_zero _)
          all_goals (
            simp only [List.getElem?_toArray, List.getElem?_cons_succ, List.getElem?_cons_zero, Option.some.injEq] at ho
            subst ho
            first
            | exact Reg.does_tabS rfl rfl rfl rfl (hd _ (by decide)) rfl
            | exact Reg.does_tabU rfl rfl rfl rfl (hd _ (by decide)) rfl
            | (first
              | refine Reg.Does.go rfl (Reg.step_k fun K hK => ?_)
              | refine Reg.does_tab rfl rfl rfl rfl (hd _ (by decide)) (Reg.step_k fun K hK => ?_)
               simp [Reg.deps, Region.binds] at hd
               go_simp
               first
               | exact hK _ _ ⟨_, rfl, Below.refl _ _, rfl⟩
               | exact hK _ _ ⟨_, rfl, Below.refl _ _, by simp [Reg.Tab, *]⟩
               | (refine Calls.mono HVw ?_; rintro e w' ⟨rfl, hw⟩; exact hK _ _ ⟨.int .i64 (ls.length : Int), rfl, hw, by first | rfl | simp [Reg.Tab]⟩)))
        case he1000 =>
          intro a u9 hF hB hG
          have HB9 := hideR hB
          go_wp2_with fail
          refine bodyPost_ret (v := .bool false) ((results_tmp rfl _ _ _).trans (congrArg (fun v => Result.ok v u9) hG)) hF.defers ⟨ret_bool HS.out, HB9.out⟩
      | true =>
        have q1 : decide (m ≥ 1) = true := hM1
        cases hM2 : decide (m ≤ (ls.length : Int)) with
        | false =>
          have HS : Hid (false = R) := hideR (by rw [hR]; unfold ndOk; simp [hX, hM1, hM2])
          clear hR
          have HV := hideR (fun (u9 : World) (hu : Below u.heap.size u u9) => t_Vars (h.on hu))
          clear h
          go_enter Try.func71, Try.ntmps71
          go_upto_region 5 with fail
          refine Reg.wp_tabd 30 33 4 98 [.pointer (some ⟨b, o, none⟩), .pointer (some ⟨b, o, none⟩), .pointer (some ⟨b, o + 1, none⟩), .string x, .bool true, .bool true, .pointer (some ⟨b, o, none⟩), .pointer (some ⟨b, o, none⟩), .pointer (some ⟨b, o + 2, none⟩), .int .i64 m, .bool true, .bool true, .bool true, .pointer (some ⟨b, o, none⟩), .pointer (some ⟨b, o, none⟩), .pointer (some ⟨b, o + 2, none⟩), .int .i64 m, .pointer (some ⟨p, 0, none⟩), .int .i64 (ls.length : Int), .bool false, .bool false, .bool false, undef, undef, undef, undef, undef, undef, .bool false, .bool false] (by kernel_rfl) (by kernel_rfl) (by kernel_rfl) rfl ⟨by decide, by decide⟩ ?hs1100 ?he1100
          case hs1100 =>
            intro j o' a u9 hj ho hF hB hd
            have f0 : a.tmps[0]?.getD undef = .pointer (some ⟨p, 0, none⟩) := Reg.ev_get (hF.eval 0 (fun i hi => by show (if i < 29 then 33 + i else 4) ≠ 0; split <;> omega))
            have f1 : a.tmps[1]?.getD undef = .pointer (some ⟨b, o, none⟩) := Reg.ev_get (hF.eval 1 (fun i hi => by show (if i < 29 then 33 + i else 4) ≠ 1; split <;> omega))
            have c0 := cell_on hB c0
            have c1 := cell_on hB c1
            have c2 := cell_on hB c2
            have c3 := cell_on hB c3
            have HVw := HV.out u9 hB
            iterate 30 (rcases Nat.lt_succ_iff_lt_or_eq.1 hj with hj | rfl)
            exact absurd hj (Nat.not_lt_zero _)
            all_goals (
              simp only [List.getElem?_toArray, List.getElem?_cons_succ, List.getElem?_cons_zero, Option.some.injEq] at ho
              subst ho
              first
              | exact Reg.does_tabS rfl rfl rfl rfl (hd _ (by decide)) rfl
              | exact Reg.does_tabU rfl rfl rfl rfl (hd _ (by decide)) rfl
              | (first
                | refine Reg.Does.go rfl (Reg.step_k fun K hK => ?_)
                | refine Reg.does_tab rfl rfl rfl rfl (hd _ (by decide)) (Reg.step_k fun K hK => ?_)
                 simp [Reg.deps, Region.binds] at hd
                 go_simp
                 first
                 | exact hK _ _ ⟨_, rfl, Below.refl _ _, rfl⟩
                 | exact hK _ _ ⟨_, rfl, Below.refl _ _, by simp [Reg.Tab, *]⟩
                 | (refine Calls.mono HVw ?_; rintro e w' ⟨rfl, hw⟩; exact hK _ _ ⟨.int .i64 (ls.length : Int), rfl, hw, by first | rfl | simp [Reg.Tab]⟩)))
          case he1100 =>
            intro a u9 hF hB hG
            have HB9 := hideR hB
            go_wp2_with fail
            refine bodyPost_ret (v := .bool false) ((results_tmp rfl _ _ _).trans (congrArg (fun v => Result.ok v u9) hG)) hF.defers ⟨ret_bool HS.out, HB9.out⟩
        | true =>
          cases hL : (l == 0) with
          | false =>
            have hl0 : ((l : Int) == 0) = false := by simp; intro h; subst h; cases hL
            have HS : Hid (false = R) := hideR (by rw [hR]; unfold ndOk; simp [hX, hM1, hM2, hL])
            clear hR
            have HV := hideR (fun (u9 : World) (hu : Below u.heap.size u u9) => t_Vars (h.on hu))
            clear h
            go_enter Try.func71, Try.ntmps71
            go_upto_region 5 with fail
            refine Reg.wp_tabd 30 33 4 98 [.pointer (some ⟨b, o, none⟩), .pointer (some ⟨b, o, none⟩), .pointer (some ⟨b, o + 1, none⟩), .string x, .bool true, .bool true, .pointer (some ⟨b, o, none⟩), .pointer (some ⟨b, o, none⟩), .pointer (some ⟨b, o + 2, none⟩), .int .i64 m, .bool true, .bool true, .bool true, .pointer (some ⟨b, o, none⟩), .pointer (some ⟨b, o, none⟩), .pointer (some ⟨b, o + 2, none⟩), .int .i64 m, .pointer (some ⟨p, 0, none⟩), .int .i64 (ls.length : Int), .bool true, .bool true, .bool true, .pointer (some ⟨b, o, none⟩), .pointer (some ⟨b, o, none⟩), .pointer (some ⟨b, o + 3, none⟩), .slice oR l cR, .int .i64 (l : Int), .bool false, .bool false, .bool false] (by kernel_rfl) (by kernel_rfl) (by kernel_rfl) rfl ⟨by decide, by decide⟩ ?hs1110 ?he1110
            case hs1110 =>
              intro j o' a u9 hj ho hF hB hd
              have f0 : a.tmps[0]?.getD undef = .pointer (some ⟨p, 0, none⟩) := Reg.ev_get (hF.eval 0 (fun i hi => by show (if i < 29 then 33 + i else 4) ≠ 0; split <;> omega))
              have f1 : a.tmps[1]?.getD undef = .pointer (some ⟨b, o, none⟩) := Reg.ev_get (hF.eval 1 (fun i hi => by show (if i < 29 then 33 + i else 4) ≠ 1; split <;> omega))
              have c0 := cell_on hB c0
              have c1 := cell_on hB c1
              have c2 := cell_on hB c2
              have c3 := cell_on hB c3
              have HVw := HV.out u9 hB
              iterate 30 (rcases Nat.lt_succ_iff_lt_or_eq.1 hj with hj | rfl)
              exact absurd hj (Nat.not_lt_zero _)
              all_goals (
                simp only [List.getElem?_toArray, List.getElem?_cons_succ, List.getElem?_cons_zero, Option.some.injEq] at ho
                subst ho
                first
                | exact Reg.does_tabS rfl rfl rfl rfl (hd _ (by decide)) rfl
                | exact Reg.does_tabU rfl rfl rfl rfl (hd _ (by decide)) rfl
                | (first
                  | refine Reg.Does.go rfl (Reg.step_k fun K hK => ?_)
                  | refine Reg.does_tab rfl rfl rfl rfl (hd _ (by decide)) (Reg.step_k fun K hK => ?_)
                   simp [Reg.deps, Region.binds] at hd
                   go_simp
                   first
                   | exact hK _ _ ⟨_, rfl, Below.refl _ _, rfl⟩
                   | exact hK _ _ ⟨_, rfl, Below.refl _ _, by simp [Reg.Tab, *]⟩
                   | (refine Calls.mono HVw ?_; rintro e w' ⟨rfl, hw⟩; exact hK _ _ ⟨.int .i64 (ls.length : Int), rfl, hw, by first | rfl | simp [Reg.Tab]⟩)))
            case he1110 =>
              intro a u9 hF hB hG
              have HB9 := hideR hB
              go_wp2_with fail
              refine bodyPost_ret (v := .bool false) ((results_tmp rfl _ _ _).trans (congrArg (fun v => Result.ok v u9) hG)) hF.defers ⟨ret_bool HS.out, HB9.out⟩
          | true =>
            obtain rfl : l = 0 := by simpa using hL
            have hl0 : (((0 : Nat) : Int) == 0) = true := by decide
            have HS : Hid (true = R) := hideR (by rw [hR]; unfold ndOk; simp [hX, hM1, hM2])
            clear hR
            have HV := hideR (fun (u9 : World) (hu : Below u.heap.size u u9) => t_Vars (h.on hu))
            clear h
            go_enter Try.func71, Try.ntmps71
            go_upto_region 5 with fail
            refine Reg.wp_tabd 30 33 4 98 [.pointer (some ⟨b, o, none⟩), .pointer (some ⟨b, o, none⟩), .pointer (some ⟨b, o + 1, none⟩), .string x, .bool true, .bool true, .pointer (some ⟨b, o, none⟩), .pointer (some ⟨b, o, none⟩), .pointer (some ⟨b, o + 2, none⟩), .int .i64 m, .bool true, .bool true, .bool true, .pointer (some ⟨b, o, none⟩), .pointer (some ⟨b, o, none⟩), .pointer (some ⟨b, o + 2, none⟩), .int .i64 m, .pointer (some ⟨p, 0, none⟩), .int .i64 (ls.length : Int), .bool true, .bool true, .bool true, .pointer (some ⟨b, o, none⟩), .pointer (some ⟨b, o, none⟩), .pointer (some ⟨b, o + 3, none⟩), .slice oR 0 cR, .int .i64 0, .bool true, .bool true, .bool true] (by kernel_rfl) (by kernel_rfl) (by kernel_rfl) rfl ⟨by decide, by decide⟩ ?hs1111 ?he1111
            case hs1111 =>
              intro j o' a u9 hj ho hF hB hd
              have f0 : a.tmps[0]?.getD undef = .pointer (some ⟨p, 0, none⟩) := Reg.ev_get (hF.eval 0 (fun i hi => by show (if i < 29 then 33 + i else 4) ≠ 0; split <;> omega))
              have f1 : a.tmps[1]?.getD undef = .pointer (some ⟨b, o, none⟩) := Reg.ev_get (hF.eval 1 (fun i hi => by show (if i < 29 then 33 + i else 4) ≠ 1; split <;> omega))
              have c0 := cell_on hB c0
              have c1 := cell_on hB c1
              have c2 := cell_on hB c2
              have c3 := cell_on hB c3
              have HVw := HV.out u9 hB
              iterate 30 (rcases Nat.lt_succ_iff_lt_or_eq.1 hj with hj | rfl)
              exact absurd hj (Nat.not_lt_zero _)
              all_goals (
                simp only [List.getElem?_toArray, List.getElem?_cons_succ, List.getElem?_cons_zero, Option.some.injEq] at ho
                subst ho
                first
                | exact Reg.does_tabS rfl rfl rfl rfl (hd _ (by decide)) rfl
                | exact Reg.does_tabU rfl rfl rfl rfl (hd _ (by decide)) rfl
                | (first
                  | refine Reg.Does.go rfl (Reg.step_k fun K hK => ?_)
                  | refine Reg.does_tab rfl rfl rfl rfl (hd _ (by decide)) (Reg.step_k fun K hK => ?_)
                   simp [Reg.deps, Region.binds] at hd
                   go_simp
                   first
                   | exact hK _ _ ⟨_, rfl, Below.refl _ _, rfl⟩
                   | exact hK _ _ ⟨_, rfl, Below.refl _ _, by simp [Reg.Tab, *]⟩
                   | (refine Calls.mono HVw ?_; rintro e w' ⟨rfl, hw⟩; exact hK _ _ ⟨.int .i64 (ls.length : Int), rfl, hw, by first | rfl | simp [Reg.Tab]⟩)))
            case he1111 =>
              intro a u9 hF hB hG
              have HB9 := hideR hB
              go_wp2_with fail
              refine bodyPost_ret (v := .bool true) ((results_tmp rfl _ _ _).trans (congrArg (fun v => Result.ok v u9) hG)) hF.defers ⟨ret_bool HS.out, HB9.out⟩
  · have n2 : (k == 2) = false := by simpa using k2
    have HS : Hid (false = R) := hideR (by rw [hR]; unfold ndOk; simp [k1, k2, k3, k4])
    clear hR
    go_enter Try.func71, Try.ntmps71
    go_wp2
    go_ret
    exact ⟨ret_bool HS.out, Below.refl _ _⟩
namespace Ty
def namT:Value->ByteArray
 | .agg c=>match (c:Array Value)[1]? with
  | some (Value.string x)=>x
  | _=>e0
 | _=>e0
def numT:Value->Int
 | .agg c=>match (c:Array Value)[3]? with
  | some (Value.int _ a)=>a
  | _=>0
 | _=>0
def gdT (n:Nat):Nat->Value->Bool
 | 0,_=>false
 | d+1,t=>ndOk n (kindV t) (namT t) (numT t) (argsV t).length && (argsV t).all (gdT n d)
def tkT (n d:Nat) (t:Value):Bool:=decide (cnT (d+1) 0 t<=1024) && gdT n (d+1) t
theorem all_step {f:Value->Bool} {l:List Value} {i:Nat} {t:Value} (hx:l[i]?=some t):(l.drop i).all f=(f t && (l.drop (i+1)).all f):=by
 have hi:=(List.getElem?_eq_some_iff.1 hx).1
 rw [List.drop_eq_getElem_cons hi,(List.getElem?_eq_some_iff.1 hx).2,List.all_cons]
end Ty
set_option maxRecDepth 100000 in
set_option maxHeartbeats 8000000 in
theorem t_fits {B p:Nat} {ls:List Value} {vs:Value}:∀(d:Nat) (u:World) (t:Value) (b o:Nat),SV B p ls vs u->TyC 0 u d b o t->Calls Try.prog 57 #[.pointer (some ⟨p,0,none⟩),.pointer (some ⟨b,o,none⟩)] u fun e w'=>e=.returned (.bool (gdT ls.length d t))/\Below u.heap.size u w':=by
 intro d
 induction d using Nat.strongRecOn with
 | _ d ih =>
  intro w t b o hS h
  obtain ⟨d0,k,x,n,es,oR,cR,hd,rfl,g0,g1,g2,g3,hlen,hel⟩:=tyC_ptr h
  subst hd
  obtain ⟨R,hR⟩:∃R,R=gdT ls.length (d0+1) (nd k x e0 n es [] 0):=⟨_,rfl⟩
  rw [<- hR]
  have hR':R=(ndOk ls.length k x n es.length && es.all (gdT ls.length d0)):=by rw [hR];rfl
  have HN:=hideR (t_nodeFits hS b o k n x oR es.length cR g0 g1 g2 g3)
  have HEL:=hideR hel
  have HL:=hideR hlen
  have G3:=hideR g3
  have HIH:Hid (∀(wr:World) (t:Value) (b o:Nat),Below w.heap.size w wr->TyC 0 w d0 b o t->Calls Try.prog 57 #[.pointer (some ⟨p,0,none⟩),.pointer (some ⟨b,o,none⟩)] wr fun e w'=>e=.returned (.bool (gdT ls.length d0 t))/\Below wr.heap.size wr w'):=hideR (fun wr t b o hb h=>ih d0 (by omega) wr t b o (hS.on hb) (h.but (Abv.of hb)))
  clear hR h hel hlen ih g0 g1 g2 hS
  cases hX:ndOk ls.length k x n es.length with
  | false =>
   rw [hX] at HN
   have HS:Hid (false=R):=hideR (by rw [hR',hX];rfl)
   clear hR' HIH HEL hX
   go_enter Try.func57,Try.ntmps57
   go_wp2_with fail
   refine Calls.mono (show Calls _ _ _ _ _ from HN.out) ?_
   rintro e w2 ⟨rfl,hb⟩
   have HB:=hideR hb
   clear hb HN
   go_wp2
   go_ret
   exact ⟨ret_bool HS.out,HB.out⟩
  | true =>
   rw [hX] at HN
   rw [hX,Bool.true_and] at hR'
   have ST0:Hid ((es.drop 0).all (gdT ls.length d0)=R):=hideR (by rw [hR'];rfl)
   clear hR' hX
   go_enter Try.func57,Try.ntmps57
   go_wp2_with fail
   refine Calls.mono (show Calls _ _ _ _ _ from HN.out) ?_
   rintro e w2 ⟨rfl,hb⟩
   have BB0:=hideR hb
   clear g3
   have g3:=cell_on hb G3.out
   clear hb HN
   go_wp2_with fail
   go_loopw [15] (fun aa wr=>∃i:Nat,aa=.int .i64 i/\i<=es.length/\Hid ((es.drop i).all (gdT ls.length d0)=R)/\Hid (Below w.heap.size w wr)) (fun aa _=>match aa with | .int _ i=>es.length-i.toNat|_=>0)
   case atStart=>exact ⟨0,rfl,Nat.zero_le _,ST0,BB0⟩
   case round =>
    obtain ⟨i,rfl,hi,HN,HB⟩:=hrel
    clear ST0 BB0 g3
    have g3:=cell_on HB.out G3.out
    by_cases hp:i<es.length
    ·have q1:decide ((i:Int)<(es.length:Int))=true:=decide_eq_true (by omega)
     obtain ⟨t1,ht1⟩:∃t1,es[i]?=some t1:=⟨_,List.getElem?_eq_getElem hp⟩
     obtain ⟨b1,off,hoR,hC⟩:=HEL.out i t1 ht1
     subst hoR
     have hw1:=wrapI hp HL.out
     have HIB:=hideR (HIH.out wr t1 b1 (off+i*4) HB.out hC)
     have hst:=HN.out
     rw [all_step ht1] at hst
     have HST:=hideR hst
     generalize gdT ls.length d0 t1=A at *
     clear hC ht1 HN hst
     cases A with
     | false =>
      have HS:Hid (false=R):=hideR (by rw [<- HST.out];rfl)
      clear HST
      go_wp2_with fail
      refine Calls.mono (show Calls _ _ _ _ _ from HIB.out) ?_
      rintro e w3 ⟨rfl,hb3⟩
      have HB3:=hideR (below_go HB.out hb3)
      clear HIB hb3 g3
      go_wp2
      go_ret
      exact ⟨ret_bool HS.out,HB3.out⟩
     | true =>
      have HS:Hid ((es.drop (i+1)).all (gdT ls.length d0)=R):=hideR (by rw [<- HST.out];rfl)
      clear HST
      go_wp2_with fail
      refine Calls.mono (show Calls _ _ _ _ _ from HIB.out) ?_
      rintro e w3 ⟨rfl,hb3⟩
      have HB3:=hideR (below_go HB.out hb3)
      clear HIB hb3 g3
      go_wp2
      go_roundw
      case rel=>exact ⟨i+1,by first|rfl|(congr 1),hp,HS,HB3⟩
      case measure=>simp;omega
    ·have q1:decide ((i:Int)<(es.length:Int))=false:=decide_eq_false (by omega)
     have HS:Hid (true=R):=hideR (by rw [<- HN.out,List.drop_eq_nil_of_le (by omega)];rfl)
     clear HN hi
     go_wp2
     go_ret
     exact ⟨ret_bool HS.out,HB.out⟩
set_option maxRecDepth 100000 in
set_option maxHeartbeats 8000000 in
theorem t_takes {B p:Nat} {ls:List Value} {vs:Value} (d:Nat) (u:World) (t:Value) (b o:Nat) (hS:SV B p ls vs u) (h:TyC 0 u (d+1) b o t):Calls Try.prog 34 #[.pointer (some ⟨p,0,none⟩),.pointer (some ⟨b,o,none⟩)] u fun e w'=>e=.returned (.bool (tkT ls.length d t))/\Below u.heap.size u w':=by
 obtain ⟨d0,k,x,n,v,hd,g0,g1,g2,g3,hV⟩:=ty_eltd h
 obtain rfl:d=d0:=by omega
 have hov:v.oneCell'=true:=by
  obtain ⟨k',x',n',es',u',_,hv,hr⟩:=hV
  obtain ⟨o',c',hu',_⟩:=row_at hr
  injection hv with hv
  simp only [Array.mk.injEq,List.cons.injEq,and_true] at hv
  rw [hv.2.2.2,hu'];rfl
 have HZ:=hideR (t_Size d u t _ hV)
 have HFt:=hideR (fun (u2:World) (hu:Below u.heap.size u u2)=>t_fits (d+1) u2 t b o (hS.on hu) (h.but (Abv.of hu)))
 obtain ⟨R,hR⟩:∃R,R=tkT ls.length d t:=⟨_,rfl⟩
 rw [<- hR]
 unfold tkT at hR
 generalize cnT (d+1) 0 t=c at *
 generalize gdT ls.length (d+1) t=A at *
 clear hS h hV hd
 by_cases hc:c<=1024
 ·have q1:decide ((c:Int)<=1024)=true:=decide_eq_true (by omega)
  rw [decide_eq_true hc,Bool.true_and] at hR
  have HS:=hideR hR
  clear hR hc
  go_enter Try.func34,Try.ntmps34
  go_wp2_with fail
  refine Calls.mono (show Calls _ _ _ _ _ from HZ.out) ?_
  rintro e w2 ⟨rfl,hb⟩
  have HB:=hideR hb
  have HF2:=hideR (HFt.out w2 hb)
  clear hb HZ HFt g0 g1 g2 g3
  go_wp2_with fail
  refine Calls.mono (show Calls _ _ _ _ _ from HF2.out) ?_
  rintro e w3 ⟨rfl,hb3⟩
  have HB3:=hideR (below_go HB.out hb3)
  clear hb3 HF2
  go_wp2
  go_ret
  exact ⟨ret_bool HS.out.symm,HB3.out⟩
 ·have q1:decide ((c:Int)<=1024)=false:=decide_eq_false (by omega)
  rw [decide_eq_false hc,Bool.false_and] at hR
  have HS:=hideR hR
  clear hR hc HFt
  go_enter Try.func34,Try.ntmps34
  go_wp2_with fail
  refine Calls.mono (show Calls _ _ _ _ _ from HZ.out) ?_
  rintro e w2 ⟨rfl,hb⟩
  have HB:=hideR hb
  clear hb HZ g0 g1 g2 g3
  go_wp2
  go_ret
  exact ⟨ret_bool HS.out.symm,HB.out⟩
set_option linter.unusedVariables false
namespace Ty
def TyX (f:Bool) (S:Nat->Prop) (w:World):Nat->Nat->Nat->Value->Prop
 | 0,_,_,_=>False
 | d+1,b,o,t=>(¬ S b/\(f=true->∃cs T,w.heap[b]?=some (.cells cs T (0,0))))/\∃k x n es v,t=nd k x e0 n es [] 0/\w.cell? ⟨b,o,none⟩=some (.int .i64 k)/\w.cell? ⟨b,o+1,none⟩=some (.string x)/\w.cell? ⟨b,o+2,none⟩=some (.int .i64 n)/\w.cell? ⟨b,o+3,none⟩=some v/\Row 4 (TyX f S w d) v es
theorem TyX.toC {f:Bool} {S:Nat->Prop} {w:World}:∀(d b o:Nat) (t:Value),TyX f S w d b o t->TyC 0 w d b o t
 | 0,_,_,_,h=>h
 | d+1,b,o,t,⟨hp,k,x,n,es,v,h0,h1,h2,h3,h4,h5⟩=>⟨Nat.zero_le _,k,x,n,es,v,h0,h1,h2,h3,h4,Row.imp h5 fun b o t _ h=>TyX.toC d b o t h⟩
theorem TyX.up {f:Bool} {S:Nat->Prop} {w:World}:∀(d b o:Nat) (t:Value),TyX f S w d b o t->TyX f S w (d+1) b o t
 | 0,_,_,_,h=>False.elim h
 | d+1,b,o,t,⟨hp,k,x,n,es,v,h0,h1,h2,h3,h4,h5⟩=>⟨hp,k,x,n,es,v,h0,h1,h2,h3,h4,Row.imp h5 fun b o t _ h=>TyX.up d b o t h⟩
theorem TyX.weak {f:Bool} {S:Nat->Prop} {w:World}:∀(d b o:Nat) (t:Value),TyX true S w d b o t->TyX f S w d b o t
 | 0,_,_,_,h=>h
 | d+1,b,o,t,⟨hp,k,x,n,es,v,h0,h1,h2,h3,h4,h5⟩=>⟨⟨hp.1,fun _=>hp.2 rfl⟩,k,x,n,es,v,h0,h1,h2,h3,h4,Row.imp h5 fun b o t _ h=>TyX.weak d b o t h⟩
theorem TyX.drop {f:Bool} {S:Nat->Prop} {w:World}:∀(d b o:Nat) (t:Value),TyX f S w d b o t->TyX false S w d b o t
 | 0,_,_,_,h=>h
 | d+1,b,o,t,⟨hp,k,x,n,es,v,h0,h1,h2,h3,h4,h5⟩=>⟨⟨hp.1,fun h=>by cases h⟩,k,x,n,es,v,h0,h1,h2,h3,h4,Row.imp h5 fun b o t _ h=>TyX.drop d b o t h⟩
theorem cell_same {w w':World} {b o:Nat} {v:Value} (hb:b<w.heap.size->w'.heap[b]?=w.heap[b]?) (h:w.cell? ⟨b,o,none⟩=some v):w'.cell? ⟨b,o,none⟩=some v:=by
 have hl:b<w.heap.size:=World.block_lt_of_cell? _ _ h
 unfold World.cell? at h ⊢
 rw [hb hl];exact h
theorem TyX.on {f:Bool} {S S':Nat->Prop} {w w':World} (hb:∀k,¬ S k->k<w.heap.size->w'.heap[k]?=w.heap[k]?) (hS:∀k,k<w.heap.size->S' k->S k):∀(d b o:Nat) (t:Value),TyX f S w d b o t->TyX f S' w' d b o t
 | 0,_,_,_,h=>h
 | d+1,b,o,t,⟨hp,k,x,n,es,v,h0,h1,h2,h3,h4,h5⟩ =>
  ⟨⟨fun h=>hp.1 (hS b (World.block_lt_of_cell? _ _ h1) h),fun hf=>by
   obtain ⟨cs,T,h⟩:=hp.2 hf
   exact ⟨cs,T,(hb b hp.1 (World.block_lt_of_cell? _ _ h1)).trans h⟩⟩,k,x,n,es,v,h0,cell_same (hb b hp.1) h1,cell_same (hb b hp.1) h2,cell_same (hb b hp.1) h3,cell_same (hb b hp.1) h4,Row.imp h5 fun b o t _ h=>TyX.on hb hS d b o t h⟩
theorem TyX.low {S:Nat->Prop} {w w':World} (hb:Below w.heap.size w w') (hS:∀k,k<w.heap.size->¬ S k):∀(d b o:Nat) (t:Value),TyC 0 w d b o t->TyX false S w' d b o t
 | 0,_,_,_,h=>h
 | d+1,b,o,t,⟨hp,k,x,n,es,v,h0,h1,h2,h3,h4,h5⟩=>⟨⟨hS b (World.block_lt_of_cell? _ _ h1),fun h=>by cases h⟩,k,x,n,es,v,h0,cell_on hb h1,cell_on hb h2,cell_on hb h3,cell_on hb h4,Row.imp h5 fun b o t _ h=>TyX.low hb hS d b o t h⟩
theorem TyX.of {S:Nat->Prop} {w:World} {p:Nat} (hS:∀k,p<=k->¬ S k):∀(d b o:Nat) (t:Value),TyC p w d b o t->TyX false S w d b o t
 | 0,_,_,_,h=>h
 | d+1,b,o,t,⟨hp,k,x,n,es,v,h0,h1,h2,h3,h4,h5⟩=>⟨⟨hS b hp,fun h=>by cases h⟩,k,x,n,es,v,h0,h1,h2,h3,h4,Row.imp h5 fun b o t _ h=>TyX.of hS d b o t h⟩
theorem tyX_ptr {f:Bool} {S:Nat->Prop} {d b o:Nat} {w:World} {t:Value} (h:TyX f S w d b o t):∃d0 k x n es oR cR,d=d0+1/\t=nd k x e0 n es [] 0/\w.cell? ⟨b,o,none⟩=some (.int .i64 k)/\w.cell? ⟨b,o+1,none⟩=some (.string x)/\w.cell? ⟨b,o+2,none⟩=some (.int .i64 n)/\w.cell? ⟨b,o+3,none⟩=some (.slice oR es.length cR)/\es.length<=9223372036854775807/\∀i x,es[i]?=some x->∃b off,oR=some ⟨b,off,none⟩/\TyX f S w d0 b (off+i*4) x:=by
 cases d with
 | zero=>exact h.elim
 | succ d =>
  obtain ⟨hp,k,x,n,es,u,ht,h1,h2,h3,h4,hr⟩:=h
  obtain ⟨oR,cR,rfl,hel⟩:=row_at hr
  exact ⟨_,k,x,n,es,oR,cR,rfl,ht,h1,h2,h3,h4,hr.1,hel⟩
theorem TyX.blk {S:Nat->Prop} {d b o:Nat} {w:World} {t:Value} (h:TyX true S w d b o t):∃cs T,w.heap[b]?=some (.cells cs T (0,0)):=by
 cases d with
 | zero=>exact h.elim
 | succ d=>exact h.1.2 rfl
def RowU (B:Nat) (v:Value) (es:List Value) (w:World):Prop:=∃d,Row 4 (TyX true (fun k=>k<B) w d) v es
def tyU (B:Nat) (t v:Value) (w:World):Prop:=∃k x n es u,t=nd k x e0 n es [] 0/\v=.agg #[.int .i64 k,.string x,.int .i64 n,u]/\RowU B u es w
theorem RowU.nil (B:Nat) (w:World):RowU B (.slice none 0 0) [] w:=⟨0,row_nil _ _⟩
theorem tyNU {B:Nat} {w:World} {v:Value} {es:List Value} (k:Int) (x:ByteArray) (n:Int) (he:RowU B v es w):tyU B (nd k x e0 n es [] 0) (.agg #[.int .i64 k,.string x,.int .i64 n,v]) w:=⟨k,x,n,es,v,rfl,rfl,he⟩
theorem tyU.val {B:Nat} {t v:Value} {w:World} (h:tyU B t v w):∃k x n u,v=.agg #[.int .i64 k,.string x,.int .i64 n,u]/\u.oneCell'=true:=by
 obtain ⟨k,x,n,es,u,_,h1,d,h2⟩:=h
 obtain ⟨o1,c1,rfl⟩:=Row.len h2
 exact ⟨k,x,n,_,h1,rfl⟩
theorem tyU.on {B C:Nat} {t v:Value} {w w':World} (h:tyU B t v w) (hb:Abv B w w') (hc:C<=B):tyU C t v w':=by
 obtain ⟨k,x,n,es,u,h0,h1,d,h2⟩:=h
 exact ⟨k,x,n,es,u,h0,h1,d,h2.imp fun b o t _ h=>h.on (fun k hk hl=>hb k (Nat.not_lt.1 hk) hl) fun k _ hk=>Nat.lt_of_lt_of_le hk hc⟩
theorem tyU_cells {B:Nat} {w:World} {t:Value} {cs:Array Value} {b o:Nat} (h:tyU B t (.agg cs) w) (hB:B<=b) (hx:∃cs T,w.heap[b]?=some (.cells cs T (0,0))) (hc:∀j u,cs[j]?=some u->w.cell? ⟨b,o+j,none⟩=some u):∃d,TyX true (fun k=>k<B) w d b o t:=by
 obtain ⟨k,x,n,es,u,h0,h1,d,h2⟩:=h
 injection h1 with h1
 subst h1
 exact ⟨d+1,⟨Nat.not_lt.2 hB,fun _=>hx⟩,k,x,n,es,u,h0,hc 0 _ rfl,hc 1 _ rfl,hc 2 _ rfl,hc 3 _ rfl,h2⟩
end Ty
end Go.Proofs.Ytkflfohoinbenaa
