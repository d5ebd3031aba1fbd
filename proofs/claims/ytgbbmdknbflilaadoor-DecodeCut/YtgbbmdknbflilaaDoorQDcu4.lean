/- Texts that the claim needs. -/
import Derived.Test.YtgbbmdknbflilaaDoorRows
import Derived.Test.YtgbbmdknbflilaaDoorQDcu0
import Derived.Test.YtgbbmdknbflilaaDoorQDcu3
import Derived.WalkKit
import Derived.WalkSpells
import Derived.WalkSmall
import Derived.BigQuiet
import Derived.Deep.QuietTactic
namespace Go.Proofs.YtgbbmdknbflilaaDoor
open Go.RowKit
theorem lhide {p:Prop} (h:p):Hid p:=h
theorem lunhide {p:Prop} (h:Hid p):p:=h
theorem lret_bool {a b:Bool} (h:a=b):Ending.returned (.bool a)=.returned (.bool b):=by rw [h]
theorem lret_int {k:IntKind} {a b:Int} (h:a=b):Ending.returned (.int k a)=.returned (.int k b):=by rw [h]
set_option maxHeartbeats 400000 in
theorem c22 (s:ByteArray) (a bits:Int) (w:World) :
  Calls Tryd.prog 18 #[.string s,.int .i64 a,.int .i64 bits] w fun e w'=>e=.returned (.bool (Leb.asks s.size a bits))/\w'=w:=by
 go_enter Tryd.func18,Tryd.ntmps18
 go_wp2
 all_goals go_ret
 all_goals refine ⟨lret_bool ?_,rfl⟩
 all_goals (unfold Leb.asks;rw [Bool.eq_iff_iff];simp only [decide_eq_true_eq];first|omega|(simp;omega))
set_option maxHeartbeats 400000 in
theorem c26 (bits:Int) (w:World) (h:bits=32\/bits=64) :
  Calls Tryd.prog 63 #[.int .i64 bits] w fun e w'=>e=.returned (.int .i64 (Leb.most bits))/\w'=w:=by
 rcases h with rfl|rfl
 all_goals
  go_enter Tryd.func63,Tryd.ntmps63
  go_wp2
  go_ret
  exact ⟨rfl,rfl⟩
set_option maxHeartbeats 1000000 in
theorem c23 (s:ByteArray) (a:Nat) (bits:Int) (w:World) (hs:s.size<=140737488351232) (ha:a<=s.size) (h:bits=32\/bits=64) :
  Calls Tryd.prog 19 #[.string s,.int .i64 a,.int .i64 bits] w fun e w'=>e=.returned (.int .i64 (Leb.grp (Leb.from_ s a) (s.size-a) (Leb.most bits)))/\w'=w:=by
 have hg:=Leb.get_bt s
 have hm:(bits+6) / 7=(Leb.most bits:Int)/\Leb.most bits<=10/\0<=bits/\bits<=64:=by rcases h with rfl|rfl<;>decide
 obtain ⟨hm1,hm2,hm3,hm4⟩:=hm
 clear h
 generalize Leb.most bits=M at *
 go_enter Tryd.func19,Tryd.ntmps19
 go_wp2
 go_loop [8] (fun i=>∃k:Nat,k<=M/\k<=s.size-a/\i=.int .i64 k/\Leb.grp (Leb.from_ s a) (s.size-a) M=Leb.grpF (Leb.from_ s a) (s.size-a) (M-k) k) (fun i=>10-(RowKit.intOf i).toNat)
 case atStart=>exact ⟨0,by omega,by omega,rfl,rfl⟩
 case round =>
  obtain ⟨k,hk,hk2,rfl,hgr⟩:=hrel
  have HG:Hid (Leb.grp (Leb.from_ s a) (s.size-a) M=Leb.grpF (Leb.from_ s a) (s.size-a) (M-k) k):=hgr
  clear hgr
  by_cases h1:k<M
  ·by_cases h2:a+k<s.size
   ·have hf:Leb.from_ s a k=Leb.bt s (a+k):=rfl
    have hbd:=Leb.bt_bd s (a+k)
    by_cases h3:Leb.bt s (a+k)<128
    ·have hfin:Leb.grp (Leb.from_ s a) (s.size-a) M=k+1:=by rw [HG.out];exact Leb.grpF_last _ _ _ _ (by omega) (by omega) h3
     clear HG hf
     go_wp2
     go_ret
     exact ⟨rfl,rfl⟩
    ·have hfin:Leb.grp (Leb.from_ s a) (s.size-a) M=Leb.grpF (Leb.from_ s a) (s.size-a) (M-(k+1)) (k+1):=by rw [HG.out];exact Leb.grpF_on _ _ _ _ (by omega) (by omega) h3
     have HF:Hid (Leb.grp (Leb.from_ s a) (s.size-a) M=Leb.grpF (Leb.from_ s a) (s.size-a) (M-(k+1)) (k+1)):=hfin
     clear HG hf hfin
     go_wp2
     go_round
     case rel=>exact ⟨k+1,by omega,by omega,by go_num,HF.out⟩
     case measure=>simp [RowKit.intOf];omega
   ·have hfin:Leb.grp (Leb.from_ s a) (s.size-a) M=0:=by rw [HG.out];exact Leb.grpF_past _ _ _ _ (by omega)
    clear HG
    go_wp2
    go_ret
    exact ⟨rfl,rfl⟩
  ·have hfin:Leb.grp (Leb.from_ s a) (s.size-a) M=0:=by rw [HG.out,show M-k=0 by omega];rfl
   clear HG
   go_wp2
   go_ret
   exact ⟨rfl,rfl⟩
theorem start_eq {f:Nat->Int} {k:Nat} {V:Int} (h:Leb.val f k=V):Leb.val f k+128 ^ k*0=V:=by rw [Int.mul_zero,Int.add_zero];exact h
theorem step_u64 (N b:Int):bits .or .u64 (IntKind.u64.wrap (Leb.low64 N*128)) (b%128)=Leb.low64 (N*128+b%128):=by
 have hb:0<=b%128/\b%128<128:=by omega
 have e:IntKind.u64.wrap (Leb.low64 N*128)=Leb.low64 (Leb.low64 N*128):=by rw [IntKind.wrap_u64];rfl
 have h1:=Leb.low64_bd (Leb.low64 N*128)
 rw [e,Leb.or_u64 7 _ _ h1.1 h1.2 (Leb.low64_128 _) hb.1 (by simpa using hb.2) (by omega)]
 exact Leb.low64_up N _ hb.1 hb.2
theorem lthree_ret {k:IntKind} {a b c a' b' c':Int} (h:(a,b,c)=(a',b',c')):Ending.returned (.tuple #[.int k a,.int .i64 b,.int .i64 c])=.returned (.tuple #[.int k a',.int .i64 b',.int .i64 c']):=by
 simp only [Prod.mk.injEq] at h
 rw [h.1,h.2.1,h.2.2]
set_option maxHeartbeats 1000000 in
theorem c15 (s : ByteArray) (a bits : Int) (w : World) (hs : s.size ≤ 140737488351232) :
    Calls Tryd.prog 12 #[.string s, .int .i64 a, .int .i64 bits] w fun e w' =>
      e = .returned (.tuple #[.int .u64 (Leb.uRead s a bits).1, .int .i64 (Leb.uRead s a bits).2.1, .int .i64 (Leb.uRead s a bits).2.2]) ∧ w' = w := by
  by_cases hask : Leb.asks s.size a bits = true
  · have hq := Leb.asks_yes hask
    obtain ⟨hbits, ha0, ha1⟩ := hq
    obtain ⟨a, rfl⟩ := Int.eq_ofNat_of_zero_le ha0
    have hread : Leb.uRead s a bits = Leb.uFin (Leb.from_ s a) (Leb.grp (Leb.from_ s a) (s.size - a) (Leb.most bits)) a bits := by unfold Leb.uRead; rw [if_pos hask, Int.toNat_natCast]; rfl
    rw [hread]
    have hg := Leb.get_bt s
    have ha : a ≤ s.size := by omega
    have HASK : Hid (Leb.asks s.size a bits = true) := hask
    have hks := Leb.grp_some (Leb.from_ s a) (s.size - a) (Leb.most bits)
    have hc23 := c23 s a bits w hs ha hbits
    clear hread ha0 ha1 hask
    generalize Leb.grp (Leb.from_ s a) (s.size - a) (Leb.most bits) = k at *
    have hC := lhide hc23
    clear hc23
    by_cases hbad : k = 0 ∨ (bits = 32 ∧ 4294967295 < Leb.val (Leb.from_ s a) k) ∨ (k = 10 ∧ 1 < Leb.from_ s a 9)
    · have hfin : Leb.uFin (Leb.from_ s a) k a bits = (0, 0, 10) := by unfold Leb.uFin; rw [if_pos hbad]
      rw [hfin]
      have hway : k = 0 ∨ (bits = 32 ∧ k = 5 ∧ 15 < Leb.bt s (a + 4) ∧ a + 4 < s.size) ∨ (bits = 64 ∧ k = 10 ∧ 1 < Leb.bt s (a + 9) ∧ a + 9 < s.size) := by
        by_cases hk0 : k = 0
        · exact .inl hk0
        · obtain ⟨k1, k2, k3, k4, k5⟩ := hks hk0
          rcases hbad with h | ⟨rfl, h⟩ | ⟨rfl, h⟩
          · exact .inl h
          · have hm : k ≤ 5 := k2
            have hk : k = 5 := by
              rcases Nat.lt_or_ge k 5 with h' | h'
              · have := Leb.val_5 (Leb.from_ s a) k (by omega); omega
              · omega
            subst hk
            have hbd := Leb.from_bd s a 4
            exact .inr (.inl ⟨rfl, rfl, (Leb.val_four _ hbd.1 k4).1 h, by omega⟩)
          · rcases hbits with rfl | rfl
            · exact absurd k2 (by decide)
            · exact .inr (.inr ⟨rfl, rfl, h, by omega⟩)
      clear hbad hfin hks hbits
      rcases hway with rfl | ⟨rfl, rfl, h1, h2⟩ | ⟨rfl, rfl, h1, h2⟩
      all_goals
        go_enter Tryd.func12, Tryd.ntmps12
        go_wp2_with fail
        refine (c22 _ _ _ _).mono ?_
        rintro e w' ⟨rfl, rfl⟩
        rw [HASK.out]
        go_wp2_with fail
        refine (lunhide hC).mono ?_
        rintro e w' ⟨rfl, rfl⟩
        go_wp2
        go_ret3
        exact ⟨rfl, rfl⟩
    · have hfin : Leb.uFin (Leb.from_ s a) k a bits = (Leb.val (Leb.from_ s a) k, (a : Int) + (k : Int), 0) := by unfold Leb.uFin; rw [if_neg hbad]
      rw [hfin]
      have hk0 : k ≠ 0 := fun h => hbad (.inl h)
      obtain ⟨k1, k2, k3, k4, k5⟩ := hks hk0
      have hsum : (a : Int) + k ≤ s.size := by omega
      have hk10 : k ≤ 10 := by rcases hbits with rfl | rfl <;> exact Nat.le_trans k2 (by decide)
      have hv : Leb.val (Leb.from_ s a) k ≤ 18446744073709551615 := by
        by_cases h10 : k = 10
        · subst h10
          have hbd := Leb.from_bd s a 9
          exact Leb.val_nine _ hbd.1 (by have := fun h => hbad (.inr (.inr ⟨rfl, h⟩)); omega)
        · have := Leb.val_9 (Leb.from_ s a) k (by omega); omega
      have hway : (bits = 32 ∧ ((k = 5 ∧ Leb.bt s (a + 4) ≤ 15 ∧ a + 4 < s.size) ∨ k < 5)) ∨ (bits = 64 ∧ (k = 5 ∨ (k = 10 ∧ Leb.bt s (a + 9) ≤ 1 ∧ a + 9 < s.size) ∨ ((k : Int) ≠ 5 ∧ (k : Int) ≠ 10))) := by
        rcases hbits with rfl | rfl
        · have hm : k ≤ 5 := k2
          by_cases h5 : k = 5
          · subst h5
            have hbd := Leb.from_bd s a 4
            have h4 : ¬ 15 < Leb.from_ s a 4 := fun h => hbad (.inr (.inl ⟨rfl, (Leb.val_four _ hbd.1 k4).2 h⟩))
            exact .inl ⟨rfl, .inl ⟨rfl, by have : Leb.from_ s a 4 = Leb.bt s (a + 4) := rfl
                                           omega, by omega⟩⟩
          · exact .inl ⟨rfl, .inr (by omega)⟩
        · by_cases h5 : k = 5
          · exact .inr ⟨rfl, .inl h5⟩
          · by_cases h10 : k = 10
            · have h9 : ¬ 1 < Leb.from_ s a 9 := fun h => hbad (.inr (.inr ⟨h10, h⟩))
              exact .inr ⟨rfl, .inr (.inl ⟨h10, by have : Leb.from_ s a 9 = Leb.bt s (a + 9) := rfl
                                                   omega, by omega⟩)⟩
            · exact .inr ⟨rfl, .inr (.inr (by omega))⟩
      clear hbad hfin hks hbits k2 k4 k5
      have hk0' : ((k : Int) == 0) = false := by simp; omega
      have hv0 := (Leb.val_bd (Leb.from_ s a) k).1
      generalize hV : Leb.val (Leb.from_ s a) k = V at *
      have HV := lhide hV
      clear hV
      have hway' : (bits = 32 ∧ ((k = 5 ∧ decide (15 < Leb.bt s (a + 4)) = false ∧ a + 4 < s.size) ∨ (((k : Int) == 5) = false ∧ ((k : Int) == 10) = false))) ∨ (bits = 64 ∧ (k = 5 ∨ (k = 10 ∧ decide (1 < Leb.bt s (a + 9)) = false ∧ a + 9 < s.size) ∨ (((k : Int) == 5) = false ∧ ((k : Int) == 10) = false))) := by
        simp only [decide_eq_false_iff_not, beq_eq_false_iff_ne]
        omega
      clear hway hk0
      rcases hway' with ⟨rfl, ⟨rfl, h1, h2⟩ | ⟨h1, h2⟩⟩ | ⟨rfl, rfl | ⟨rfl, h1, h2⟩ | ⟨h1, h2⟩⟩
      all_goals
        go_enter Tryd.func12, Tryd.ntmps12
        go_wp2_with fail
        refine (c22 _ _ _ _).mono ?_
        rintro e w' ⟨rfl, rfl⟩
        rw [HASK.out]
        go_wp2_with fail
        refine (lunhide hC).mono ?_
        rintro e w' ⟨rfl, rfl⟩
        go_wp2
        go_loop [10, 11] (fun x i => ∃ (j : Nat) (N : Int), a + j ≤ s.size ∧ j ≤ 10 ∧ i = .int .i64 ((j : Int) - 1) ∧ x = .int .u64 (Leb.low64 N) ∧ Leb.val (Leb.from_ s a) j + 128 ^ j * N = V) (fun _ i => (RowKit.intOf i + 1).toNat)
        case atStart =>
          refine ⟨_, 0, ?_, ?_, ?_, rfl, start_eq (lunhide HV)⟩
          · omega
          · omega
          · go_num
        case round =>
          obtain ⟨j, N, hj1, hj2, rfl, rfl, hN⟩ := hrel
          have HN := lhide hN
          clear hN
          by_cases hj : j = 0
          · subst hj
            have HN0 := (lunhide HN)
            simp only [Leb.val, Int.pow_zero, Int.one_mul, Int.zero_add] at HN0
            subst HN0
            clear HN
            go_wp2
            go_ret3
            exact ⟨lthree_ret (by rw [Leb.low64_in hv0 hv]), rfl⟩
          · obtain ⟨j, rfl⟩ : ∃ j', j = j' + 1 := ⟨j - 1, by omega⟩
            have hbd := Leb.bt_bd s (a + j)
            have hmk := Leb.and127_u8 _ hbd.1 hbd.2
            have hlow := Leb.low64_bd N
            go_wp2
            go_round
            case rel => exact ⟨j, N * 128 + Leb.bt s (a + j) % 128, by omega, by omega, rfl, by rw [step_u64], (Leb.val_split (Leb.from_ s a) j N).symm.trans (lunhide HN)⟩
            case measure => simp [RowKit.intOf]
  · have hask' : Leb.asks s.size a bits = false := by simpa using hask
    have hread : Leb.uRead s a bits = (0, 0, 1) := by unfold Leb.uRead; rw [hask']; rfl
    rw [hread]
    clear hread hask
    go_enter Tryd.func12, Tryd.ntmps12
    go_wp2_with fail
    refine (c22 _ _ _ _).mono ?_
    rintro e w' ⟨rfl, rfl⟩
    go_wp2
    go_ret3
    exact ⟨rfl, rfl⟩
end Go.Proofs.YtgbbmdknbflilaaDoor

namespace Go.Proofs.YtgbbmdknbflilaaDoor
open Go.RowKit
theorem three_ret' {a b:Int} {p p' q q':Bool} (h:a=b) (h':p=p') (h'':q=q'):Ending.returned (.tuple #[.int .u8 a,.bool p,.bool q])=.returned (.tuple #[.int .u8 b,.bool p',.bool q']):=by rw [h,h',h'']
set_option maxHeartbeats 400000 in
theorem c27_end (ba bs:Nat) (t:ByteArray) (w:World) (hs:w.cell? ⟨bs,0,none⟩=some (.string t)) (ha:w.cell? ⟨ba,0,none⟩=some (.int .i64 t.size)) :
  Calls Tryd.prog 71 #[.pointer (some ⟨ba,0,none⟩),.pointer (some ⟨bs,0,none⟩)] w fun e w'=>e=.returned (.tuple #[.int .u8 0,.bool false,.bool false])/\w'=w:=by
 go_enter Tryd.func71,Tryd.ntmps71
 go_wp2
 go_ret3
 exact ⟨rfl,rfl⟩
set_option maxHeartbeats 400000 in
theorem c27_on (ba bs k:Nat) (t:ByteArray) (q:Bool) (w:World) (hlen:t.size<=140737488351232) (hs:w.cell? ⟨bs,0,none⟩=some (.string t)) (ha:w.cell? ⟨ba,0,none⟩=some (.int .i64 k)) (hf:w.frozen? ⟨ba,0,none⟩=false) (hk:k<t.size)
  (hq:decide (Leb.bt t k<128)=q) :
  Calls Tryd.prog 71 #[.pointer (some ⟨ba,0,none⟩),.pointer (some ⟨bs,0,none⟩)] w fun e w' =>
   e=.returned (.tuple #[.int .u8 (Leb.bt t k%128),.bool q,.bool true])/\w'=w.setCell ⟨ba,0,none⟩ (.int .i64 ((k:Int)+1)):=by
 have hg:=Leb.get_bt t
 have hbd:=Leb.bt_bd t k
 have hmk:=Leb.and127_u8 _ hbd.1 hbd.2
 have hne:((k:Int) == (t.size:Int))=false:=by simp;omega
 have HQ:=lhide hq
 clear hq
 go_enter Tryd.func71,Tryd.ntmps71
 go_wp2
 go_ret3
 exact ⟨three_ret' rfl (lunhide HQ) rfl,rfl⟩
set_option maxHeartbeats 400000 in
theorem c21_arg (s:ByteArray) (a bits:Int) (w:World) (hask:Leb.asks s.size a bits=false) :
  Calls Tryd.prog 53 #[.string s,.int .i64 a,.int .i64 bits] w fun e w' =>
   e=.returned (.tuple #[.agg #[.int .u64 0,.int .i64 0,.int .u8 0],.int .i64 1])/\Below w.heap.size w w':=by
 have hno:=Leb.asks_no hask
 clear hask
 have hway:((bits != 32)=true/\(bits != 64)=true)\/(((bits != 32)=false\/((bits != 32)=true/\(bits != 64)=false))/\(a<0\/(0<=a/\(s.size:Int)<a))):=by
  simp only [bne_iff_ne,bne_eq_false_iff_eq]
  omega
 clear hno
 rcases hway with ⟨h1,h2⟩|⟨h1|⟨h1,h2⟩,h3|⟨h3,h4⟩⟩
 all_goals
  go_enter Tryd.func53,Tryd.ntmps53
  go_wp2
  exact bodyPost_ret (v:=.tuple #[.agg #[.int .u64 0,.int .i64 0,.int .u8 0],.int .i64 1]) (by simp [results,Tryd.results53,go_sem]) rfl ⟨rfl,by first|exact ((Below.refl _ _).alloc (Nat.le_refl _) _)⟩
set_option maxHeartbeats 400000 in
theorem c25 (t:ByteArray) (w:World) :
  Calls Tryd.prog 62 #[.string t] w fun e w' =>
   e=.returned (.func (.func 71) #[] #[.pointer (some ⟨w.heap.size+1,0,none⟩),.pointer (some ⟨w.heap.size,0,none⟩)])/\w'=(w.alloc (.cells #[.string t] 9)).alloc (.cells #[.int .i64 0] 3):=by
 go_enter Tryd.func62,Tryd.ntmps62
 go_wp2
 go_ret
 exact ⟨rfl,rfl⟩
theorem bt_extract (s:ByteArray) (a i:Nat) (ha:a<=s.size):Leb.bt (s.extract a s.size) i=Leb.from_ s a i:=by
 unfold Leb.from_ Leb.bt
 have hsz:(s.extract a s.size).size=s.size-a:=by simp [ByteArray.size_extract]
 by_cases h:a+i<s.size
 ·rw [dif_pos (by omega),dif_pos h]
  simp [ByteArray.getElem_extract]
 ·rw [dif_neg (by omega),dif_neg h]
theorem step_low (f:Nat->Int) (k:Nat) (hk:k<=9):Go.bits .or .u64 (Leb.val f k) (IntKind.u64.wrap (f k%128*2 ^ (7*k)))=Leb.low64 (Leb.val f (k+1)):=by
 have hv:=Leb.val_bd f k
 have hg:0<=f k%128/\f k%128<=127:=by omega
 have hkk:k=0\/k=1\/k=2\/k=3\/k=4\/k=5\/k=6\/k=7\/k=8\/k=9:=by omega
 have e:Leb.val f (k+1)=Leb.val f k+128 ^ k*(f k%128):=rfl
 rw [e,IntKind.wrap_u64]
 unfold Leb.low64
 generalize Leb.val f k=v at *
 generalize f k%128=g at *
 clear e
 rcases hkk with rfl|rfl|rfl|rfl|rfl|rfl|rfl|rfl|rfl|rfl
 all_goals
  simp only [Int.reducePow,Nat.reduceMul,Int.mul_one,Int.one_mul] at hv ⊢
 ·rw [Leb.or_u64' 0 _ _ (by omega) (by omega) (by simp only [Int.reducePow];omega) (by omega) (by simp only [Int.reducePow];omega) (by omega)];omega
 ·rw [Leb.or_u64' 7 _ _ (by omega) (by omega) (by simp only [Int.reducePow];omega) (by omega) (by simp only [Int.reducePow];omega) (by omega)];omega
 ·rw [Leb.or_u64' 14 _ _ (by omega) (by omega) (by simp only [Int.reducePow];omega) (by omega) (by simp only [Int.reducePow];omega) (by omega)];omega
 ·rw [Leb.or_u64' 21 _ _ (by omega) (by omega) (by simp only [Int.reducePow];omega) (by omega) (by simp only [Int.reducePow];omega) (by omega)];omega
 ·rw [Leb.or_u64' 28 _ _ (by omega) (by omega) (by simp only [Int.reducePow];omega) (by omega) (by simp only [Int.reducePow];omega) (by omega)];omega
 ·rw [Leb.or_u64' 35 _ _ (by omega) (by omega) (by simp only [Int.reducePow];omega) (by omega) (by simp only [Int.reducePow];omega) (by omega)];omega
 ·rw [Leb.or_u64' 42 _ _ (by omega) (by omega) (by simp only [Int.reducePow];omega) (by omega) (by simp only [Int.reducePow];omega) (by omega)];omega
 ·rw [Leb.or_u64' 49 _ _ (by omega) (by omega) (by simp only [Int.reducePow];omega) (by omega) (by simp only [Int.reducePow];omega) (by omega)];omega
 ·rw [Leb.or_u64' 56 _ _ (by omega) (by omega) (by simp only [Int.reducePow];omega) (by omega) (by simp only [Int.reducePow];omega) (by omega)];omega
 ·rw [Leb.or_u64' 63 _ _ (by omega) (by omega) (by simp only [Int.reducePow];omega) (by omega) (by simp only [Int.reducePow];omega) (by omega)];omega
structure RdInv (B:Nat) (w wr:World) (t:ByteArray) (k:Nat) (l:Int):Prop where
 out:wr.heap[B]?=some (.cells #[.int .u64 0,.int .i64 0,.int .u8 0] 101 (0,0))
 str:wr.heap[B+1]?=some (.cells #[.string t] 9 (0,0))
 pos:wr.heap[B+1+1]?=some (.cells #[.int .i64 k] 3 (0,0))
 rd:wr.heap[B+1+1+1]?=some (.cells #[.int .u64 l,.int .i64 k,.int .u8 0] 101 (0,0))
 bel:Below B w wr
theorem set_here {w:World} {b j:Nat} {u:Value} {cs:Array Value} {t:TypeId} (h:w.heap[b]?=some (.cells cs t (0,0))):(w.setCell ⟨b,j,none⟩ u).heap[b]?=some (.cells (cs.setIfInBounds j u) t (0,0)):=by
 simp [World.setCell,Array.getElem?_modify,h]
theorem set_there {w:World} {b c j:Nat} {u:Value} {x:Obj} (h:w.heap[c]?=some x) (hne:c≠b):(w.setCell ⟨b,j,none⟩ u).heap[c]?=some x:=by
 rw [Below.heap_setCell _ _ _ _ hne];exact h
theorem RdInv.draws {B:Nat} {w wr:World} {t:ByteArray} {k:Nat} {l:Int} (h:RdInv B w wr t k l) (n:Nat):RdInv B w (wr.drewN n) t k l :=
 ⟨h.out,h.str,h.pos,h.rd,⟨h.bel.os,h.bel.tape,h.bel.output,h.bel.size,h.bel.block⟩⟩
theorem RdInv.next {B:Nat} {w wr:World} {t:ByteArray} {k:Nat} {l:Int} (h:RdInv B w wr t k l) (l':Int) :
  RdInv B w (((wr.setCell ⟨B+1+1,0,none⟩ (.int .i64 ((k:Int)+1))).setCell ⟨B+1+1+1,0,none⟩ (.int .u64 l')).setCell ⟨B+1+1+1,1,none⟩ (.int .i64 ((k:Int)+1))) t (k+1) l' :=
 ⟨set_there (set_there (set_there h.out (by omega)) (by omega)) (by omega),set_there (set_there (set_there h.str (by omega)) (by omega)) (by omega),set_there (set_there (set_here h.pos) (by omega)) (by omega),
  set_here (set_here (set_there h.rd (by omega))),((h.bel.setCell (by show B<=B+1+1;omega) _).setCell (by show B<=B+1+1+1;omega) _).setCell (by show B<=B+1+1+1;omega) _⟩
theorem cell_of {w:World} {b j:Nat} {cs:Array Value} {t:TypeId} (h:w.heap[b]?=some (.cells cs t (0,0))):w.cell? ⟨b,j,none⟩=cs[j]?:=by simp [World.cell?,h]
theorem free_of {w:World} {b j:Nat} {cs:Array Value} {t:TypeId} (h:w.heap[b]?=some (.cells cs t (0,0))):w.frozen? ⟨b,j,none⟩=false:=by simp [World.frozen?,h]
structure RdMid (B:Nat) (w wr:World) (t:ByteArray) (k:Nat) (l:Int):Prop where
 out:wr.heap[B]?=some (.cells #[.int .u64 0,.int .i64 0,.int .u8 0] 101 (0,0))
 str:wr.heap[B+1]?=some (.cells #[.string t] 9 (0,0))
 pos:wr.heap[B+1+1]?=some (.cells #[.int .i64 ((k:Int)+1)] 3 (0,0))
 rd:wr.heap[B+1+1+1]?=some (.cells #[.int .u64 l,.int .i64 k,.int .u8 0] 101 (0,0))
 bel:Below B w wr
theorem RdInv.mid {B:Nat} {w wr:World} {t:ByteArray} {k:Nat} {l:Int} (h:RdInv B w wr t k l) (l':Int) (n:Nat) :
  RdMid B w (((wr.drewN n).setCell ⟨B+1+1,0,none⟩ (.int .i64 ((k:Int)+1))).setCell ⟨B+1+1+1,0,none⟩ (.int .u64 l')).drew t k l' :=
 ⟨set_there (set_there h.out (by omega)) (by omega),set_there (set_there h.str (by omega)) (by omega),set_there (set_here h.pos) (by omega),
  set_here (set_there h.rd (by omega)),Below.drew (((h.draws n).bel.setCell (by show B<=B+1+1;omega) _).setCell (by show B<=B+1+1+1;omega) _)⟩
theorem RdMid.next {B:Nat} {w wr:World} {t:ByteArray} {k:Nat} {l:Int} (h:RdMid B w wr t k l):RdInv B w (wr.setCell ⟨B+1+1+1,1,none⟩ (.int .i64 ((k:Int)+1))) t (k+1) l :=
 ⟨set_there h.out (by omega),set_there h.str (by omega),set_there h.pos (by omega),set_here h.rd,h.bel.setCell (by show B<=B+1+1+1;omega) _⟩
def rdVal (f:Nat->Int) (k:Nat):Value :=
 if k=0 then .tuple #[.agg #[.int .u64 0,.int .i64 0,.int .u8 0],.int .i64 10] else .tuple #[.agg #[.int .u64 (Leb.low64 (Leb.val f k)),.int .i64 k,.int .u8 (f (k-1))],.int .i64 0]
theorem rdVal_none {f:Nat->Int} {k:Nat} (h:k=0):rdVal f k=.tuple #[.agg #[.int .u64 0,.int .i64 0,.int .u8 0],.int .i64 10]:=by unfold rdVal;rw [if_pos h]
theorem rdVal_some {f:Nat->Int} {k n:Nat} (h:k=n+1) (hf:0<=f n/\f n<128):rdVal f k=.tuple #[.agg #[.int .u64 (Leb.low64 (Leb.val f (n+1))),.int .i64 ((n:Int)+1),.int .u8 (f n%128)],.int .i64 0]:=by
 subst h
 unfold rdVal
 rw [if_neg (by omega),Nat.add_sub_cancel,show f n%128=f n by omega]
 rfl
theorem heap_alloc_of {w:World} {o x:Obj} {b:Nat} (h:w.heap[b]?=some x):(w.alloc o).heap[b]?=some x:=by
 rw [Below.heap_alloc _ _ _ (lt_of_block h)];exact h
theorem heap_alloc_new' (w:World) (o:Obj) {b:Nat} (h:b=w.heap.size):(w.alloc o).heap[b]?=some o:=by
 subst h
 show (w.heap.push o)[w.heap.size]?=_
 simp
theorem RdInv.start (w:World) (t:ByteArray) :
  RdInv w.heap.size w ((((w.alloc (.cells #[.int .u64 0,.int .i64 0,.int .u8 0] 101)).alloc (.cells #[.string t] 9)).alloc (.cells #[.int .i64 0] 3)).alloc (.cells #[.int .u64 0,.int .i64 0,.int .u8 0] 101)) t 0 (Leb.low64 (Leb.val (Leb.bt t) 0)) :=
 ⟨heap_alloc_of (heap_alloc_of (heap_alloc_of (heap_alloc_new' _ _ rfl))),heap_alloc_of (heap_alloc_of (heap_alloc_new' _ _ (by simp))),heap_alloc_of (heap_alloc_new' _ _ (by simp)),heap_alloc_new' _ _ (by simp),
  ((((Below.refl _ _).alloc (Nat.le_refl _) _).alloc (by simp) _).alloc (by simp;omega) _).alloc (by simp;omega) _⟩
theorem RdInv.lower {B:Nat} {w wr wr':World} {t:ByteArray} {k:Nat} {l l':Int} (h:RdInv B w wr t k l) (h':RdInv B w wr' t (k+1) l') (hk:k<10) :
  10-(RowKit.intOf ((wr'.cell? ⟨B+1+1,0,none⟩).getD (.int .i64 0))).toNat<10-(RowKit.intOf ((wr.cell? ⟨B+1+1,0,none⟩).getD (.int .i64 0))).toNat:=by
 rw [cell_of h.pos,cell_of h'.pos]
 simp [RowKit.intOf]
 omega
theorem bel_set {B b j:Nat} {w wr:World} {u:Value} (h:Below B w wr) (hb:B<=b):Below B w (wr.setCell ⟨b,j,none⟩ u):=h.setCell hb u
theorem ret_val {a b:Value} (h:b=a):Ending.returned a=.returned b:=by rw [h]
end Go.Proofs.YtgbbmdknbflilaaDoor

namespace Go.Proofs.YtgbbmdknbflilaaDoor
open Go.RowKit
set_option maxHeartbeats 2000000 in
theorem c21 (s t:ByteArray) (a:Nat) (bits:Int) (w:World) (hs:s.size<=140737488351232) (ha:a<=s.size) (hb:bits=32\/bits=64) (ht:s.extract a s.size=t) :
  Calls Tryd.prog 53 #[.string s,.int .i64 a,.int .i64 bits] w fun e w' =>
   e=.returned (rdVal (Leb.bt t) (Leb.grp (Leb.bt t) t.size (Leb.most bits)))/\Below w.heap.size w w':=by
 have hway:((bits != 32)=false)\/((bits != 32)=true/\(bits != 64)=false):=by
  simp only [bne_iff_ne,bne_eq_false_iff_eq]
  omega
 have ha0:decide ((a:Int)<0)=false:=decide_eq_false (by omega)
 have ha1:decide ((s.size:Int)<(a:Int))=false:=decide_eq_false (by omega)
 have ha2:decide (s.size<a)=false:=decide_eq_false (by omega)
 have hM10:Leb.most bits<=10:=by rcases hb with rfl|rfl<;>decide
 have HB:=lhide hb
 have htz:t.size<=140737488351232:=by rw [<- ht];simp [ByteArray.size_extract];omega
 clear hb
 rcases hway with h1|⟨h1,h2⟩
 all_goals
  go_enter Tryd.func53,Tryd.ntmps53
  go_wp2_with fail
  refine (c25 _ _).mono ?_
  rintro e w1 ⟨rfl,rfl⟩
  go_wp2
  clear ht
  go_loopw [10] (fun _ wr=>∃k:Nat,k<=Leb.most bits/\k<=t.size/\RdInv w.heap.size w wr t k (Leb.low64 (Leb.val (Leb.bt t) k))/\Leb.grp (Leb.bt t) t.size (Leb.most bits)=Leb.grpF (Leb.bt t) t.size (Leb.most bits-k) k) (fun _ wr=>10-(RowKit.intOf ((wr.cell? ⟨w.heap.size+1+1,0,none⟩).getD (.int .i64 0))).toNat)
  case atStart=>exact ⟨0,Nat.zero_le _,Nat.zero_le _,RdInv.start w t,rfl⟩
  case round =>
   obtain ⟨k,hk1,hk2,hinv,hgrp⟩:=hrel
   have HI:=lhide hinv
   have HG:=lhide hgrp
   have hcnt:wr.cell? ⟨w.heap.size+1+1+1,1,none⟩=some (.int .i64 k):=cell_of hinv.rd
   have hcs:wr.cell? ⟨w.heap.size+1,0,none⟩=some (.string t):=cell_of hinv.str
   have hcp:wr.cell? ⟨w.heap.size+1+1,0,none⟩=some (.int .i64 k):=cell_of hinv.pos
   have hfp:wr.frozen? ⟨w.heap.size+1+1,0,none⟩=false:=free_of hinv.pos
   have hco0:wr.cell? ⟨w.heap.size,0,none⟩=some (.int .u64 0):=cell_of hinv.out
   have hco1:wr.cell? ⟨w.heap.size,1,none⟩=some (.int .i64 0):=cell_of hinv.out
   have hco2:wr.cell? ⟨w.heap.size,2,none⟩=some (.int .u8 0):=cell_of hinv.out
   have hfo0:wr.frozen? ⟨w.heap.size,0,none⟩=false:=free_of hinv.out
   have hfo1:wr.frozen? ⟨w.heap.size,1,none⟩=false:=free_of hinv.out
   have hfo2:wr.frozen? ⟨w.heap.size,2,none⟩=false:=free_of hinv.out
   clear hinv hgrp
   by_cases hkM:k<Leb.most bits
   ·by_cases hkt:k<t.size
    ·have hbd:=Leb.bt_bd t k
     have hv9:=Leb.val_9 (Leb.bt t) k (by omega)
     have hst:=step_low (Leb.bt t) k (by omega)
     have hlow:wr.cell? ⟨w.heap.size+1+1+1,0,none⟩=some (.int .u64 (Leb.val (Leb.bt t) k)):=by
      rw [<- Leb.low64_in hv9.1 (by omega)];exact cell_of (lunhide HI).rd
     have hfr0:wr.frozen? ⟨w.heap.size+1+1+1,0,none⟩=false:=free_of (lunhide HI).rd
     by_cases hl:Leb.bt t k<128
     ·have HF:=lhide (rdVal_some ((lunhide HG).trans (Leb.grpF_last _ _ _ _ (by omega) hkt hl)) ⟨hbd.1,hl⟩)
      clear hco0 hco1 hco2 hfo0 hfo1 hfo2 HG
      go_wp2_with fail
      go_quiet ((go_at_call 63;exact Calls.quiet_of_same (c26 _ _ (lunhide HB))))
      go_wp2_with fail
      refine (c27_on _ _ k t true _ (by omega) (by exact hcs) (by exact hcp) (by exact hfp) hkt (decide_eq_true hl)).mono ?_
      rintro e w2 ⟨rfl,rfl⟩
      go_wp2_with fail
      go_region
      generalize hW2:World.drew (World.setCell _ _ _)=W2
      have hmid:RdMid w.heap.size w W2 t k (Leb.low64 (Leb.val (Leb.bt t) (k+1))):=by rw [<- hW2,<- hst];exact (lunhide HI).mid _ _
      clear hW2 hlow hcnt hcs hcp hfp hfr0 HI hst
      have hcnt:W2.cell? ⟨w.heap.size+1+1+1,1,none⟩=some (.int .i64 k):=cell_of hmid.rd
      have hcn0:W2.cell? ⟨w.heap.size+1+1+1,0,none⟩=some (.int .u64 (Leb.low64 (Leb.val (Leb.bt t) (k+1)))):=cell_of hmid.rd
      have hcn2:W2.cell? ⟨w.heap.size+1+1+1,2,none⟩=some (.int .u8 0):=cell_of hmid.rd
      have hfr1:W2.frozen? ⟨w.heap.size+1+1+1,1,none⟩=false:=free_of hmid.rd
      have hfr2:W2.frozen? ⟨w.heap.size+1+1+1,2,none⟩=false:=free_of hmid.rd
      have hfo0:W2.frozen? ⟨w.heap.size,0,none⟩=false:=free_of hmid.out
      have hfo1:W2.frozen? ⟨w.heap.size,1,none⟩=false:=free_of hmid.out
      have hfo2:W2.frozen? ⟨w.heap.size,2,none⟩=false:=free_of hmid.out
      have hco0:W2.cell? ⟨w.heap.size,0,none⟩=some (.int .u64 0):=cell_of hmid.out
      have hco1:W2.cell? ⟨w.heap.size,1,none⟩=some (.int .i64 0):=cell_of hmid.out
      have hco2:W2.cell? ⟨w.heap.size,2,none⟩=some (.int .u8 0):=cell_of hmid.out
      have HM:=lhide hmid
      clear hmid
      go_wp2
      exact bodyPost_ret (v:=.tuple #[.agg #[.int .u64 (Leb.low64 (Leb.val (Leb.bt t) (k+1))),.int .i64 ((k:Int)+1),.int .u8 (Leb.bt t k%128)],.int .i64 0]) (by simp [results,Tryd.results53,go_sem, *]) rfl
       ⟨ret_val (lunhide HF),bel_set (bel_set (bel_set (bel_set (bel_set (lunhide HM).bel (by omega)) (by omega)) (Nat.le_refl _)) (Nat.le_refl _)) (Nat.le_refl _)⟩
     ·have HF:Hid (Leb.grp (Leb.bt t) t.size (Leb.most bits)=Leb.grpF (Leb.bt t) t.size (Leb.most bits-(k+1)) (k+1)):=(lunhide HG).trans (Leb.grpF_on _ _ _ _ (by omega) hkt hl)
      clear hco0 hco1 hco2 hfo0 hfo1 hfo2 HG
      go_wp2_with fail
      go_quiet ((go_at_call 63;exact Calls.quiet_of_same (c26 _ _ (lunhide HB))))
      go_wp2_with fail
      refine (c27_on _ _ k t false _ (by omega) (by exact hcs) (by exact hcp) (by exact hfp) hkt (decide_eq_false (by omega))).mono ?_
      rintro e w2 ⟨rfl,rfl⟩
      go_wp2_with fail
      go_region
      generalize hW2:World.drew (World.setCell _ _ _)=W2
      have hmid:RdMid w.heap.size w W2 t k (Leb.low64 (Leb.val (Leb.bt t) (k+1))):=by rw [<- hW2,<- hst];exact (lunhide HI).mid _ _
      clear hW2 hlow hcnt hcs hcp hfp hfr0 hst
      have hcnt:W2.cell? ⟨w.heap.size+1+1+1,1,none⟩=some (.int .i64 k):=cell_of hmid.rd
      have hfr1:W2.frozen? ⟨w.heap.size+1+1+1,1,none⟩=false:=free_of hmid.rd
      have HM:=lhide hmid
      clear hmid
      go_wp2
      go_roundw
      case rel=>exact ⟨k+1,by omega,by omega,(lunhide HM).next,lunhide HF⟩
      case measure=>exact (lunhide HI).lower (lunhide HM).next (by omega)
    ·have hkt':k=t.size:=by omega
     subst hkt'
     have HF:=lhide (rdVal_none (f:=Leb.bt t) ((lunhide HG).trans (Leb.grpF_past _ _ _ _ (by omega))))
     have HM:=lhide ((lunhide HI).bel)
     clear HG
     go_wp2_with fail
     go_quiet ((go_at_call 63;exact Calls.quiet_of_same (c26 _ _ (lunhide HB))))
     go_wp2_with fail
     refine (c27_end _ _ t _ (by exact hcs) (by exact hcp)).mono ?_
     rintro e w2 ⟨rfl,rfl⟩
     go_wp2
     exact bodyPost_ret (v:=.tuple #[.agg #[.int .u64 0,.int .i64 0,.int .u8 0],.int .i64 10]) (by simp [results,Tryd.results53,go_sem, *]) rfl
      ⟨ret_val (lunhide HF),bel_set (bel_set (bel_set (below_drewN (lunhide HM) _) (Nat.le_refl _)) (Nat.le_refl _)) (Nat.le_refl _)⟩
   ·have HF:=lhide (rdVal_none (f:=Leb.bt t) ((lunhide HG).trans (by rw [show Leb.most bits-k=0 by omega];rfl)))
    have HM:=lhide ((lunhide HI).bel)
    clear HG
    go_wp2_with fail
    go_quiet ((go_at_call 63;exact Calls.quiet_of_same (c26 _ _ (lunhide HB))))
    go_wp2
    exact bodyPost_ret (v:=.tuple #[.agg #[.int .u64 0,.int .i64 0,.int .u8 0],.int .i64 10]) (by simp [results,Tryd.results53,go_sem, *]) rfl
     ⟨ret_val (lunhide HF),bel_set (bel_set (bel_set (below_drewN (lunhide HM) _) (Nat.le_refl _)) (Nat.le_refl _)) (Nat.le_refl _)⟩
end Go.Proofs.YtgbbmdknbflilaaDoor

