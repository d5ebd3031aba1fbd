/- Texts that the claim needs. -/
import Derived.Test.YtgbbmdknbflilaaDoorQDcu4
import Derived.Test.YtgbbmdknbflilaaDoorQDcu0
import Derived.Deep.RegionWith
namespace Go.Proofs.YtgbbmdknbflilaaDoor
open Go.RowKit
theorem rdVal_pos {f:Nat->Int} {k:Nat} (h:k≠0):rdVal f k=.tuple #[.agg #[.int .u64 (Leb.low64 (Leb.val f k)),.int .i64 k,.int .u8 (f (k-1))],.int .i64 0]:=by unfold rdVal;rw [if_neg h]
theorem bt_from (s:ByteArray) (a:Nat) (ha:a<=s.size):Leb.bt (s.extract a s.size)=Leb.from_ s a:=funext fun i=>bt_extract s a i ha
theorem c21' (s:ByteArray) (a:Nat) (bits:Int) (w:World) (hs:s.size<=140737488351232) (ha:a<=s.size) (hb:bits=32\/bits=64) :
  Calls Tryd.prog 53 #[.string s,.int .i64 a,.int .i64 bits] w fun e w' =>
   e=.returned (rdVal (Leb.from_ s a) (Leb.grp (Leb.from_ s a) (s.size-a) (Leb.most bits)))/\Below w.heap.size w w':=by
 have h:=c21 s _ a bits w hs ha hb rfl
 rw [bt_from s a ha,show (s.extract a s.size).size=s.size-a by simp [ByteArray.size_extract]] at h
 exact h
set_option maxHeartbeats 1000000 in
theorem c14 (s:ByteArray) (a bits:Int) (w:World) (hs:s.size<=140737488351232) :
  Calls Tryd.prog 40 #[.string s,.int .i64 a,.int .i64 bits] w fun e w' =>
   e=.returned (.tuple #[.int .u64 (Leb.uRead s a bits).1,.int .i64 (Leb.uRead s a bits).2.1,.int .i64 (Leb.uRead s a bits).2.2])/\Below w.heap.size w w':=by
 by_cases hask:Leb.asks s.size a bits=true
 ·have hq:=Leb.asks_yes hask
  obtain ⟨hbits,ha0,ha1⟩:=hq
  obtain ⟨a,rfl⟩:=Int.eq_ofNat_of_zero_le ha0
  have hread:Leb.uRead s a bits=Leb.uFin (Leb.from_ s a) (Leb.grp (Leb.from_ s a) (s.size-a) (Leb.most bits)) a bits:=by unfold Leb.uRead;rw [if_pos hask,Int.toNat_natCast];rfl
  rw [hread]
  have ha:a<=s.size:=by omega
  have hks:=Leb.grp_some (Leb.from_ s a) (s.size-a) (Leb.most bits)
  have hc:=c21' s a bits w hs ha hbits
  clear hread ha0 ha1 hask
  generalize Leb.grp (Leb.from_ s a) (s.size-a) (Leb.most bits)=k at *
  by_cases hk0:k=0
  ·have hfin:Leb.uFin (Leb.from_ s a) k a bits=(0,0,10):=by unfold Leb.uFin;rw [if_pos (.inl hk0)]
   rw [hfin]
   rw [rdVal_none hk0] at hc
   have hC:=lhide hc
   clear hc hfin hks hk0
   go_enter Tryd.func40,Tryd.ntmps40
   go_wp2_with fail
   refine (lunhide hC).mono ?_
   rintro e w1 ⟨rfl,hbel⟩
   go_wp2
   go_ret3
   exact ⟨rfl,hbel.alloc hbel.size _⟩
  ·rw [rdVal_pos hk0] at hc
   have hC:=lhide hc
   obtain ⟨k1,k2,k3,k4,k5⟩:=hks hk0
   have hbd:=Leb.from_bd s a (k-1)
   have hsum:(a:Int)+k<=s.size:=by omega
   have hk10:k<=10:=by rcases hbits with rfl|rfl<;>exact Nat.le_trans k2 (by decide)
   generalize hR:Leb.uFin (Leb.from_ s a) k a bits=R
   have hl:=Leb.low64_bd (Leb.val (Leb.from_ s a) k)
   have hR0:(bits=32/\4294967295<Leb.low64 (Leb.val (Leb.from_ s a) k))\/(bits=64/\k=10/\1<Leb.from_ s a (k-1))->R=(0,0,10):=by
    intro h
    rw [<- hR]
    unfold Leb.uFin
    rcases h with ⟨rfl,h⟩|⟨rfl,rfl,h⟩
    ·have hm:k<=5:=k2
     have hv:=Leb.val_9 (Leb.from_ s a) k (by omega)
     rw [Leb.low64_in hv.1 (by omega)] at h
     rw [if_pos (.inr (.inl ⟨rfl,h⟩))]
    ·rw [if_pos (.inr (.inr ⟨rfl,h⟩))]
   have hR1:¬ ((bits=32/\4294967295<Leb.low64 (Leb.val (Leb.from_ s a) k))\/(k=10/\1<Leb.from_ s a (k-1)))->R=(Leb.low64 (Leb.val (Leb.from_ s a) k),(a:Int)+(k:Int),0):=by
    intro h
    rw [<- hR]
    unfold Leb.uFin
    have hv:Leb.low64 (Leb.val (Leb.from_ s a) k)=Leb.val (Leb.from_ s a) k:=by
     by_cases h10:k=10
     ·subst h10
      have h9:¬ 1<Leb.from_ s a 9:=fun h'=>h (.inr ⟨rfl,h'⟩)
      have hv9:=Leb.val_nine (Leb.from_ s a) hbd.1 (by omega)
      exact Leb.low64_in (Leb.val_bd _ _).1 hv9
     ·have hv:=Leb.val_9 (Leb.from_ s a) k (by omega)
      exact Leb.low64_in hv.1 (by omega)
    rw [hv] at h ⊢
    rw [if_neg]
    rintro (h'|⟨h1,h2⟩|⟨rfl,h2⟩)
    ·exact hk0 h'
    ·exact h (.inl ⟨h1,h2⟩)
    ·exact h (.inr ⟨rfl,h2⟩)
   generalize Leb.low64 (Leb.val (Leb.from_ s a) k)=l at *
   generalize Leb.from_ s a (k-1)=d at *
   have hk32:bits=32->k<=5:=by rintro rfl;exact k2
   have hway:(bits=32/\4294967295<l/\Hid (R=(0,0,10)))\/(bits=32/\l<=4294967295/\((k:Int) == 10)=false/\Hid (R=(l,(a:Int)+(k:Int),0))) \/
     (bits=64/\((k:Int) == 10)=false/\Hid (R=(l,(a:Int)+(k:Int),0)))\/(bits=64/\k=10/\1<d/\Hid (R=(0,0,10)))\/(bits=64/\k=10/\d<=1/\Hid (R=(l,(a:Int)+(k:Int),0))):=by
    simp only [beq_eq_false_iff_ne]
    rcases hbits with rfl|rfl
    ·have:=hk32 rfl
     by_cases h:4294967295<l
     ·exact .inl ⟨rfl,h,hR0 (by omega)⟩
     ·exact .inr (.inl ⟨rfl,by omega,by omega,hR1 (by omega)⟩)
    ·by_cases h:k=10
     ·by_cases h':1<d
      ·exact .inr (.inr (.inr (.inl ⟨rfl,h,h',hR0 (by omega)⟩)))
      ·exact .inr (.inr (.inr (.inr ⟨rfl,h,by omega,hR1 (by omega)⟩)))
     ·exact .inr (.inr (.inl ⟨rfl,by omega,hR1 (by omega)⟩))
   clear hk32 hR0 hR1 hks hc hbits hR k2 k5
   rcases hway with ⟨rfl,h1,HR⟩|⟨rfl,h1,h2,HR⟩|⟨rfl,h1,HR⟩|⟨rfl,rfl,h1,HR⟩|⟨rfl,rfl,h1,HR⟩
   all_goals
    go_enter Tryd.func40,Tryd.ntmps40
    go_wp2_with fail
    refine (lunhide hC).mono ?_
    rintro e w1 ⟨rfl,hbel⟩
    go_wp2
    try (go_quiet (fail);go_wp2)
    go_ret3
    exact ⟨lthree_ret (by rw [lunhide HR]<;>rfl),by first|exact hbel.alloc hbel.size _|exact below_drewN (hbel.alloc hbel.size _) _⟩
 ·have hask':Leb.asks s.size a bits=false:=by simpa using hask
  have hread:Leb.uRead s a bits=(0,0,1):=by unfold Leb.uRead;rw [hask'];rfl
  rw [hread]
  clear hread hask
  go_enter Tryd.func40,Tryd.ntmps40
  go_wp2_with fail
  refine (c21_arg _ _ _ _ hask').mono ?_
  rintro e w1 ⟨rfl,hbel⟩
  go_wp2
  go_ret3
  exact ⟨rfl,hbel.alloc hbel.size _⟩
end Go.Proofs.YtgbbmdknbflilaaDoor

namespace Go.Proofs.YtgbbmdknbflilaaDoor
open Go.RowKit
theorem s64_is (n:Int):wrap64 n=Leb.s64 n:=by unfold wrap64 Leb.s64;rfl
theorem step_sign (l:Int) (k:Nat) (hk:k<=9) (h0:0<=l) (h1:l<128 ^ k):wrap64 (bits .or .u64 l (IntKind.u64.wrap (18446744073709551615*2 ^ (7*k))))=l-128 ^ k:=by
 have hkk:k=0\/k=1\/k=2\/k=3\/k=4\/k=5\/k=6\/k=7\/k=8\/k=9:=by omega
 rw [IntKind.wrap_u64,s64_is]
 unfold Leb.s64
 rcases hkk with rfl|rfl|rfl|rfl|rfl|rfl|rfl|rfl|rfl|rfl
 all_goals
  simp only [Int.reducePow,Nat.reduceMul,Int.reduceMul,Int.reduceMod] at h1 ⊢
 ·rw [Leb.or_u64' 0 _ _ (by omega) (by omega) (by simp only [Int.reducePow];omega) (by omega) (by simp only [Int.reducePow];omega) (by omega)];omega
 ·rw [Leb.or_u64' 7 _ _ (by omega) (by omega) (by simp only [Int.reducePow];omega) (by omega) (by simp only [Int.reducePow];omega) (by omega)];omega
 ·rw [Leb.or_u64' 14 _ _ (by omega) (by omega) (by simp only [Int.reducePow];omega) (by omega) (by simp only [Int.reducePow];omega) (by omega)];omega
 ·rw [Leb.or_u64' 21 _ _ (by omega) (by omega) (by simp only [Int.reducePow];omega) (by omega) (by simp only [Int.reducePow];omega) (by omega)];omega
 ·rw [Leb.or_u64' 28 _ _ (by omega) (by omega) (by simp only [Int.reducePow];omega) (by omega) (by simp only [Int.reducePow];omega) (by omega)];omega
 ·rw [Leb.or_u64' 35 _ _ (by omega) (by omega) (by simp only [Int.reducePow];omega) (by omega) (by simp only [Int.reducePow];omega) (by omega)];omega
 ·rw [Leb.or_u64' 42 _ _ (by omega) (by omega) (by simp only [Int.reducePow];omega) (by omega) (by simp only [Int.reducePow];omega) (by omega)];omega
 ·rw [Leb.or_u64' 49 _ _ (by omega) (by omega) (by simp only [Int.reducePow];omega) (by omega) (by simp only [Int.reducePow];omega) (by omega)];omega
 ·rw [Leb.or_u64' 56 _ _ (by omega) (by omega) (by simp only [Int.reducePow];omega) (by omega) (by simp only [Int.reducePow];omega) (by omega)];omega
 ·rw [Leb.or_u64' 63 _ _ (by omega) (by omega) (by simp only [Int.reducePow];omega) (by omega) (by simp only [Int.reducePow];omega) (by omega)];omega
def sgn (l d:Int) (k:Nat):Int:=if 64<=d/\k<10 then l-128 ^ k else Leb.s64 l
theorem sgn_bd (l d:Int) (k:Nat) (h0:0<=l) (h1:k<10->l<128 ^ k):-9223372036854775808<=sgn l d k/\sgn l d k<=9223372036854775807:=by
 unfold sgn
 split
 ·rename_i h
  have h2:=Leb.pow_mono128 (show k<=9 by omega)
  have e:(128:Int) ^ 9=9223372036854775808:=by decide
  have h3:=Leb.pow_pos128 k
  have h4:=h1 h.2
  omega
 ·exact Leb.s64_bd l
theorem sgn_sval (f:Nat->Int) (k:Nat) (hk:0<k) (hd:0<=f (k-1)/\f (k-1)<128) (h:k<=9\/(k=10/\(f 9=0\/f 9=127))):sgn (Leb.low64 (Leb.val f k)) (f (k-1)) k=Leb.sval f k:=by
 have hv:=Leb.val_bd f k
 have hm:f (k-1)%128=f (k-1):=by omega
 unfold sgn Leb.sval
 rw [hm]
 rcases h with h|⟨rfl,h⟩
 ·have h9:=Leb.val_9 f k h
  rw [Leb.low64_in h9.1 (by omega)]
  by_cases hs:64<=f (k-1)
  ·rw [if_pos ⟨hs,by omega⟩,if_pos hs];omega
  ·rw [if_neg (by omega),if_neg hs,Leb.s64_in (by omega) (by omega)];omega
 ·have h9:=Leb.val_9 f 9 (by omega)
  have e:Leb.val f 10=Leb.val f 9+9223372036854775808*(f 9%128):=rfl
  have e2:(128:Int) ^ 10=1180591620717411303424:=by decide
  rw [if_neg (by omega),e,e2]
  show Leb.s64 (Leb.low64 _)=_+_*(if 64<=f 9 then -1 else 0)
  unfold Leb.s64 Leb.low64
  rcases h with h|h<;>rw [h]<;>simp<;>omega
set_option maxHeartbeats 1000000 in
theorem c24 (l d:Int) (k:Nat) (w:World) (h0:0<=l) (_h1:l<=18446744073709551615) (hd0:0<=d) (hd1:d<128) (hk:k<=10) (hkl:k<10->l<128 ^ k) :
  Calls Tryd.prog 76 #[.agg #[.int .u64 l,.int .i64 k,.int .u8 d]] w fun e w'=>e=.returned (.int .i64 (sgn l d k))/\Below w.heap.size w w':=by
 have h6:=Leb.and64_u8 d hd0 (by omega)
 have H1:=lhide hkl
 clear hkl
 have hway:(64<=d/\decide ((k:Int)<10)=false/\Hid (sgn l d k=wrap64 l))\/(d<64/\Hid (sgn l d k=wrap64 l))\/(64<=d/\k<10/\Hid (sgn l d k=wrap64 (bits .or .u64 l (IntKind.u64.wrap (18446744073709551615*2 ^ (7*k)))))):=by
  by_cases h:64<=d
  ·by_cases h':k<10
   ·exact .inr (.inr ⟨h,h',by unfold Hid sgn;rw [if_pos ⟨h,h'⟩,step_sign l k (by omega) h0 (lunhide H1 h')]⟩)
   ·exact .inl ⟨h,decide_eq_false (by omega),by unfold Hid sgn;rw [if_neg (by omega),s64_is]⟩
  ·exact .inr (.inl ⟨by omega,by unfold Hid sgn;rw [if_neg (by omega),s64_is]⟩)
 clear H1
 generalize sgn l d k=r at *
 rcases hway with ⟨h2,h3,HR⟩|⟨h2,HR⟩|⟨h2,h3,HR⟩
 ·rw [if_pos (by omega)] at h6
  go_enter Tryd.func76,Tryd.ntmps76
  go_wp2
  go_ret
  exact ⟨lret_int (lunhide HR).symm,(Below.refl _ _).alloc (Nat.le_refl _) _⟩
 ·rw [if_neg (by omega)] at h6
  go_enter Tryd.func76,Tryd.ntmps76
  go_wp2
  go_ret
  exact ⟨lret_int (lunhide HR).symm,(Below.refl _ _).alloc (Nat.le_refl _) _⟩
 ·rw [if_pos (by omega)] at h6
  go_enter Tryd.func76,Tryd.ntmps76
  go_wp2
  go_ret
  exact ⟨lret_int (lunhide HR).symm,(Below.refl _ _).alloc (Nat.le_refl _) _⟩
set_option maxHeartbeats 1000000 in
theorem c16 (s:ByteArray) (a bits:Int) (w:World) (hs:s.size<=140737488351232) :
  Calls Tryd.prog 72 #[.string s,.int .i64 a,.int .i64 bits] w fun e w' =>
   e=.returned (.tuple #[.int .i64 (Leb.sRead s a bits).1,.int .i64 (Leb.sRead s a bits).2.1,.int .i64 (Leb.sRead s a bits).2.2])/\Below w.heap.size w w':=by
 by_cases hask:Leb.asks s.size a bits=true
 ·have hq:=Leb.asks_yes hask
  obtain ⟨hbits,ha0,ha1⟩:=hq
  obtain ⟨a,rfl⟩:=Int.eq_ofNat_of_zero_le ha0
  have hread:Leb.sRead s a bits=Leb.sFin (Leb.from_ s a) (Leb.grp (Leb.from_ s a) (s.size-a) (Leb.most bits)) a bits:=by unfold Leb.sRead;rw [if_pos hask,Int.toNat_natCast];rfl
  rw [hread]
  have ha:a<=s.size:=by omega
  have hks:=Leb.grp_some (Leb.from_ s a) (s.size-a) (Leb.most bits)
  have hc:=c21' s a bits w hs ha hbits
  clear hread ha0 ha1 hask
  generalize Leb.grp (Leb.from_ s a) (s.size-a) (Leb.most bits)=k at *
  by_cases hk0:k=0
  ·have hfin:Leb.sFin (Leb.from_ s a) k a bits=(0,0,10):=by unfold Leb.sFin;rw [if_pos (.inl hk0)]
   rw [hfin]
   rw [rdVal_none hk0] at hc
   have hC:=lhide hc
   clear hc hfin hks hk0
   go_enter Tryd.func72,Tryd.ntmps72
   go_wp2_with fail
   refine (lunhide hC).mono ?_
   rintro e w1 ⟨rfl,hbel⟩
   go_wp2
   go_ret3
   exact ⟨rfl,hbel.alloc hbel.size _⟩
  ·rw [rdVal_pos hk0] at hc
   have hC:=lhide hc
   obtain ⟨k1,k2,k3,k4,k5⟩:=hks hk0
   have hbd:=Leb.from_bd s a (k-1)
   have hsum:(a:Int)+k<=s.size:=by omega
   have hk10:k<=10:=by rcases hbits with rfl|rfl<;>exact Nat.le_trans k2 (by decide)
   generalize hR:Leb.sFin (Leb.from_ s a) k a bits=R
   have hl:=Leb.low64_bd (Leb.val (Leb.from_ s a) k)
   have hlk:k<10->Leb.low64 (Leb.val (Leb.from_ s a) k)<128 ^ k:=by
    intro h
    have h9:=Leb.val_9 (Leb.from_ s a) k (by omega)
    rw [Leb.low64_in h9.1 (by omega)]
    exact (Leb.val_bd _ _).2
   have hsv:=sgn_sval (Leb.from_ s a) k k1 ⟨hbd.1,k4⟩
   have hR0:(bits=32/\(sgn (Leb.low64 (Leb.val (Leb.from_ s a) k)) (Leb.from_ s a (k-1)) k < -2147483648\/2147483647<sgn (Leb.low64 (Leb.val (Leb.from_ s a) k)) (Leb.from_ s a (k-1)) k))\/(k=10/\Leb.from_ s a (k-1)≠0/\Leb.from_ s a (k-1)≠127)->R=(0,0,10):=by
    intro h
    rw [<- hR]
    unfold Leb.sFin
    rcases h with ⟨rfl,h⟩|⟨rfl,h⟩
    ·have hm:k<=5:=k2
     rw [hsv (.inl (by omega))] at h
     rw [if_pos (.inr (.inl ⟨rfl,h⟩))]
    ·rw [if_pos (.inr (.inr ⟨rfl,h⟩))]
   have hR1:¬ ((bits=32/\(sgn (Leb.low64 (Leb.val (Leb.from_ s a) k)) (Leb.from_ s a (k-1)) k < -2147483648\/2147483647<sgn (Leb.low64 (Leb.val (Leb.from_ s a) k)) (Leb.from_ s a (k-1)) k))\/(k=10/\Leb.from_ s a (k-1)≠0/\Leb.from_ s a (k-1)≠127))->R=(sgn (Leb.low64 (Leb.val (Leb.from_ s a) k)) (Leb.from_ s a (k-1)) k,(a:Int)+(k:Int),0):=by
    intro h
    rw [<- hR]
    unfold Leb.sFin
    have hok:k<=9\/(k=10/\(Leb.from_ s a 9=0\/Leb.from_ s a 9=127)):=by
     by_cases h10:k=10
     ·subst h10
      by_cases h':Leb.from_ s a 9=0
      ·exact .inr ⟨rfl,.inl h'⟩
      ·by_cases h'':Leb.from_ s a 9=127
       ·exact .inr ⟨rfl,.inr h''⟩
       ·exact absurd (.inr ⟨rfl,h',h''⟩) h
     ·exact .inl (by omega)
    rw [hsv hok] at h ⊢
    rw [if_neg]
    rintro (h'|h'|⟨rfl,h2⟩)
    ·exact hk0 h'
    ·exact h (.inl h')
    ·exact h (.inr ⟨rfl,h2⟩)
   have hc24:=fun w=>c24 (Leb.low64 (Leb.val (Leb.from_ s a) k)) (Leb.from_ s a (k-1)) k w hl.1 hl.2 hbd.1 k4 hk10 hlk
   have hnb:=sgn_bd (Leb.low64 (Leb.val (Leb.from_ s a) k)) (Leb.from_ s a (k-1)) k hl.1 hlk
   clear hsv hlk
   generalize sgn (Leb.low64 (Leb.val (Leb.from_ s a) k)) (Leb.from_ s a (k-1)) k=n at *
   generalize Leb.low64 (Leb.val (Leb.from_ s a) k)=l at *
   generalize Leb.from_ s a (k-1)=d at *
   have HC:=lhide hc24
   have hk32:bits=32->k<=5:=by rintro rfl;exact k2
   have hway:(bits=32/\n < -2147483648/\Hid (R=(0,0,10)))\/(bits=32/\-2147483648<=n/\2147483647<n/\Hid (R=(0,0,10)))\/(bits=32/\-2147483648<=n/\n<=2147483647/\((k:Int) == 10)=false/\Hid (R=(n,(a:Int)+(k:Int),0))) \/
     (bits=64/\((k:Int) == 10)=false/\Hid (R=(n,(a:Int)+(k:Int),0)))\/(bits=64/\k=10/\(d != 0)=true/\(d != 127)=true/\Hid (R=(0,0,10))) \/
     (bits=64/\k=10/\(d != 0)=false/\Hid (R=(n,(a:Int)+(k:Int),0)))\/(bits=64/\k=10/\(d != 0)=true/\(d != 127)=false/\Hid (R=(n,(a:Int)+(k:Int),0))):=by
    simp only [beq_eq_false_iff_ne,bne_iff_ne,bne_eq_false_iff_eq]
    rcases hbits with rfl|rfl
    ·have:=hk32 rfl
     by_cases h:n < -2147483648
     ·exact .inl ⟨rfl,h,hR0 (by omega)⟩
     ·by_cases h':2147483647<n
      ·exact .inr (.inl ⟨rfl,by omega,h',hR0 (by omega)⟩)
      ·exact .inr (.inr (.inl ⟨rfl,by omega,by omega,by omega,hR1 (by omega)⟩))
    ·by_cases h:k=10
     ·by_cases h':d=0
      ·exact .inr (.inr (.inr (.inr (.inr (.inl ⟨rfl,h,h',hR1 (by omega)⟩)))))
      ·by_cases h'':d=127
       ·exact .inr (.inr (.inr (.inr (.inr (.inr ⟨rfl,h,h',h'',hR1 (by omega)⟩)))))
       ·exact .inr (.inr (.inr (.inr (.inl ⟨rfl,h,h',h'',hR0 (by omega)⟩))))
     ·exact .inr (.inr (.inr (.inl ⟨rfl,by omega,hR1 (by omega)⟩)))
   clear hk32 hR0 hR1 hks hc hbits hR k2 k5 hc24
   rcases hway with ⟨rfl,h1,HR⟩|⟨rfl,h1,h2,HR⟩|⟨rfl,h1,h2,h3,HR⟩|⟨rfl,h1,HR⟩|⟨rfl,rfl,h1,h2,HR⟩|⟨rfl,rfl,h1,HR⟩|⟨rfl,rfl,h1,h2,HR⟩
   all_goals
    go_enter Tryd.func72,Tryd.ntmps72
    go_wp2_with fail
    refine (lunhide hC).mono ?_
    rintro e w1 ⟨rfl,hbel⟩
    go_wp2_with fail
    refine (lunhide HC _).mono ?_
    rintro e w2 ⟨rfl,hbel2⟩
    have hcc:=fun j=>hbel2.cell (p:=⟨w1.heap.size,j,none⟩) (by simp)
    have hbf:Below w.heap.size w w2:=(hbel.alloc hbel.size _).trans (hbel2.mono (by have:=hbel.size;simp;omega))
    go_wp2
    try (go_quiet (fail);go_wp2)
    go_ret3
    exact ⟨lthree_ret (by rw [lunhide HR]<;>rfl),by first|exact hbf|exact below_drewN hbf _⟩
 ·have hask':Leb.asks s.size a bits=false:=by simpa using hask
  have hread:Leb.sRead s a bits=(0,0,1):=by unfold Leb.sRead;rw [hask'];rfl
  rw [hread]
  clear hread hask
  go_enter Tryd.func72,Tryd.ntmps72
  go_wp2_with fail
  refine (c21_arg _ _ _ _ hask').mono ?_
  rintro e w1 ⟨rfl,hbel⟩
  go_wp2
  go_ret3
  exact ⟨rfl,hbel.alloc hbel.size _⟩
end Go.Proofs.YtgbbmdknbflilaaDoor

namespace Go.Proofs.YtgbbmdknbflilaaDoor
open Go.RowKit Rep
set_option linter.unusedVariables false
structure FormC (I:World->Prop):Prop where
 keep:∀ {w w':World},Below w.heap.size w w'->I w->I w'
 form:∀(op:Int) (w:World),I w->Calls Tryd.prog 58 #[.int .i64 op] w fun e w'=>e=.returned (.int .i64 (form op))/\Below w.heap.size w w'
end Go.Proofs.YtgbbmdknbflilaaDoor

