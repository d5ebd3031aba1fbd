/- Texts that the claim needs. -/
import Derived.Test.YtgbbmdknbflilaaDoorQDcu27
import Derived.Test.YtgbbmdknbflilaaDoorQDcu25
import Derived.Test.YtgbbmdknbflilaaDoorQDcu4
import Derived.Laws.OwnMore
import Derived.Test.YtgbbmdknbflilaaDoorQDcu11
import Derived.Test.YtgbbmdknbflilaaDoorRows
import Derived.Lib.LaidIn
import Derived.Lib.LaidU8T
import Derived.ProofKit
namespace Go.Proofs.YtgbbmdknbflilaaDoor
open Go.RowKit Rep Dec
set_option linter.unusedVariables false
namespace Dec
def toI (l:List Nat):List Int:=l.map fun (n:Nat)=>(n:Int)
theorem toI_mem {k:Nat} {l:List Nat}:(k:Int) ∈ toI l↔k ∈ l:=by
 unfold toI
 rw [List.mem_map]
 constructor
 ·rintro ⟨a,h,e⟩
  have:a=k:=by omega
  rw [<- this];exact h
 ·exact fun h=>⟨k,h,rfl⟩
theorem ends_no {s:ByteArray} {f i:Nat} (h:s.size<=i):endsF s f i = []:=by
 cases f with
 | zero=>rfl
 | succ f=>show (if i<s.size then _ else _)=_;rw [if_neg (by omega)]
theorem ends_bad {s:ByteArray} {f i:Nat} {N J E:Int} (hN:N=(Leb.uRead s ((i:Int)+1) 32).1) (hJ:J=(Leb.uRead s ((i:Int)+1) 32).2.1) (hE:E=(Leb.uRead s ((i:Int)+1) 32).2.2) (h:¬ (E=0/\N<=(s.size:Int)-J)):endsF s f i = []:=by
 cases f with
 | zero=>rfl
 | succ f =>
  show (if i<s.size then _ else _)=_
  split
  ·rw [<- hN,<- hJ,<- hE,if_neg h]
  ·rfl
theorem ends_on {s:ByteArray} {f i:Nat} {N J E:Int} {m:Nat} (hi:i<s.size) (hN:N=(Leb.uRead s ((i:Int)+1) 32).1) (hJ:J=(Leb.uRead s ((i:Int)+1) 32).2.1) (hE:E=(Leb.uRead s ((i:Int)+1) 32).2.2) (h:E=0/\N<=(s.size:Int)-J) (hm:(m:Int)=J+N):endsF s (f+1) i=m :: endsF s f m:=by
 show (if i<s.size then _ else _)=_
 rw [if_pos hi,<- hN,<- hJ,<- hE,if_pos h,show (J+N).toNat=m by omega]
theorem tmod_rg (a n:Int) (h:1<=n):0<=(a.tmod n+n).tmod n/\(a.tmod n+n).tmod n<n:=by
 have h1:-n<a.tmod n:=by
  have:=Int.tmod_add_mul_tdiv a n
  by_cases ha:0<=a
  ·have:=Int.tmod_nonneg n ha;omega
  ·have h2:(-a).tmod n<n:=Int.tmod_lt_of_pos _ (by omega)
   rw [Int.neg_tmod] at h2
   omega
 have h2:0<=(a.tmod n+n).tmod n:=Int.tmod_nonneg n (by omega)
 exact ⟨h2,Int.tmod_lt_of_pos _ (by omega)⟩
end Dec
set_option maxRecDepth 100000 in
set_option maxHeartbeats 4000000 in
theorem dMod (a n:Int) (w:World) (h1:1<=n) (h2:n<=20000):Calls Tryd.prog 6 #[.int .i64 a,.int .i64 n] w fun e w'=>(∃r:Nat,e=.returned (.int .i64 r)/\(r:Int)<n)/\w'=w:=by
 have d1:decide (n<(1:Int))=false:=decide_eq_false (by omega)
 have n0:(n == 0)=false:=by rw [beq_eq_false_iff_ne];omega
 have n1:(n == -1)=false:=by rw [beq_eq_false_iff_ne];omega
 have hz:n≠0:=by omega
 have hr:=tmod_rg a n h1
 have hq:-n<a.tmod n/\a.tmod n<n:=by
  have hx:a.tmod n<n:=Int.tmod_lt_of_pos _ (by omega)
  refine ⟨?_,hx⟩
  by_cases ha:0<=a
  ·have:=Int.tmod_nonneg n ha;omega
  ·have h2:(-a).tmod n<n:=Int.tmod_lt_of_pos _ (by omega)
   rw [Int.neg_tmod] at h2
   omega
 have hr9:0<=(a.tmod n+n)%n/\(a.tmod n+n)%n<n:=⟨Int.emod_nonneg _ hz,Int.emod_lt_of_pos _ (by omega)⟩
 obtain ⟨r,hr2⟩:∃r:Nat,(r:Int)=(a.tmod n+n)%n:=⟨((a.tmod n+n)%n).toNat,by omega⟩
 go_enter Tryd.func6,Tryd.ntmps6
 go_wp2
 go_ret
 exact ⟨⟨r,by rw [hr2];rfl,by omega⟩,rfl⟩
set_option maxRecDepth 100000 in
set_option maxHeartbeats 8000000 in
theorem dEnds (s:ByteArray) (w:World) (hs8:8<=s.size) (hs:s.size<=20000) :
  Calls Tryd.prog 7 #[.string s] w fun e w'=>(∃v,e=.returned v/\vInts w.heap.size (toI (8 :: endsF s (s.size+1) 8)) v w')/\Below w.heap.size w w':=by
 obtain ⟨T,hT⟩:∃T,T=toI (8 :: endsF s (s.size+1) 8):=⟨_,rfl⟩
 rw [<- hT]
 have HT:Hid (T = [8]++toI (endsF s (s.size+1) 8)):=hideR (by rw [hT];rfl)
 clear hT
 go_enter Tryd.func7,Tryd.ntmps7
 go_wp2_with fail
 go_loopw [3,4] (fun t u wr=>∃(l:List Int) (iq f:Nat),(∃o c,t=.slice o l.length c)/\u=.int .i64 iq/\iq<=s.size/\s.size-iq<f/\l.length<=iq/\Hid (T=l++toI (endsF s f iq))/\Hid (wr.ownsRow w.heap.size 3 1 t l.length (l.map fun z=>Value.int .i64 z))/\Hid (Below w.heap.size w wr)) (fun _ u _=>s.size-(RowKit.intOf u).toNat)
 case atStart=>exact ⟨[8],8,s.size+1,⟨_,1,rfl⟩,rfl,hs8,by omega,by simp,HT,hideR (World.ownsRow_lit w #[.int .i64 8] 1 (Nat.le_refl _) (by unfold maxLen;omega) rfl),hideR (new_on' w _)⟩
 case round =>
  obtain ⟨l,iq,f,⟨oT,cT,rfl⟩,rfl,hi,hf,hll,HP,HO,HB⟩:=hrel
  by_cases hgo:iq<s.size
  ·obtain ⟨f',rfl⟩:∃f',f=f'+1:=⟨f-1,by omega⟩
   have dl:decide ((iq:Int)<(s.size:Int))=true:=decide_eq_true (by omega)
   have hU:=fun u=>c15 s ((iq:Int)+1) 32 u (by omega)
   obtain ⟨N,hN⟩:∃N,N=(Leb.uRead s ((iq:Int)+1) 32).1:=⟨_,rfl⟩
   obtain ⟨J,hJ⟩:∃J,J=(Leb.uRead s ((iq:Int)+1) 32).2.1:=⟨_,rfl⟩
   obtain ⟨E,hE⟩:∃E,E=(Leb.uRead s ((iq:Int)+1) 32).2.2:=⟨_,rfl⟩
   have hok:E=0->(iq:Int)+1<J/\J<=s.size/\0<=N/\N<=4294967295:=fun h0=>by
    have:=uRead_at32 s (iq+1) (by rw [show (((iq+1:Nat):Int))=(iq:Int)+1 by omega,<- hE];exact h0)
    rw [show (((iq+1:Nat):Int))=(iq:Int)+1 by omega,<- hN,<- hJ] at this
    exact this
   have HNB:=hideR (fun f=>ends_bad (f:=f) hN hJ hE)
   have HON:=hideR (fun (f m:Nat)=>ends_on (f:=f) (m:=m) hgo hN hJ hE)
   rw [<- hN,<- hJ,<- hE] at hU
   have HU:=fun u=>hideR (hU u)
   clear hU hN hJ hE
   by_cases h0:E=0
   ·obtain ⟨b1,b2,b3,b4⟩:=hok h0
    obtain ⟨j,rfl⟩:∃j:Nat,J=(j:Int):=⟨J.toNat,by omega⟩
    obtain ⟨nn,rfl⟩:∃nn:Nat,N=(nn:Int):=⟨N.toNat,by omega⟩
    have e0:(E != 0)=false:=by simp [h0]
    by_cases hc:(nn:Int)<=(s.size:Int)-j
    ·have dc:decide ((nn:Int) > (s.size:Int)-(j:Int))=false:=decide_eq_false (by omega)
     obtain ⟨m,hm⟩:∃m:Nat,m=j+nn:=⟨_,rfl⟩
     have hmz:Hid ((j:Int)+(nn:Int)=(m:Int)):=hideR (by omega)
     have HZ:Hid (T=(l++[(m:Int)])++toI (endsF s f' m)):=hideR (by rw [HP.out,HON.out f' m ⟨h0,hc⟩ (by omega)];unfold toI;simp)
     have hmb:m<=s.size/\iq+1<m:=by omega
     clear HNB HON hok HP h0 hm
     generalize hnl:l.length=nl at *
     have HBm:=hideR hmb
     go_wp2_with fail
     refine (HU _).out.mono ?_
     rintro e u ⟨rfl,hu⟩
     obtain rfl:=hu.symm
     go_upto_region 8 with fail
     rw [hmz.out]
     have HO2:=hideR (HO.out.alloc (.cells #[.int .i64 (m:Int)] 3))
     have HN2:=hideR (new_at wr (.int .i64 (m:Int)) 3)
     have HB2:=hideR (below_go' HB.out (new_on' wr (.cells #[.int .i64 (m:Int)] 3)))
     have HSZ:Hid (w.heap.size<=wr.heap.size):=hideR HB.out.size
     obtain ⟨i0,hi0,hz0,hz1,hz2⟩:=info_parts intInfo
     go_wp2_with (first|(at_builtin;refine wpList_appS rfl _ _ 29 rfl w.heap.size 3 i0 _ 1 8 Tryd.underlying29 hi0 hz0 hz1 hz2 rfl (by decide) _ _ _ rfl HO2.out (some ⟨wr.heap.size,0,none⟩) 1 1 [.int .i64 (m:Int)] rfl ?c6 ?c0 ?c1 ?c2 ?c3 ?c4 ?c5 ?_))
     case c6=>intro h;cases h
     case c0=>rfl
     case c1=>exact fun ad h=>by injection h with h;subst h;exact HN2.out
     case c2=>exact fun u hu=>by rw [List.mem_singleton.1 hu];rfl
     case c3=>unfold maxLen;omega
     case c4=>omega
     case c5=>have:=HSZ.out;simp;omega
     intro v9 w9 hown9 hg9 _
     have ho9:∀q',(Value.slice oT nl cT).ownBlock=some q'->w.heap.size<=q':=fun q' hq'=>(HO2.out.lt q' hq').1
     have HB9:=hideR (HB2.out.grown hg9 HB2.out.size ho9)
     have HO9:Hid (w9.ownsRow w.heap.size 3 1 v9 (nl+1) ((l++[(m:Int)]).map fun z=>Value.int .i64 z)):=hideR (by rw [List.map_append];exact hown9)
     have HLN:Hid ((l++[(m:Int)]).length=nl+1):=hideR (by rw [List.length_append,hnl];rfl)
     have hsl:=own_slice hown9
     clear hown9 hg9 ho9 HO2 HN2 HB2 HSZ
     obtain ⟨oN,cN,rfl⟩:=hsl
     go_wp2
     go_roundw
     case rel=>exact ⟨l++[(m:Int)],m,f',⟨oN,cN,by rw [HLN.out]⟩,rfl,HBm.out.1,by have:=HBm.out;omega,by rw [HLN.out];have:=HBm.out;omega,HZ,by rw [HLN.out];exact HO9,HB9⟩
     case measure=>have:=HBm.out;simp [RowKit.intOf];omega
    ·have dc:decide ((nn:Int) > (s.size:Int)-(j:Int))=true:=decide_eq_true (by omega)
     have HZ:Hid (T=l):=hideR (by rw [HP.out,HNB.out _ (fun h=>hc h.2)];exact List.append_nil _)
     have HV:Hid (vInts w.heap.size l (.slice oT l.length cT) wr):=hideR (ints_own (l:=l) HO.out (by omega))
     clear HNB HON hok HP h0 HO hc
     generalize l.length=nl at *
     go_wp2_with fail
     refine (HU _).out.mono ?_
     rintro e u ⟨rfl,rfl⟩
     go_wp2
     go_ret
     rw [HZ.out]
     exact ⟨⟨_,rfl,HV.out⟩,HB.out⟩
   ·have e0:(E != 0)=true:=by simp [h0]
    have HZ:Hid (T=l):=hideR (by rw [HP.out,HNB.out _ (fun h=>h0 h.1)];exact List.append_nil _)
    have HV:Hid (vInts w.heap.size l (.slice oT l.length cT) wr):=hideR (ints_own (l:=l) HO.out (by omega))
    clear HNB HON hok HP h0 HO
    generalize l.length=nl at *
    go_wp2_with fail
    refine (HU _).out.mono ?_
    rintro e u ⟨rfl,rfl⟩
    go_wp2
    go_ret
    rw [HZ.out]
    exact ⟨⟨_,rfl,HV.out⟩,HB.out⟩
  ·have dl:decide ((iq:Int)<(s.size:Int))=false:=decide_eq_false (by omega)
   have HZ:Hid (T=l):=hideR (by rw [HP.out,ends_no (by omega)];exact List.append_nil _)
   have HV:Hid (vInts w.heap.size l (.slice oT l.length cT) wr):=hideR (ints_own (l:=l) HO.out (by omega))
   clear HP HO
   generalize l.length=nl at *
   go_wp2
   go_ret
   rw [HZ.out]
   exact ⟨⟨_,rfl,HV.out⟩,HB.out⟩
end Go.Proofs.YtgbbmdknbflilaaDoor

namespace Go.Proofs.YtgbbmdknbflilaaDoor
open Go.RowKit Rep Dec
set_option linter.unusedVariables false
namespace Dec
theorem rdec_8 {s:ByteArray} {x:Sg × Nat} (h:rdec s=.ok x):8<=s.size:=by
 unfold rdec at h
 split at h
 ·cases h
 split at h
 ·cases h
 ·rename_i h1 h2
  have h2:pfx s=true:=by simpa using h2
  unfold pfx at h2
  rw [Bool.and_eq_true] at h2
  exact of_decide_eq_true h2.1
theorem take_mem (L:List Int) (k:Int) (q:Nat) (x:Int) (h:L[q]?=some x):decide (k ∈ L.take (q+1))=(decide (k ∈ L.take q) || (x == k)):=by
 have e:L.take (q+1)=L.take q++[x]:=by rw [List.take_add_one,h];rfl
 rw [e]
 by_cases h1:k ∈ L.take q
 ·simp [h1]
 ·by_cases h2:x=k
  ·subst h2;simp
  ·have:¬ k=x:=fun h=>h2 h.symm
   simp [h1,h2,this]
end Dec
set_option maxRecDepth 100000 in
set_option maxHeartbeats 16000000 in
theorem cutC (s:ByteArray) (a:Int) (w:World) (hI:UtfI w) :
  Calls Tryd.prog 3 #[.string s,.int .i64 a] w fun e w'=>e=.returned (.bool true)/\Below w.heap.size w w':=by
 have HI:=hideR hI
 by_cases hl:20000<s.size
 ·have dl:decide ((s.size:Int) > 20000)=true:=decide_eq_true (by omega)
  clear hI
  go_enter Tryd.func3,Tryd.ntmps3
  go_wp2_with fail
  refine (dWakes _ HI.out).mono ?_
  rintro e u3 ⟨rfl,hb3⟩
  have HB3:=hideR hb3
  clear hb3
  go_wp2
  go_ret
  exact ⟨rfl,HB3.out⟩
 have dl:decide ((s.size:Int) > 20000)=false:=decide_eq_false (by omega)
 have hD:=dDecodeM s w (by omega) hI
 unfold DSays at hD
 clear hI
 cases hx:rdec s with
 | error z =>
  have hz:=nz_rdec s z hx
  rw [hx] at hD
  have HD:=hideR hD
  have b1:(z != 0)=true:=by simp [hz]
  clear hx hD hl hz
  go_enter Tryd.func3,Tryd.ntmps3
  go_wp2_with fail
  refine HD.out.mono ?_
  rintro e u1 ⟨hb1,rfl⟩
  have HB1:=fun x=>hideR (below_go' hb1 (new_on' u1 x))
  clear hb1 HD
  go_wp2_with fail
  refine (dWakes _ (utfI_go HI.out (HB1 _).out)).mono ?_
  rintro e u3 ⟨rfl,hb3⟩
  have HB3:=hideR (below_go' (HB1 _).out hb3)
  clear hb3
  go_wp2
  go_ret
  exact ⟨rfl,HB3.out⟩
 | ok v =>
  obtain ⟨st,j⟩:=v
  have hs8:=rdec_8 hx
  have HCUT:=hideR (fun k hk=>rdec_cut s k hk (by omega) (st,j) hx)
  rw [hx] at hD
  have HD:=hideR hD
  have d8:decide ((s.size:Int)<8)=false:=decide_eq_false (by omega)
  have hss:s.size<=20000:=by omega
  clear hx hD hl
  go_enter Tryd.func3,Tryd.ntmps3
  go_wp2_with fail
  refine HD.out.mono ?_
  rintro e u1 ⟨hb1,p,c,k,n,hM,he⟩
  have hf:=(MM_form p st c k n u1 hM).2
  obtain ⟨o0,n0,k0,e0⟩:=hf 0 (by omega)
  obtain ⟨o1,n1,k1,e1⟩:=hf 1 (by omega)
  obtain ⟨o2,n2,k2,e2⟩:=hf 2 (by omega)
  obtain ⟨o3,n3,k3,e3⟩:=hf 3 (by omega)
  obtain ⟨o4,n4,k4,e4⟩:=hf 4 (by omega)
  obtain ⟨o5,n5,k5,e5⟩:=hf 5 (by omega)
  obtain ⟨o6,n6,k6,e6⟩:=hf 6 (by omega)
  obtain ⟨o7,n7,k7,e7⟩:=hf 7 (by omega)
  obtain ⟨o8,n8,k8,e8⟩:=hf 8 (by omega)
  obtain ⟨o9,n9,k9,e9⟩:=hf 9 (by omega)
  rw [e0,e1,e2,e3,e4,e5,e6,e7,e8,e9] at he
  subst he
  have HB1:=fun x=>hideR (below_go' hb1 (new_on' u1 x))
  clear hb1 HD hM hf e0 e1 e2 e3 e4 e5 e6 e7 e8 e9
  go_upto_region 4 with fail
  obtain ⟨u2,hu2⟩:∃u2,u2=u1.alloc (.cells #[.slice o0 n0 k0,.slice o1 n1 k1,.slice o2 n2 k2,.slice o3 n3 k3,.slice o4 n4 k4,.slice o5 n5 k5,.slice o6 n6 k6,.slice o7 n7 k7,.slice o8 n8 k8,.slice o9 n9 k9] 33):=⟨_,rfl⟩
  have HB2:=HB1 (.cells #[.slice o0 n0 k0,.slice o1 n1 k1,.slice o2 n2 k2,.slice o3 n3 k3,.slice o4 n4 k4,.slice o5 n5 k5,.slice o6 n6 k6,.slice o7 n7 k7,.slice o8 n8 k8,.slice o9 n9 k9] 33)
  rw [<- hu2] at HB2 ⊢
  clear hu2 HB1
  go_wp2_with fail
  refine (dMod a s.size u2 (by omega) (by omega)).mono ?_
  rintro e w3 ⟨⟨r,rfl,hr⟩,rfl⟩
  have hrs:r<s.size:=by omega
  have HE:=hideR (dEnds s w3 hs8 hss)
  clear hr
  go_wp2_with fail
  refine HE.out.mono ?_
  rintro e u4 ⟨⟨v,rfl,hV⟩,hb4⟩
  have HB4:=hideR (below_go' HB2.out hb4)
  obtain ⟨L,hL⟩:∃L,L=toI (8 :: endsF s (s.size+1) 8):=⟨_,rfl⟩
  rw [<- hL] at hV
  unfold vInts IntsS at hV
  have hlen:L.length<=9223372036854775807:=hV.1
  have HCELL:Hid (∀(b:Nat) (off cap:Nat),v=.slice (some ⟨b,off,none⟩) L.length cap->∀(i:Nat) (x:Int),L[i]?=some x->u4.cell? ⟨b,off+i*1,none⟩=some (.int .i64 x)):=hideR (fun b off cap hv i x hx=>by
   rcases hV.2 with ⟨h0,_⟩|⟨b',off',cap',h1,h2⟩
   ·rw [h0] at hx;simp at hx
   ·rw [hv] at h1
    injection h1 with h1 h3 h4
    injection h1 with h1
    injection h1 with h1 h5 h6
    subst h1;subst h5
    exact (h2 i x hx).2)
  have hp:0<L.length:=by rw [hL];simp [toI]
  obtain ⟨b,off,cap,hvs,_⟩:=Row.some hV hp
  have HC2:=hideR (HCELL.out b off cap hvs)
  have HMEM:Hid ((r:Int) ∈ L↔r ∈ 8 :: endsF s (s.size+1) 8):=hideR (by rw [hL];exact toI_mem)
  subst hvs
  clear hV hb4 HE HB2 HCELL hL
  generalize hnl:L.length=nl at *
  go_wp2_with fail
  go_loopw [8,10] (fun t u wr=>∃q:Nat,q<=nl/\u=.int .i64 q/\t=.bool (decide ((r:Int) ∈ L.take q))/\wr=u4) (fun _ u _=>nl-(RowKit.intOf u).toNat)
  case atStart=>exact ⟨0,by omega,rfl,by simp,rfl⟩
  case round =>
   obtain ⟨q,hq,rfl,rfl,rfl⟩:=hrel
   by_cases hgo:q<nl
   ·obtain ⟨x,hx⟩:∃x,L[q]?=some x:=⟨L[q]'(by omega),List.getElem?_eq_getElem (by omega)⟩
    have hc:=HC2.out q x hx
    rw [Nat.mul_one] at hc
    have HT:=hideR (take_mem L r q x hx)
    have dq:decide ((q:Int)<(nl:Int))=true:=decide_eq_true (by omega)
    clear hx
    cases hb:decide ((r:Int) ∈ L.take q) with
    | true =>
     rw [hb] at HT
     go_wp2
     go_roundw
     case rel=>exact ⟨q+1,by omega,by go_num,by rw [HT.out];rfl,by first|rfl|trivial⟩
     case measure=>simp [RowKit.intOf];omega
    | false =>
     rw [hb] at HT
     obtain ⟨B,hB⟩:∃B,B=(x == (r:Int)):=⟨_,rfl⟩
     rw [<- hB] at HT
     cases B with
     | true =>
      have hB2:(x == (r:Int))=true:=hB.symm
      clear hB
      go_wp2
      go_roundw
      case rel=>exact ⟨q+1,by omega,by go_num,by rw [HT.out];rfl,by first|rfl|trivial⟩
      case measure=>simp [RowKit.intOf];omega
     | false =>
      have hB2:(x == (r:Int))=false:=hB.symm
      clear hB
      go_wp2
      go_roundw
      case rel=>exact ⟨q+1,by omega,by go_num,by rw [HT.out];rfl,by first|rfl|trivial⟩
      case measure=>simp [RowKit.intOf];omega
   ·obtain rfl:q=nl:=by omega
    have dq:decide ((q:Int)<(q:Int))=false:=decide_eq_false (by omega)
    have hr2:((r:Int).toNat)=r:=by omega
    have hr3:(0:Int)<=r/\(r:Int)<=s.size:=by omega
    have hD2:=dDecodeM (s.extract 0 r) wr (by rw [ByteArray.size_extract];omega) (utfI_go HI.out HB4.out)
    unfold DSays at hD2
    have hall:L.take q=L:=List.take_of_length_le (by omega)
    rw [hall]
    rcases HCUT.out r hrs with hc|⟨hmem,y,hc⟩
    ·rw [hc] at hD2
     have HD2:=hideR hD2
     generalize decide ((r:Int) ∈ L)=bb
     clear hc hD2 HC2 hall
     go_wp2_with fail
     refine HD2.out.mono ?_
     rintro e u5 ⟨hb5,rfl⟩
     have HB5:=fun x=>hideR (below_go' (below_go' HB4.out hb5) (new_on' u5 x))
     clear hb5 HD2
     go_wp2_with fail
     refine (dWakes _ (utfI_go HI.out (HB5 _).out)).mono ?_
     rintro e u6 ⟨rfl,hb6⟩
     have HB6:=hideR (below_go' (HB5 _).out hb6)
     clear hb6
     go_wp2
     go_ret
     exact ⟨rfl,HB6.out⟩
    ·obtain ⟨st2,j2⟩:=y
     rw [hc] at hD2
     have HD2:=hideR hD2
     rw [decide_eq_true (HMEM.out.2 hmem)]
     clear hc hD2 HC2 hall hmem
     go_wp2_with fail
     refine HD2.out.mono ?_
     rintro e u5 ⟨hb5,p,c,k,n,hM,he⟩
     have hf:=(MM_form p st2 c k n u5 hM).2
     obtain ⟨o0,n0,k0,e0⟩:=hf 0 (by omega)
     obtain ⟨o1,n1,k1,e1⟩:=hf 1 (by omega)
     obtain ⟨o2,n2,k2,e2⟩:=hf 2 (by omega)
     obtain ⟨o3,n3,k3,e3⟩:=hf 3 (by omega)
     obtain ⟨o4,n4,k4,e4⟩:=hf 4 (by omega)
     obtain ⟨o5,n5,k5,e5⟩:=hf 5 (by omega)
     obtain ⟨o6,n6,k6,e6⟩:=hf 6 (by omega)
     obtain ⟨o7,n7,k7,e7⟩:=hf 7 (by omega)
     obtain ⟨o8,n8,k8,e8⟩:=hf 8 (by omega)
     obtain ⟨o9,n9,k9,e9⟩:=hf 9 (by omega)
     rw [e0,e1,e2,e3,e4,e5,e6,e7,e8,e9] at he
     subst he
     have HB5:=fun x=>hideR (below_go' (below_go' HB4.out hb5) (new_on' u5 x))
     clear hb5 HD2 hM hf e0 e1 e2 e3 e4 e5 e6 e7 e8 e9
     go_wp2_with fail
     refine (dWakes _ (utfI_go HI.out (HB5 _).out)).mono ?_
     rintro e u6 ⟨rfl,hb6⟩
     have HB6:=hideR (below_go' (HB5 _).out hb6)
     clear hb6
     go_wp2
     go_ret
     exact ⟨rfl,HB6.out⟩
end Go.Proofs.YtgbbmdknbflilaaDoor

namespace Go.Proofs.YtgbbmdknbflilaaDoor
open Go.RowKit Go.Shelf Go.Lib Rep
theorem own:ownKnob Tryd.prog.godebug=none:=by kernel_rfl
theorem acceptIs:(Rows.laid_unicode_utf8_acceptRanges:DataW Unit)=Lib.acceptData:=by kernel_rfl
theorem firstIs:Rows.laid_unicode_utf8_first=Lib.firstData:=by kernel_rfl
theorem tabsOf {W : World} (hL : laidMetH Tryd.prog [("unicode/utf8.acceptRanges", Rows.laid_unicode_utf8_acceptRanges), ("unicode/utf8.first", Rows.laid_unicode_utf8_first)] W) : UtfI W := by
 rw [acceptIs,firstIs] at hL
 have hM : laidMet Tryd.prog [("unicode/utf8.acceptRanges", Lib.acceptData), ("unicode/utf8.first", Lib.firstData)] W := hL
 exact utf8Tabs_of_readsT (U8Types.of196 Tryd.laysValid) ⟨by kernel_rfl,by kernel_rfl,by kernel_rfl,by kernel_rfl,by kernel_rfl,by kernel_rfl,by kernel_rfl⟩ (Lib.laidMet.reads hM (.tail _ (.head _))) (Lib.laidMet.reads hM (.head _))
noncomputable def laidWorld (os:Os):World :=
 let w0:=World.holding Tryd.prog os ⟨#[],#[],[]⟩
 let put (h:Array Obj) (g:Nat) (cs:Array Value):Array Obj:=h.modify g fun
  | .cells _ t frozen=>.cells cs t frozen
  | o=>o
 let h1:=put w0.heap 0 (Lib.firstTab.map fun z=>Value.int .u8 z).toArray
 let h2:=put h1 1 ((List.range 16).flatMap fun i=>[Value.int .u8 (Lib.accLo i),Value.int .u8 (Lib.accHi i)]).toArray
 { w0 with heap:=h2 }
theorem laid_met (os : Os) (args : Array Value) : laidMet Tryd.prog [("unicode/utf8.acceptRanges", Rows.laid_unicode_utf8_acceptRanges), ("unicode/utf8.first", Rows.laid_unicode_utf8_first)] ((laidWorld os).forCall (fun _ _ => 0) ⟨#[], args, []⟩).memory := by
 rw [acceptIs,firstIs]
 exact (LaidIn.of_run (l := [("unicode/utf8.acceptRanges", Lib.acceptData), ("unicode/utf8.first", Lib.firstData)]) [1, 0] 8 (by kernel_rfl) (by kernel_rfl) (by kernel_rfl) (by kernel_rfl)).met
end Go.Proofs.YtgbbmdknbflilaaDoor

