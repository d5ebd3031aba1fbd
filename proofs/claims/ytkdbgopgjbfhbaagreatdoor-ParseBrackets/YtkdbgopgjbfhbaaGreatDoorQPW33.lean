/- Texts that the claim needs. -/
import Derived.Test.YtkdbgopgjbfhbaaGreatDoorQPW32
import Derived.Test.YtkdbgopgjbfhbaaGreatDoorQPW30
import Derived.Shelf.Lay
import Derived.Shelf.Strings.Count
import Derived.Shelf.Strings.Search3
import Derived.Shelf.Strings.Builder1
import Derived.Shelf.Strings.Builder2
import Derived.Shelf.Strconv.Itoa3
import Derived.Lib.AppendIntMem
import Derived.Test.YtkdbgopgjbfhbaaGreatDoorQPW2
import Derived.Test.YtkdbgopgjbfhbaaGreatDoorQPW3
import Derived.Lib.SmallJoins
import Derived.Test.YtkdbgopgjbfhbaaGreatDoorRows
import Derived.WalkKit
import Derived.WalkSpells
import Derived.WalkSmall
import Derived.BigQuiet
import Derived.Deep.QuietTactic
import Derived.Test.YtkdbgopgjbfhbaaGreatDoorQPW29
namespace Go.Proofs.YtkdbgopgjbfhbaaGreatDoor
open Go.RowKit Lx
set_option linter.unusedVariables false
set_option maxRecDepth 100000
set_option maxHeartbeats 8000000
theorem Y9 (s:ByteArray) (hi:0<s.size) (h63:s.size<4611686018427387904) (hz:s.size<=281474976710656) (w:World) (fT:WL w) (hsm:sm (bt s 0)=false) (hcp:cp (bt s 0)=false) (mN:bt s 0≠39) (qb:bt s 0≠126) (mO:dg (bt s 0)=false):Calls Tryz.prog 57 #[.string s] w fun e w'=>e=.returned (gM 0 (one s 0))/\Below w.heap.size w w':=by
 have hx:=fun (w:World)=>ky s hi w (P:=Tryz.prog) 9 Tryz.underlying9;have hc0:=wS s 0;have iR:=fun (u:World)=>ae (gZ (bt s 0) u);have iW:=fun (u:World)=>ae (wW (bt s 0) u);have kY:=fun (u:World)=>ae (zw (bt s 0) u);have hcv:IntKind.i32.wrap (bt s 0)=bt s 0:=by rw [IntKind.wrap_i32];omega
 have uV:wrap32 (bt s 0)=bt s 0:=by unfold wrap32;omega
 have wQ:=uU w;have aeu:(bt s 0 == 126)=false:=beq_eq_false_iff_ne.2 qb;have q39:(bt s 0 == 39)=false:=beq_eq_false_iff_ne.2 mN;simp only [mO] at iR;simp only [hsm] at iW;simp only [hcp] at kY;have hone:=Za s hi hsm hcp mN qb mO;obtain ⟨R,hR⟩:∃R,R=fst s signs:=⟨_,rfl⟩;rw [<- hR] at hone;have st0:Hid (fst s (signs.drop 0)=R):=ae hR.symm;obtain ⟨KS,tV⟩:∃KS:List Value,KS=signs.map Value.string:=⟨_,rfl⟩;have FP:Hid (∀k y,signs[k]?=some y->KS[k]?=some (Value.string y)):=ae (fun k y h=>by rw [tV,List.getElem?_map,h];rfl);have wJ:KS.length=14:=by rw [tV,List.length_map,JW]
 have qc:Hid ((Tryz.prog.info? 135).map (·.size)=some KS.length):=ae (by rw [wJ];exact Zb);have Dv:Hid ((wA w).rangeAt 2 0 KS):=ae (by rw [tV];exact (fT.on (wP w)).signs);have tX:Hid ((w.alloc (.cells #[.int .i64 0,.string ⟨#[]⟩,.int .i64 0,.int .i64 0] 47)).rangeAt 2 0 KS):=Dv;have FQ:=fun (y:ByteArray) (u:World)=>ae (Zc s y u);rw [hone];have Dw:Hid (R≠0->gM 0 (if R=0 then .error 110 else .ok (6,s.extract 0 R,0,R))=.tuple #[.agg #[.int .i64 6,.string (s.extract 0 R),.int .i64 0,.int .i64 0],.int .i64 (R:Nat),.int .i64 0]):=ae fun h=>by rw [if_neg h];rfl
 have Dx:Hid (R=0->gM 0 (if R=0 then .error 110 else .ok (6,s.extract 0 R,0,R))=.tuple #[.agg #[.int .i64 0,.string ⟨#[]⟩,.int .i64 0,.int .i64 0],.int .i64 0,.int .i64 110]):=ae fun h=>by rw [if_pos h];rfl
 generalize gM 0 (if R=0 then .error 110 else .ok (6,s.extract 0 R,0,R))=OUT at Dw Dx ⊢;clear tV wJ fT hR hone mN qb hc0;generalize bt s 0=c at *;go_enter Tryz.func57,Tryz.ntmps57;go_wp2_with fail
 go_step3
 go_wp2_with fail
 go_step3
 go_wp2_with fail;refine Calls.mono (show Calls _ _ _ _ _ from (iR _).out) ?_;rintro e u ⟨rfl,rfl⟩;go_wp2_with fail;refine Calls.mono (show Calls _ _ _ _ _ from (iW _).out) ?_;rintro e u ⟨rfl,rfl⟩;go_wp2_with fail;refine Calls.mono (show Calls _ _ _ _ _ from (kY _).out) ?_;rintro e u ⟨rfl,rfl⟩;go_wp2_with (refine wpList_load_mid rfl 135 (.global 2) rfl 2 0 rfl KS _ tX.out Tryz.underlying135 rfl qc.out ?_)
 go_loop [5,7,17] (fun k0 l0 a=>k0=.int .i64 0/\l0=.int .i64 0/\∃k:Nat,a=.int .i64 k/\k<=14/\Hid (fst s (signs.drop k)=R)) (fun _ _ a=>match a with | .int _ k=>14-k.toNat|_=>0)
 case atStart=>exact ⟨rfl,rfl,0,rfl,by omega,st0⟩
 case round =>
  obtain ⟨rfl,rfl,k,rfl,hk,hRk⟩:=hrel;clear st0;by_cases hp:k<14
  ·obtain ⟨q3,hw1⟩:=aI k hp;obtain ⟨y,hy⟩:∃y,signs[k]?=some y:=⟨_,List.getElem?_eq_getElem (by rw [JW];exact hp)⟩;have hidx:=fun (u:World)=>Zd KS k y (FP.out k y hy) hp u;have hs:=Ze s signs k y hy;rw [hRk.out] at hs;have hys:=Zf y (List.mem_of_getElem? hy);have HP:=fun (u:World)=>FQ y u;cases h:pfx s y with
   | true =>
    rw [h,if_pos rfl] at hs;have Qm:=Zg h;simp only [h] at HP;obtain ⟨Be,hyR,q1,JX,hRs,aev⟩:=aH R y.size s.size hs hys Qm;have HO:=ae (Dw.out Be);clear Dw Dx FQ Be;have q8:=fun (u:World)=>ae (FR (s.extract 0 R) u (Nat.le_trans (FU s 0 R) hz));obtain ⟨x,hx1⟩:∃x,x=s.extract 0 R:=⟨_,rfl⟩;have hsl:s.extract 0 R=x:=hx1.symm;simp only [<- hx1] at q8 HO;clear hs hy h hRk hys Qm hx1;go_wp2_with fail;refine Calls.mono (show Calls _ _ _ _ _ from (HP _).out) ?_;rintro e u ⟨rfl,rfl⟩;go_wp2_with fail;refine (q8 _).out.mono ?_;rintro e uc ⟨rfl,hbc⟩;have A9:=(An.start w).on hbc;clear hbc;obtain ⟨W2,bu,hth,z5,z6,z7,z8,hbl⟩:=(A9).put (.int .i64 6) (.string x) (.int .i64 0) (.int .i64 0);have HW2:=ae bu;have aC:=ae hth;have cf:=ae hbl;clear bu hth hbl;clear A9;go_wp2_with (refine wpList_store_mid rfl 47 (.tmp 2) (.tmp 88) rfl w.heap.size 0 #[.int .i64 6,.string x,.int .i64 0,.int .i64 0] rfl rfl aC.out fI (by simp [Value.oneCell']) ?_;rw [HW2.out])
    first|(show Exit.noGoto (bodyPost _ _ _) _ _ _;rw [Exit.noGoto_ret])|skip
    refine bodyPost_ret (v:=.tuple #[.agg #[.int .i64 6,.string x,.int .i64 0,.int .i64 0],.int .i64 (R:Nat),.int .i64 0]) (by simp [results,Tryz.results57,go_sem,z5,z6,z7,z8]) rfl ⟨congrArg _ HO.out.symm,cf.out⟩
   | false =>
    rw [h,if_neg (by decide)] at hs;simp only [h] at HP;have HS:=ae hs;clear hs hy h hRk Dw Dx FQ hys;go_wp2_with fail;refine Calls.mono (show Calls _ _ _ _ _ from (HP _).out) ?_;rintro e u ⟨rfl,rfl⟩;go_wp2
    go_round
    case rel=>exact ⟨rfl,rfl,k+1,by first|rfl|(congr 1),by omega,ae HS.out.symm⟩
    case measure=>simp;omega
  ·have q3:decide ((k:Int)<14)=false:=decide_eq_false (by omega);have hs:R=0:=by rw [<- hRk.out,List.drop_eq_nil_of_le (show signs.length<=k by rw [JW];omega)];rfl
   have HO:=ae (Dx.out hs);clear hRk hs Dw Dx FQ;go_wp2
   first|(show Exit.noGoto (bodyPost _ _ _) _ _ _;rw [Exit.noGoto_ret])|skip
   refine bodyPost_ret (v:=.tuple #[.agg #[.int .i64 0,.string ⟨#[]⟩,.int .i64 0,.int .i64 0],.int .i64 0,.int .i64 110]) (by simp [results,Tryz.results57,go_sem]) rfl ⟨congrArg _ HO.out.symm,wP w⟩
theorem Zh (s:ByteArray) (hi:0<s.size) (h63:s.size<4611686018427387904) (hz:s.size<=281474976710656) (w:World) (fT:WL w):Calls Tryz.prog 57 #[.string s] w fun e w'=>e=.returned (gM 0 (one s 0))/\Below w.heap.size w w':=by
 cases h1:sm (bt s 0) with
 | true=>exact Zi s hi h63 hz w fT h1
 | false =>
  cases h2:cp (bt s 0) with
  | true=>exact Zj s hi h63 hz w fT h2
  | false =>
   by_cases h3:bt s 0=39
   ·exact Zk s hi h63 hz w fT h3
   ·by_cases h4:bt s 0=126
    ·exact Zl s hi h63 hz w fT h4
    ·cases h5:dg (bt s 0) with
     | true=>exact Zm s hi h63 hz w fT h5
     | false=>exact Y9 s hi h63 hz w fT h1 h2 h3 h4 h5
end Go.Proofs.YtkdbgopgjbfhbaaGreatDoor
namespace Go.Proofs.YtkdbgopgjbfhbaaGreatDoor
open Go.RowKit Go.Shelf Lx
set_option linter.unusedVariables false
abbrev Ky (B b:Nat) (l:List UInt8) (w:World):Prop:=Lib.IsBuilder 170 5 B b (Lib.byteCells l) w
namespace Lx
def TP (w : World) : Prop := Lib.TabIs Tryz.prog w "internal/strconv.uint64pow10" .u64 Lib.pow10Tab
end Lx
end Go.Proofs.YtkdbgopgjbfhbaaGreatDoor
namespace Go.Proofs.YtkdbgopgjbfhbaaGreatDoor
open Go.RowKit Lx
set_option linter.unusedVariables false
namespace Lx
end Lx
namespace Lx
theorem aR {a b n:Nat} (h:a+b<=n) (hn:n<=8192):wrap64 ((a:Int)+(b:Int))=((a+b:Nat):Int)/\(a:Int)+(b:Int)=((a+b:Nat):Int):=by
 unfold wrap64;omega
theorem aV {n m:Nat} (h:m<=n) (hn:n<=8192):wrap64 (m:Int)=(m:Int):=by unfold wrap64;omega
theorem aS2 {n i f g e p:Nat} (h:n<=i+f) (hg:f=g+1) (h1:e<=p) (h2:i<e):n<=p+g:=by omega
end Lx
namespace Lx
theorem Sc (s:ByteArray):∀(f i:Nat) (acc:List Tk),acc.length<=4096->(bH s f i acc).1.length<=4096
 | 0,i,acc,h=>h
 | f+1,i,acc,h=>by
  rw [bH];split
  ·split
   ·exact Nat.zero_le _
   ·split
    ·exact Nat.zero_le _
    ·exact Sc s f _ _ (by rw [List.length_append];simp;omega)
  ·exact h
theorem DI (s:ByteArray):(lx s).1.length<=4096:=by
 unfold lx;split
 ·exact Nat.zero_le _
 ·exact Sc s _ _ _ (by simp)
end Lx
namespace Lx
theorem TP.on {w w':World} (h:TP w) (hb:Below w.heap.size w w'):TP w':=Go.Joins.var_stays (P:=Tryz.prog) (g:=9) (by kernel_rfl) h hb (Nat.le_refl _)
end Lx
theorem Ky.on {B b:Nat} {l:List UInt8} {w w':World} (h:Ky B b l w) (hb:Below w.heap.size w w'):Ky B b l w':=by
 have key:∀ {p:Value},Lib.BuilderAt 170 5 B b p (Lib.byteCells l) w->Lib.BuilderAt 170 5 B b p (Lib.byteCells l) w':=by
  rintro p ⟨hB,v,hbk,hown,hne⟩;refine ⟨hB,v,by rw [hb.block b (Array.getElem?_eq_some_iff.1 hbk).1];exact hbk,⟨hown.1,?_⟩,hne⟩;rcases hown.2 with h2|⟨g,cap,cur,h1,h2,hg,h3⟩
  ·exact .inl h2
  ·exact .inr ⟨g,cap,cur,h1,h2,by rw [hb.block g (Array.getElem?_eq_some_iff.1 hg).1];exact hg,h3⟩
 exact h.elim (fun x=>.inl (key x)) (fun x=>.inr (key x))
namespace Lx
def gdK (t:Tk):Bool:=nI t.k t.x t.n
theorem Jp {s:ByteArray} {b:Bool} (h:wd s b=true):s.size<=32:=(O2.1 h).2.1
theorem Vn {s:ByteArray} {m:Nat}:∀ {l:List ByteArray},(∀x ∈ l,x.size<=m)->cK s l=true->s.size<=m:=fun hl h=>hl s (Jd h)
theorem Yq {s:ByteArray} (h:cK s keys=true):s.size<=33:=Vn (by intro x hx;simp only [keys,List.mem_cons,List.not_mem_nil,or_false] at hx;rcases hx with rfl|rfl|rfl|rfl|rfl|rfl|rfl|rfl|rfl|rfl|rfl|rfl<;>decide) h
theorem Yr {s:ByteArray} (h:cK s signs=true):s.size<=33:=Vn (by intro x hx;simp only [signs,tH,pU,List.cons_append,List.nil_append,List.mem_cons,List.not_mem_nil,or_false] at hx;rcases hx with rfl|rfl|rfl|rfl|rfl|rfl|rfl|rfl|rfl|rfl|rfl|rfl|rfl|rfl<;>decide) h
end Lx
end Go.Proofs.YtkdbgopgjbfhbaaGreatDoor
namespace Go.Proofs.YtkdbgopgjbfhbaaGreatDoor
open Go.RowKit
set_option linter.unusedVariables false
namespace Lx
theorem R8 (s:ByteArray) (a b i:Nat) (hb:b<=s.size) (h:a+i<b):bt (s.extract a b) i=bt s (a+i):=by
 unfold bt;rw [dif_pos (by rw [ByteArray.size_extract];omega),dif_pos (by omega)];simp [ByteArray.getElem_extract]
theorem K5 (s:ByteArray) (i e:Nat) (low:Bool) (hi:i<e) (he:e<=s.size) (h32:e-i<=32) (hp:∀j,i<=j->j<e->pt (bt s j)=true) (h0:(if low=true then sm (bt s i) else cp (bt s i))=true):wd (s.extract i e) low=true:=by
 have hz:(s.extract i e).size=e-i:=by rw [ByteArray.size_extract];omega
 rw [O2,hz,R8 s i e 0 he (by omega)];refine ⟨by omega,h32,h0,FM _ pt (by omega) (by omega) (fun j h1 h2=>?_) (fun h=>by omega)⟩;rw [R8 s i e j he (by omega)];exact hp (i+j) (by omega) (by omega)
theorem R9 {s:ByteArray} {i:Nat} (h:bt s i≠0):i<s.size:=by
 unfold bt at h;split at h
 ·assumption
 ·exact absurd rfl h
theorem Sa {c:Int} (h:sm c=true):c≠0:=by unfold sm at h;rw [Bool.and_eq_true,decide_eq_true_eq,decide_eq_true_eq] at h;omega
theorem abp {c:Int} (h:cp c=true):c≠0:=by unfold cp at h;rw [Bool.and_eq_true,decide_eq_true_eq,decide_eq_true_eq] at h;omega
theorem abq {s:ByteArray} {i:Nat} {k:Int} {x:ByteArray} {n:Int} {e:Nat} (h:one s i=.ok (k,x,n,e)):nI k x n=true:=by
 unfold one at h;split at h
 ·rename_i hc;have hi:i<s.size:=R9 (by rcases hc with hc|hc;exact Sa hc;exact abp hc)
  have hp:pt (bt s i)=true:=by rcases hc with hc|hc;exact Fa hc;exact OO hc
  split at h
  ·cases h
  ·rename_i h32;injection h with h;injection h with hk h;injection h with hx h;injection h with hn he;have hie:i<en s pt i:=by rw [AK s pt hi hp];exact pR s pt (i+1)
   have hle:=jw s pt (Nat.le_of_lt hi);have hal:∀j,i<=j->j<en s pt i->pt (bt s j)=true:=fun j h1 h2=>oK s pt h1 h2;subst hx hn;by_cases hcp:cp (bt s i)=true
   ·rw [if_pos hcp] at hk;subst hk;unfold nI;rw [if_neg (by simp),if_neg (by decide),if_pos rfl];exact K5 s i _ false hie hle (by omega) hal (by simpa using hcp)
   ·rw [if_neg hcp] at hk;have hsm:sm (bt s i)=true:=by rcases hc with hc|hc;exact hc;exact absurd hc hcp
    by_cases h5:cK (s.extract i (en s pt i)) keys=true
    ·rw [if_pos h5] at hk;subst hk;unfold nI;rw [if_neg (by simp),if_neg (by decide),if_neg (by decide),if_neg (by decide),if_neg (by decide),if_pos rfl];exact h5
    ·rw [if_neg h5] at hk;subst hk;unfold nI;rw [if_neg (by simp),if_pos rfl,K5 s i _ true hie hle (by omega) hal (by simpa using hsm)];cases h6:cK (s.extract i (en s pt i)) keys with
     | true=>exact absurd h6 h5
     | false=>rfl
 ·split at h
  ·split at h
   ·cases h
   ·rename_i hn;split at h
    ·cases h
    ·rename_i h32;injection h with h;injection h with hk h;injection h with hx h;injection h with hn' he
     have hsm:sm (bt s (i+1))=true:=by
      cases hs:sm (bt s (i+1)) with
      | true=>rfl
      | false=>exact absurd (.inr hs) hn
     have hi:i+1<s.size:=R9 (Sa hsm);have hie:i+1<en s pt (i+1):=by rw [AK s pt hi (Fa hsm)];exact pR s pt (i+1+1)
     have hle:=jw s pt (Nat.le_of_lt hi);subst hx hn' hk;unfold nI;rw [if_neg (by simp),if_neg (by decide),if_neg (by decide),if_pos rfl];exact K5 s (i+1) _ true hie hle (by omega) (fun j h1 h2=>oK s pt h1 h2) (by simpa using hsm)
  ·split at h
   ·split at h
    ·rename_i n' e' Bx;injection h with h;injection h with hk h;injection h with hx h;injection h with hn he;subst hk hx hn;unfold nI;rw [if_neg (by simp),if_neg (by decide),if_neg (by decide),if_neg (by decide),if_pos rfl,XL Bx];rfl
    ·cases h
   ·split at h
    ·rename_i hc;injection h with h;injection h with hk h;injection h with hx h;injection h with hn he;subst hk hx hn;unfold nI;rw [if_neg (by simp),if_neg (by decide),if_neg (by decide),if_neg (by decide),if_neg (by decide),if_neg (by decide),if_pos rfl];exact hc.2
    ·split at h
     ·rename_i hc;injection h with h;injection h with hk h;injection h with hx h;injection h with hn he;subst hk hx hn;unfold nI;rw [if_neg (by simp),if_neg (by decide),if_neg (by decide),if_neg (by decide),if_neg (by decide),if_neg (by decide),if_pos rfl];exact hc.2
     ·cases h
def GK (L:List Tk):Prop:=∀t ∈ L,gdK t=true
theorem Sb (s:ByteArray):∀(f i:Nat) (acc:List Tk),GK acc->GK (bH s f i acc).1
 | 0,i,acc,h=>h
 | f+1,i,acc,h=>by
  unfold bH;split
  ·split
   ·exact fun t ht=>by cases ht
   ·rename_i k x n e ho;split
    ·exact fun t ht=>by cases ht
    ·refine Sb s f _ _ (fun t ht=>?_);rcases List.mem_append.1 ht with ht|ht
     ·exact h t ht
     ·rw [List.mem_singleton.1 ht];exact abq ho
  ·exact h
theorem Yy (s:ByteArray):GK (lx s).1:=by
 unfold lx;split
 ·exact fun t ht=>by cases ht
 ·exact Sb s _ _ _ (fun t ht=>by cases ht)
end Lx
namespace Ints
def wr (n:Int):Int:=(n+1073741824)%2147483648-1073741824
theorem O5 (n:Int):(wr n=n)↔(-1073741824<=n/\n<=1073741823):=by unfold wr;omega
def C0:List ByteArray:=[⟨#[]⟩,⟨#[43]⟩,⟨#[45]⟩,⟨#[42]⟩,⟨#[47]⟩,⟨#[37]⟩,⟨#[60]⟩,⟨#[61,61]⟩]
def FC (s:ByteArray):Nat->Nat->Int
 | 0,_=>0
 | f+1,k=>if C0.getD k ⟨#[]⟩=s then (k:Int) else FC s f (k+1)
def abo (s:ByteArray):Int:=FC s 7 1
def WI (w:World):Prop:=∀k,k<8->w.cell? ⟨4,k,none⟩=some (.string (C0.getD k ⟨#[]⟩))
end Ints
end Go.Proofs.YtkdbgopgjbfhbaaGreatDoor
namespace Go.Proofs.YtkdbgopgjbfhbaaGreatDoor
open Go.RowKit Lx Pz bq
set_option linter.unusedVariables false
set_option maxRecDepth 100000
set_option maxHeartbeats 8000000
namespace Pz
def wL:Value->ByteArray
 | .agg c=>match (c:Array Value)[1]? with
  | some (Value.string x)=>x
  | _=>e0
 | _=>e0
def FA:Value->ByteArray
 | .agg c=>match (c:Array Value)[2]? with
  | some (Value.string x)=>x
  | _=>e0
 | _=>e0
def uN:Value->Int
 | .agg c=>match (c:Array Value)[3]? with
  | some (Value.int _ a)=>a
  | _=>0
 | _=>0
section
variable (k:Int) (x y:ByteArray) (n:Int) (es ps:List Value) (a:Int)
end
def eT (k:Int) (x:ByteArray):Bool:=if k=0 then decide (x=e0) else if k=6 then decide (Ints.abo x≠0) else nI k x 0
def AZ (nk:Int) (nm:Bool) (ar:Int) (x:ByteArray) (n:Int) (m:Nat):Bool:=eT nk x && ((decide ((m:Int)=ar) || decide (ar=-1)) && (decide (n=0) || (nm && ez n)))
def nkT (k:Int):Int:=if k=2 then 3 else if k=4 then 1 else 0
def arT (k:Int):Int:=if k=3 then 2 else if k=4 then -1 else 0
def nkP (k:Int):Int:=if k=2 then 1 else if k=4 then 2 else 0
def arP (k:Int):Int:=if k=4 then -1 else 0
def nkE (k:Int):Int:=if k=1\/k=3\/k=5\/k=6 then 1 else if k=8 then 2 else if k=9 then 6 else 0
def pkE (k:Int):Int:=if k=6 then 1 else 0
def arE (k:Int):Int:=if k=3\/k=10 then 1 else if k=4\/k=5\/k=6\/k=9 then 2 else if k=7 then -2 else if k=8 then -1 else 0
def uP (t:Value):Bool:=decide (1<=jE t/\jE t<5) && (!(jE t == 4 && decide (wL t=sO)) && AZ (nkT (jE t)) false (arT (jE t)) (wL t) (uN t) (dE t).length)
def uR (t:Value):Bool:=decide (1<=jE t/\jE t<5) && AZ (nkP (jE t)) (jE t == 3) (arP (jE t)) (wL t) (uN t) (dE t).length
def mM (t:Value):Bool:=decide (1<=jE t/\jE t<11) && ((jE t == 7 || decide ((gV t).length=0)) && (AZ (nkE (jE t)) (jE t == 2) (if (gV t).length=0 then arE (jE t) else ((gV t).length:Int)+1) (wL t) (uN t) (dE t).length && eT (pkE (jE t)) (FA t)))
def yT:Nat->Value->Bool
 | 0,_=>false
 | d+1,t=>uP t && (dE t).all (yT d)
def yU:Nat->Value->Bool
 | 0,_=>false
 | d+1,t=>uR t && (dE t).all (yU d)
def yV:Nat->Value->Bool
 | 0,_=>false
 | d+1,t=>mM t && ((dE t).all (yV d) && (gV t).all (yU d))
def wM:Value->ByteArray
 | .agg c=>match (c:Array Value)[0]? with
  | some (Value.string x)=>x
  | _=>e0
 | _=>e0
def wO:Value->ByteArray
 | .string x=>x
 | _=>e0
def Da (m:Nat) (c:Value):Bool:=eT 2 (wM c) && (yH c).all (yT m)
def Db (m:Nat) (d:Value):Bool:=eT 1 (wM d) && ((CH d).all (fun p=>eT 3 (wO p)) && (decide (0<(uB d).length) && (uB d).all (Da m)))
def Js (m:Nat) (ds:List Value) (e:Value):Bool:=ds.all (Db m) && yV m e
def GT (t:Value):Prop:=∀m,mr m t=false->yT m t=true
def GP (t:Value):Prop:=∀m,iK m [t]=false->yU m t=true
def GE (t:Value):Prop:=∀m,lI m t=false->yV m t=true
theorem yj {α:Type} {f:α->Bool} {l:List α} (h:l.any f=false) {x:α} (hx:x ∈ l):f x=false:=by
 cases hf:f x with
 | false=>rfl
 | true=>rw [List.any_eq_true.2 ⟨x,hx,hf⟩] at h;cases h
theorem UZ {m:Nat} {l:List Value} (h:iK m l=false) {x:Value} (hx:x ∈ l):iK m [x]=false:=by
 cases m with
 | zero=>exact absurd (yj (f:=fun _=>true) h hx) (by simp)
 | succ m =>
  have:=yj (f:=fun t=>iK m (dE t)) h hx
  show ([x].any fun t=>iK m (dE t))=false;rw [List.any_cons,this];rfl
theorem GT.mk {t:Value} (h:uP t=true) (ha:∀x ∈ dE t,GT x):GT t:=fun m hm=>by
 cases m with
 | zero=>cases hm
 | succ m =>
  show (uP t && (dE t).all (yT m))=true;rw [h,Bool.true_and,List.all_eq_true];exact fun x hx=>ha x hx m (yj (f:=mr m) hm hx)
theorem GP.mk {t:Value} (h:uR t=true) (ha:∀x ∈ dE t,GP x):GP t:=fun m hm=>by
 cases m with
 | zero=>cases hm
 | succ m =>
  have hm':iK m (dE t)=false:=yj (f:=fun t=>iK m (dE t)) (l:=[t]) hm (List.Mem.head _);show (uR t && (dE t).all (yU m))=true;rw [h,Bool.true_and,List.all_eq_true];exact fun x hx=>ha x hx m (UZ hm' hx)
theorem GE.mk {t:Value} (h:mM t=true) (ha:∀x ∈ dE t,GE x) (hp:∀x ∈ gV t,GP x):GE t:=fun m hm=>by
 cases m with
 | zero=>cases hm
 | succ m =>
  have hm':((dE t).any (lI m) || iK m (gV t))=false:=hm;rw [Bool.or_eq_false_iff] at hm';show (mM t && ((dE t).all (yV m) && (gV t).all (yU m)))=true;rw [h,Bool.true_and,Bool.and_eq_true,List.all_eq_true,List.all_eq_true];exact ⟨fun x hx=>ha x hx m (yj hm'.1 hx),fun x hx=>hp x hx m (UZ hm'.2 hx)⟩
-- tokens
section
variable {L:List Tk} {en:Int} (hG:GK L)
theorem My (hG:GK L) {i:Nat} (h:(tk L en i).k≠0):nI (tk L en i).k (tk L en i).x (tk L en i).n=true:=by
 have hi:=CM L en h;obtain ⟨t,ht⟩:∃t,L[i]?=some t:=⟨_,List.getElem?_eq_getElem hi⟩;rw [jO L en ht];exact hG t (List.mem_of_getElem? ht)
theorem adp (hG:GK L) {i:Nat} (h4:(tk L en i).k≠4) (h:(tk L en i).k≠0):(tk L en i).n=0:=by
 have:=My hG h
 unfold nI at this;by_cases hn:(tk L en i).n=0
 ·exact hn
 ·rw [if_pos ⟨h4,hn⟩] at this;cases this
theorem ng (hG:GK L) {i:Nat} {K:Int} (hk:(tk L en i).k=K) (h4:K≠4) (h6:K≠6) (h0:K≠0):eT K (tk L en i).x=true:=by
 have h:=My hG (i:=i) (en:=en) (by rw [hk];exact h0);rw [adp hG (by rw [hk];exact h4) (by rw [hk];exact h0),hk] at h;unfold eT;rw [if_neg h0,if_neg h6];exact h
theorem U1 (hG:GK L) {i:Nat} (hk:(tk L en i).k=4):ez (tk L en i).n=true:=by
 have h:=My hG (i:=i) (en:=en) (by rw [hk];decide);rw [hk] at h;unfold nI at h;rw [if_neg (by simp),if_neg (by decide),if_neg (by decide),if_neg (by decide),if_pos rfl,Bool.and_eq_true] at h;exact h.2
end
-- heads
theorem adq:eT 0 e0=true:=rfl
theorem adr (h:eT 0 e0=true:=adq):uP (nd 1 e0 e0 0 [] [] 0)=true:=by decide
theorem ads {x:ByteArray} (h:eT 3 x=true):uP (nd 2 x e0 0 [] [] 0)=true:=by
 show (true && ((!(false && _)) && (eT 3 x && _)))=true;rw [h];rfl
theorem adt {t u:Value}:uP (nd 3 e0 e0 0 [t,u] [] 0)=true:=rfl
theorem U2 {x:ByteArray} {ts:List Value} (h:eT 1 x=true) (hx:x≠sO):uP (nd 4 x e0 0 ts [] 0)=true:=by
 show (true && ((!(true && decide (x=sO))) && (eT 1 x && ((_ || true) && (true || _)))))=true;rw [h,decide_eq_false hx];simp
theorem adu (a:Int):uR (nd 1 e0 e0 0 [] [] a)=true:=rfl
theorem adv {x:ByteArray} (a:Int) (h:eT 1 x=true):uR (nd 2 x e0 0 [] [] a)=true:=by
 show (true && (eT 1 x && _))=true;rw [h];rfl
theorem adw {n:Int} (a:Int) (h:ez n=true):uR (nd 3 e0 e0 n [] [] a)=true:=by
 show (true && (true && (true && (_ || (true && ez n)))))=true;rw [h];simp
theorem Ez {x:ByteArray} {ts:List Value} (a:Int) (h:eT 2 x=true):uR (nd 4 x e0 0 ts [] a)=true:=by
 show (true && (eT 2 x && ((_ || true) && (true || _))))=true;rw [h];simp
theorem adx {x:ByteArray} (a:Int) (h:eT 1 x=true):mM (nd 1 x e0 0 [] [] a)=true:=by
 show (true && (true && ((eT 1 x && _) && _)))=true;rw [h];rfl
theorem ady {n:Int} (a:Int) (h:ez n=true):mM (nd 2 e0 e0 n [] [] a)=true:=by
 show (true && (true && ((true && (true && (_ || (true && ez n)))) && true)))=true;rw [h];simp
theorem adz {x:ByteArray} {e:Value} (a:Int) (h:eT 1 x=true):mM (nd 3 x e0 0 [e] [] a)=true:=by
 show (true && (true && ((eT 1 x && _) && _)))=true;rw [h];rfl
theorem adA {e f:Value} (a:Int):mM (nd 4 e0 e0 0 [e,f] [] a)=true:=rfl
theorem adB {x:ByteArray} {e f:Value} (a:Int) (h:eT 1 x=true):mM (nd 5 x e0 0 [e,f] [] a)=true:=by
 show (true && (true && ((eT 1 x && _) && _)))=true;rw [h];rfl
theorem adC {x y:ByteArray} {e f:Value} (a:Int) (h:eT 1 x=true) (hy:eT 1 y=true):mM (nd 6 x y 0 [e,f] [] a)=true:=by
 show (true && (true && ((eT 1 x && _) && eT 1 y)))=true;rw [h,hy];rfl
theorem MB {es ps:List Value} (a:Int) (h:es.length=ps.length+1) (h0:ps.length≠0):mM (nd 7 e0 e0 0 es ps a)=true:=by
 show (true && (true && ((true && ((decide ((es.length:Int)=(if ps.length=0 then -2 else (ps.length:Int)+1)) || _) && true)) && true)))=true;rw [if_neg h0,h,decide_eq_true (by omega)];simp
theorem U5 {x:ByteArray} {es:List Value} (a:Int) (h:eT 2 x=true):mM (nd 8 x e0 0 es [] a)=true:=by
 show (true && (true && ((eT 2 x && ((_ || true) && (true || _))) && true)))=true;rw [h];simp
theorem adD {x:ByteArray} {e f:Value} (a:Int) (h:eT 6 x=true):mM (nd 9 x e0 0 [e,f] [] a)=true:=by
 show (true && (true && ((eT 6 x && _) && _)))=true;rw [h];rfl
theorem adE {e:Value} (a:Int):mM (nd 10 e0 e0 0 [e] [] a)=true:=rfl
theorem iq {P:Value->Prop}:∀x ∈ ([]:List Value),P x:=fun x hx=>by cases hx
theorem mem1 {P:Value->Prop} {a:Value} (ha:P a):∀x ∈ [a],P x:=fun x hx=>by rw [List.mem_singleton.1 hx];exact ha
theorem mem2 {P:Value->Prop} {a b:Value} (ha:P a) (hb:P b):∀x ∈ [a,b],P x:=fun x hx=>by
 rcases List.mem_cons.1 hx with rfl|hx
 ·exact ha
 ·exact mem1 hb x hx
theorem mem3 {P:Value->Prop} {a b c:Value} (ha:P a) (hb:P b) (hc:P c):∀x ∈ [a,b,c],P x:=fun x hx=>by
 rcases List.mem_cons.1 hx with rfl|hx
 ·exact ha
 ·exact mem2 hb hc x hx
theorem EA {P:Value->Prop} {l:List Value} {a:Value} (h:∀x ∈ l,P x) (ha:P a):∀x ∈ l++[a],P x:=fun x hx=>by
 rcases List.mem_append.1 hx with hx|hx
 ·exact h x hx
 ·exact mem1 ha x hx
end Pz
namespace Pz
theorem XH {s:ByteArray} {i:Nat} {k:Int} {x:ByteArray} {n:Int} {e:Nat} (h:one s i=.ok (k,x,n,e)) (a:Int):AR ⟨k,x,n,a⟩:=by
 unfold one at h;split at h
 ·split at h
  ·cases h
  ·injection h with h;injection h with hk h;injection h with hx h;subst hx;refine ⟨fun h5=>?_,fun h6=>?_⟩
   ·change k=5 at h5
    rw [h5] at hk;split at hk
    ·cases hk
    ·split at hk
     ·assumption
     ·cases hk
   ·change k=6 at h6
    rw [h6] at hk;split at hk
    ·cases hk
    ·split at hk<;>cases hk
 ·split at h
  ·split at h
   ·cases h
   ·split at h
    ·cases h
    ·injection h with h;injection h with hk h;subst hk;exact ⟨fun h=>absurd h (by simp),fun h=>absurd h (by simp)⟩
  ·split at h
   ·split at h
    ·injection h with h;injection h with hk h;subst hk;exact ⟨fun h=>absurd h (by simp),fun h=>absurd h (by simp)⟩
    ·cases h
   ·split at h
    ·rename_i hc;injection h with h;injection h with hk h;injection h with hx h;subst hk hx;exact ⟨fun h=>absurd h (by simp),fun _=>hc.2⟩
    ·split at h
     ·rename_i hc;injection h with h;injection h with hk h;injection h with hx h;subst hk hx;exact ⟨fun h=>absurd h (by simp),fun _=>hc.2⟩
     ·cases h
theorem O0 (s:ByteArray):∀(f i:Nat) (acc:List Tk),Gd acc->Gd (bH s f i acc).1
 | 0,i,acc,h=>h
 | f+1,i,acc,h=>by
  unfold bH;split
  ·split
   ·exact fun t ht=>by cases ht
   ·rename_i k x n e ho;split
    ·exact fun t ht=>by cases ht
    ·refine O0 s f _ _ (fun t ht=>?_);rcases List.mem_append.1 ht with ht|ht
     ·exact h t ht
     ·rw [List.mem_singleton.1 ht];exact XH ho _
  ·exact h
theorem O1 (s:ByteArray):Gd (lx s).1:=by
 unfold lx;split
 ·exact fun t ht=>by cases ht
 ·exact O0 s _ _ _ (fun t ht=>by cases ht)
theorem CO (w:World) {p:Nat} (T:TypeId) (z vs:Array Value) (hz:w.heap[p]?=some (.cells z T (0,0))) (hs:z.size=vs.size) :
  ∃W,w.setCells p 0 vs.toList=W/\w.there p 0 vs.size/\W.heap[p]?=some (.cells vs T (0,0))/\∀m,m≠p->W.heap[m]?=w.heap[m]? :=
 ⟨_,rfl,by have:=CP hz;rw [hs] at this;exact this,CQ hz hs,fun m hm=>wH p m hm vs.toList 0 w⟩
theorem XI {w:World} {a:Addr} {b j:Nat} {v:Value} (h:a.block≠b):(w.setCell ⟨b,j,none⟩ v).cell? a=w.cell? a:=World.cell?_of_block (Below.heap_setCell _ _ _ _ h)
theorem XJ (k:Int) (w:World):(Instr.typeAssert (.iface 48 (.int .i64 k)) 20 48 true).run Tryz.prog w=.ok (.tuple #[.int .i64 k,.bool true]) w:=by
 kernel_rfl
theorem XK (w:World):(Instr.typeAssert .nilIface 20 48 true).run Tryz.prog w=.ok (.tuple #[.int .i64 0,.bool false]) w:=by
 kernel_rfl
end Pz
theorem Fq (p q r:Nat) (w:World) :
  CallsD Tryz.prog 22 #[.pointer (some ⟨p,0,none⟩),.pointer (some ⟨q,0,none⟩),.pointer (some ⟨r,0,none⟩)] .returning w fun e u' w'=>e=.returned (.tuple #[])/\u'=.returning/\w'=w:=by
 refine callsD_of_wpS Tryz.func22 rfl fun c₀ cs hu=>?_;apply wpS_seq;apply wpS_region;simp [wpOpsS,go_sem,recoverD,hu,Tryz.ntmps22,Exit.thenS,XK];apply wpS_seq;apply wpS_region;simp [wpOpsS,go_sem,Exit.thenS];refine wpS_cond (t:=false) (by simp [Act.eval,Array.replicate]) ?_;simp only [Bool.false_eq_true,if_false];refine wpS_of_wp (wp_skip ?_);cases c₀;simp_all [bodyPostS,results,Tryz.results22]
theorem aad (P Q R I Tp K T:Value):#[P,Q,R]++((((((((Array.replicate 10 undef).setIfInBounds 3 I).setIfInBounds 4 Tp).setIfInBounds 2 Tp).setIfInBounds 5 K).setIfInBounds 6 T).setIfInBounds 0 K).setIfInBounds 1 T).setIfInBounds 7 T=#[P,Q,R,K,T,Tp,I,Tp,K,T,T,undef,undef]:=by first|kernel_rfl|(apply Array.toList_inj.1;simp [List.replicate,List.set])
theorem Zp (p q r:Nat) (Km:Array Value) (y x:Value) (k:Int) (older:List PanicEntry) (w:World) (hp:w.heap[p]?=some (.cells Km 29 (0,0))) (h8:Km.size=8) (hq:w.heap[q]?=some (.cells #[y] 3 (0,0))) (hr:w.heap[r]?=some (.cells #[x] 30 (0,0))) (hpq:q≠p) (hpr:r≠p) (hqr:r≠q) :
  CallsD Tryz.prog 22 #[.pointer (some ⟨p,0,none⟩),.pointer (some ⟨q,0,none⟩),.pointer (some ⟨r,0,none⟩)] (.panicking ({ v:=.iface 48 (.int .i64 k),recovered:=false } :: older)) w fun e u' w' =>
   e=.returned (.tuple #[])/\u'=.panicking ({ v:=.iface 48 (.int .i64 k),recovered:=true } :: older)/\w'=((w.setCells p 0 dG.toList).setCell ⟨q,0,none⟩ (.int .i64 k)).setCell ⟨r,0,none⟩ (.int .i64 120):=by
 refine callsD_of_wpS Tryz.func22 rfl fun c₀ cs hu=>?_;apply wpS_seq;apply wpS_region;simp [wpOpsS,go_sem,recoverD,hu,Tryz.ntmps22,Exit.thenS,XJ];apply wpS_seq;apply wpS_region;simp [wpOpsS,go_sem,Exit.thenS];refine wpS_cond (t:=true) (by simp [Act.eval,Array.replicate]) ?_;simp only [if_true];refine wpS_of_wp ?_;obtain ⟨W,hW,hth,hbk,hoth⟩:=CO w 29 Km dG hp h8;have Kn:W.heap[q]?=some (.cells #[y] 3 (0,0)):=(hoth q hpq).trans hq;have Ko:W.heap[r]?=some (.cells #[x] 30 (0,0)):=(hoth r hpr).trans hr;have d1:=ak Kn 0 _ rfl;have d2:=ak Ko 0 _ rfl;have f1:W.frozen? ⟨q,0,none⟩=false:=by unfold World.frozen?;rw [Kn];simp
 have f2:W.frozen? ⟨r,0,none⟩=false:=by unfold World.frozen?;rw [Ko];simp
 have d3:(W.setCell ⟨q,0,none⟩ (.int .i64 k)).cell? ⟨r,0,none⟩=some x:=by rw [XI hqr];exact d2
 have HQ:=ae hu;rw [show w.setCells p 0 dG.toList=W from hW];clear hp hq hr hbk hoth Kn Ko hu;rw [aad];go_wp2_with (refine wpList_store_mid rfl 29 (.tmp 0) (.tmp 11) rfl p 0 dG rfl rfl hth nO (by simp [Value.oneCell']) ?_;rw [hW]);simp [bodyPostS,results,Tryz.results22]
namespace Pz
structure PE (w:World) (cs:Array Value) (y x:Int) (u:World):Prop where
 below:Below w.heap.size w u
 b0:u.heap[w.heap.size]?=some (.cells cs 29 (0,0))
 sz:cs.size=8
 b1:u.heap[w.heap.size+1]?=some (.cells #[.int .i64 y] 3 (0,0))
 b2:u.heap[w.heap.size+2]?=some (.cells #[.int .i64 x] 30 (0,0))
def rf (w:World):World:=((w.alloc (.cells dG 29)).alloc (.cells #[.int .i64 0] 3)).alloc (.cells #[.int .i64 0] 30)
theorem Bf (w:World) (o:Obj) {g:Nat} (h:w.heap.size=g):(w.alloc o).heap[g]?=some o:=by rw [<- h];exact heap_alloc_new w o
theorem PE.on {w u u':World} {cs:Array Value} {y x:Int} (h:PE w cs y x u) (hb:Below u.heap.size u u'):PE w cs y x u' :=
 ⟨aB h.below hb,by rw [hb.block _ (Array.getElem?_eq_some_iff.1 h.b0).1];exact h.b0,h.sz,by rw [hb.block _ (Array.getElem?_eq_some_iff.1 h.b1).1];exact h.b1,by rw [hb.block _ (Array.getElem?_eq_some_iff.1 h.b2).1];exact h.b2⟩
theorem PE.start (w:World):PE w dG 0 0 (rf w):=by
 have k1:=dF w (.cells dG 29);have k2:=dF (w.alloc (.cells dG 29)) (.cells #[.int .i64 0] 3);have k3:=dF ((w.alloc (.cells dG 29)).alloc (.cells #[.int .i64 0] 3)) (.cells #[.int .i64 0] 30);refine ⟨aB (aB k1 k2) k3,?_,rfl,?_,Bf _ _ (by simp)⟩
 ·unfold rf;rw [k3.block _ (by simp;omega),k2.block _ (by simp)];exact heap_alloc_new w _
 ·unfold rf;rw [k3.block _ (by simp)];exact Bf _ _ (by simp)
theorem PE.set1 {w u:World} {cs:Array Value} {y x:Int} (h:PE w cs y x u) (y':Int):PE w cs y' x (u.setCell ⟨w.heap.size+1,0,none⟩ (.int .i64 y')) :=
 ⟨h.below.setCell (by show w.heap.size<=w.heap.size+1;omega) _,by rw [Below.heap_setCell _ _ _ _ (by show w.heap.size≠w.heap.size+1;omega)];exact h.b0,h.sz,heap_setCell_same u _ 0 _ _ _ h.b1,by rw [Below.heap_setCell _ _ _ _ (by show w.heap.size+2≠w.heap.size+1;omega)];exact h.b2⟩
theorem PE.set2 {w u:World} {cs:Array Value} {y x:Int} (h:PE w cs y x u) (x':Int):PE w cs y x' (u.setCell ⟨w.heap.size+2,0,none⟩ (.int .i64 x')) :=
 ⟨h.below.setCell (by show w.heap.size<=w.heap.size+2;omega) _,by rw [Below.heap_setCell _ _ _ _ (by show w.heap.size≠w.heap.size+2;omega)];exact h.b0,h.sz,by rw [Below.heap_setCell _ _ _ _ (by show w.heap.size+1≠w.heap.size+2;omega)];exact h.b1,heap_setCell_same u _ 0 _ _ _ h.b2⟩
theorem PE.put {w u:World} {cs:Array Value} {y x:Int} (h:PE w cs y x u) (vs:Array Value) (hv:vs.size=8):∃W,u.setCells w.heap.size 0 vs.toList=W/\u.there w.heap.size 0 vs.size/\PE w vs y x W:=by
 obtain ⟨W,hW,hth,hbk,hoth⟩:=CO u 29 cs vs h.b0 (h.sz.trans hv.symm);refine ⟨W,hW,hth,?_,hbk,hv,(hoth _ (by omega)).trans h.b1,(hoth _ (by omega)).trans h.b2⟩;rw [<- hW];exact nL w.heap.size w.heap.size (Nat.le_refl _) vs.toList 0 w u h.below
theorem PE.catch {w u : World} {cs : Array Value} {y x : Int} (h : PE w cs y x u) (k : Int) : CallsD Tryz.prog 22 #[.pointer (some ⟨w.heap.size, 0, none⟩), .pointer (some ⟨w.heap.size + 1, 0, none⟩), .pointer (some ⟨w.heap.size + 2, 0, none⟩)] (.panicking (Bg k)) u fun e u' w' =>
      e = .returned (.tuple #[]) ∧ u' = .panicking ({ v := .iface 48 (.int .i64 k), recovered := true } :: []) ∧ PE w dG k 120 w' := by
  refine (Zp w.heap.size (w.heap.size + 1) (w.heap.size + 2) cs _ _ k [] u h.b0 h.sz h.b1 h.b2 (by omega) (by omega) (by omega)).mono ?_;rintro e u' w' ⟨he, hu, hw⟩;refine ⟨he, hu, ?_⟩;obtain ⟨W, hW, _, hP⟩ := h.put dG rfl;rw [hw, hW];exact (hP.set1 k).set2 120
end Pz
end Go.Proofs.YtkdbgopgjbfhbaaGreatDoor
