/- Texts that the claim needs. -/
import Derived.Test.YtkdbgopgjbfhbaaGreatDoorQPV33
import Derived.Test.YtkdbgopgjbfhbaaGreatDoorQPV31
import Derived.Shelf.Lay
import Derived.Shelf.Strings.Count
import Derived.Shelf.Strings.Search3
import Derived.Shelf.Strings.Builder1
import Derived.Shelf.Strings.Builder2
import Derived.Shelf.Strconv.Itoa3
import Derived.Lib.AppendIntMem
import Derived.Test.YtkdbgopgjbfhbaaGreatDoorQPV2
import Derived.Test.YtkdbgopgjbfhbaaGreatDoorQPV3
import Derived.Lib.SmallJoins
import Derived.Test.YtkdbgopgjbfhbaaGreatDoorRows
import Derived.WalkKit
import Derived.WalkSpells
import Derived.WalkSmall
import Derived.BigQuiet
import Derived.Deep.QuietTactic
import Derived.Test.YtkdbgopgjbfhbaaGreatDoorQPV29
import Derived.Test.YtkdbgopgjbfhbaaGreatDoorQPV30
namespace Go.Proofs.YtkdbgopgjbfhbaaGreatDoor
open Go.RowKit Lx
set_option linter.unusedVariables false
set_option maxRecDepth 100000
set_option maxHeartbeats 8000000
theorem XK (s:ByteArray) (hi:0<s.size) (h63:s.size<4611686018427387904) (hz:s.size<=281474976710656) (w:World) (fC:WL w) (hsm:sm (bt s 0)=false) (hcp:cp (bt s 0)=false) (l6:bt s 0≠39) (pE:bt s 0≠126) (l7:dg (bt s 0)=false):Calls Tryz.prog 57 #[.string s] w fun e w'=>e=.returned (gp 0 (one s 0))/\Below w.heap.size w w':=by
 have hx:=fun (w:World)=>jZ s hi w (P:=Tryz.prog) 9 Tryz.underlying9;have hc0:=wJ s 0;have iP:=fun (u:World)=>ae (gK (bt s 0) u);have jI:=fun (u:World)=>ae (wM (bt s 0) u);have kM:=fun (u:World)=>ae (yP (bt s 0) u);have hcv:IntKind.i32.wrap (bt s 0)=bt s 0:=by rw [IntKind.wrap_i32];omega
 have uN:wrap32 (bt s 0)=bt s 0:=by unfold wrap32;omega
 have wI:=uL w;have ac2:(bt s 0 == 126)=false:=beq_eq_false_iff_ne.2 pE;have q39:(bt s 0 == 39)=false:=beq_eq_false_iff_ne.2 l6;simp only [l7] at iP;simp only [hsm] at jI;simp only [hcp] at kM;have hone:=XL s hi hsm hcp l6 pE l7;obtain ⟨R,hR⟩:∃R,R=fst s signs:=⟨_,rfl⟩;rw [<- hR] at hone;have st0:Hid (fst s (signs.drop 0)=R):=ae hR.symm;obtain ⟨KS,sZ⟩:∃KS:List Value,KS=signs.map Value.string:=⟨_,rfl⟩;have Fs:Hid (∀k y,signs[k]?=some y->KS[k]?=some (Value.string y)):=ae (fun k y h=>by rw [sZ,List.getElem?_map,h];rfl);have CZ:KS.length=14:=by rw [sZ,List.length_map,JE]
 have pF:Hid ((Tryz.prog.info? 135).map (·.size)=some KS.length):=ae (by rw [CZ];exact XM);have C0:Hid ((wA w).rangeAt 2 0 KS):=ae (by rw [sZ];exact (fC.on (wH w)).signs);have tj:Hid ((w.alloc (.cells #[.int .i64 0,.string ⟨#[]⟩,.int .i64 0,.int .i64 0] 47)).rangeAt 2 0 KS):=C0;have Ft:=fun (y:ByteArray) (u:World)=>ae (XN s y u);rw [hone];have C8:Hid (R≠0->gp 0 (if R=0 then .error 110 else .ok (6,s.extract 0 R,0,R))=.tuple #[.agg #[.int .i64 6,.string (s.extract 0 R),.int .i64 0,.int .i64 0],.int .i64 (R:Nat),.int .i64 0]):=ae fun h=>by rw [if_neg h];rfl
 have C9:Hid (R=0->gp 0 (if R=0 then .error 110 else .ok (6,s.extract 0 R,0,R))=.tuple #[.agg #[.int .i64 0,.string ⟨#[]⟩,.int .i64 0,.int .i64 0],.int .i64 0,.int .i64 110]):=ae fun h=>by rw [if_pos h];rfl
 generalize gp 0 (if R=0 then .error 110 else .ok (6,s.extract 0 R,0,R))=OUT at C8 C9 ⊢;clear sZ CZ fC hR hone l6 pE hc0;generalize bt s 0=c at *;go_enter Tryz.func57,Tryz.ntmps57;go_wp2_with fail
 go_step3
 go_wp2_with fail
 go_step3
 go_wp2_with fail;refine Calls.mono (show Calls _ _ _ _ _ from (iP _).out) ?_;rintro e u ⟨rfl,rfl⟩;go_wp2_with fail;refine Calls.mono (show Calls _ _ _ _ _ from (jI _).out) ?_;rintro e u ⟨rfl,rfl⟩;go_wp2_with fail;refine Calls.mono (show Calls _ _ _ _ _ from (kM _).out) ?_;rintro e u ⟨rfl,rfl⟩;go_wp2_with (refine wpList_load_mid rfl 135 (.global 2) rfl 2 0 rfl KS _ tj.out Tryz.underlying135 rfl pF.out ?_)
 go_loop [5,7,17] (fun k0 l0 a=>k0=.int .i64 0/\l0=.int .i64 0/\∃k:Nat,a=.int .i64 k/\k<=14/\Hid (fst s (signs.drop k)=R)) (fun _ _ a=>match a with | .int _ k=>14-k.toNat|_=>0)
 case atStart=>exact ⟨rfl,rfl,0,rfl,by omega,st0⟩
 case round =>
  obtain ⟨rfl,rfl,k,rfl,hk,hRk⟩:=hrel;clear st0;by_cases hp:k<14
  ·obtain ⟨q3,hw1⟩:=aI k hp;obtain ⟨y,hy⟩:∃y,signs[k]?=some y:=⟨_,List.getElem?_eq_getElem (by rw [JE];exact hp)⟩;have hidx:=fun (u:World)=>XO KS k y (Fs.out k y hy) hp u;have hs:=XP s signs k y hy;rw [hRk.out] at hs;have hys:=XQ y (List.mem_of_getElem? hy);have HP:=fun (u:World)=>Ft y u;cases h:pfx s y with
   | true =>
    rw [h,if_pos rfl] at hs;have Pf:=XR h;simp only [h] at HP;obtain ⟨Au,hyR,q1,JF,hRs,ac3⟩:=aH R y.size s.size hs hys Pf;have HO:=ae (C8.out Au);clear C8 C9 Ft Au;have qj:=fun (u:World)=>ae (Fu (s.extract 0 R) u (Nat.le_trans (Fv s 0 R) hz));obtain ⟨x,hx1⟩:∃x,x=s.extract 0 R:=⟨_,rfl⟩;have hsl:s.extract 0 R=x:=hx1.symm;simp only [<- hx1] at qj HO;clear hs hy h hRk hys Pf hx1;go_wp2_with fail;refine Calls.mono (show Calls _ _ _ _ _ from (HP _).out) ?_;rintro e u ⟨rfl,rfl⟩;go_wp2_with fail;refine (qj _).out.mono ?_;rintro e uc ⟨rfl,hbc⟩;have A9:=(An.start w).on hbc;clear hbc;obtain ⟨W2,aY,hth,z5,z6,z7,z8,hbl⟩:=(A9).put (.int .i64 6) (.string x) (.int .i64 0) (.int .i64 0);have HW2:=ae aY;have az:=ae hth;have ck:=ae hbl;clear aY hth hbl;clear A9;go_wp2_with (refine wpList_store_mid rfl 47 (.tmp 2) (.tmp 88) rfl w.heap.size 0 #[.int .i64 6,.string x,.int .i64 0,.int .i64 0] rfl rfl az.out fB (by simp [Value.oneCell']) ?_;rw [HW2.out])
    first|(show Exit.noGoto (bodyPost _ _ _) _ _ _;rw [Exit.noGoto_ret])|skip
    refine bodyPost_ret (v:=.tuple #[.agg #[.int .i64 6,.string x,.int .i64 0,.int .i64 0],.int .i64 (R:Nat),.int .i64 0]) (by simp [results,Tryz.results57,go_sem,z5,z6,z7,z8]) rfl ⟨congrArg _ HO.out.symm,ck.out⟩
   | false =>
    rw [h,if_neg (by decide)] at hs;simp only [h] at HP;have HS:=ae hs;clear hs hy h hRk C8 C9 Ft hys;go_wp2_with fail;refine Calls.mono (show Calls _ _ _ _ _ from (HP _).out) ?_;rintro e u ⟨rfl,rfl⟩;go_wp2
    go_round
    case rel=>exact ⟨rfl,rfl,k+1,by first|rfl|(congr 1),by omega,ae HS.out.symm⟩
    case measure=>simp;omega
  ·have q3:decide ((k:Int)<14)=false:=decide_eq_false (by omega);have hs:R=0:=by rw [<- hRk.out,List.drop_eq_nil_of_le (show signs.length<=k by rw [JE];omega)];rfl
   have HO:=ae (C9.out hs);clear hRk hs C8 C9 Ft;go_wp2
   first|(show Exit.noGoto (bodyPost _ _ _) _ _ _;rw [Exit.noGoto_ret])|skip
   refine bodyPost_ret (v:=.tuple #[.agg #[.int .i64 0,.string ⟨#[]⟩,.int .i64 0,.int .i64 0],.int .i64 0,.int .i64 110]) (by simp [results,Tryz.results57,go_sem]) rfl ⟨congrArg _ HO.out.symm,wH w⟩
theorem XS (s:ByteArray) (hi:0<s.size) (h63:s.size<4611686018427387904) (hz:s.size<=281474976710656) (w:World) (fC:WL w):Calls Tryz.prog 57 #[.string s] w fun e w'=>e=.returned (gp 0 (one s 0))/\Below w.heap.size w w':=by
 cases h1:sm (bt s 0) with
 | true=>exact XT s hi h63 hz w fC h1
 | false =>
  cases h2:cp (bt s 0) with
  | true=>exact XU s hi h63 hz w fC h2
  | false =>
   by_cases h3:bt s 0=39
   ·exact XV s hi h63 hz w fC h3
   ·by_cases h4:bt s 0=126
    ·exact XW s hi h63 hz w fC h4
    ·cases h5:dg (bt s 0) with
     | true=>exact XX s hi h63 hz w fC h5
     | false=>exact XK s hi h63 hz w fC h1 h2 h3 h4 h5
end Go.Proofs.YtkdbgopgjbfhbaaGreatDoor
namespace Go.Proofs.YtkdbgopgjbfhbaaGreatDoor
open Go.RowKit Go.Shelf Lx
set_option linter.unusedVariables false
abbrev J8 (B b:Nat) (l:List UInt8) (w:World):Prop:=Lib.IsBuilder 170 5 B b (Lib.byteCells l) w
namespace Lx
def TP (w : World) : Prop := Lib.TabIs Tryz.prog w "internal/strconv.uint64pow10" .u64 Lib.pow10Tab
end Lx
end Go.Proofs.YtkdbgopgjbfhbaaGreatDoor
namespace Go.Proofs.YtkdbgopgjbfhbaaGreatDoor
open Go.RowKit Lx
set_option linter.unusedVariables false
namespace Lx
end Lx
namespace Lx
theorem aR {a b n:Nat} (h:a+b<=n) (hn:n<=8192):wrap64 ((a:Int)+(b:Int))=((a+b:Nat):Int)/\(a:Int)+(b:Int)=((a+b:Nat):Int):=by
 unfold wrap64;omega
theorem aV {n m:Nat} (h:m<=n) (hn:n<=8192):wrap64 (m:Int)=(m:Int):=by unfold wrap64;omega
theorem aS2 {n i f g e p:Nat} (h:n<=i+f) (hg:f=g+1) (h1:e<=p) (h2:i<e):n<=p+g:=by omega
end Lx
namespace Lx
theorem Ry (s:ByteArray):∀(f i:Nat) (acc:List Tk),acc.length<=4096->(lI s f i acc).1.length<=4096
 | 0,i,acc,h=>h
 | f+1,i,acc,h=>by
  rw [lI];split
  ·split
   ·exact Nat.zero_le _
   ·split
    ·exact Nat.zero_le _
    ·exact Ry s f _ _ (by rw [List.length_append];simp;omega)
  ·exact h
theorem Rz (s:ByteArray):(lx s).1.length<=4096:=by
 unfold lx;split
 ·exact Nat.zero_le _
 ·exact Ry s _ _ _ (by simp)
end Lx
namespace Lx
theorem TP.on {w w':World} (h:TP w) (hb:Below w.heap.size w w'):TP w':=Go.Joins.var_stays (P:=Tryz.prog) (g:=9) (by kernel_rfl) h hb (Nat.le_refl _)
end Lx
theorem J8.on {B b:Nat} {l:List UInt8} {w w':World} (h:J8 B b l w) (hb:Below w.heap.size w w'):J8 B b l w':=by
 have key:∀ {p:Value},Lib.BuilderAt 170 5 B b p (Lib.byteCells l) w->Lib.BuilderAt 170 5 B b p (Lib.byteCells l) w':=by
  rintro p ⟨hB,v,hbk,hown,hne⟩;refine ⟨hB,v,by rw [hb.block b (Array.getElem?_eq_some_iff.1 hbk).1];exact hbk,⟨hown.1,?_⟩,hne⟩;rcases hown.2 with h2|⟨g,cap,cur,h1,h2,hg,h3⟩
  ·exact .inl h2
  ·exact .inr ⟨g,cap,cur,h1,h2,by rw [hb.block g (Array.getElem?_eq_some_iff.1 hg).1];exact hg,h3⟩
 exact h.elim (fun x=>.inl (key x)) (fun x=>.inr (key x))
namespace Lx
def gdK (t:Tk):Bool:=mJ t.k t.x t.n
theorem Jh {s:ByteArray} {b:Bool} (h:wd s b=true):s.size<=32:=(NS.1 h).2.1
theorem Te {s:ByteArray} {m:Nat}:∀ {l:List ByteArray},(∀x ∈ l,x.size<=m)->dG s l=true->s.size<=m:=fun hl h=>hl s (NU h)
theorem WT {s:ByteArray} (h:dG s keys=true):s.size<=33:=Te (by intro x hx;simp only [keys,List.mem_cons,List.not_mem_nil,or_false] at hx;rcases hx with rfl|rfl|rfl|rfl|rfl|rfl|rfl|rfl|rfl|rfl|rfl|rfl<;>decide) h
theorem WU {s:ByteArray} (h:dG s signs=true):s.size<=33:=Te (by intro x hx;simp only [signs,sM,oM,List.cons_append,List.nil_append,List.mem_cons,List.not_mem_nil,or_false] at hx;rcases hx with rfl|rfl|rfl|rfl|rfl|rfl|rfl|rfl|rfl|rfl|rfl|rfl|rfl|rfl<;>decide) h
end Lx
end Go.Proofs.YtkdbgopgjbfhbaaGreatDoor
namespace Go.Proofs.YtkdbgopgjbfhbaaGreatDoor
open Go.RowKit
set_option linter.unusedVariables false
namespace Lx
theorem Ru (s:ByteArray) (a b i:Nat) (hb:b<=s.size) (h:a+i<b):bt (s.extract a b) i=bt s (a+i):=by
 unfold bt;rw [dif_pos (by rw [ByteArray.size_extract];omega),dif_pos (by omega)];simp [ByteArray.getElem_extract]
theorem KD (s:ByteArray) (i e:Nat) (low:Bool) (hi:i<e) (he:e<=s.size) (h32:e-i<=32) (hp:∀j,i<=j->j<e->pt (bt s j)=true) (h0:(if low=true then sm (bt s i) else cp (bt s i))=true):wd (s.extract i e) low=true:=by
 have hz:(s.extract i e).size=e-i:=by rw [ByteArray.size_extract];omega
 rw [NS,hz,Ru s i e 0 he (by omega)];refine ⟨by omega,h32,h0,O2 _ pt (by omega) (by omega) (fun j h1 h2=>?_) (fun h=>by omega)⟩;rw [Ru s i e j he (by omega)];exact hp (i+j) (by omega) (by omega)
theorem Rv {s:ByteArray} {i:Nat} (h:bt s i≠0):i<s.size:=by
 unfold bt at h;split at h
 ·assumption
 ·exact absurd rfl h
theorem Rw {c:Int} (h:sm c=true):c≠0:=by unfold sm at h;rw [Bool.and_eq_true,decide_eq_true_eq,decide_eq_true_eq] at h;omega
theorem aaA {c:Int} (h:cp c=true):c≠0:=by unfold cp at h;rw [Bool.and_eq_true,decide_eq_true_eq,decide_eq_true_eq] at h;omega
theorem aaB {s:ByteArray} {i:Nat} {k:Int} {x:ByteArray} {n:Int} {e:Nat} (h:one s i=.ok (k,x,n,e)):mJ k x n=true:=by
 unfold one at h;split at h
 ·rename_i hc;have hi:i<s.size:=Rv (by rcases hc with hc|hc;exact Rw hc;exact aaA hc)
  have hp:pt (bt s i)=true:=by rcases hc with hc|hc;exact IZ hc;exact NI hc
  split at h
  ·cases h
  ·rename_i h32;injection h with h;injection h with hk h;injection h with hx h;injection h with hn he;have hie:i<en s pt i:=by rw [Cm s pt hi hp];exact sK s pt (i+1)
   have hle:=kJ s pt (Nat.le_of_lt hi);have hal:∀j,i<=j->j<en s pt i->pt (bt s j)=true:=fun j h1 h2=>p9 s pt h1 h2;subst hx hn;by_cases hcp:cp (bt s i)=true
   ·rw [if_pos hcp] at hk;subst hk;unfold mJ;rw [if_neg (by simp),if_neg (by decide),if_pos rfl];exact KD s i _ false hie hle (by omega) hal (by simpa using hcp)
   ·rw [if_neg hcp] at hk;have hsm:sm (bt s i)=true:=by rcases hc with hc|hc;exact hc;exact absurd hc hcp
    by_cases h5:dG (s.extract i (en s pt i)) keys=true
    ·rw [if_pos h5] at hk;subst hk;unfold mJ;rw [if_neg (by simp),if_neg (by decide),if_neg (by decide),if_neg (by decide),if_neg (by decide),if_pos rfl];exact h5
    ·rw [if_neg h5] at hk;subst hk;unfold mJ;rw [if_neg (by simp),if_pos rfl,KD s i _ true hie hle (by omega) hal (by simpa using hsm)];cases h6:dG (s.extract i (en s pt i)) keys with
     | true=>exact absurd h6 h5
     | false=>rfl
 ·split at h
  ·split at h
   ·cases h
   ·rename_i hn;split at h
    ·cases h
    ·rename_i h32;injection h with h;injection h with hk h;injection h with hx h;injection h with hn' he
     have hsm:sm (bt s (i+1))=true:=by
      cases hs:sm (bt s (i+1)) with
      | true=>rfl
      | false=>exact absurd (.inr hs) hn
     have hi:i+1<s.size:=Rv (Rw hsm);have hie:i+1<en s pt (i+1):=by rw [Cm s pt hi (IZ hsm)];exact sK s pt (i+1+1)
     have hle:=kJ s pt (Nat.le_of_lt hi);subst hx hn' hk;unfold mJ;rw [if_neg (by simp),if_neg (by decide),if_neg (by decide),if_pos rfl];exact KD s (i+1) _ true hie hle (by omega) (fun j h1 h2=>p9 s pt h1 h2) (by simpa using hsm)
  ·split at h
   ·split at h
    ·rename_i n' e' aaC;injection h with h;injection h with hk h;injection h with hx h;injection h with hn he;subst hk hx hn;unfold mJ;rw [if_neg (by simp),if_neg (by decide),if_neg (by decide),if_neg (by decide),if_pos rfl,VQ aaC];rfl
    ·cases h
   ·split at h
    ·rename_i hc;injection h with h;injection h with hk h;injection h with hx h;injection h with hn he;subst hk hx hn;unfold mJ;rw [if_neg (by simp),if_neg (by decide),if_neg (by decide),if_neg (by decide),if_neg (by decide),if_neg (by decide),if_pos rfl];exact hc.2
    ·split at h
     ·rename_i hc;injection h with h;injection h with hk h;injection h with hx h;injection h with hn he;subst hk hx hn;unfold mJ;rw [if_neg (by simp),if_neg (by decide),if_neg (by decide),if_neg (by decide),if_neg (by decide),if_neg (by decide),if_pos rfl];exact hc.2
     ·cases h
def GK (L:List Tk):Prop:=∀t ∈ L,gdK t=true
theorem Rx (s:ByteArray):∀(f i:Nat) (acc:List Tk),GK acc->GK (lI s f i acc).1
 | 0,i,acc,h=>h
 | f+1,i,acc,h=>by
  unfold lI;split
  ·split
   ·exact fun t ht=>by cases ht
   ·rename_i k x n e ho;split
    ·exact fun t ht=>by cases ht
    ·refine Rx s f _ _ (fun t ht=>?_);rcases List.mem_append.1 ht with ht|ht
     ·exact h t ht
     ·rw [List.mem_singleton.1 ht];exact aaB ho
  ·exact h
theorem Xa (s:ByteArray):GK (lx s).1:=by
 unfold lx;split
 ·exact fun t ht=>by cases ht
 ·exact Rx s _ _ _ (fun t ht=>by cases ht)
end Lx
namespace Ints
def wr (n:Int):Int:=(n+1073741824)%2147483648-1073741824
theorem NW (n:Int):(wr n=n)↔(-1073741824<=n/\n<=1073741823):=by unfold wr;omega
def Cy:List ByteArray:=[⟨#[]⟩,⟨#[43]⟩,⟨#[45]⟩,⟨#[42]⟩,⟨#[47]⟩,⟨#[37]⟩,⟨#[60]⟩,⟨#[61,61]⟩]
def Fe (s:ByteArray):Nat->Nat->Int
 | 0,_=>0
 | f+1,k=>if Cy.getD k ⟨#[]⟩=s then (k:Int) else Fe s f (k+1)
def aaz (s:ByteArray):Int:=Fe s 7 1
def WI (w:World):Prop:=∀k,k<8->w.cell? ⟨4,k,none⟩=some (.string (Cy.getD k ⟨#[]⟩))
end Ints
end Go.Proofs.YtkdbgopgjbfhbaaGreatDoor
namespace Go.Proofs.YtkdbgopgjbfhbaaGreatDoor
open Go.RowKit Lx Pz bw
set_option linter.unusedVariables false
set_option maxRecDepth 100000
set_option maxHeartbeats 32000000
namespace Pz
def wG:Value->ByteArray
 | .agg c=>match (c:Array Value)[1]? with
  | some (Value.string x)=>x
  | _=>e0
 | _=>e0
def Fb:Value->ByteArray
 | .agg c=>match (c:Array Value)[2]? with
  | some (Value.string x)=>x
  | _=>e0
 | _=>e0
def uE:Value->Int
 | .agg c=>match (c:Array Value)[3]? with
  | some (Value.int _ a)=>a
  | _=>0
 | _=>0
section
variable (k:Int) (x y:ByteArray) (n:Int) (es ps:List Value) (a:Int)
end
def eP (k:Int) (x:ByteArray):Bool:=if k=0 then decide (x=e0) else if k=6 then decide (Ints.aaz x≠0) else mJ k x 0
def Ao (nk:Int) (nm:Bool) (ar:Int) (x:ByteArray) (n:Int) (m:Nat):Bool:=eP nk x && ((decide ((m:Int)=ar) || decide (ar=-1)) && (decide (n=0) || (nm && ez n)))
def nkT (k:Int):Int:=if k=2 then 3 else if k=4 then 1 else 0
def arT (k:Int):Int:=if k=3 then 2 else if k=4 then -1 else 0
def nkP (k:Int):Int:=if k=2 then 1 else if k=4 then 2 else 0
def arP (k:Int):Int:=if k=4 then -1 else 0
def nkE (k:Int):Int:=if k=1\/k=3\/k=5\/k=6 then 1 else if k=8 then 2 else if k=9 then 6 else 0
def pkE (k:Int):Int:=if k=6 then 1 else 0
def arE (k:Int):Int:=if k=3\/k=10 then 1 else if k=4\/k=5\/k=6\/k=9 then 2 else if k=7 then -2 else if k=8 then -1 else 0
def uG (t:Value):Bool:=decide (1<=jF t/\jF t<5) && (!(jF t == 4 && decide (wG t=tL)) && Ao (nkT (jF t)) false (arT (jF t)) (wG t) (uE t) (dD t).length)
def uH (t:Value):Bool:=decide (1<=jF t/\jF t<5) && Ao (nkP (jF t)) (jF t == 3) (arP (jF t)) (wG t) (uE t) (dD t).length
def lX (t:Value):Bool:=decide (1<=jF t/\jF t<11) && ((jF t == 7 || decide ((gD t).length=0)) && (Ao (nkE (jF t)) (jF t == 2) (if (gD t).length=0 then arE (jF t) else ((gD t).length:Int)+1) (wG t) (uE t) (dD t).length && eP (pkE (jF t)) (Fb t)))
def yu:Nat->Value->Bool
 | 0,_=>false
 | d+1,t=>uG t && (dD t).all (yu d)
def yw:Nat->Value->Bool
 | 0,_=>false
 | d+1,t=>uH t && (dD t).all (yw d)
def yx:Nat->Value->Bool
 | 0,_=>false
 | d+1,t=>lX t && ((dD t).all (yx d) && (gD t).all (yw d))
def sU:Value->ByteArray
 | .agg c=>match (c:Array Value)[0]? with
  | some (Value.string x)=>x
  | _=>e0
 | _=>e0
def qd:Value->ByteArray
 | .string x=>x
 | _=>e0
def CE (m:Nat) (c:Value):Bool:=eP 2 (sU c) && (oJ c).all (yu m)
def CF (m:Nat) (d:Value):Bool:=eP 1 (sU d) && ((p8 d).all (fun p=>eP 3 (qd p)) && (decide (0<(kH d).length) && (kH d).all (CE m)))
def Jk (m:Nat) (ds:List Value) (e:Value):Bool:=ds.all (CF m) && yx m e
def GT (t:Value):Prop:=∀m,lN m t=false->yu m t=true
def GP (t:Value):Prop:=∀m,jq m [t]=false->yw m t=true
def GE (t:Value):Prop:=∀m,mU m t=false->yx m t=true
theorem xI {α:Type} {f:α->Bool} {l:List α} (h:l.any f=false) {x:α} (hx:x ∈ l):f x=false:=by
 cases hf:f x with
 | false=>rfl
 | true=>rw [List.any_eq_true.2 ⟨x,hx,hf⟩] at h;cases h
theorem SN {m:Nat} {l:List Value} (h:jq m l=false) {x:Value} (hx:x ∈ l):jq m [x]=false:=by
 cases m with
 | zero=>exact absurd (xI (f:=fun _=>true) h hx) (by simp)
 | succ m =>
  have:=xI (f:=fun t=>jq m (dD t)) h hx
  show ([x].any fun t=>jq m (dD t))=false;rw [List.any_cons,this];rfl
theorem GT.mk {t:Value} (h:uG t=true) (ha:∀x ∈ dD t,GT x):GT t:=fun m hm=>by
 cases m with
 | zero=>cases hm
 | succ m =>
  show (uG t && (dD t).all (yu m))=true;rw [h,Bool.true_and,List.all_eq_true];exact fun x hx=>ha x hx m (xI (f:=lN m) hm hx)
theorem GP.mk {t:Value} (h:uH t=true) (ha:∀x ∈ dD t,GP x):GP t:=fun m hm=>by
 cases m with
 | zero=>cases hm
 | succ m =>
  have hm':jq m (dD t)=false:=xI (f:=fun t=>jq m (dD t)) (l:=[t]) hm (List.Mem.head _);show (uH t && (dD t).all (yw m))=true;rw [h,Bool.true_and,List.all_eq_true];exact fun x hx=>ha x hx m (SN hm' hx)
theorem GE.mk {t:Value} (h:lX t=true) (ha:∀x ∈ dD t,GE x) (hp:∀x ∈ gD t,GP x):GE t:=fun m hm=>by
 cases m with
 | zero=>cases hm
 | succ m =>
  have hm':((dD t).any (mU m) || jq m (gD t))=false:=hm;rw [Bool.or_eq_false_iff] at hm';show (lX t && ((dD t).all (yx m) && (gD t).all (yw m)))=true;rw [h,Bool.true_and,Bool.and_eq_true,List.all_eq_true,List.all_eq_true];exact ⟨fun x hx=>ha x hx m (xI hm'.1 hx),fun x hx=>hp x hx m (SN hm'.2 hx)⟩
-- tokens
section
variable {L:List Tk} {en:Int} (hG:GK L)
theorem Lr (hG:GK L) {i:Nat} (h:(tk L en i).k≠0):mJ (tk L en i).k (tk L en i).x (tk L en i).n=true:=by
 have hi:=I4 L en h;obtain ⟨t,ht⟩:∃t,L[i]?=some t:=⟨_,List.getElem?_eq_getElem hi⟩;rw [Kk L en ht];exact hG t (List.mem_of_getElem? ht)
theorem abY (hG:GK L) {i:Nat} (h4:(tk L en i).k≠4) (h:(tk L en i).k≠0):(tk L en i).n=0:=by
 have:=Lr hG h
 unfold mJ at this;by_cases hn:(tk L en i).n=0
 ·exact hn
 ·rw [if_pos ⟨h4,hn⟩] at this;cases this
theorem mq (hG:GK L) {i:Nat} {K:Int} (hk:(tk L en i).k=K) (h4:K≠4) (h6:K≠6) (h0:K≠0):eP K (tk L en i).x=true:=by
 have h:=Lr hG (i:=i) (en:=en) (by rw [hk];exact h0);rw [abY hG (by rw [hk];exact h4) (by rw [hk];exact h0),hk] at h;unfold eP;rw [if_neg h0,if_neg h6];exact h
theorem SQ (hG:GK L) {i:Nat} (hk:(tk L en i).k=4):ez (tk L en i).n=true:=by
 have h:=Lr hG (i:=i) (en:=en) (by rw [hk];decide);rw [hk] at h;unfold mJ at h;rw [if_neg (by simp),if_neg (by decide),if_neg (by decide),if_neg (by decide),if_pos rfl,Bool.and_eq_true] at h;exact h.2
end
-- heads
theorem abZ:eP 0 e0=true:=rfl
theorem ab0 (h:eP 0 e0=true:=abZ):uG (nd 1 e0 e0 0 [] [] 0)=true:=by decide
theorem ab1 {x:ByteArray} (h:eP 3 x=true):uG (nd 2 x e0 0 [] [] 0)=true:=by
 show (true && ((!(false && _)) && (eP 3 x && _)))=true;rw [h];rfl
theorem ab2 {t u:Value}:uG (nd 3 e0 e0 0 [t,u] [] 0)=true:=rfl
theorem SR {x:ByteArray} {ts:List Value} (h:eP 1 x=true) (hx:x≠tL):uG (nd 4 x e0 0 ts [] 0)=true:=by
 show (true && ((!(true && decide (x=tL))) && (eP 1 x && ((_ || true) && (true || _)))))=true;rw [h,decide_eq_false hx];simp
theorem ab3 (a:Int):uH (nd 1 e0 e0 0 [] [] a)=true:=rfl
theorem ab4 {x:ByteArray} (a:Int) (h:eP 1 x=true):uH (nd 2 x e0 0 [] [] a)=true:=by
 show (true && (eP 1 x && _))=true;rw [h];rfl
theorem ab5 {n:Int} (a:Int) (h:ez n=true):uH (nd 3 e0 e0 n [] [] a)=true:=by
 show (true && (true && (true && (_ || (true && ez n)))))=true;rw [h];simp
theorem Eh {x:ByteArray} {ts:List Value} (a:Int) (h:eP 2 x=true):uH (nd 4 x e0 0 ts [] a)=true:=by
 show (true && (eP 2 x && ((_ || true) && (true || _))))=true;rw [h];simp
theorem ab6 {x:ByteArray} (a:Int) (h:eP 1 x=true):lX (nd 1 x e0 0 [] [] a)=true:=by
 show (true && (true && ((eP 1 x && _) && _)))=true;rw [h];rfl
theorem ab7 {n:Int} (a:Int) (h:ez n=true):lX (nd 2 e0 e0 n [] [] a)=true:=by
 show (true && (true && ((true && (true && (_ || (true && ez n)))) && true)))=true;rw [h];simp
theorem ab8 {x:ByteArray} {e:Value} (a:Int) (h:eP 1 x=true):lX (nd 3 x e0 0 [e] [] a)=true:=by
 show (true && (true && ((eP 1 x && _) && _)))=true;rw [h];rfl
theorem ab9 {e f:Value} (a:Int):lX (nd 4 e0 e0 0 [e,f] [] a)=true:=rfl
theorem aca {x:ByteArray} {e f:Value} (a:Int) (h:eP 1 x=true):lX (nd 5 x e0 0 [e,f] [] a)=true:=by
 show (true && (true && ((eP 1 x && _) && _)))=true;rw [h];rfl
theorem acb {x y:ByteArray} {e f:Value} (a:Int) (h:eP 1 x=true) (hy:eP 1 y=true):lX (nd 6 x y 0 [e,f] [] a)=true:=by
 show (true && (true && ((eP 1 x && _) && eP 1 y)))=true;rw [h,hy];rfl
theorem Ls {es ps:List Value} (a:Int) (h:es.length=ps.length+1) (h0:ps.length≠0):lX (nd 7 e0 e0 0 es ps a)=true:=by
 show (true && (true && ((true && ((decide ((es.length:Int)=(if ps.length=0 then -2 else (ps.length:Int)+1)) || _) && true)) && true)))=true;rw [if_neg h0,h,decide_eq_true (by omega)];simp
theorem SS {x:ByteArray} {es:List Value} (a:Int) (h:eP 2 x=true):lX (nd 8 x e0 0 es [] a)=true:=by
 show (true && (true && ((eP 2 x && ((_ || true) && (true || _))) && true)))=true;rw [h];simp
theorem acd {x:ByteArray} {e f:Value} (a:Int) (h:eP 6 x=true):lX (nd 9 x e0 0 [e,f] [] a)=true:=by
 show (true && (true && ((eP 6 x && _) && _)))=true;rw [h];rfl
theorem ace {e:Value} (a:Int):lX (nd 10 e0 e0 0 [e] [] a)=true:=rfl
theorem gX {P:Value->Prop}:∀x ∈ ([]:List Value),P x:=fun x hx=>by cases hx
theorem mem1 {P:Value->Prop} {a:Value} (ha:P a):∀x ∈ [a],P x:=fun x hx=>by rw [List.mem_singleton.1 hx];exact ha
theorem mem2 {P:Value->Prop} {a b:Value} (ha:P a) (hb:P b):∀x ∈ [a,b],P x:=fun x hx=>by
 rcases List.mem_cons.1 hx with rfl|hx
 ·exact ha
 ·exact mem1 hb x hx
theorem mem3 {P:Value->Prop} {a b c:Value} (ha:P a) (hb:P b) (hc:P c):∀x ∈ [a,b,c],P x:=fun x hx=>by
 rcases List.mem_cons.1 hx with rfl|hx
 ·exact ha
 ·exact mem2 hb hc x hx
theorem Ei {P:Value->Prop} {l:List Value} {a:Value} (h:∀x ∈ l,P x) (ha:P a):∀x ∈ l++[a],P x:=fun x hx=>by
 rcases List.mem_append.1 hx with hx|hx
 ·exact h x hx
 ·exact mem1 ha x hx
end Pz
namespace Pz
def y8 (l:List Value):Prop:=∃d,nD d l
def za (c:Value):Prop:=y8 (oJ c)
def xc (c:Value):Prop:=(p8 c).length<=200/\(kH c).length<=200/\∀k ∈ kH c,za k
def mX (F:Value->Prop) (i:Nat) (l:List Value):Prop:=∀j x,j<i->l[j]?=some x->F x
theorem mX.zero (F:Value->Prop) (l:List Value):mX F 0 l:=fun j x hj=>absurd hj (Nat.not_lt_zero j)
theorem mX.step {F:Value->Prop} {i:Nat} {l:List Value} {x:Value} (h:mX F i l) (hx:l[i]?=some x) (hf:F x):mX F (i+1) l:=fun j y hj hy=>by
 by_cases hji:j<i
 ·exact h j y hji hy
 ·obtain rfl:j=i:=by omega
  rw [hx] at hy;injection hy with hy;subst hy;exact hf
theorem mX.all {F:Value->Prop} {i:Nat} {l:List Value} (h:mX F i l) (hi:l.length<=i):∀x ∈ l,F x:=fun x hx=>by
 obtain ⟨j,hj⟩:=List.getElem?_of_mem hx
 have:=(List.getElem?_eq_some_iff.1 hj).1
 exact h j x (by omega) hj
theorem acI {b o:Nat} {w:World} {t:Value} (h:nV 0 w b o t):∃x u z a,w.cell? ⟨b,o,none⟩=some (.string x)/\w.cell? ⟨b,o+1,none⟩=some u/\w.cell? ⟨b,o+2,none⟩=some z/\w.cell? ⟨b,o+3,none⟩=some (.int .i64 a)/\(∃oP cP,u=.slice oP (p8 t).length cP)/\oK 0 z (kH t) w:=by
 obtain ⟨hB,x,ps,cs,a,u,z,rfl,h1,h2,h3,h4,h5,h6⟩:=h;obtain ⟨oP,cP,rfl,_⟩:=bz h5;exact ⟨x,_,z,a,h1,h2,h3,h4,⟨oP,cP,rfl⟩,h6⟩
theorem acJ {b o:Nat} {w:World} {t:Value} (h:lD 0 w b o t):∃x u,w.cell? ⟨b,o,none⟩=some (.string x)/\w.cell? ⟨b,o+1,none⟩=some u/\iz 0 u (oJ t) w:=by
 obtain ⟨hB,x,ts,u,rfl,h1,h2,h3⟩:=h;exact ⟨x,u,h1,h2,h3⟩
def qM (l:List Value) (w:World) (e:Ending) (w':World):Prop:=∃b:Bool,e=.returned (.bool b)/\Below w.heap.size w w'/\(b=false->l.length<=200/\∀c ∈ l,xc c)
theorem qM.t {l:List Value} {w w':World} (h:Below w.heap.size w w'):qM l w (.returned (.bool true)) w':=⟨true,rfl,h,fun h=>by cases h⟩
theorem qM.f {l:List Value} {w w':World} (h:Below w.heap.size w w') (h1:l.length<=200) (h2:∀c ∈ l,xc c):qM l w (.returned (.bool false)) w':=⟨false,rfl,h,fun _=>⟨h1,h2⟩⟩
theorem Dn {i n:Nat} (h:i<n) (hn:n<=9223372036854775807):i<(wrap64 ((i:Int)+1)).toNat:=by rw [fO h hn];omega
end Pz
theorem aax (w:World) (l:List Value) (vl:Value) (h:iN 0 vl l w):Calls Tryz.prog 34 #[vl] w (qM l w):=by
 obtain ⟨oR,cR,rfl,hel⟩:=bz h;have HL:=ae h.1;have dB:=ae hel;clear h hel;by_cases hlen:200<l.length
 ·have q0:decide ((l.length:Int) > 200)=true:=decide_eq_true (by omega);clear dB;go_enter Tryz.func34,Tryz.ntmps34;go_wp2;go_ret;exact qM.t (Below.refl _ _)
 ·have q0:decide ((l.length:Int) > 200)=false:=decide_eq_false (by omega);have Jt:Hid (l.length<=200):=ae (by omega);clear hlen;go_enter Tryz.func34,Tryz.ntmps34;go_wp2_with fail;go_loopw [3,4] (fun cc aa wr=>∃(i:Nat) (c:Int),aa=.int .i64 i/\cc=.int .i64 c/\i<=l.length/\0<=c/\c<=20000/\Hid (mX xc i l)/\Hid (Below w.heap.size w wr)) (fun _ aa _=>match aa with | .int _ i=>l.length-i.toNat|_=>0)
  case atStart=>exact ⟨0,0,rfl,rfl,Nat.zero_le _,by omega,by omega,ae (mX.zero _ _),ae (Below.refl _ _)⟩
  case round =>
   obtain ⟨i,c,rfl,rfl,hi,hc1,hc2,HN,HB⟩:=hrel;clear q0;by_cases hp:i<l.length
   ·have q1:decide ((i:Int)<(l.length:Int))=true:=decide_eq_true (by omega);obtain ⟨t1,ht1⟩:∃t1,l[i]?=some t1:=⟨_,List.getElem?_eq_getElem hp⟩;obtain ⟨b,off,dh,hC⟩:=dB.out i t1 ht1;subst dh;obtain ⟨x,u,z,a,g0,g1,g2,g3,⟨oP,cP,rfl⟩,kN⟩:=acI hC;obtain ⟨oC,cC,rfl,Di⟩:=bz kN;have y1:=ag HB.out g1;have y2:=ag HB.out g2;have hw1:=fO hp HL.out;have xJ:Hid ((p8 t1).length<=200->(kH t1).length<=200->(∀k ∈ kH t1,za k)->mX xc (i+1) l):=ae (fun h1 h2 h3=>HN.out.step ht1 ⟨h1,h2,h3⟩);have Dj:=ae Di;have rT:=ae kN.1;generalize hpn:p8 t1=ps at *;generalize hcn:kH t1=cs at *;have G1:=ae g1;have G2:=ae g2;clear hC g0 g1 g2 g3 kN Di ht1 HN hpn hcn;by_cases hbc:200<cs.length
    ·have q2:decide ((cs.length:Int) > 200)=true:=decide_eq_true (by omega);clear xJ Dj;go_wp2;go_ret;exact qM.t HB.out
    have q2:decide ((cs.length:Int) > 200)=false:=decide_eq_false (by omega);by_cases hbp:200<ps.length
    ·have q3:decide ((ps.length:Int) > 200)=true:=decide_eq_true (by omega);clear xJ Dj;go_wp2;go_ret;exact qM.t HB.out
    have q3:decide ((ps.length:Int) > 200)=false:=decide_eq_false (by omega);have fV:=ae (fun (h3:∀k ∈ cs,za k)=>xJ.out (by omega) (by omega) h3);clear xJ;go_wp2_with fail;go_loopw [3,5] (fun cc aa wr=>∃(k:Nat) (c:Int),aa=.int .i64 k/\cc=.int .i64 c/\k<=cs.length/\0<=c/\c<=20000/\Hid (mX za k cs)/\Hid (Below w.heap.size w wr)) (fun _ aa _=>match aa with | .int _ i=>cs.length-i.toNat|_=>0)
    case atStart=>exact ⟨0,c,rfl,rfl,Nat.zero_le _,hc1,hc2,ae (mX.zero _ _),HB⟩
    case round =>
     clear q2 q3 y1 y2 hbc hbp HB hc1 hc2;obtain ⟨k,c2,rfl,rfl,hk,hc1,hc2,HN,HB⟩:=hrel;have y2:=ag HB.out G2.out;by_cases hpk:k<cs.length
     ·have q2:decide ((k:Int)<(cs.length:Int))=true:=decide_eq_true (by omega);obtain ⟨t2,ht2⟩:∃t2,cs[k]?=some t2:=⟨_,List.getElem?_eq_getElem hpk⟩;obtain ⟨b2,bL,uW,pJ⟩:=Dj.out k t2 ht2;subst uW;obtain ⟨x2,u2,k0,k1,rU⟩:=acJ pJ;obtain ⟨d,rU⟩:=rU;obtain ⟨oF,cF,rfl,TC⟩:=bz rU;have y4:=ag HB.out k1;have hw2:=fO hpk rT.out;have xJ:Hid (y8 (oJ t2)->mX za (k+1) cs):=ae (fun hf=>HN.out.step ht2 hf);have TD:=ae TC;have jD:=ae rU.1;generalize hfn:oJ t2=ts at *;have K1:=ae k1;clear pJ k0 k1 rU TC ht2 HN hfn;by_cases hbf:200<ts.length
      ·have q3:decide ((ts.length:Int) > 200)=true:=decide_eq_true (by omega);clear xJ TD fV;go_wp2;go_ret;exact qM.t HB.out
      have q3:decide ((ts.length:Int) > 200)=false:=decide_eq_false (by omega);have uj:=ae (fun (h:Fw d ts.length ts)=>xJ.out ⟨d,by omega,h⟩);clear xJ;go_wp2_with fail;go_loopw [3,6] (fun cc aa wr=>∃(j:Nat) (c:Int),aa=.int .i64 j/\cc=.int .i64 c/\j<=ts.length/\-1<=c/\c<=20000/\Hid (0<=c->Fw d j ts)/\Hid (Below w.heap.size w wr)) (fun _ aa _=>match aa with | .int _ i=>ts.length-i.toNat|_=>0)
      case atStart=>exact ⟨0,c2,rfl,rfl,Nat.zero_le _,by omega,hc2,ae (fun _=>Fw.zero _ _),HB⟩
      case round =>
       clear q3 y2 y4 hbf HB hc1 hc2;obtain ⟨j,c3,rfl,rfl,hj,hc1,hc2,HN,HB⟩:=hrel;have y2:=ag HB.out G2.out;have y4:=ag HB.out K1.out;by_cases jT:j<ts.length
       ·have q3:decide ((j:Int)<(ts.length:Int))=true:=decide_eq_true (by omega);by_cases hc:0<=c3
        ·have q4:decide (c3>=0)=true:=decide_eq_true hc;obtain ⟨t3,zJ⟩:∃t3,ts[j]?=some t3:=⟨_,List.getElem?_eq_getElem jT⟩;obtain ⟨b3,adH,hoF,nI⟩:=TD.out j t3 zJ;subst hoF;obtain ⟨d0,k3,x3,n3,u3,hd0,m0,m1,m2,m3,hV⟩:=Oe nI;have n0:=ag HB.out m0;have n1:=ag HB.out m1;have n2:=ag HB.out m2;have n3':=ag HB.out m3;have hw3:=fO jT jD.out;have bP:=ae (WC d0 wr t3 _ 0 c3 (hV.but (bF.of HB.out)) (by omega) hc hc2);rw [show ((0:Nat):Int)=0 by omega] at bP;have HST:=ae (fun (hf:few d0 t3)=>(HN.out hc).step zJ hd0 hf);clear nI m0 m1 m2 m3 zJ hV hd0 HN;go_wp2_with fail;refine Calls.mono (show Calls _ _ _ _ _ from bP.out) ?_;rintro e w3 ⟨r,rfl,hb3,hr1,hr2,hr3⟩;have aD:=ae (ax HB.out hb3);have rG:=ae (fun (h:0<=r)=>HST.out (hr3 h));clear hb3 hr3 bP HST n0 n1 n2 n3' y2 y4;go_wp2;go_roundw
         case rel=>exact ⟨j+1,r,by first|rfl|(congr 1),rfl,jT,hr1,hr2,rG,aD⟩
         case measure=>simp;exact Nat.sub_lt_sub_left jT (Dn jT jD.out)
        ·have q4:decide (c3>=0)=false:=decide_eq_false hc;have q5:decide (c3<0)=true:=decide_eq_true (by omega);clear HN uj;go_wp2;go_ret;exact qM.t HB.out
       ·have q3:decide ((j:Int)<(ts.length:Int))=false:=decide_eq_false (by omega);by_cases hc:0<=c3
        ·have q5:decide (c3<0)=false:=decide_eq_false (by omega);have bX:Hid (mX za (k+1) cs):=ae (uj.out ((HN.out hc).all (by omega)));clear HN uj;go_wp2;go_roundw
         case rel=>exact ⟨k+1,c3,by first|rfl|(congr 1),rfl,hpk,hc,hc2,bX,HB⟩
         case measure=>simp;exact Nat.sub_lt_sub_left hpk (Dn hpk rT.out)
        ·have q5:decide (c3<0)=true:=decide_eq_true (by omega);clear HN uj;go_wp2;go_ret;exact qM.t HB.out
     ·have q2:decide ((k:Int)<(cs.length:Int))=false:=decide_eq_false (by omega);have bX:Hid (mX xc (i+1) l):=ae (fV.out (HN.out.all (by omega)));clear HN fV;go_wp2;go_roundw
      case rel=>exact ⟨i+1,c2,by first|rfl|(congr 1),rfl,hp,hc1,hc2,bX,HB⟩
      case measure=>simp;exact Nat.sub_lt_sub_left hp (Dn hp HL.out)
   ·have q1:decide ((i:Int)<(l.length:Int))=false:=decide_eq_false (by omega);have HA:Hid (∀c ∈ l,xc c):=ae (HN.out.all (by omega));clear HN;go_wp2;go_ret;exact qM.f HB.out Jt.out HA.out
end Go.Proofs.YtkdbgopgjbfhbaaGreatDoor
