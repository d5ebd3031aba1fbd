/- Texts that the claim needs. -/
import Derived.Test.YtkdbgopgjbfhbaaGreatDoorQPS35
import Derived.Test.YtkdbgopgjbfhbaaGreatDoorQPS33
import Derived.Shelf.Lay
import Derived.Shelf.Strings.Count
import Derived.Shelf.Strings.Search3
import Derived.Shelf.Strings.Builder1
import Derived.Shelf.Strings.Builder2
import Derived.Shelf.Strconv.Itoa3
import Derived.Lib.AppendIntMem
import Derived.Test.YtkdbgopgjbfhbaaGreatDoorQPS5
import Derived.Test.YtkdbgopgjbfhbaaGreatDoorQPS6
import Derived.Lib.SmallJoins
import Derived.Test.YtkdbgopgjbfhbaaGreatDoorRows
import Derived.WalkKit
import Derived.WalkSpells
import Derived.WalkSmall
import Derived.BigQuiet
import Derived.Deep.QuietTactic
import Derived.Test.YtkdbgopgjbfhbaaGreatDoorQPS32
namespace Go.Proofs.YtkdbgopgjbfhbaaGreatDoor
open Go.RowKit Lx
set_option linter.unusedVariables false
set_option maxRecDepth 100000
set_option maxHeartbeats 8000000
theorem ZE (s:ByteArray) (hi:0<s.size) (h63:s.size<4611686018427387904) (hz:s.size<=281474976710656) (w:World) (fV:WL w) (hsm:sm (bt s 0)=false) (hcp:cp (bt s 0)=false) (iz:bt s 0≠39) (lv:bt s 0≠126) (kT:dg (bt s 0)=false):Calls Tryz.prog 57 #[.string s] w fun e w'=>e=.returned (bQ 0 (one s 0))/\Below w.heap.size w w':=by
 have hx:=fun (w:World)=>jI s hi w (P:=Tryz.prog) 9 Tryz.underlying9;have hc0:=uJ s 0;have fO:=fun (u:World)=>ae (gU (bt s 0) u);have iY:=fun (u:World)=>ae (wI (bt s 0) u);have dV:=fun (u:World)=>ae (zh (bt s 0) u);have hcv:IntKind.i32.wrap (bt s 0)=bt s 0:=by rw [IntKind.wrap_i32];omega
 have uK:wrap32 (bt s 0)=bt s 0:=by unfold wrap32;omega
 have lu:=lX w;have Y4:(bt s 0 == 126)=false:=beq_eq_false_iff_ne.2 lv;have Fz:(bt s 0 == 39)=false:=beq_eq_false_iff_ne.2 iz;simp only [kT] at fO;simp only [hsm] at iY;simp only [hcp] at dV;have hone:=ZF s hi hsm hcp iz lv kT;obtain ⟨R,hR⟩:∃R,R=fst s signs:=⟨_,rfl⟩;rw [<- hR] at hone;have st0:Hid (fst s (signs.drop 0)=R):=ae hR.symm;obtain ⟨KS,sZ⟩:∃KS:List Value,KS=signs.map Value.string:=⟨_,rfl⟩;have FL:Hid (∀k y,signs[k]?=some y->KS[k]?=some (Value.string y)):=ae (fun k y h=>by rw [sZ,List.getElem?_map,h];rfl);have yJ:KS.length=14:=by rw [sZ,List.length_map,J3]
 have iV:Hid ((Tryz.prog.info? 135).map (·.size)=some KS.length):=ae (by rw [yJ];exact ZG);have lZ:Hid ((wA w).rangeAt 2 0 KS):=ae (by rw [sZ];exact (fV.on (sV w)).signs);have tj:Hid ((w.alloc (.cells #[.int .i64 0,.string ⟨#[]⟩,.int .i64 0,.int .i64 0] 47)).rangeAt 2 0 KS):=lZ;have FM:=fun (y:ByteArray) (u:World)=>ae (ZH s y u);rw [hone];have Dw:Hid (R≠0->bQ 0 (if R=0 then .error 110 else .ok (6,s.extract 0 R,0,R))=.tuple #[.agg #[.int .i64 6,.string (s.extract 0 R),.int .i64 0,.int .i64 0],.int .i64 (R:Nat),.int .i64 0]):=ae fun h=>by rw [if_neg h];rfl
 have Dx:Hid (R=0->bQ 0 (if R=0 then .error 110 else .ok (6,s.extract 0 R,0,R))=.tuple #[.agg #[.int .i64 0,.string ⟨#[]⟩,.int .i64 0,.int .i64 0],.int .i64 0,.int .i64 110]):=ae fun h=>by rw [if_pos h];rfl
 generalize bQ 0 (if R=0 then .error 110 else .ok (6,s.extract 0 R,0,R))=OUT at Dw Dx ⊢;clear sZ yJ fV hR hone iz lv hc0;generalize bt s 0=c at *;go_enter Tryz.func57,Tryz.ntmps57;go_wp2_with fail
 go_step3
 go_wp2_with fail
 go_step3
 go_wp2_with fail;refine Calls.mono (show Calls _ _ _ _ _ from (fO _).out) ?_;rintro e u ⟨rfl,rfl⟩;go_wp2_with fail;refine Calls.mono (show Calls _ _ _ _ _ from (iY _).out) ?_;rintro e u ⟨rfl,rfl⟩;go_wp2_with fail;refine Calls.mono (show Calls _ _ _ _ _ from (dV _).out) ?_;rintro e u ⟨rfl,rfl⟩;go_wp2_with (refine wpList_load_mid rfl 135 (.global 2) rfl 2 0 rfl KS _ tj.out Tryz.underlying135 rfl iV.out ?_)
 go_loop [5,7,17] (fun k0 l0 a=>k0=.int .i64 0/\l0=.int .i64 0/\∃k:Nat,a=.int .i64 k/\k<=14/\Hid (fst s (signs.drop k)=R)) (fun _ _ a=>match a with | .int _ k=>14-k.toNat|_=>0)
 case atStart=>exact ⟨rfl,rfl,0,rfl,by omega,st0⟩
 case round =>
  obtain ⟨rfl,rfl,k,rfl,hk,hRk⟩:=hrel;clear st0;by_cases hp:k<14
  ·obtain ⟨q3,hw1⟩:=aI k hp;obtain ⟨y,hy⟩:∃y,signs[k]?=some y:=⟨_,List.getElem?_eq_getElem (by rw [J3];exact hp)⟩;have hidx:=fun (u:World)=>ZI KS k y (FL.out k y hy) hp u;have hs:=ZJ s signs k y hy;rw [hRk.out] at hs;have hys:=ZK y (List.mem_of_getElem? hy);have HP:=fun (u:World)=>FM y u;cases h:pfx s y with
   | true =>
    rw [h,if_pos rfl] at hs;have QJ:=ZL h;simp only [h] at HP;obtain ⟨wJ,hyR,q1,J4,hRs,aeM⟩:=aH R y.size s.size hs hys QJ;have HO:=ae (Dw.out wJ);clear Dw Dx FM wJ;have qo:=fun (u:World)=>ae (FN (s.extract 0 R) u (Nat.le_trans (FO s 0 R) hz));obtain ⟨x,hx1⟩:∃x,x=s.extract 0 R:=⟨_,rfl⟩;have hsl:s.extract 0 R=x:=hx1.symm;simp only [<- hx1] at qo HO;clear hs hy h hRk hys QJ hx1;go_wp2_with fail;refine Calls.mono (show Calls _ _ _ _ _ from (HP _).out) ?_;rintro e u ⟨rfl,rfl⟩;go_wp2_with fail;refine (qo _).out.mono ?_;rintro e uc ⟨rfl,hbc⟩;have A9:=(An.start w).on hbc;clear hbc;obtain ⟨W2,aC,hth,z5,z6,z7,z8,hbl⟩:=(A9).put (.int .i64 6) (.string x) (.int .i64 0) (.int .i64 0);have HW2:=ae aC;have ax:=ae hth;have bB:=ae hbl;clear aC hth hbl;clear A9;go_wp2_with (refine wpList_store_mid rfl 47 (.tmp 2) (.tmp 88) rfl w.heap.size 0 #[.int .i64 6,.string x,.int .i64 0,.int .i64 0] rfl rfl ax.out di (by simp [Value.oneCell']) ?_;rw [HW2.out])
    first|(show Exit.noGoto (bodyPost _ _ _) _ _ _;rw [Exit.noGoto_ret])|skip
    refine bodyPost_ret (v:=.tuple #[.agg #[.int .i64 6,.string x,.int .i64 0,.int .i64 0],.int .i64 (R:Nat),.int .i64 0]) (by simp [results,Tryz.results57,go_sem,z5,z6,z7,z8]) rfl ⟨congrArg _ HO.out.symm,bB.out⟩
   | false =>
    rw [h,if_neg (by decide)] at hs;simp only [h] at HP;have HS:=ae hs;clear hs hy h hRk Dw Dx FM hys;go_wp2_with fail;refine Calls.mono (show Calls _ _ _ _ _ from (HP _).out) ?_;rintro e u ⟨rfl,rfl⟩;go_wp2
    go_round
    case rel=>exact ⟨rfl,rfl,k+1,by first|rfl|(congr 1),by omega,ae HS.out.symm⟩
    case measure=>simp;omega
  ·have q3:decide ((k:Int)<14)=false:=decide_eq_false (by omega);have hs:R=0:=by rw [<- hRk.out,List.drop_eq_nil_of_le (show signs.length<=k by rw [J3];omega)];rfl
   have HO:=ae (Dx.out hs);clear hRk hs Dw Dx FM;go_wp2
   first|(show Exit.noGoto (bodyPost _ _ _) _ _ _;rw [Exit.noGoto_ret])|skip
   refine bodyPost_ret (v:=.tuple #[.agg #[.int .i64 0,.string ⟨#[]⟩,.int .i64 0,.int .i64 0],.int .i64 0,.int .i64 110]) (by simp [results,Tryz.results57,go_sem]) rfl ⟨congrArg _ HO.out.symm,sV w⟩
theorem ZM (s:ByteArray) (hi:0<s.size) (h63:s.size<4611686018427387904) (hz:s.size<=281474976710656) (w:World) (fV:WL w):Calls Tryz.prog 57 #[.string s] w fun e w'=>e=.returned (bQ 0 (one s 0))/\Below w.heap.size w w':=by
 cases h1:sm (bt s 0) with
 | true=>exact ZN s hi h63 hz w fV h1
 | false =>
  cases h2:cp (bt s 0) with
  | true=>exact ZO s hi h63 hz w fV h2
  | false =>
   by_cases h3:bt s 0=39
   ·exact ZP s hi h63 hz w fV h3
   ·by_cases h4:bt s 0=126
    ·exact ZQ s hi h63 hz w fV h4
    ·cases h5:dg (bt s 0) with
     | true=>exact ZR s hi h63 hz w fV h5
     | false=>exact ZE s hi h63 hz w fV h1 h2 h3 h4 h5
end Go.Proofs.YtkdbgopgjbfhbaaGreatDoor
namespace Go.Proofs.YtkdbgopgjbfhbaaGreatDoor
open Go.RowKit Go.Shelf Lx
set_option linter.unusedVariables false
abbrev Kv (B b:Nat) (l:List UInt8) (w:World):Prop:=Lib.IsBuilder 170 5 B b (Lib.byteCells l) w
namespace Lx
def TP (w : World) : Prop := Lib.TabIs Tryz.prog w "internal/strconv.uint64pow10" .u64 Lib.pow10Tab
end Lx
end Go.Proofs.YtkdbgopgjbfhbaaGreatDoor
namespace Go.Proofs.YtkdbgopgjbfhbaaGreatDoor
open Go.RowKit Lx
set_option linter.unusedVariables false
namespace Lx
theorem Tn {n:Int} (h:n<0):yH n=126 :: Lib.decDigits n.natAbs:=by unfold yH;rw [if_pos h]
theorem Tq {n:Int} (h:¬ n<0):yH n=Lib.decDigits n.toNat:=by unfold yH;rw [if_neg h]
end Lx
namespace Lx
theorem aR {a b n:Nat} (h:a+b<=n) (hn:n<=8192):wrap64 ((a:Int)+(b:Int))=((a+b:Nat):Int)/\(a:Int)+(b:Int)=((a+b:Nat):Int):=by
 unfold wrap64;omega
theorem aV {n m:Nat} (h:m<=n) (hn:n<=8192):wrap64 (m:Int)=(m:Int):=by unfold wrap64;omega
theorem aS2 {n i f g e p:Nat} (h:n<=i+f) (hg:f=g+1) (h1:e<=p) (h2:i<e):n<=p+g:=by omega
end Lx
namespace Lx
theorem Tf (s:ByteArray):∀(f i:Nat) (acc:List Tk),acc.length<=4096->(dP s f i acc).1.length<=4096
 | 0,i,acc,h=>h
 | f+1,i,acc,h=>by
  rw [dP];split
  ·split
   ·exact Nat.zero_le _
   ·split
    ·exact Nat.zero_le _
    ·exact Tf s f _ _ (by rw [List.length_append];simp;omega)
  ·exact h
theorem Tg (s:ByteArray):(lx s).1.length<=4096:=by
 unfold lx;split
 ·exact Nat.zero_le _
 ·exact Tf s _ _ _ (by simp)
end Lx
namespace Lx
theorem TP.on {w w':World} (h:TP w) (hb:Below w.heap.size w w'):TP w':=Go.Joins.var_stays (P:=Tryz.prog) (g:=9) (by kernel_rfl) h hb (Nat.le_refl _)
abbrev uA (k:Int) (x:ByteArray) (n a:Int):Value:=.agg #[.int .i64 k,.string x,.int .i64 n,.int .i64 a]
theorem sP {a b:Int} (h:a=b):(a == b)=true:=beq_iff_eq.2 h
theorem iW {a b:Int} (h:a≠b):(a == b)=false:=beq_eq_false_iff_ne.2 h
theorem tA (w:World) (k:Int) (x:ByteArray) (n a:Int) (t:TypeId):Below w.heap.size w (w.alloc (.cells #[.int .i64 k,.string x,.int .i64 n,.int .i64 a] t)):=(Below.refl _ w).alloc (Nat.le_refl _) _
theorem YL {s:ByteArray} (h:¬ s.size=0):s.toList.isEmpty=false:=by
 rw [ByteArray.toList_eq,List.isEmpty_eq_false_iff];intro e;exact h (by show s.data.size=0;rw [<- Array.length_toList,e];rfl)
end Lx
theorem Kv.on {B b:Nat} {l:List UInt8} {w w':World} (h:Kv B b l w) (hb:Below w.heap.size w w'):Kv B b l w':=by
 have key:∀ {p:Value},Lib.BuilderAt 170 5 B b p (Lib.byteCells l) w->Lib.BuilderAt 170 5 B b p (Lib.byteCells l) w':=by
  rintro p ⟨hB,v,hbk,hown,hne⟩;refine ⟨hB,v,by rw [hb.block b (Array.getElem?_eq_some_iff.1 hbk).1];exact hbk,⟨hown.1,?_⟩,hne⟩;rcases hown.2 with h2|⟨g,cap,cur,h1,h2,hg,h3⟩
  ·exact .inl h2
  ·exact .inr ⟨g,cap,cur,h1,h2,by rw [hb.block g (Array.getElem?_eq_some_iff.1 hg).1];exact hg,h3⟩
 exact h.elim (fun x=>.inl (key x)) (fun x=>.inr (key x))
namespace Lx
def lU (t:Tk):Bool:=dJ t.k t.x t.n
def fT (t:Tk):ByteArray:=iS t.k t.x t.n
def gu:List Tk->List UInt8
 | []=>[]
 | t :: l=>(fT t).data.toList++l.flatMap fun u=>32 :: (fT u).data.toList
theorem aea (t:Tk):∀(l:List Tk),gu (l++[t])=if l.length=0 then (fT t).data.toList else gu l++[32]++(fT t).data.toList
 | []=>by simp [gu]
 | u :: l=>by
  rw [if_neg (by simp),List.cons_append,gu,gu,List.flatMap_append];simp
theorem AX {s:ByteArray} {b:Bool} (h:wd s b=true):s.size<=32:=(wm.1 h).2.1
theorem Je {n:Int} (h:bV n=true):(nW n).size<=33:=by
 unfold bV at h;rw [Bool.and_eq_true,decide_eq_true_eq,decide_eq_true_eq] at h;unfold nW;rw [AJ];by_cases hn:n<0
 ·rw [Tn hn,List.length_cons]
  have:=AK 9 n.natAbs (by omega)
  omega
 ·rw [Tq hn]
  have:=AK 9 n.toNat (by omega)
  omega
theorem Vq {s:ByteArray} {m:Nat}:∀ {l:List ByteArray},(∀x ∈ l,x.size<=m)->bN s l=true->s.size<=m:=fun hl h=>hl s (Aq h)
theorem PW {s:ByteArray} (h:bN s keys=true):s.size<=33:=Vq (by intro x hx;simp only [keys,List.mem_cons,List.not_mem_nil,or_false] at hx;rcases hx with rfl|rfl|rfl|rfl|rfl|rfl|rfl|rfl|rfl|rfl|rfl|rfl<;>decide) h
theorem PX {s:ByteArray} (h:bN s signs=true):s.size<=33:=Vq (by intro x hx;simp only [signs,qV,nT,List.cons_append,List.nil_append,List.mem_cons,List.not_mem_nil,or_false] at hx;rcases hx with rfl|rfl|rfl|rfl|rfl|rfl|rfl|rfl|rfl|rfl|rfl|rfl|rfl|rfl<;>decide) h
theorem vZ {k:Int} {x:ByteArray} {n:Int} (h:dJ k x n=true):(iS k x n).size<=33:=by
 unfold dJ at h;unfold iS;split at h
 ·cases h
 ·split at h
  ·rename_i hk;subst hk;rw [Bool.and_eq_true] at h
   have:=AX h.1
   rw [if_neg (by decide),if_neg (by decide)];omega
  ·split at h
   ·rename_i hk;subst hk
    have:=AX h
    rw [if_neg (by decide),if_neg (by decide)];omega
   ·split at h
    ·rename_i hk;subst hk
     have:=AX h
     rw [if_pos rfl,yB];omega
    ·split at h
     ·rename_i hk;subst hk;rw [Bool.and_eq_true] at h;rw [if_neg (by decide),if_pos rfl];exact Je h.2
     ·split at h
      ·rename_i hk;subst hk;rw [if_neg (by decide),if_neg (by decide)];exact PW h
      ·split at h
       ·rename_i hk;subst hk;rw [if_neg (by decide),if_neg (by decide)];exact PX h
       ·cases h
theorem Jc (s:ByteArray):s.data.toList.length=s.size:=by rw [Array.length_toList];rfl
theorem Vr:∀(l:List Tk),(∀t ∈ l,lU t=true)->(l.flatMap fun u=>32 :: (fT u).data.toList).length<=34*l.length
 | [],_=>by simp
 | t :: l,h=>by
  rw [List.flatMap_cons,List.length_append,List.length_cons,List.length_cons,Jc];have h1:(fT t).size<=33:=vZ (h t (List.mem_cons_self ..));have h2:=Vr l fun u hu=>h u (List.mem_cons_of_mem _ hu);omega
theorem XS (l:List Tk) (h:∀t ∈ l,lU t=true):(gu l).length<=34*l.length:=by
 cases l with
 | nil=>simp [gu]
 | cons t l =>
  rw [gu,List.length_append,Jc,List.length_cons];have h1:(fT t).size<=33:=vZ (h t (List.mem_cons_self ..));have h2:=Vr l fun u hu=>h u (List.mem_cons_of_mem _ hu);omega
def txt (l:List Tk):ByteArray × Int :=
 if 4096<l.length then (⟨#[]⟩,3) else if l.all lU=false then (⟨#[]⟩,1) else if 8192<(gu l).length then (⟨#[]⟩,2) else (⟨(gu l).toArray⟩,0)
theorem XO {l:List Tk} (h4:¬ 4096<l.length) {i:Nat} {t:Tk} (h:l[i]?=some t) (hb:lU t=false):txt l=(⟨#[]⟩,1):=by
 unfold txt;rw [if_neg h4,if_pos];rw [List.all_eq_false];exact ⟨t,List.mem_of_getElem? h,by rw [hb];simp⟩
theorem Pj {l:List Tk} (h4:¬ 4096<l.length) (h:∀t ∈ l,lU t=true):txt l=if 8192<(gu l).length then (⟨#[]⟩,2) else (⟨(gu l).toArray⟩,0):=by
 unfold txt;rw [if_neg h4,if_neg];intro e;rw [List.all_eq_true.2 h] at e;cases e
def O4 (w:World) (R:ByteArray × Int) (e:Ending) (w':World):Prop:=e=.returned (.tuple #[.string R.1,.int .i64 R.2])/\Below w.heap.size w w'
theorem taken {l:List Tk} {k:Nat} (h:∀t ∈ l.take k,lU t=true) {t:Tk} (ht:l[k]?=some t) (hg:lU t=true):∀u ∈ l.take (k+1),lU u=true:=by
 rw [List.take_add_one,ht];intro u hu;rcases List.mem_append.1 hu with hu|hu
 ·exact h u hu
 ·simp at hu;subst hu;exact hg
theorem XR {l:List Tk} {k:Nat} {t:Tk} (ht:l[k]?=some t):gu (l.take (k+1))=if k=0 then (fT t).data.toList else gu (l.take k)++[32]++(fT t).data.toList:=by
 rw [List.take_add_one,ht];have hk:k<l.length:=(List.getElem?_eq_some_iff.1 ht).1
 have:(l.take k++(some t).toList)=l.take k++[t]:=rfl
 rw [this,aea,List.length_take,Nat.min_eq_left (by omega)]
end Lx
end Go.Proofs.YtkdbgopgjbfhbaaGreatDoor
namespace Go.Proofs.YtkdbgopgjbfhbaaGreatDoor
open Go.RowKit
set_option linter.unusedVariables false
namespace Lx
theorem Ta (s:ByteArray) (a b i:Nat) (hb:b<=s.size) (h:a+i<b):bt (s.extract a b) i=bt s (a+i):=by
 unfold bt;rw [dif_pos (by rw [ByteArray.size_extract];omega),dif_pos (by omega)];simp [ByteArray.getElem_extract]
theorem K7 (s:ByteArray) (i e:Nat) (low:Bool) (hi:i<e) (he:e<=s.size) (h32:e-i<=32) (hp:∀j,i<=j->j<e->pt (bt s j)=true) (h0:(if low=true then sm (bt s i) else cp (bt s i))=true):wd (s.extract i e) low=true:=by
 have hz:(s.extract i e).size=e-i:=by rw [ByteArray.size_extract];omega
 rw [wm,hz,Ta s i e 0 he (by omega)];refine ⟨by omega,h32,h0,CY _ pt (by omega) (by omega) (fun j h1 h2=>?_) (fun h=>by omega)⟩;rw [Ta s i e j he (by omega)];exact hp (i+j) (by omega) (by omega)
theorem Tc {s:ByteArray} {i:Nat} (h:bt s i≠0):i<s.size:=by
 unfold bt at h;split at h
 ·assumption
 ·exact absurd rfl h
theorem Td {c:Int} (h:sm c=true):c≠0:=by unfold sm at h;rw [Bool.and_eq_true,decide_eq_true_eq,decide_eq_true_eq] at h;omega
theorem ab4 {c:Int} (h:cp c=true):c≠0:=by unfold cp at h;rw [Bool.and_eq_true,decide_eq_true_eq,decide_eq_true_eq] at h;omega
theorem ab5 {s:ByteArray} {i:Nat} {k:Int} {x:ByteArray} {n:Int} {e:Nat} (h:one s i=.ok (k,x,n,e)):dJ k x n=true:=by
 unfold one at h;split at h
 ·rename_i hc;have hi:i<s.size:=Tc (by rcases hc with hc|hc;exact Td hc;exact ab4 hc)
  have hp:pt (bt s i)=true:=by rcases hc with hc|hc;exact yo hc;exact I2 hc
  split at h
  ·cases h
  ·rename_i h32;injection h with h;injection h with hk h;injection h with hx h;injection h with hn he;have hie:i<en s pt i:=by rw [oO s pt hi hp];exact mh s pt (i+1)
   have hle:=ji s pt (Nat.le_of_lt hi);have hal:∀j,i<=j->j<en s pt i->pt (bt s j)=true:=fun j h1 h2=>mR s pt h1 h2;subst hx hn;by_cases hcp:cp (bt s i)=true
   ·rw [if_pos hcp] at hk;subst hk;unfold dJ;rw [if_neg (by simp),if_neg (by decide),if_pos rfl];exact K7 s i _ false hie hle (by omega) hal (by simpa using hcp)
   ·rw [if_neg hcp] at hk;have hsm:sm (bt s i)=true:=by rcases hc with hc|hc;exact hc;exact absurd hc hcp
    by_cases h5:bN (s.extract i (en s pt i)) keys=true
    ·rw [if_pos h5] at hk;subst hk;unfold dJ;rw [if_neg (by simp),if_neg (by decide),if_neg (by decide),if_neg (by decide),if_neg (by decide),if_pos rfl];exact h5
    ·rw [if_neg h5] at hk;subst hk;unfold dJ;rw [if_neg (by simp),if_pos rfl,K7 s i _ true hie hle (by omega) hal (by simpa using hsm)];cases h6:bN (s.extract i (en s pt i)) keys with
     | true=>exact absurd h6 h5
     | false=>rfl
 ·split at h
  ·split at h
   ·cases h
   ·rename_i hn;split at h
    ·cases h
    ·rename_i h32;injection h with h;injection h with hk h;injection h with hx h;injection h with hn' he
     have hsm:sm (bt s (i+1))=true:=by
      cases hs:sm (bt s (i+1)) with
      | true=>rfl
      | false=>exact absurd (.inr hs) hn
     have hi:i+1<s.size:=Tc (Td hsm);have hie:i+1<en s pt (i+1):=by rw [oO s pt hi (yo hsm)];exact mh s pt (i+1+1)
     have hle:=ji s pt (Nat.le_of_lt hi);subst hx hn' hk;unfold dJ;rw [if_neg (by simp),if_neg (by decide),if_neg (by decide),if_pos rfl];exact K7 s (i+1) _ true hie hle (by omega) (fun j h1 h2=>mR s pt h1 h2) (by simpa using hsm)
  ·split at h
   ·split at h
    ·rename_i n' e' Bw;injection h with h;injection h with hk h;injection h with hx h;injection h with hn he;subst hk hx hn;unfold dJ;rw [if_neg (by simp),if_neg (by decide),if_neg (by decide),if_neg (by decide),if_pos rfl,Pk Bw];rfl
    ·cases h
   ·split at h
    ·rename_i hc;injection h with h;injection h with hk h;injection h with hx h;injection h with hn he;subst hk hx hn;unfold dJ;rw [if_neg (by simp),if_neg (by decide),if_neg (by decide),if_neg (by decide),if_neg (by decide),if_neg (by decide),if_pos rfl];exact hc.2
    ·split at h
     ·rename_i hc;injection h with h;injection h with hk h;injection h with hx h;injection h with hn he;subst hk hx hn;unfold dJ;rw [if_neg (by simp),if_neg (by decide),if_neg (by decide),if_neg (by decide),if_neg (by decide),if_neg (by decide),if_pos rfl];exact hc.2
     ·cases h
def GK (L:List Tk):Prop:=∀t ∈ L,lU t=true
theorem Te (s:ByteArray):∀(f i:Nat) (acc:List Tk),GK acc->GK (dP s f i acc).1
 | 0,i,acc,h=>h
 | f+1,i,acc,h=>by
  unfold dP;split
  ·split
   ·exact fun t ht=>by cases ht
   ·rename_i k x n e ho;split
    ·exact fun t ht=>by cases ht
    ·refine Te s f _ _ (fun t ht=>?_);rcases List.mem_append.1 ht with ht|ht
     ·exact h t ht
     ·rw [List.mem_singleton.1 ht];exact ab5 ho
  ·exact h
theorem Qa (s:ByteArray):GK (lx s).1:=by
 unfold lx;split
 ·exact fun t ht=>by cases ht
 ·exact Te s _ _ _ (fun t ht=>by cases ht)
end Lx
namespace Ints
def wr (n:Int):Int:=(n+1073741824)%2147483648-1073741824
theorem Pu (n:Int):(wr n=n)↔(-1073741824<=n/\n<=1073741823):=by unfold wr;omega
def C9:List ByteArray:=[⟨#[]⟩,⟨#[43]⟩,⟨#[45]⟩,⟨#[42]⟩,⟨#[47]⟩,⟨#[37]⟩,⟨#[60]⟩,⟨#[61,61]⟩]
def Fw (s:ByteArray):Nat->Nat->Int
 | 0,_=>0
 | f+1,k=>if C9.getD k ⟨#[]⟩=s then (k:Int) else Fw s f (k+1)
def ab3 (s:ByteArray):Int:=Fw s 7 1
def WI (w:World):Prop:=∀k,k<8->w.cell? ⟨4,k,none⟩=some (.string (C9.getD k ⟨#[]⟩))
end Ints
end Go.Proofs.YtkdbgopgjbfhbaaGreatDoor
namespace Go.Proofs.YtkdbgopgjbfhbaaGreatDoor
open Go.RowKit Lx Pz bb
set_option linter.unusedVariables false
set_option maxRecDepth 100000
set_option maxHeartbeats 8000000
namespace Pz
def wy:Value->ByteArray
 | .agg c=>match (c:Array Value)[1]? with
  | some (Value.string x)=>x
  | _=>e0
 | _=>e0
def Fu:Value->ByteArray
 | .agg c=>match (c:Array Value)[2]? with
  | some (Value.string x)=>x
  | _=>e0
 | _=>e0
def uB:Value->Int
 | .agg c=>match (c:Array Value)[3]? with
  | some (Value.int _ a)=>a
  | _=>0
 | _=>0
section
variable (k:Int) (x y:ByteArray) (n:Int) (es ps:List Value) (a:Int)
end
def eO (k:Int) (x:ByteArray):Bool:=if k=0 then decide (x=e0) else if k=6 then decide (Ints.ab3 x≠0) else dJ k x 0
def AY (nk:Int) (nm:Bool) (ar:Int) (x:ByteArray) (n:Int) (m:Nat):Bool:=eO nk x && ((decide ((m:Int)=ar) || decide (ar=-1)) && (decide (n=0) || (nm && bV n)))
def nkT (k:Int):Int:=if k=2 then 3 else if k=4 then 1 else 0
def arT (k:Int):Int:=if k=3 then 2 else if k=4 then -1 else 0
def nkP (k:Int):Int:=if k=2 then 1 else if k=4 then 2 else 0
def arP (k:Int):Int:=if k=4 then -1 else 0
def nkE (k:Int):Int:=if k=1\/k=3\/k=5\/k=6 then 1 else if k=8 then 2 else if k=9 then 6 else 0
def pkE (k:Int):Int:=if k=6 then 1 else 0
def arE (k:Int):Int:=if k=3\/k=10 then 1 else if k=4\/k=5\/k=6\/k=9 then 2 else if k=7 then -2 else if k=8 then -1 else 0
def uE (t:Value):Bool:=decide (1<=jG t/\jG t<5) && (!(jG t == 4 && decide (wy t=rX)) && AY (nkT (jG t)) false (arT (jG t)) (wy t) (uB t) (dw t).length)
def uF (t:Value):Bool:=decide (1<=jG t/\jG t<5) && AY (nkP (jG t)) (jG t == 3) (arP (jG t)) (wy t) (uB t) (dw t).length
def mq (t:Value):Bool:=decide (1<=jG t/\jG t<11) && ((jG t == 7 || decide ((iH t).length=0)) && (AY (nkE (jG t)) (jG t == 2) (if (iH t).length=0 then arE (jG t) else ((iH t).length:Int)+1) (wy t) (uB t) (dw t).length && eO (pkE (jG t)) (Fu t)))
def yN:Nat->Value->Bool
 | 0,_=>false
 | d+1,t=>uE t && (dw t).all (yN d)
def yO:Nat->Value->Bool
 | 0,_=>false
 | d+1,t=>uF t && (dw t).all (yO d)
def yP:Nat->Value->Bool
 | 0,_=>false
 | d+1,t=>mq t && ((dw t).all (yP d) && (iH t).all (yO d))
def wz:Value->ByteArray
 | .agg c=>match (c:Array Value)[0]? with
  | some (Value.string x)=>x
  | _=>e0
 | _=>e0
def wC:Value->ByteArray
 | .string x=>x
 | _=>e0
def Dc (m:Nat) (c:Value):Bool:=eO 2 (wz c) && (yh c).all (yN m)
def De (m:Nat) (d:Value):Bool:=eO 1 (wz d) && ((CG d).all (fun p=>eO 3 (wC p)) && (decide (0<(uh d).length) && (uh d).all (Dc m)))
def Jz (m:Nat) (ds:List Value) (e:Value):Bool:=ds.all (De m) && yP m e
def GT (t:Value):Prop:=∀m,l7 m t=false->yN m t=true
def GP (t:Value):Prop:=∀m,iO m [t]=false->yO m t=true
def GE (t:Value):Prop:=∀m,lG m t=false->yP m t=true
theorem xK {α:Type} {f:α->Bool} {l:List α} (h:l.any f=false) {x:α} (hx:x ∈ l):f x=false:=by
 cases hf:f x with
 | false=>rfl
 | true=>rw [List.any_eq_true.2 ⟨x,hx,hf⟩] at h;cases h
theorem U2 {m:Nat} {l:List Value} (h:iO m l=false) {x:Value} (hx:x ∈ l):iO m [x]=false:=by
 cases m with
 | zero=>exact absurd (xK (f:=fun _=>true) h hx) (by simp)
 | succ m =>
  have:=xK (f:=fun t=>iO m (dw t)) h hx
  show ([x].any fun t=>iO m (dw t))=false;rw [List.any_cons,this];rfl
theorem GT.mk {t:Value} (h:uE t=true) (ha:∀x ∈ dw t,GT x):GT t:=fun m hm=>by
 cases m with
 | zero=>cases hm
 | succ m =>
  show (uE t && (dw t).all (yN m))=true;rw [h,Bool.true_and,List.all_eq_true];exact fun x hx=>ha x hx m (xK (f:=l7 m) hm hx)
theorem GP.mk {t:Value} (h:uF t=true) (ha:∀x ∈ dw t,GP x):GP t:=fun m hm=>by
 cases m with
 | zero=>cases hm
 | succ m =>
  have hm':iO m (dw t)=false:=xK (f:=fun t=>iO m (dw t)) (l:=[t]) hm (List.Mem.head _);show (uF t && (dw t).all (yO m))=true;rw [h,Bool.true_and,List.all_eq_true];exact fun x hx=>ha x hx m (U2 hm' hx)
theorem GE.mk {t:Value} (h:mq t=true) (ha:∀x ∈ dw t,GE x) (hp:∀x ∈ iH t,GP x):GE t:=fun m hm=>by
 cases m with
 | zero=>cases hm
 | succ m =>
  have hm':((dw t).any (lG m) || iO m (iH t))=false:=hm;rw [Bool.or_eq_false_iff] at hm';show (mq t && ((dw t).all (yP m) && (iH t).all (yO m)))=true;rw [h,Bool.true_and,Bool.and_eq_true,List.all_eq_true,List.all_eq_true];exact ⟨fun x hx=>ha x hx m (xK hm'.1 hx),fun x hx=>hp x hx m (U2 hm'.2 hx)⟩
-- tokens
section
variable {L:List Tk} {en:Int} (hG:GK L)
theorem Mf (hG:GK L) {i:Nat} (h:(tk L en i).k≠0):dJ (tk L en i).k (tk L en i).x (tk L en i).n=true:=by
 have hi:=CM L en h;obtain ⟨t,ht⟩:∃t,L[i]?=some t:=⟨_,List.getElem?_eq_getElem hi⟩;rw [Bp L en ht];exact hG t (List.mem_of_getElem? ht)
theorem adE (hG:GK L) {i:Nat} (h4:(tk L en i).k≠4) (h:(tk L en i).k≠0):(tk L en i).n=0:=by
 have:=Mf hG h
 unfold dJ at this;by_cases hn:(tk L en i).n=0
 ·exact hn
 ·rw [if_pos ⟨h4,hn⟩] at this;cases this
theorem mK (hG:GK L) {i:Nat} {K:Int} (hk:(tk L en i).k=K) (h4:K≠4) (h6:K≠6) (h0:K≠0):eO K (tk L en i).x=true:=by
 have h:=Mf hG (i:=i) (en:=en) (by rw [hk];exact h0);rw [adE hG (by rw [hk];exact h4) (by rw [hk];exact h0),hk] at h;unfold eO;rw [if_neg h0,if_neg h6];exact h
theorem U5 (hG:GK L) {i:Nat} (hk:(tk L en i).k=4):bV (tk L en i).n=true:=by
 have h:=Mf hG (i:=i) (en:=en) (by rw [hk];decide);rw [hk] at h;unfold dJ at h;rw [if_neg (by simp),if_neg (by decide),if_neg (by decide),if_neg (by decide),if_pos rfl,Bool.and_eq_true] at h;exact h.2
end
-- heads
theorem adF:eO 0 e0=true:=rfl
theorem adG (h:eO 0 e0=true:=adF):uE (nd 1 e0 e0 0 [] [] 0)=true:=by decide
theorem adH {x:ByteArray} (h:eO 3 x=true):uE (nd 2 x e0 0 [] [] 0)=true:=by
 show (true && ((!(false && _)) && (eO 3 x && _)))=true;rw [h];rfl
theorem adI {t u:Value}:uE (nd 3 e0 e0 0 [t,u] [] 0)=true:=rfl
theorem U7 {x:ByteArray} {ts:List Value} (h:eO 1 x=true) (hx:x≠rX):uE (nd 4 x e0 0 ts [] 0)=true:=by
 show (true && ((!(true && decide (x=rX))) && (eO 1 x && ((_ || true) && (true || _)))))=true;rw [h,decide_eq_false hx];simp
theorem adJ (a:Int):uF (nd 1 e0 e0 0 [] [] a)=true:=rfl
theorem adK {x:ByteArray} (a:Int) (h:eO 1 x=true):uF (nd 2 x e0 0 [] [] a)=true:=by
 show (true && (eO 1 x && _))=true;rw [h];rfl
theorem adL {n:Int} (a:Int) (h:bV n=true):uF (nd 3 e0 e0 n [] [] a)=true:=by
 show (true && (true && (true && (_ || (true && bV n)))))=true;rw [h];simp
theorem Es {x:ByteArray} {ts:List Value} (a:Int) (h:eO 2 x=true):uF (nd 4 x e0 0 ts [] a)=true:=by
 show (true && (eO 2 x && ((_ || true) && (true || _))))=true;rw [h];simp
theorem adM {x:ByteArray} (a:Int) (h:eO 1 x=true):mq (nd 1 x e0 0 [] [] a)=true:=by
 show (true && (true && ((eO 1 x && _) && _)))=true;rw [h];rfl
theorem adN {n:Int} (a:Int) (h:bV n=true):mq (nd 2 e0 e0 n [] [] a)=true:=by
 show (true && (true && ((true && (true && (_ || (true && bV n)))) && true)))=true;rw [h];simp
theorem adO {x:ByteArray} {e:Value} (a:Int) (h:eO 1 x=true):mq (nd 3 x e0 0 [e] [] a)=true:=by
 show (true && (true && ((eO 1 x && _) && _)))=true;rw [h];rfl
theorem adP {e f:Value} (a:Int):mq (nd 4 e0 e0 0 [e,f] [] a)=true:=rfl
theorem adQ {x:ByteArray} {e f:Value} (a:Int) (h:eO 1 x=true):mq (nd 5 x e0 0 [e,f] [] a)=true:=by
 show (true && (true && ((eO 1 x && _) && _)))=true;rw [h];rfl
theorem adR {x y:ByteArray} {e f:Value} (a:Int) (h:eO 1 x=true) (hy:eO 1 y=true):mq (nd 6 x y 0 [e,f] [] a)=true:=by
 show (true && (true && ((eO 1 x && _) && eO 1 y)))=true;rw [h,hy];rfl
theorem Mg {es ps:List Value} (a:Int) (h:es.length=ps.length+1) (h0:ps.length≠0):mq (nd 7 e0 e0 0 es ps a)=true:=by
 show (true && (true && ((true && ((decide ((es.length:Int)=(if ps.length=0 then -2 else (ps.length:Int)+1)) || _) && true)) && true)))=true;rw [if_neg h0,h,decide_eq_true (by omega)];simp
theorem Va {x:ByteArray} {es:List Value} (a:Int) (h:eO 2 x=true):mq (nd 8 x e0 0 es [] a)=true:=by
 show (true && (true && ((eO 2 x && ((_ || true) && (true || _))) && true)))=true;rw [h];simp
theorem adS {x:ByteArray} {e f:Value} (a:Int) (h:eO 6 x=true):mq (nd 9 x e0 0 [e,f] [] a)=true:=by
 show (true && (true && ((eO 6 x && _) && _)))=true;rw [h];rfl
theorem adT {e:Value} (a:Int):mq (nd 10 e0 e0 0 [e] [] a)=true:=rfl
theorem il {P:Value->Prop}:∀x ∈ ([]:List Value),P x:=fun x hx=>by cases hx
theorem mem1 {P:Value->Prop} {a:Value} (ha:P a):∀x ∈ [a],P x:=fun x hx=>by rw [List.mem_singleton.1 hx];exact ha
theorem mem2 {P:Value->Prop} {a b:Value} (ha:P a) (hb:P b):∀x ∈ [a,b],P x:=fun x hx=>by
 rcases List.mem_cons.1 hx with rfl|hx
 ·exact ha
 ·exact mem1 hb x hx
theorem mem3 {P:Value->Prop} {a b c:Value} (ha:P a) (hb:P b) (hc:P c):∀x ∈ [a,b,c],P x:=fun x hx=>by
 rcases List.mem_cons.1 hx with rfl|hx
 ·exact ha
 ·exact mem2 hb hc x hx
theorem Et {P:Value->Prop} {l:List Value} {a:Value} (h:∀x ∈ l,P x) (ha:P a):∀x ∈ l++[a],P x:=fun x hx=>by
 rcases List.mem_append.1 hx with hx|hx
 ·exact h x hx
 ·exact mem1 ha x hx
end Pz
namespace Pz
theorem XH {s:ByteArray} {i:Nat} {k:Int} {x:ByteArray} {n:Int} {e:Nat} (h:one s i=.ok (k,x,n,e)) (a:Int):Av ⟨k,x,n,a⟩:=by
 unfold one at h;split at h
 ·split at h
  ·cases h
  ·injection h with h;injection h with hk h;injection h with hx h;subst hx;refine ⟨fun h5=>?_,fun h6=>?_⟩
   ·change k=5 at h5
    rw [h5] at hk;split at hk
    ·cases hk
    ·split at hk
     ·assumption
     ·cases hk
   ·change k=6 at h6
    rw [h6] at hk;split at hk
    ·cases hk
    ·split at hk<;>cases hk
 ·split at h
  ·split at h
   ·cases h
   ·split at h
    ·cases h
    ·injection h with h;injection h with hk h;subst hk;exact ⟨fun h=>absurd h (by simp),fun h=>absurd h (by simp)⟩
  ·split at h
   ·split at h
    ·injection h with h;injection h with hk h;subst hk;exact ⟨fun h=>absurd h (by simp),fun h=>absurd h (by simp)⟩
    ·cases h
   ·split at h
    ·rename_i hc;injection h with h;injection h with hk h;injection h with hx h;subst hk hx;exact ⟨fun h=>absurd h (by simp),fun _=>hc.2⟩
    ·split at h
     ·rename_i hc;injection h with h;injection h with hk h;injection h with hx h;subst hk hx;exact ⟨fun h=>absurd h (by simp),fun _=>hc.2⟩
     ·cases h
theorem OX (s:ByteArray):∀(f i:Nat) (acc:List Tk),Gd acc->Gd (dP s f i acc).1
 | 0,i,acc,h=>h
 | f+1,i,acc,h=>by
  unfold dP;split
  ·split
   ·exact fun t ht=>by cases ht
   ·rename_i k x n e ho;split
    ·exact fun t ht=>by cases ht
    ·refine OX s f _ _ (fun t ht=>?_);rcases List.mem_append.1 ht with ht|ht
     ·exact h t ht
     ·rw [List.mem_singleton.1 ht];exact XH ho _
  ·exact h
theorem OY (s:ByteArray):Gd (lx s).1:=by
 unfold lx;split
 ·exact fun t ht=>by cases ht
 ·exact OX s _ _ _ (fun t ht=>by cases ht)
theorem CO (w:World) {p:Nat} (T:TypeId) (z vs:Array Value) (hz:w.heap[p]?=some (.cells z T (0,0))) (hs:z.size=vs.size) :
  ∃W,w.setCells p 0 vs.toList=W/\w.there p 0 vs.size/\W.heap[p]?=some (.cells vs T (0,0))/\∀m,m≠p->W.heap[m]?=w.heap[m]? :=
 ⟨_,rfl,by have:=CP hz;rw [hs] at this;exact this,CQ hz hs,fun m hm=>vY p m hm vs.toList 0 w⟩
theorem XI {w:World} {a:Addr} {b j:Nat} {v:Value} (h:a.block≠b):(w.setCell ⟨b,j,none⟩ v).cell? a=w.cell? a:=World.cell?_of_block (Below.heap_setCell _ _ _ _ h)
theorem XJ (k:Int) (w:World):(Instr.typeAssert (.iface 48 (.int .i64 k)) 20 48 true).run Tryz.prog w=.ok (.tuple #[.int .i64 k,.bool true]) w:=by
 kernel_rfl
theorem XK (w:World):(Instr.typeAssert .nilIface 20 48 true).run Tryz.prog w=.ok (.tuple #[.int .i64 0,.bool false]) w:=by
 kernel_rfl
end Pz
theorem Fe (p q r:Nat) (w:World) :
  CallsD Tryz.prog 22 #[.pointer (some ⟨p,0,none⟩),.pointer (some ⟨q,0,none⟩),.pointer (some ⟨r,0,none⟩)] .returning w fun e u' w'=>e=.returned (.tuple #[])/\u'=.returning/\w'=w:=by
 refine callsD_of_wpS Tryz.func22 rfl fun c₀ cs hu=>?_;apply wpS_seq;apply wpS_region;simp [wpOpsS,go_sem,recoverD,hu,Tryz.ntmps22,Exit.thenS,XK];apply wpS_seq;apply wpS_region;simp [wpOpsS,go_sem,Exit.thenS];refine wpS_cond (t:=false) (by simp [Act.eval,Array.replicate]) ?_;simp only [Bool.false_eq_true,if_false];refine wpS_of_wp (wp_skip ?_);cases c₀;simp_all [bodyPostS,results,Tryz.results22]
theorem aaJ (P Q R I Tp K T:Value):#[P,Q,R]++((((((((Array.replicate 10 undef).setIfInBounds 3 I).setIfInBounds 4 Tp).setIfInBounds 2 Tp).setIfInBounds 5 K).setIfInBounds 6 T).setIfInBounds 0 K).setIfInBounds 1 T).setIfInBounds 7 T=#[P,Q,R,K,T,Tp,I,Tp,K,T,T,undef,undef]:=by first|kernel_rfl|(apply Array.toList_inj.1;simp [List.replicate,List.set])
theorem Z5 (p q r:Nat) (Ks:Array Value) (y x:Value) (k:Int) (older:List PanicEntry) (w:World) (hp:w.heap[p]?=some (.cells Ks 29 (0,0))) (h8:Ks.size=8) (hq:w.heap[q]?=some (.cells #[y] 3 (0,0))) (hr:w.heap[r]?=some (.cells #[x] 30 (0,0))) (hpq:q≠p) (hpr:r≠p) (hqr:r≠q) :
  CallsD Tryz.prog 22 #[.pointer (some ⟨p,0,none⟩),.pointer (some ⟨q,0,none⟩),.pointer (some ⟨r,0,none⟩)] (.panicking ({ v:=.iface 48 (.int .i64 k),recovered:=false } :: older)) w fun e u' w' =>
   e=.returned (.tuple #[])/\u'=.panicking ({ v:=.iface 48 (.int .i64 k),recovered:=true } :: older)/\w'=((w.setCells p 0 dB.toList).setCell ⟨q,0,none⟩ (.int .i64 k)).setCell ⟨r,0,none⟩ (.int .i64 120):=by
 refine callsD_of_wpS Tryz.func22 rfl fun c₀ cs hu=>?_;apply wpS_seq;apply wpS_region;simp [wpOpsS,go_sem,recoverD,hu,Tryz.ntmps22,Exit.thenS,XJ];apply wpS_seq;apply wpS_region;simp [wpOpsS,go_sem,Exit.thenS];refine wpS_cond (t:=true) (by simp [Act.eval,Array.replicate]) ?_;simp only [if_true];refine wpS_of_wp ?_;obtain ⟨W,hW,hth,hbk,hoth⟩:=CO w 29 Ks dB hp h8;have Kt:W.heap[q]?=some (.cells #[y] 3 (0,0)):=(hoth q hpq).trans hq;have Ku:W.heap[r]?=some (.cells #[x] 30 (0,0)):=(hoth r hpr).trans hr;have d1:=af Kt 0 _ rfl;have d2:=af Ku 0 _ rfl;have f1:W.frozen? ⟨q,0,none⟩=false:=by unfold World.frozen?;rw [Kt];simp
 have f2:W.frozen? ⟨r,0,none⟩=false:=by unfold World.frozen?;rw [Ku];simp
 have d3:(W.setCell ⟨q,0,none⟩ (.int .i64 k)).cell? ⟨r,0,none⟩=some x:=by rw [XI hqr];exact d2
 have HQ:=ae hu;rw [show w.setCells p 0 dB.toList=W from hW];clear hp hq hr hbk hoth Kt Ku hu;rw [aaJ];go_wp2_with (refine wpList_store_mid rfl 29 (.tmp 0) (.tmp 11) rfl p 0 dB rfl rfl hth qm (by simp [Value.oneCell']) ?_;rw [hW]);simp [bodyPostS,results,Tryz.results22]
end Go.Proofs.YtkdbgopgjbfhbaaGreatDoor
