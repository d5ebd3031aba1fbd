/- Texts that the claim needs. -/
import Derived.Test.YtpaefhceiliaiaaGreatDoorQPAk33
import Derived.Lib.SmallJoins
import Derived.Test.YtpaefhceiliaiaaGreatDoorRows
import Derived.WalkKit
import Derived.WalkSpells
import Derived.WalkSmall
import Derived.BigQuiet
import Derived.Deep.QuietTactic
import Derived.Test.YtpaefhceiliaiaaGreatDoorQPAk29
namespace Go.Proofs.YtpaefhceiliaiaaGreatDoor
open Go.RowKit Lx
set_option linter.unusedVariables false
set_option maxRecDepth 100000
set_option maxHeartbeats 4000000
namespace Lx
theorem TP.on {w w':World} (h:TP w) (hb:Below w.heap.size w w'):TP w':=Go.Joins.var_stays (P:=Tryz.prog) (g:=9) (by kernel_rfl) h hb (Nat.le_refl _)
abbrev Nw (k:Int) (x:ByteArray) (n a:Int):Value:=.agg #[.int .i64 k,.string x,.int .i64 n,.int .i64 a]
theorem DJ {a b:Int} (h:a=b):(a == b)=true:=beq_iff_eq.2 h
theorem DK {a b:Int} (h:a≠b):(a == b)=false:=beq_eq_false_iff_ne.2 h
theorem tA (w:World) (k:Int) (x:ByteArray) (n a:Int) (t:TypeId):Below w.heap.size w (w.alloc (.cells #[.int .i64 k,.string x,.int .i64 n,.int .i64 a] t)):=(Below.refl _ w).alloc (Nat.le_refl _) _
theorem xe {w u:World} {k:Int} {x:ByteArray} {n a:Int} {t:TypeId} (hb:Below (w.alloc (.cells #[.int .i64 k,.string x,.int .i64 n,.int .i64 a] t)).heap.size (w.alloc (.cells #[.int .i64 k,.string x,.int .i64 n,.int .i64 a] t)) u) :
  w.heap.size<u.heap.size/\u.cell? ⟨w.heap.size,0,none⟩=some (.int .i64 k)/\u.cell? ⟨w.heap.size,1,none⟩=some (.string x)/\u.cell? ⟨w.heap.size,2,none⟩=some (.int .i64 n)/\u.cell? ⟨w.heap.size,3,none⟩=some (.int .i64 a):=by
 have hs:=hb.size;have hz:(w.alloc (.cells #[.int .i64 k,.string x,.int .i64 n,.int .i64 a] t)).heap.size=w.heap.size+1:=by simp
 refine ⟨by omega,?_,?_,?_,?_⟩
 all_goals (rw [hb.cell (by show w.heap.size<_;omega),World.cell?_alloc_at _ t _ _ rfl];rfl)
theorem Wj {s:ByteArray} (h:¬ s.size=0):s.toList.isEmpty=false:=by
 rw [ByteArray.toList_eq,List.isEmpty_eq_false_iff];intro e;exact h (by show s.data.size=0;rw [<- Array.length_toList,e];rfl)
end Lx
theorem VW (k:Int) (x:ByteArray) (n a:Int) (hz:x.size<=140737488355328) (hn0:-9223372036854775808<=n) (xd:n<=9223372036854775807) (w:World) (hT:TP w) :
  Calls Tryz.prog 166 #[Nw k x n a] w fun e w'=>e=.returned (.string (gZ k x n))/\Below w.heap.size w w':=by
 have HA:=ae (tA w k x n a 47);by_cases h3:k=3
 ·have q3:=DJ h3;have hs:gZ k x n=⟨#[39]⟩++x:=if_pos h3;rw [hs];have hc:¬ 9223372036854775807<1+x.size:=by omega
  clear hs h3 hz;go_enter Tryz.func166,Tryz.ntmps166;go_wp2;go_ret;exact ⟨rfl,HA.out⟩
 ·have q3:=DK h3;by_cases h4:k=4
  ·have q4:=DJ h4;have hs:gZ k x n=mo n:=by unfold gZ;rw [if_neg h3,if_pos h4]
   rw [hs];have HI:=ae (Wl n hn0 xd _ (hT.on HA.out));have HR:=fun (u:World)=>ae (Wm n hn0 xd u);generalize mo n=R at *;generalize (⟨(Lib.itoa n).toArray⟩:ByteArray)=I at *;clear hs h3 h4 hz;go_enter Tryz.func166,Tryz.ntmps166;go_wp2_with fail;refine Calls.mono (show Calls _ _ _ _ _ from HI.out) ?_;rintro e u1 ⟨rfl,hb1⟩;have HB1:=ae (au HA.out hb1);clear hb1 HI;go_wp2_with fail;refine Calls.mono (show Calls _ _ _ _ _ from (HR _).out) ?_;rintro e u2 ⟨rfl,hb2⟩;have HB2:=ae (au HB1.out hb2);clear hb2 HR;go_wp2;go_ret;exact ⟨rfl,HB2.out⟩
  ·have q4:=DK h4;have hs:gZ k x n=x:=by unfold gZ;rw [if_neg h3,if_neg h4]
   rw [hs];clear hs h3 h4;go_enter Tryz.func166,Tryz.ntmps166;go_wp2;go_ret;exact ⟨rfl,HA.out⟩
theorem VX (s:ByteArray) (k:Int) (x:ByteArray) (n a:Int) (hz:s.size<=281474976710656) (w:World) (ek:WL w) :
  Calls Tryz.prog 167 #[.string s,Nw k x n a] w fun e w'=>e=.returned (.bool (mZ s k x n))/\Below w.heap.size w w':=by
 have HA:=ae (tA w k x n a 47);by_cases h0:s.size=0
 ·have hs:s=⟨#[]⟩:=by apply ByteArray.ext;exact Array.eq_empty_of_size_eq_zero h0
  have hm:mZ s k x n=false:=by unfold mZ;rw [decide_eq_false (by omega)];rfl
  rw [hm];subst hs;clear hm h0 hz;go_enter Tryz.func167,Tryz.ntmps167;go_wp2;go_ret;exact ⟨rfl,HA.out⟩
 ·have q0:=Wj h0;have HF:=ae (Ny s (by omega) (by omega) hz _ (ek.on HA.out));have hm:mZ s k x n=(match one s 0 with | .error _=>false | .ok (k',x',n',e)=>decide (e=s.size) && decide (k'=k/\x'=x/\n'=n)):=by unfold mZ;rw [decide_eq_true (by omega),Bool.true_and];rfl
  rw [hm];clear hm ek;cases ho:one s 0 with
  | error z =>
   rw [ho] at HF;have q1:=(aN (MI ho)).1;clear ho h0 hz;go_enter Tryz.func167,Tryz.ntmps167;go_wp2_with fail;refine Calls.mono (show Calls _ _ _ _ _ from HF.out) ?_;rintro e u1 ⟨rfl,hb1⟩;have HB1:=ae (au HA.out hb1);obtain ⟨hlt,c0,c1,c2,c3⟩:=xe hb1;clear hb1 HF;simp only [eP];go_wp2;go_ret;exact ⟨rfl,by first|exact (HB1.out.alloc HB1.out.size _)|exact ((HB1.out.alloc HB1.out.size _).setCell HB1.out.size _)⟩
  | ok r =>
   obtain ⟨k',x',n',E⟩:=r;rw [ho] at HF;by_cases hE:E=s.size
   ·have q1:((E:Int) == (s.size:Int))=true:=beq_iff_eq.2 (by omega);by_cases hk:k'=k
    ·have q2:=DJ hk;by_cases hx:x'=x
     ·have q3:=qQ hx;by_cases hn:n'=n
      ·have q4:=DJ hn;have HR:Hid ((decide (E=s.size) && decide (k'=k/\x'=x/\n'=n))=true):=ae (by rw [decide_eq_true hE,decide_eq_true ⟨hk,hx,hn⟩];rfl);clear ho h0 hz hE hk hx hn;go_enter Tryz.func167,Tryz.ntmps167;go_wp2_with fail;refine Calls.mono (show Calls _ _ _ _ _ from HF.out) ?_;rintro e u1 ⟨rfl,hb1⟩;have HB1:=ae (au HA.out hb1);obtain ⟨hlt,c0,c1,c2,c3⟩:=xe hb1;clear hb1 HF;simp only [eP];go_wp2;go_ret;exact ⟨aC HR.out.symm,by first|exact (HB1.out.alloc HB1.out.size _)|exact ((HB1.out.alloc HB1.out.size _).setCell HB1.out.size _)⟩
      ·have q4:=DK hn;have HR:Hid ((decide (E=s.size) && decide (k'=k/\x'=x/\n'=n))=false):=ae (by rw [decide_eq_false (fun h:k'=k/\x'=x/\n'=n=>hn h.2.2),Bool.and_false]);clear ho h0 hz hE hk hx hn;go_enter Tryz.func167,Tryz.ntmps167;go_wp2_with fail;refine Calls.mono (show Calls _ _ _ _ _ from HF.out) ?_;rintro e u1 ⟨rfl,hb1⟩;have HB1:=ae (au HA.out hb1);obtain ⟨hlt,c0,c1,c2,c3⟩:=xe hb1;clear hb1 HF;simp only [eP];go_wp2;go_ret;exact ⟨aC HR.out.symm,by first|exact (HB1.out.alloc HB1.out.size _)|exact ((HB1.out.alloc HB1.out.size _).setCell HB1.out.size _)⟩
     ·have q3:=nW hx;have HR:Hid ((decide (E=s.size) && decide (k'=k/\x'=x/\n'=n))=false):=ae (by rw [decide_eq_false (fun h:k'=k/\x'=x/\n'=n=>hx h.2.1),Bool.and_false]);clear ho h0 hz hE hk hx;go_enter Tryz.func167,Tryz.ntmps167;go_wp2_with fail;refine Calls.mono (show Calls _ _ _ _ _ from HF.out) ?_;rintro e u1 ⟨rfl,hb1⟩;have HB1:=ae (au HA.out hb1);obtain ⟨hlt,c0,c1,c2,c3⟩:=xe hb1;clear hb1 HF;simp only [eP];go_wp2;go_ret;exact ⟨aC HR.out.symm,by first|exact (HB1.out.alloc HB1.out.size _)|exact ((HB1.out.alloc HB1.out.size _).setCell HB1.out.size _)⟩
    ·have q2:=DK hk;have HR:Hid ((decide (E=s.size) && decide (k'=k/\x'=x/\n'=n))=false):=ae (by rw [decide_eq_false (fun h:k'=k/\x'=x/\n'=n=>hk h.1),Bool.and_false]);clear ho h0 hz hE hk;go_enter Tryz.func167,Tryz.ntmps167;go_wp2_with fail;refine Calls.mono (show Calls _ _ _ _ _ from HF.out) ?_;rintro e u1 ⟨rfl,hb1⟩;have HB1:=ae (au HA.out hb1);obtain ⟨hlt,c0,c1,c2,c3⟩:=xe hb1;clear hb1 HF;simp only [eP];go_wp2;go_ret;exact ⟨aC HR.out.symm,by first|exact (HB1.out.alloc HB1.out.size _)|exact ((HB1.out.alloc HB1.out.size _).setCell HB1.out.size _)⟩
   ·have q1:((E:Int) == (s.size:Int))=false:=beq_eq_false_iff_ne.2 (by omega);have HR:Hid ((decide (E=s.size) && decide (k'=k/\x'=x/\n'=n))=false):=ae (by rw [decide_eq_false hE,Bool.false_and]);clear ho h0 hz hE;go_enter Tryz.func167,Tryz.ntmps167;go_wp2_with fail;refine Calls.mono (show Calls _ _ _ _ _ from HF.out) ?_;rintro e u1 ⟨rfl,hb1⟩;have HB1:=ae (au HA.out hb1);obtain ⟨hlt,c0,c1,c2,c3⟩:=xe hb1;clear hb1 HF;simp only [eP];go_wp2;go_ret;exact ⟨aC HR.out.symm,by first|exact (HB1.out.alloc HB1.out.size _)|exact ((HB1.out.alloc HB1.out.size _).setCell HB1.out.size _)⟩
theorem lL.on {B b:Nat} {l:List UInt8} {w w':World} (h:lL B b l w) (hb:Below w.heap.size w w'):lL B b l w':=by
 have key:∀ {p:Value},Lib.BuilderAt 170 5 B b p (Lib.byteCells l) w->Lib.BuilderAt 170 5 B b p (Lib.byteCells l) w':=by
  rintro p ⟨hB,v,hbk,hown,hne⟩;refine ⟨hB,v,by rw [hb.block b (Array.getElem?_eq_some_iff.1 hbk).1];exact hbk,⟨hown.1,?_⟩,hne⟩;rcases hown.2 with h2|⟨g,cap,cur,h1,h2,hg,h3⟩
  ·exact .inl h2
  ·exact .inr ⟨g,cap,cur,h1,h2,by rw [hb.block g (Array.getElem?_eq_some_iff.1 hg).1];exact hg,h3⟩
 exact h.elim (fun x=>.inl (key x)) (fun x=>.inr (key x))
namespace Lx
def ni (t:Tk):Bool:=iw t.k t.x t.n
def qO (t:Tk):ByteArray:=gZ t.k t.x t.n
def iI:List Tk->List UInt8
 | []=>[]
 | t :: l=>(qO t).data.toList++l.flatMap fun u=>32 :: (qO u).data.toList
theorem ab9 (t:Tk):∀(l:List Tk),iI (l++[t])=if l.length=0 then (qO t).data.toList else iI l++[32]++(qO t).data.toList
 | []=>by simp [iI]
 | u :: l=>by
  rw [if_neg (by simp),List.cons_append,iI,iI,List.flatMap_append];simp
theorem yJ {s:ByteArray} {b:Bool} (h:wd s b=true):s.size<=32:=(uJ.1 h).2.1
theorem aca {n:Int} (h:dh n=true):(mo n).size<=33:=by
 unfold dh at h;rw [Bool.and_eq_true,decide_eq_true_eq,decide_eq_true_eq] at h;unfold mo;rw [uK];by_cases hn:n<0
 ·rw [Ha hn,List.length_cons]
  have:=Az 9 n.natAbs (by omega)
  omega
 ·rw [Hd hn]
  have:=Az 9 n.toNat (by omega)
  omega
theorem Sj {s:ByteArray} {m:Nat}:∀ {l:List ByteArray},(∀x ∈ l,x.size<=m)->cK s l=true->s.size<=m:=fun hl h=>hl s (Dw h)
theorem NF {s:ByteArray} (h:cK s keys=true):s.size<=33:=Sj (by intro x hx;simp only [keys,List.mem_cons,List.not_mem_nil,or_false] at hx;rcases hx with rfl|rfl|rfl|rfl|rfl|rfl|rfl|rfl|rfl|rfl|rfl|rfl<;>decide) h
theorem NG {s:ByteArray} (h:cK s signs=true):s.size<=33:=Sj (by intro x hx;simp only [signs,pg,mi,List.cons_append,List.nil_append,List.mem_cons,List.not_mem_nil,or_false] at hx;rcases hx with rfl|rfl|rfl|rfl|rfl|rfl|rfl|rfl|rfl|rfl|rfl|rfl|rfl|rfl<;>decide) h
theorem Hg {k:Int} {x:ByteArray} {n:Int} (h:iw k x n=true):(gZ k x n).size<=33:=by
 unfold iw at h;unfold gZ;split at h
 ·cases h
 ·split at h
  ·rename_i hk;subst hk;rw [Bool.and_eq_true] at h
   have:=yJ h.1
   rw [if_neg (by decide),if_neg (by decide)];omega
  ·split at h
   ·rename_i hk;subst hk
    have:=yJ h
    rw [if_neg (by decide),if_neg (by decide)];omega
   ·split at h
    ·rename_i hk;subst hk
     have:=yJ h
     rw [if_pos rfl,wY];omega
    ·split at h
     ·rename_i hk;subst hk;rw [Bool.and_eq_true] at h;rw [if_neg (by decide),if_pos rfl];exact aca h.2
     ·split at h
      ·rename_i hk;subst hk;rw [if_neg (by decide),if_neg (by decide)];exact NF h
      ·split at h
       ·rename_i hk;subst hk;rw [if_neg (by decide),if_neg (by decide)];exact NG h
       ·cases h
theorem Sk (s:ByteArray):s.data.toList.length=s.size:=by rw [Array.length_toList];rfl
theorem Sl:∀(l:List Tk),(∀t ∈ l,ni t=true)->(l.flatMap fun u=>32 :: (qO u).data.toList).length<=34*l.length
 | [],_=>by simp
 | t :: l,h=>by
  rw [List.flatMap_cons,List.length_append,List.length_cons,List.length_cons,Sk];have h1:(qO t).size<=33:=Hg (h t (List.mem_cons_self ..));have h2:=Sl l fun u hu=>h u (List.mem_cons_of_mem _ hu);omega
theorem M3 (l:List Tk) (h:∀t ∈ l,ni t=true):(iI l).length<=34*l.length:=by
 cases l with
 | nil=>simp [iI]
 | cons t l =>
  rw [iI,List.length_append,Sk,List.length_cons];have h1:(qO t).size<=33:=Hg (h t (List.mem_cons_self ..));have h2:=Sl l fun u hu=>h u (List.mem_cons_of_mem _ hu);omega
def txt (l:List Tk):ByteArray × Int :=
 if 4096<l.length then (⟨#[]⟩,3) else if l.all ni=false then (⟨#[]⟩,1) else if 8192<(iI l).length then (⟨#[]⟩,2) else (⟨(iI l).toArray⟩,0)
theorem M0 {l:List Tk} (h4:¬ 4096<l.length) {i:Nat} {t:Tk} (h:l[i]?=some t) (hb:ni t=false):txt l=(⟨#[]⟩,1):=by
 unfold txt;rw [if_neg h4,if_pos];rw [List.all_eq_false];exact ⟨t,List.mem_of_getElem? h,by rw [hb];simp⟩
theorem M4 {l:List Tk} (h4:¬ 4096<l.length) (h:∀t ∈ l,ni t=true):txt l=if 8192<(iI l).length then (⟨#[]⟩,2) else (⟨(iI l).toArray⟩,0):=by
 unfold txt;rw [if_neg h4,if_neg];intro e;rw [List.all_eq_true.2 h] at e;cases e
def Nf (w:World) (R:ByteArray × Int) (e:Ending) (w':World):Prop:=e=.returned (.tuple #[.string R.1,.int .i64 R.2])/\Below w.heap.size w w'
theorem taken {l:List Tk} {k:Nat} (h:∀t ∈ l.take k,ni t=true) {t:Tk} (ht:l[k]?=some t) (hg:ni t=true):∀u ∈ l.take (k+1),ni u=true:=by
 rw [List.take_add_one,ht];intro u hu;rcases List.mem_append.1 hu with hu|hu
 ·exact h u hu
 ·simp at hu;subst hu;exact hg
theorem VV {l:List Tk} {k:Nat} {t:Tk} (ht:l[k]?=some t):iI (l.take (k+1))=if k=0 then (qO t).data.toList else iI (l.take k)++[32]++(qO t).data.toList:=by
 rw [List.take_add_one,ht];have hk:k<l.length:=(List.getElem?_eq_some_iff.1 ht).1
 have:(l.take k++(some t).toList)=l.take k++[t]:=rfl
 rw [this,ab9,List.length_take,Nat.min_eq_left (by omega)]
end Lx
end Go.Proofs.YtpaefhceiliaiaaGreatDoor
namespace Go.Proofs.YtpaefhceiliaiaaGreatDoor
open Go.RowKit
set_option linter.unusedVariables false
namespace Lx
theorem Qm (s:ByteArray) (a b i:Nat) (hb:b<=s.size) (h:a+i<b):bt (s.extract a b) i=bt s (a+i):=by
 unfold bt;rw [dif_pos (by rw [ByteArray.size_extract];omega),dif_pos (by omega)];simp [ByteArray.getElem_extract]
theorem Jo (s:ByteArray) (i e:Nat) (low:Bool) (hi:i<e) (he:e<=s.size) (h32:e-i<=32) (hp:∀j,i<=j->j<e->pt (bt s j)=true) (h0:(if low=true then sm (bt s i) else cp (bt s i))=true):wd (s.extract i e) low=true:=by
 have hz:(s.extract i e).size=e-i:=by rw [ByteArray.size_extract];omega
 rw [uJ,hz,Qm s i e 0 he (by omega)];refine ⟨by omega,h32,h0,Dv _ pt (by omega) (by omega) (fun j h1 h2=>?_) (fun h=>by omega)⟩;rw [Qm s i e j he (by omega)];exact hp (i+j) (by omega) (by omega)
theorem Qn {s:ByteArray} {i:Nat} (h:bt s i≠0):i<s.size:=by
 unfold bt at h;split at h
 ·assumption
 ·exact absurd rfl h
theorem Qo {c:Int} (h:sm c=true):c≠0:=by unfold sm at h;rw [Bool.and_eq_true,decide_eq_true_eq,decide_eq_true_eq] at h;omega
theorem ZP {c:Int} (h:cp c=true):c≠0:=by unfold cp at h;rw [Bool.and_eq_true,decide_eq_true_eq,decide_eq_true_eq] at h;omega
theorem ZQ {s:ByteArray} {i:Nat} {k:Int} {x:ByteArray} {n:Int} {e:Nat} (h:one s i=.ok (k,x,n,e)):iw k x n=true:=by
 unfold one at h;split at h
 ·rename_i hc;have hi:i<s.size:=Qn (by rcases hc with hc|hc;exact Qo hc;exact ZP hc)
  have hp:pt (bt s i)=true:=by rcases hc with hc|hc;exact yA hc;exact GU hc
  split at h
  ·cases h
  ·rename_i h32;injection h with h;injection h with hk h;injection h with hx h;injection h with hn he;have hie:i<en s pt i:=by rw [uw s pt hi hp];exact o9 s pt (i+1)
   have hle:=jl s pt (Nat.le_of_lt hi);have hal:∀j,i<=j->j<en s pt i->pt (bt s j)=true:=fun j h1 h2=>mY s pt h1 h2;subst hx hn;by_cases hcp:cp (bt s i)=true
   ·rw [if_pos hcp] at hk;subst hk;unfold iw;rw [if_neg (by simp),if_neg (by decide),if_pos rfl];exact Jo s i _ false hie hle (by omega) hal (by simpa using hcp)
   ·rw [if_neg hcp] at hk;have hsm:sm (bt s i)=true:=by rcases hc with hc|hc;exact hc;exact absurd hc hcp
    by_cases h5:cK (s.extract i (en s pt i)) keys=true
    ·rw [if_pos h5] at hk;subst hk;unfold iw;rw [if_neg (by simp),if_neg (by decide),if_neg (by decide),if_neg (by decide),if_neg (by decide),if_pos rfl];exact h5
    ·rw [if_neg h5] at hk;subst hk;unfold iw;rw [if_neg (by simp),if_pos rfl,Jo s i _ true hie hle (by omega) hal (by simpa using hsm)];cases h6:cK (s.extract i (en s pt i)) keys with
     | true=>exact absurd h6 h5
     | false=>rfl
 ·split at h
  ·split at h
   ·cases h
   ·rename_i hn;split at h
    ·cases h
    ·rename_i h32;injection h with h;injection h with hk h;injection h with hx h;injection h with hn' he
     have hsm:sm (bt s (i+1))=true:=by
      cases hs:sm (bt s (i+1)) with
      | true=>rfl
      | false=>exact absurd (.inr hs) hn
     have hi:i+1<s.size:=Qn (Qo hsm);have hie:i+1<en s pt (i+1):=by rw [uw s pt hi (yA hsm)];exact o9 s pt (i+1+1)
     have hle:=jl s pt (Nat.le_of_lt hi);subst hx hn' hk;unfold iw;rw [if_neg (by simp),if_neg (by decide),if_neg (by decide),if_pos rfl];exact Jo s (i+1) _ true hie hle (by omega) (fun j h1 h2=>mY s pt h1 h2) (by simpa using hsm)
  ·split at h
   ·split at h
    ·rename_i n' e' ZR;injection h with h;injection h with hk h;injection h with hx h;injection h with hn he;subst hk hx hn;unfold iw;rw [if_neg (by simp),if_neg (by decide),if_neg (by decide),if_neg (by decide),if_pos rfl,MN ZR];rfl
    ·cases h
   ·split at h
    ·rename_i hc;injection h with h;injection h with hk h;injection h with hx h;injection h with hn he;subst hk hx hn;unfold iw;rw [if_neg (by simp),if_neg (by decide),if_neg (by decide),if_neg (by decide),if_neg (by decide),if_neg (by decide),if_pos rfl];exact hc.2
    ·split at h
     ·rename_i hc;injection h with h;injection h with hk h;injection h with hx h;injection h with hn he;subst hk hx hn;unfold iw;rw [if_neg (by simp),if_neg (by decide),if_neg (by decide),if_neg (by decide),if_neg (by decide),if_neg (by decide),if_pos rfl];exact hc.2
     ·cases h
def GK (L:List Tk):Prop:=∀t ∈ L,ni t=true
theorem Qp (s:ByteArray):∀(f i:Nat) (acc:List Tk),GK acc->GK (iL s f i acc).1
 | 0,i,acc,h=>h
 | f+1,i,acc,h=>by
  unfold iL;split
  ·split
   ·exact fun t ht=>by cases ht
   ·rename_i k x n e ho;split
    ·exact fun t ht=>by cases ht
    ·refine Qp s f _ _ (fun t ht=>?_);rcases List.mem_append.1 ht with ht|ht
     ·exact h t ht
     ·rw [List.mem_singleton.1 ht];exact ZQ ho
  ·exact h
theorem WB (s:ByteArray):GK (lx s).1:=by
 unfold lx;split
 ·exact fun t ht=>by cases ht
 ·exact Qp s _ _ _ (fun t ht=>by cases ht)
end Lx
namespace Ints
def wr (n:Int):Int:=(n+1073741824)%2147483648-1073741824
theorem MZ (n:Int):(wr n=n)↔(-1073741824<=n/\n<=1073741823):=by unfold wr;omega
def qV:List ByteArray:=[⟨#[]⟩,⟨#[43]⟩,⟨#[45]⟩,⟨#[42]⟩,⟨#[47]⟩,⟨#[37]⟩,⟨#[60]⟩,⟨#[61,61]⟩]
def sM (s:ByteArray):Nat->Nat->Int
 | 0,_=>0
 | f+1,k=>if qV.getD k ⟨#[]⟩=s then (k:Int) else sM s f (k+1)
def uL (s:ByteArray):Int:=sM s 7 1
def WI (w:World):Prop:=∀k,k<8->w.cell? ⟨4,k,none⟩=some (.string (qV.getD k ⟨#[]⟩))
end Ints
end Go.Proofs.YtpaefhceiliaiaaGreatDoor
namespace Go.Proofs.YtpaefhceiliaiaaGreatDoor
open Go.RowKit Lx Pz bB
set_option linter.unusedVariables false
namespace Pz
def sJ:Value->ByteArray
 | .agg c=>match (c:Array Value)[1]? with
  | some (Value.string x)=>x
  | _=>e0
 | _=>e0
def AV:Value->ByteArray
 | .agg c=>match (c:Array Value)[2]? with
  | some (Value.string x)=>x
  | _=>e0
 | _=>e0
def qU:Value->Int
 | .agg c=>match (c:Array Value)[3]? with
  | some (Value.int _ a)=>a
  | _=>0
 | _=>0
section
variable (k:Int) (x y:ByteArray) (n:Int) (es ps:List Value) (a:Int)
theorem I1:sJ (nd k x y n es ps a)=x:=rfl
theorem abO:AV (nd k x y n es ps a)=y:=rfl
theorem I2:qU (nd k x y n es ps a)=n:=rfl
end
def cA (k:Int) (x:ByteArray):Bool:=if k=0 then decide (x=e0) else if k=6 then decide (Ints.uL x≠0) else iw k x 0
def kH (nk:Int) (nm:Bool) (ar:Int) (x:ByteArray) (n:Int) (m:Nat):Bool:=cA nk x && ((decide ((m:Int)=ar) || decide (ar=-1)) && (decide (n=0) || (nm && dh n)))
def Bx (k:Int):Int:=if k=2 then 3 else if k=4 then 1 else 0
def Bz (k:Int):Int:=if k=3 then 2 else if k=4 then -1 else 0
def BA (k:Int):Int:=if k=2 then 1 else if k=4 then 2 else 0
def BB (k:Int):Int:=if k=4 then -1 else 0
def za (k:Int):Int:=if k=1\/k=3\/k=5\/k=6 then 1 else if k=8 then 2 else if k=9 then 6 else 0
def vG (k:Int):Int:=if k=6 then 1 else 0
def zb (k:Int):Int:=if k=3\/k=10 then 1 else if k=4\/k=5\/k=6\/k=9 then 2 else if k=7 then -2 else if k=8 then -1 else 0
def sN (t:Value):Bool:=decide (1<=iQ t/\iQ t<5) && (!(iQ t == 4 && decide (sJ t=om)) && kH (Bx (iQ t)) false (Bz (iQ t)) (sJ t) (qU t) (dc t).length)
def sO (t:Value):Bool:=decide (1<=iQ t/\iQ t<5) && kH (BA (iQ t)) (iQ t == 3) (BB (iQ t)) (sJ t) (qU t) (dc t).length
def kZ (t:Value):Bool:=decide (1<=iQ t/\iQ t<11) && ((iQ t == 7 || decide ((gm t).length=0)) && (kH (za (iQ t)) (iQ t == 2) (if (gm t).length=0 then zb (iQ t) else ((gm t).length:Int)+1) (sJ t) (qU t) (dc t).length && cA (vG (iQ t)) (AV t)))
def lQ:Nat->Value->Bool
 | 0,_=>false
 | d+1,t=>sN t && (dc t).all (lQ d)
def lS:Nat->Value->Bool
 | 0,_=>false
 | d+1,t=>sO t && (dc t).all (lS d)
def mr:Nat->Value->Bool
 | 0,_=>false
 | d+1,t=>kZ t && ((dc t).all (mr d) && (gm t).all (lS d))
def uP:Value->ByteArray
 | .agg c=>match (c:Array Value)[0]? with
  | some (Value.string x)=>x
  | _=>e0
 | _=>e0
def sH:Value->ByteArray
 | .string x=>x
 | _=>e0
def pI (m:Nat) (c:Value):Bool:=cA 2 (uP c) && (wU c).all (lQ m)
def pJ (m:Nat) (d:Value):Bool:=cA 1 (uP d) && ((Ao d).all (fun p=>cA 3 (sH p)) && (decide (0<(sw d).length) && (sw d).all (pI m)))
def Hv (m:Nat) (ds:List Value) (e:Value):Bool:=ds.all (pJ m) && mr m e
def GT (t:Value):Prop:=∀m,jd m t=false->lQ m t=true
def GP (t:Value):Prop:=∀m,gM m [t]=false->lS m t=true
def GE (t:Value):Prop:=∀m,kM m t=false->mr m t=true
theorem mI {α:Type} {f:α->Bool} {l:List α} (h:l.any f=false) {x:α} (hx:x ∈ l):f x=false:=by
 cases hf:f x with
 | false=>rfl
 | true=>rw [List.any_eq_true.2 ⟨x,hx,hf⟩] at h;cases h
theorem EG {m:Nat} {l:List Value} (h:gM m l=false) {x:Value} (hx:x ∈ l):gM m [x]=false:=by
 cases m with
 | zero=>exact absurd (mI (f:=fun _=>true) h hx) (by simp)
 | succ m =>
  have:=mI (f:=fun t=>gM m (dc t)) h hx
  show ([x].any fun t=>gM m (dc t))=false;rw [List.any_cons,this];rfl
theorem GT.mk {t:Value} (h:sN t=true) (ha:∀x ∈ dc t,GT x):GT t:=fun m hm=>by
 cases m with
 | zero=>cases hm
 | succ m =>
  show (sN t && (dc t).all (lQ m))=true;rw [h,Bool.true_and,List.all_eq_true];exact fun x hx=>ha x hx m (mI (f:=jd m) hm hx)
theorem GP.mk {t:Value} (h:sO t=true) (ha:∀x ∈ dc t,GP x):GP t:=fun m hm=>by
 cases m with
 | zero=>cases hm
 | succ m =>
  have hm':gM m (dc t)=false:=mI (f:=fun t=>gM m (dc t)) (l:=[t]) hm (List.Mem.head _);show (sO t && (dc t).all (lS m))=true;rw [h,Bool.true_and,List.all_eq_true];exact fun x hx=>ha x hx m (EG hm' hx)
theorem GE.mk {t:Value} (h:kZ t=true) (ha:∀x ∈ dc t,GE x) (hp:∀x ∈ gm t,GP x):GE t:=fun m hm=>by
 cases m with
 | zero=>cases hm
 | succ m =>
  have hm':((dc t).any (kM m) || gM m (gm t))=false:=hm;rw [Bool.or_eq_false_iff] at hm';show (kZ t && ((dc t).all (mr m) && (gm t).all (lS m)))=true;rw [h,Bool.true_and,Bool.and_eq_true,List.all_eq_true,List.all_eq_true];exact ⟨fun x hx=>ha x hx m (mI hm'.1 hx),fun x hx=>hp x hx m (EG hm'.2 hx)⟩
-- tokens
section
variable {L:List Tk} {en:Int} (hG:GK L)
theorem Kk (hG:GK L) {i:Nat} (h:(tk L en i).k≠0):iw (tk L en i).k (tk L en i).x (tk L en i).n=true:=by
 have hi:=G0 L en h;obtain ⟨t,ht⟩:∃t,L[i]?=some t:=⟨_,List.getElem?_eq_getElem hi⟩;rw [EL L en ht];exact hG t (List.mem_of_getElem? ht)
theorem abP (hG:GK L) {i:Nat} (h4:(tk L en i).k≠4) (h:(tk L en i).k≠0):(tk L en i).n=0:=by
 have:=Kk hG h
 unfold iw at this;by_cases hn:(tk L en i).n=0
 ·exact hn
 ·rw [if_pos ⟨h4,hn⟩] at this;cases this
theorem lF (hG:GK L) {i:Nat} {K:Int} (hk:(tk L en i).k=K) (h4:K≠4) (h6:K≠6) (h0:K≠0):cA K (tk L en i).x=true:=by
 have h:=Kk hG (i:=i) (en:=en) (by rw [hk];exact h0);rw [abP hG (by rw [hk];exact h4) (by rw [hk];exact h0),hk] at h;unfold cA;rw [if_neg h0,if_neg h6];exact h
theorem Se (hG:GK L) {i:Nat} (hk:(tk L en i).k=4):dh (tk L en i).n=true:=by
 have h:=Kk hG (i:=i) (en:=en) (by rw [hk];decide);rw [hk] at h;unfold iw at h;rw [if_neg (by simp),if_neg (by decide),if_neg (by decide),if_neg (by decide),if_pos rfl,Bool.and_eq_true] at h;exact h.2
end
-- heads
theorem abQ:cA 0 e0=true:=rfl
theorem abR (h:cA 0 e0=true:=abQ):sN (nd 1 e0 e0 0 [] [] 0)=true:=by decide
theorem abS {x:ByteArray} (h:cA 3 x=true):sN (nd 2 x e0 0 [] [] 0)=true:=by
 show (true && ((!(false && _)) && (cA 3 x && _)))=true;rw [h];rfl
theorem abT {t u:Value}:sN (nd 3 e0 e0 0 [t,u] [] 0)=true:=rfl
theorem Sf {x:ByteArray} {ts:List Value} (h:cA 1 x=true) (hx:x≠om):sN (nd 4 x e0 0 ts [] 0)=true:=by
 show (true && ((!(true && decide (x=om))) && (cA 1 x && ((_ || true) && (true || _)))))=true;rw [h,decide_eq_false hx];simp
theorem abU (a:Int):sO (nd 1 e0 e0 0 [] [] a)=true:=rfl
theorem abV {x:ByteArray} (a:Int) (h:cA 1 x=true):sO (nd 2 x e0 0 [] [] a)=true:=by
 show (true && (cA 1 x && _))=true;rw [h];rfl
theorem abW {n:Int} (a:Int) (h:dh n=true):sO (nd 3 e0 e0 n [] [] a)=true:=by
 show (true && (true && (true && (_ || (true && dh n)))))=true;rw [h];simp
theorem Cv {x:ByteArray} {ts:List Value} (a:Int) (h:cA 2 x=true):sO (nd 4 x e0 0 ts [] a)=true:=by
 show (true && (cA 2 x && ((_ || true) && (true || _))))=true;rw [h];simp
theorem abX {x:ByteArray} (a:Int) (h:cA 1 x=true):kZ (nd 1 x e0 0 [] [] a)=true:=by
 show (true && (true && ((cA 1 x && _) && _)))=true;rw [h];rfl
theorem abY {n:Int} (a:Int) (h:dh n=true):kZ (nd 2 e0 e0 n [] [] a)=true:=by
 show (true && (true && ((true && (true && (_ || (true && dh n)))) && true)))=true;rw [h];simp
theorem abZ {x:ByteArray} {e:Value} (a:Int) (h:cA 1 x=true):kZ (nd 3 x e0 0 [e] [] a)=true:=by
 show (true && (true && ((cA 1 x && _) && _)))=true;rw [h];rfl
theorem ab0 {e f:Value} (a:Int):kZ (nd 4 e0 e0 0 [e,f] [] a)=true:=rfl
theorem ab1 {x:ByteArray} {e f:Value} (a:Int) (h:cA 1 x=true):kZ (nd 5 x e0 0 [e,f] [] a)=true:=by
 show (true && (true && ((cA 1 x && _) && _)))=true;rw [h];rfl
theorem ab2 {x y:ByteArray} {e f:Value} (a:Int) (h:cA 1 x=true) (hy:cA 1 y=true):kZ (nd 6 x y 0 [e,f] [] a)=true:=by
 show (true && (true && ((cA 1 x && _) && cA 1 y)))=true;rw [h,hy];rfl
theorem Kl {es ps:List Value} (a:Int) (h:es.length=ps.length+1) (h0:ps.length≠0):kZ (nd 7 e0 e0 0 es ps a)=true:=by
 show (true && (true && ((true && ((decide ((es.length:Int)=(if ps.length=0 then -2 else (ps.length:Int)+1)) || _) && true)) && true)))=true;rw [if_neg h0,h,decide_eq_true (by omega)];simp
theorem Sg {x:ByteArray} {es:List Value} (a:Int) (h:cA 2 x=true):kZ (nd 8 x e0 0 es [] a)=true:=by
 show (true && (true && ((cA 2 x && ((_ || true) && (true || _))) && true)))=true;rw [h];simp
theorem ab3 {x:ByteArray} {e f:Value} (a:Int) (h:cA 6 x=true):kZ (nd 9 x e0 0 [e,f] [] a)=true:=by
 show (true && (true && ((cA 6 x && _) && _)))=true;rw [h];rfl
theorem ab4 {e:Value} (a:Int):kZ (nd 10 e0 e0 0 [e] [] a)=true:=rfl
theorem gq {P:Value->Prop}:∀x ∈ ([]:List Value),P x:=fun x hx=>by cases hx
theorem mem1 {P:Value->Prop} {a:Value} (ha:P a):∀x ∈ [a],P x:=fun x hx=>by rw [List.mem_singleton.1 hx];exact ha
theorem mem2 {P:Value->Prop} {a b:Value} (ha:P a) (hb:P b):∀x ∈ [a,b],P x:=fun x hx=>by
 rcases List.mem_cons.1 hx with rfl|hx
 ·exact ha
 ·exact mem1 hb x hx
theorem mem3 {P:Value->Prop} {a b c:Value} (ha:P a) (hb:P b) (hc:P c):∀x ∈ [a,b,c],P x:=fun x hx=>by
 rcases List.mem_cons.1 hx with rfl|hx
 ·exact ha
 ·exact mem2 hb hc x hx
theorem Cw {P:Value->Prop} {l:List Value} {a:Value} (h:∀x ∈ l,P x) (ha:P a):∀x ∈ l++[a],P x:=fun x hx=>by
 rcases List.mem_append.1 hx with hx|hx
 ·exact h x hx
 ·exact mem1 ha x hx
end Pz
end Go.Proofs.YtpaefhceiliaiaaGreatDoor
