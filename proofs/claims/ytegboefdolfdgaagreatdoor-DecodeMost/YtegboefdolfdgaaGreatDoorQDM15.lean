/- Texts that the claim needs. -/
import Derived.Test.YtegboefdolfdgaaGreatDoorQDM14
namespace Go.Proofs.YtegboefdolfdgaaGreatDoor
open Go.RowKit aA ai
set_option linter.unusedVariables false
set_option maxRecDepth 100000
set_option maxHeartbeats 4000000
namespace ai
def lv {α:Type} (l:List α) (x:R2 (List α × Int)):R2 (List α × Int):=bL x fun r j m=>.ok ((l++r.1,r.2),j,m)
theorem Kr {α:Type} (x:R2 (List α × Int)):lv [] x=x:=by
 unfold lv bL;cases x with
 | error e=>rfl
 | ok v=>rfl
section
variable {d:Nat} {sub:Nat->Nat->R2 (IL d × Int)} {s:ByteArray} {en dep f i n:Nat} {l:List (Ins (IL d))}
theorem Ks {z:Int} (h:nx s en i=.error z):lv l (fG sub s en dep (f+1) i n)=.error z:=by
 unfold lv fG;rw [h];rfl
theorem Ez {op:Int} {j:Nat} (h:nx s en i=.ok (op,j)) (ho:op=11\/op=5):lv l (fG sub s en dep (f+1) i n)=.ok ((l,op),j,n):=by
 unfold lv fG;rw [h];show bL (if op=11\/op=5 then _ else _) _=_;rw [if_pos ho];show (Except.ok ((l++[],op),j,n):R2 (List (Ins (IL d)) × Int))=_;rw [List.append_nil]
theorem EC {op:Int} {j:Nat} {z:Int} (h:nx s en i=.ok (op,j)) (ho:¬ (op=11\/op=5)) (hr:iC sub s en dep op j n=.error z):lv l (fG sub s en dep (f+1) i n)=.error z:=by
 unfold lv fG;rw [h];show bL (if op=11\/op=5 then _ else _) _=_;rw [if_neg ho,hr];rfl
theorem Ku {op:Int} {j m n2:Nat} {x:Ins (IL d)} (h:nx s en i=.ok (op,j)) (ho:¬ (op=11\/op=5)) (hr:iC sub s en dep op j n=.ok (x,m,n2)):lv l (fG sub s en dep (f+1) i n)=lv (l++[x]) (fG sub s en dep f m n2):=by
 unfold lv;rw [fG,h];show bL (if op=11\/op=5 then _ else _) _=_;rw [if_neg ho,hr];show bL (bL (fG sub s en dep f m n2) _) _=_;cases fG sub s en dep f m n2 with
 | error e=>rfl
 | ok v=>obtain ⟨a,b,e⟩:=v;show (Except.ok ((l++x :: a.1,a.2),b,e):R2 (List (Ins (IL d)) × Int))=.ok ((l++[x]++a.1,a.2),b,e);simp
end
theorem jQ {B p:Nat} {row:Option Nat} {u u2:World} (hp:p<B) (h:But p u u2):∀k,Since B u row k->Since B u2 row k/\u2.heap[k]?=u.heap[k]?:=fun k hk =>
 ⟨⟨hk.1,Nat.lt_of_lt_of_le hk.2.1 h.size,hk.2.2⟩,h.block k hk.2.1 (fun e=>by injection e with e;have:=hk.1;omega)⟩
theorem kG {B B2:Nat} {row:Option Nat} {u:World} (hB:B<=B2) (hr:∀k,row=some k->k<B2):∀k,Since B2 u none k->Since B u row k/\u.heap[k]?=u.heap[k]?:=fun k hk =>
 ⟨⟨Nat.le_trans hB hk.1,hk.2.1,fun e=>by have:=hr k e.symm;have:=hk.1;omega⟩,rfl⟩
theorem ym {d:Nat} (w:World) (x:Ins (IL d)) (v4 v5 v6:Value):∀j u,(iS (jV x v4 v5 v6))[j]?=some u->(w.alloc (.cells #[.int .i64 x.op,.int .i64 x.a,.int .i64 x.b,.int .i64 x.n,v4,v5,v6] 73)).cell? ((⟨w.heap.size,0,none⟩:Addr).add j)=some u :=
 SJ (cF.new w w.heap.size x.op x.a x.b x.n v4 v5 v6 rfl)
end ai
theorem TR:wC 0:=by
 intro w0 p s c en k i n w dep h hn hd mi;have hN:=rf w0 p s c en k i n w h;have e:dG s en 0 dep i n=bL (lift (nx s en i) n) fun op j n1=>if op=11\/op=5 then .ok (((),op),j,n1) else .error ((gZ dep op n1).getD 4):=rfl;rw [e];clear e;cases hx:nx s en i with
 | error z =>
  rw [hx] at hN;have HN:=aa hN;show Calls _ _ _ _ (ou w0 p s c en k (B0 w.heap.size 0) w (.error z));clear hN hx;go_enter Tryz.func92,Tryz.ntmps92;go_wp2_with fail;go_loopw [4] (fun t wr=>t=.slice none 0 0/\wr=w) (fun _ _=>0)
  case atStart=>exact ⟨rfl,rfl⟩
  case round =>
   obtain ⟨rfl,rfl⟩:=hrel;go_wp2_with fail;refine HN.out.mono ?_;rintro e w1 ⟨rfl,hb⟩;exact ⟨rfl,rfl,hb⟩
 | ok v =>
  obtain ⟨op,j⟩:=v;rw [hx] at hN;have HN:=aa hN;show Calls _ _ _ _ (ou w0 p s c en k (B0 w.heap.size 0) w (if op=11\/op=5 then .ok (((),op),j,n) else .error ((gZ dep op n).getD 4)));clear hN;by_cases ho:op=11\/op=5
  ·rw [if_pos ho];have hq:(op == 11)=true\/((op == 11)=false/\(op == 5)=true):=by rcases ho with rfl|rfl<;>decide
   clear ho hx;rcases hq with q1|⟨q1,q2⟩
   all_goals
    go_enter Tryz.func92,Tryz.ntmps92;go_wp2_with fail;go_loopw [4] (fun t wr=>t=.slice none 0 0/\wr=w) (fun _ _=>0)
    case atStart=>exact ⟨rfl,rfl⟩
    case round =>
     obtain ⟨rfl,rfl⟩:=hrel;go_wp2_with fail;refine HN.out.mono ?_;rintro e w1 ⟨⟨v,rfl,hv⟩,h1,h2⟩;have hv:v=.int .i64 op:=hv;subst hv;have HF:=aa (⟨h1,h2⟩:_/\_);clear h1 h2 HN;go_wp2;go_ret2;exact ⟨⟨_,rfl,none,0,0,rfl,⟨none,0,rfl⟩⟩,HF.out.1,HF.out.2⟩
  ·rw [if_neg ho];have q1:(op == 11)=false:=by rw [beq_eq_false_iff_ne];omega
   have q2:(op == 5)=false:=by rw [beq_eq_false_iff_ne];omega
   obtain ⟨z,hz⟩:∃z,gZ dep op n=some z:=by
    cases hk:gZ dep op n with
    | some z=>exact ⟨z,rfl⟩
    | none=>have:=wI hk;omega
   rw [hz];show Calls _ _ _ _ (ou w0 p s c en k (B0 w.heap.size 0) w (.error z));have HA:=fun u hu=>aa (K7 w0 p s c en k j n u hu hn op dep mi z hz);clear ho hx hz;go_enter Tryz.func92,Tryz.ntmps92;go_wp2_with fail;go_loopw [4] (fun t wr=>t=.slice none 0 0/\wr=w) (fun _ _=>0)
   case atStart=>exact ⟨rfl,rfl⟩
   case round =>
    obtain ⟨rfl,rfl⟩:=hrel;go_wp2_with fail;refine HN.out.mono ?_;rintro e w1 ⟨⟨v,rfl,hv⟩,h1,h2⟩;have hv:v=.int .i64 op:=hv;subst hv;have HC:=HA w1 h1;clear h1 h2 HN HA;go_wp2_with fail;refine HC.out.mono ?_;rintro e w2 ⟨rfl,hb⟩;exact ⟨rfl,rfl,hb⟩
end Go.Proofs.YtegboefdolfdgaaGreatDoor
