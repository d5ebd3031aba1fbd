/- Texts that the claim needs. -/
import Derived.Test.YtlcpagiljfpbpaaDoorQEJo37
import Derived.Test.YtlcpagiljfpbpaaDoorQEJo24
import Derived.Test.YtlcpagiljfpbpaaDoorQEJo10
import Derived.Test.YtlcpagiljfpbpaaDoorQEJo11
namespace Go.Proofs.YtlcpagiljfpbpaaDoor
open Go.RowKit Rep Enc Go.Lib
set_option linter.unusedVariables false
namespace Enc
def bodyM {d:Nat} (l:IL d):Mod d:={ types:=[],imports:=[],funcs:=[{ type:=0,locals:=[],body:=l }],tables:=[],mems:=[],globals:=[],exports:=[],start:=[],elems:=[],datas:=[] }
def bodA {d:Nat} (l:IL d):Value:=if chk (bodyM l)=0 then told (bytesI d l++[11]) else .tuple #[.string ⟨#[]⟩,.int .i64 (chk (bodyM l))]
theorem row_nil {α:Type} {k:Nat} {f:Nat->Nat->α->Prop}:Row k f (.slice none 0 0) []:=⟨by simp,.inl ⟨rfl,none,0,rfl⟩⟩
theorem bodyM_at {d:Nat} {l:IL d} {lv:Value} {w w':World} {b:Nat} (hA:At w d lv l) (hb:Below w.heap.size w w') (hx:Bx w' b 42 #[.int .i64 0,.slice none 0 0,lv]) :
  ModAt w' d (.slice none 0 0) (.slice none 0 0) (.slice (some ⟨b,0,none⟩) 1 1) (.slice none 0 0) (.slice none 0 0) (.slice none 0 0) (.slice none 0 0) (.slice none 0 0) (.slice none 0 0) (.slice none 0 0) (bodyM l) :=
 ⟨row_nil,row_nil,⟨by show 1<=_;omega,.inr ⟨b,0,1,rfl,fun i x hi=>by
  match i,hi with
  | 0,hi =>
   obtain rfl:({ type:=0,locals:=[],body:=l }:Fun d)=x:=by simpa [bodyM] using hi
   exact ⟨hx.cell 0 _ rfl,⟨_,hx.cell 1 _ rfl,row_nil⟩,⟨_,hx.cell 2 _ rfl,At.on hb d _ _ hA⟩⟩
  | i+1,hi=>simp [bodyM] at hi⟩⟩,row_nil,row_nil,row_nil,row_nil,row_nil,row_nil,row_nil⟩
theorem bodyM_ok {d:Nat} (l:IL d) (hd:d<=4611686018427387904):ModOk (.slice none 0 0) (.slice none 0 0) (bodyM l) :=
 ⟨hd,fun x hx=>by simp [bodyM] at hx,⟨fun x hx=>by simp [bodyM] at hx,fun x hx=>by simp [bodyM] at hx⟩,fun n c h=>by injection h with _ _ h;exact h.symm,fun n c h=>by injection h with _ _ h;exact h.symm⟩
end Enc
set_option maxRecDepth 100000 in
set_option maxHeartbeats 4000000 in
theorem pBody {I:World->Prop} (C:WastC I) (d:Nat) (lv:Value) (l:IL d) (w:World) (hI:I w) (hA:At w d lv l) (hd:d<=4611686018427387904) (hR:chk (bodyM l)=0->Rg d l/\(bytesI d l).length<=38000000000000) :
  Calls Tryd.prog 10 #[lv] w fun e w'=>e=.returned (bodA l)/\Below w.heap.size w w':=by
 have hb:=new_on' w (.cells #[.int .i64 0,.slice none 0 0,lv] 42)
 have hx:=Bx.new (w:=w) (b:=w.heap.size) (t:=42) (cs:=#[.int .i64 0,.slice none 0 0,lv]) rfl
 have HC:=hideR (pCheckC C d _ _ _ _ _ _ _ _ _ _ (bodyM l) _ (C.keep hb hI) (bodyM_at hA hb hx) (bodyM_ok l hd))
 have HB:=hideR hb
 have HI:=hideR hI
 have HA:=hideR hA
 obtain ⟨oL,kL,rfl⟩:=At.len d _ _ hA
 have HR:=hideR hR
 unfold bodA
 clear hb hx hI hA hR
 generalize size d l=nl at *
 by_cases h0:chk (bodyM l)=0
 ·rw [if_pos h0]
  obtain ⟨hR1,hR2⟩:=HR.out h0
  rw [h0] at HC
  obtain ⟨S,E,hSE⟩:∃S E,told (bytesI d l++[11])=.tuple #[.string S,.int .i64 E]:=⟨_,_,told_eq _⟩
  rw [hSE]
  have HSE:=hideR hSE
  have HR1:=hideR hR1
  have HR2:=hideR hR2
  clear hSE hR1 hR2 HR
  go_enter Tryd.func10,Tryd.ntmps10
  go_wp2_with fail
  refine HC.out.mono ?_
  rintro e w1 ⟨rfl,hb1⟩
  have hb2:=HB.out.trans (hb1.mono HB.out.size)
  have HB2:=hideR hb2
  have HWS:Hid (WS w w1.heap.size (fun _=>.slice none 0 0) (.slice none 0 0) [] (w1.alloc (.cells #[.slice none 0 0,.slice none 0 0,.slice none 0 0,.slice none 0 0,.slice none 0 0,.slice none 0 0,.slice none 0 0,.slice none 0 0,.slice none 0 0,.slice none 0 0,.slice none 0 0] 61))):=hideR
   ⟨hb2.trans ((new_on' w1 _).mono hb2.size),hb2.size,heap_new w1 _,World.ownsRow_nil _ _ _ _,by simp [Value.ownBlock]⟩
  clear hb1 hb2 HC HB
  have HC:=hideR (wExpr C.toFormC w HI.out w1.heap.size _ d _ l _ [] _ HWS.out HA.out HR1.out (by have:=HR2.out;simp only [List.length_nil];omega))
  go_wp2_with fail
  refine HC.out.mono ?_
  rintro e w3 ⟨v3,b3,rfl,h3,k3,a3,l3⟩
  have ht:told b3=.tuple #[.string S,.int .i64 E]:=by rw [told_adds a3,List.nil_append];exact HSE.out
  have hl3:0<b3.length:=by
   rcases a3 with rfl|⟨h,_⟩
   ·simp
   ·omega
  have HC2:=hideR (wTold w w1.heap.size _ v3 b3 w3 h3 (by have:=HR2.out;simp only [List.length_append,List.length_cons,List.length_nil] at l3;omega) hl3)
  rw [ht] at HC2
  have HB3:=hideR h3.below
  clear HC h3 k3 a3 l3 ht hl3 HWS
  go_wp2_with fail
  refine HC2.out.mono ?_
  rintro e w4 ⟨rfl,rfl⟩
  go_wp2
  go_ret2
  exact ⟨rfl,HB3.out⟩
 ·rw [if_neg h0]
  clear HR
  generalize chk (bodyM l)=r at *
  go_enter Tryd.func10,Tryd.ntmps10
  go_wp2_with fail
  refine HC.out.mono ?_
  rintro e w1 ⟨rfl,hb1⟩
  have HB1:=hideR (HB.out.trans (hb1.mono HB.out.size))
  clear hb1 HB HC
  go_wp2
  go_ret2
  exact ⟨rfl,HB1.out⟩
end Go.Proofs.YtlcpagiljfpbpaaDoor

namespace Go.Proofs.YtlcpagiljfpbpaaDoor
open Go.RowKit Rep Enc Go.Lib
set_option linter.unusedVariables false
namespace Enc
theorem goL_app {α σ:Type} {step:σ->Ins α->Option σ} {sub:α->σ->Option σ}:∀(l k:List (Ins α)) (s:σ),goL step sub (l++k) s=(goL step sub l s).bind (goL step sub k)
 | [],k,s=>rfl
 | x :: r,k,s=>by
  show ((step s x).bind fun s1=>(sub x.body s1).bind fun s2=>(sub x.els s2).bind fun s3=>goL step sub (r++k) s3)=((step s x).bind fun s1=>(sub x.body s1).bind fun s2=>(sub x.els s2).bind fun s3=>goL step sub r s3).bind (goL step sub k)
  simp only [Option.bind_assoc,goL_app r k]
def jn {d:Nat} (a b:IL (d+1)):IL (d+1):=(show List (Ins (IL d)) from a)++(show List (Ins (IL d)) from b)
theorem goI_app {σ:Type} {step:σ->Sn->Nat->Option σ} {d:Nat} (a b:IL (d+1)) (k:Nat) (s:σ):goI step (d+1) (jn a b) k s=(goI step (d+1) a k s).bind (goI step (d+1) b k):=goL_app _ _ _
theorem totL_app {α:Type} (f:α->Nat):∀(l k:List (Ins α)),totL f (l++k)=totL f l+totL f k
 | [],k=>by show totL f k=0+totL f k;omega
 | x :: r,k=>by
  show 1+f x.body+f x.els+totL f (r++k)=1+f x.body+f x.els+totL f r+totL f k
  rw [totL_app f r k];omega
theorem tot_app {d:Nat} (a b:IL (d+1)):tot (d+1) (jn a b)=tot (d+1) a+tot (d+1) b:=totL_app _ _ _
theorem goI_count:∀(d:Nat) (l:IL d) (k c:Nat),c+tot d l<=65536->goI stepCount d l k c=some (c+tot d l)
 | 0,_,_,c,_=>rfl
 | d+1,l,k,c,h=>by
  have key:∀(l:List (Ins (IL d))) (c:Nat),c+totL (tot d) l<=65536->goL (fun s x=>stepCount s (sn x) k) (fun y s=>goI stepCount d y (k+1) s) l c=some (c+totL (tot d) l):=by
   intro l
   induction l with
   | nil=>intro c _;rfl
   | cons y r ih =>
    intro c hc
    have e:totL (tot d) (y :: r)=1+tot d y.body+tot d y.els+totL (tot d) r:=rfl
    rw [e] at hc ⊢
    show ((stepCount c (sn y) k).bind fun s1=>(goI stepCount d y.body (k+1) s1).bind fun s2=>(goI stepCount d y.els (k+1) s2).bind fun s3=>goL (fun s x=>stepCount s (sn x) k) (fun y s=>goI stepCount d y (k+1) s) r s3)=_
    have e1:stepCount c (sn y) k=some (c+1):=by unfold stepCount;rw [if_pos (by omega)]
    rw [e1,Option.bind_some,goI_count d y.body (k+1) (c+1) (by omega),Option.bind_some,goI_count d y.els (k+1) _ (by omega),Option.bind_some,ih _ (by omega)]
    congr 1;omega
  exact key (show List (Ins (IL d)) from l) c h
theorem goF_body {σ:Type} {step:σ->Sn->Nat->Option σ} {d:Nat} (l:IL d) (s:σ):goF step d (bodyM l).funcs s=goI step d l 0 s:=by
 show ((goI step d l 0 s).bind fun s1=>some s1)=_
 cases goI step d l 0 s<;>rfl
theorem few_body {d:Nat} (l:IL d):fewM (bodyM l)=true:=by kernel_rfl
theorem sh_body {d:Nat} (l:IL d):shM (bodyM l)=true:=by kernel_rfl
theorem chk_body {d:Nat} (l:IL d) (h:tot d l<=65536):chk (bodyM l)=0↔goI stepLabels d l 0 ()=some ()/\goI stepDepth d l 0 ()=some ()/\goI stepForm d l 0 ()=some ():=by
 unfold chk
 rw [if_pos (few_body l),if_pos (sh_body l),goF_body,goF_body,goF_body,goF_body,goI_count d l 0 0 (by omega)]
 cases h1:goI stepLabels d l 0 () with
 | none=>simp
 | some u1 =>
  cases h2:goI stepDepth d l 0 () with
  | none=>simp
  | some u2 =>
   cases h3:goI stepForm d l 0 () with
   | none=>simp
   | some u3=>simp
theorem unit_bind {x:Option Unit} {f:Unit->Option Unit}:x.bind f=some ()↔x=some ()/\f ()=some ():=by
 cases x<;>simp
theorem chk_join {d:Nat} (a b:IL (d+1)) (h:tot (d+1) a+tot (d+1) b<=65536):chk (bodyM (jn a b))=0↔chk (bodyM a)=0/\chk (bodyM b)=0:=by
 rw [chk_body _ (by rw [tot_app];exact h),chk_body a (by omega),chk_body b (by omega),goI_app,goI_app,goI_app,unit_bind,unit_bind,unit_bind]
 constructor
 ·rintro ⟨⟨a1,b1⟩,⟨a2,b2⟩,a3,b3⟩;exact ⟨⟨a1,a2,a3⟩,b1,b2,b3⟩
 ·rintro ⟨⟨a1,a2,a3⟩,b1,b2,b3⟩;exact ⟨⟨a1,b1⟩,⟨a2,b2⟩,a3,b3⟩
theorem bytesI_app {d:Nat} (a b:IL (d+1)):bytesI (d+1) (jn a b)=bytesI (d+1) a++bytesI (d+1) b:=List.flatMap_append ..
theorem tot_wt:∀(d:Nat) (l:IL d),tot d l<=wt d l
 | 0,_=>Nat.le_refl _
 | d+1,l=>by
  have key:∀(l:List (Ins (IL d))),totL (tot d) l<=wtL (wt d) l:=by
   intro l
   induction l with
   | nil=>exact Nat.le_refl _
   | cons y r ih =>
    have h1:=tot_wt d y.body
    have h2:=tot_wt d y.els
    show 1+tot d y.body+tot d y.els+totL (tot d) r<=1+y.labels.length / 10+wt d y.body+wt d y.els+wtL (wt d) r
    omega
  exact key (show List (Ins (IL d)) from l)
theorem uB_five {n:Int} (h0:0<=n) (h:n<=4294967295):(Leb.uB n).length<=5:=by
 by_cases h1:n<128
 ·rw [Leb.uB_small h0 h1];simp
 rw [Leb.uB_great (by omega)]
 by_cases h2:n / 128<128
 ·rw [Leb.uB_small (by omega) h2];simp
 rw [Leb.uB_great (by omega)]
 by_cases h3:n / 128 / 128<128
 ·rw [Leb.uB_small (by omega) h3];simp
 rw [Leb.uB_great (by omega)]
 by_cases h4:n / 128 / 128 / 128<128
 ·rw [Leb.uB_small (by omega) h4];simp
 rw [Leb.uB_great (by omega),Leb.uB_small (n:=n / 128 / 128 / 128 / 128) (by omega) (by omega)];simp
theorem insB_five {α:Type} {rec:α->List Int} {sz:α->Nat} {P:α->Prop} {x:Ins α} (r:Rg1 P x):(insB rec sz x).length<=11+5*x.labels.length+(rec x.body).length+(rec x.els).length:=by
 unfold insB
 have ha:4<=form x.op->form x.op<=8->(Leb.uB x.a).length<=5:=fun h1 h2=>uB_five (r.a h1 h2).1 (r.a h1 h2).2
 have hb:form x.op=8->(Leb.uB x.b).length<=5:=fun h=>uB_five (r.b h).1 (r.b h).2
 have hn:form x.op=9->(Leb.sB x.n).length<=10:=fun h=>Leb.sB_ten (r.n h).1 (r.n h).2
 have hi:form x.op=5->(idxB x.labels).length<=5+5*x.labels.length:=fun h=>by
  have h1:=uB_five (n:=(x.labels.length:Int)) (by omega) (by have:=r.few;omega)
  have h2:=flat_le (f:=Leb.uB) 5 x.labels fun y hy=>uB_five (r.labels h y hy).1 (r.labels h y hy).2
  unfold idxB
  rw [List.length_append];omega
 rw [List.length_append]
 simp only [List.length_cons,List.length_nil]
 split
 ·split<;>simp<;>omega
 ·split
  ·simp only [List.length_append,List.length_cons,List.length_nil]
   have e1:(if x.a=0 then [64] else [x.a%256]:List Int).length=1:=by split<;>rfl
   have e2:(if 0<sz x.els then 5 :: ([]++rec x.els) else []:List Int).length<=1+(rec x.els).length:=by split<;>simp<;>omega
   have e3:(if 0<sz x.els then [5]++rec x.els else []:List Int).length<=1+(rec x.els).length:=by split<;>simp<;>omega
   omega
  ·split
   ·have:=ha (by omega) (by omega);omega
   ·split
    ·rw [List.length_append];have:=ha (by omega) (by omega);have:=hi (by omega);omega
    ·split
     ·rw [List.length_append];have:=ha (by omega) (by omega);simp only [List.length_cons,List.length_nil];omega
     ·split
      ·rw [List.length_append];have:=ha (by omega) (by omega);have:=hb (by omega);omega
      ·split
       ·have:=hn (by omega);omega
       ·simp;omega
theorem bytesI_wt:∀(d:Nat) (l:IL d),Rg d l->(bytesI d l).length<=wt d l*56
 | 0,_,_=>by show 0<=_;omega
 | d+1,l,hR=>by
  have key:∀(l:List (Ins (IL d))),(∀x ∈ l,Rg1 (Rg d) x)->(insL (bytesI d) (size d) l).length<=wtL (wt d) l*56:=by
   intro l
   induction l with
   | nil=>intro _;show 0<=_;omega
   | cons y r ih =>
    intro h
    have h1:=ih fun x hx=>h x (List.mem_cons_of_mem _ hx)
    have r:=h y (List.mem_cons_self ..)
    have h2:=insB_five (rec:=bytesI d) (sz:=size d) r
    have h3:=bytesI_wt d y.body r.body
    have h4:=bytesI_wt d y.els r.els
    show (insB (bytesI d) (size d) y++insL (bytesI d) (size d) _).length<=(1+y.labels.length / 10+wt d y.body+wt d y.els+wtL (wt d) _)*56
    rw [List.length_append]
    omega
  exact key (show List (Ins (IL d)) from l) hR
end Enc
end Go.Proofs.YtlcpagiljfpbpaaDoor

namespace Go.Proofs.YtlcpagiljfpbpaaDoor
open Go.RowKit Rep Enc Go.Lib
set_option linter.unusedVariables false
namespace Enc
def wakeM:Mod 0:={ types:=[⟨[],[]⟩],imports:=[],funcs:=[],tables:=[],mems:=[],globals:=[],exports:=[],start:=[],elems:=[],datas:=[] }
theorem row_no {α:Type} {k:Nat} {f:Nat->Nat->α->Prop}:Row k f (.slice none 0 0) []:=⟨by simp,.inl ⟨rfl,none,0,rfl⟩⟩
theorem wake_chk:chk wakeM=0:=by decide
theorem wake_wr:Wr wakeM:=⟨fun x hx=>by rw [List.mem_singleton.1 hx];exact ⟨by decide,by decide⟩,fun x hx=>(by cases hx),fun x hx=>(by cases hx),fun x hx=>(by cases hx),fun x hx=>(by cases hx),fun x hx=>(by cases hx),fun x hx=>(by cases hx),fun x hx=>(by cases hx),fun x hx=>(by cases hx),fun x hx=>(by cases hx),by decide,by decide,fun x hx=>(by cases hx),by decide⟩
theorem wake_told:told (modB wakeM)=.tuple #[.string ⟨#[0,97,115,109,1,0,0,0,1,4,1,96,0,0]⟩,.int .i64 0]:=by
 have h:modB wakeM = [0,97,115,109,1,0,0,0,1,4,1,96,0,0]:=by decide
 rw [h];unfold told;rw [if_neg (by decide)];rfl
end Enc
set_option maxRecDepth 100000 in
set_option maxHeartbeats 4000000 in
theorem pWake {I:World->Prop} (C:WastC I) (w:World) (hI:I w):Calls Tryd.prog 6 #[] w fun e w'=>e=.returned (.bool true)/\Below w.heap.size w w':=by
 have hb:=new_on' w (.cells #[.slice none 0 0,.slice none 0 0] 48)
 have hx:=Bx.new (w:=w) (b:=w.heap.size) (t:=48) (cs:=#[.slice none 0 0,.slice none 0 0]) rfl
 have hM:ModAt (w.alloc (.cells #[.slice none 0 0,.slice none 0 0] 48)) 0 (.slice (some ⟨w.heap.size,0,none⟩) 1 1) (.slice none 0 0) (.slice none 0 0) (.slice none 0 0) (.slice none 0 0) (.slice none 0 0) (.slice none 0 0) (.slice none 0 0) (.slice none 0 0) (.slice none 0 0) wakeM :=
  ⟨⟨by show 1<=_;omega,.inr ⟨w.heap.size,0,1,rfl,fun i x hi=>by
   match i,hi with
   | 0,hi =>
    obtain rfl:(⟨[],[]⟩:FT)=x:=by simpa [wakeM] using hi
    exact ⟨⟨_,hx.cell 0 _ rfl,row_no⟩,⟨_,hx.cell 1 _ rfl,row_no⟩⟩
   | i+1,hi=>simp [wakeM] at hi⟩⟩,row_no,row_no,row_no,row_no,row_no,row_no,row_no,row_no,row_no⟩
 have hC:=pEncode1 C 0 _ _ _ _ _ _ _ _ _ _ wakeM _ (C.keep hb hI) hM ⟨by omega,fun x hx=>(by cases hx),⟨fun x hx=>(by cases hx),fun x hx=>(by cases hx)⟩,fun n c h=>(by injection h with _ _ h;exact h.symm),fun n c h=>(by injection h with _ _ h;exact h.symm)⟩ wake_chk wake_wr
 rw [wake_told] at hC
 have HC:=hideR hC
 have HB:=hideR hb
 clear hC hM hx hb hI
 go_enter Tryd.func6,Tryd.ntmps6
 go_wp2_with fail
 refine HC.out.mono ?_
 rintro e w1 ⟨rfl,hb1⟩
 have HB1:=hideR (HB.out.trans (hb1.mono HB.out.size))
 clear hb1 HB HC
 go_wp2
 go_ret
 exact ⟨rfl,HB1.out⟩
end Go.Proofs.YtlcpagiljfpbpaaDoor

namespace Go.Proofs.YtlcpagiljfpbpaaDoor
open Go.RowKit Rep Enc Go.Lib
set_option linter.unusedVariables false
namespace Enc
theorem NR_empty:∀(d:Nat) (l:IL d),size d l=0->NR d l
 | 0,_,_=>trivial
 | d+1,l,h=>by
  intro x hx
  have:(show List (Ins (IL d)) from l) = []:=List.length_eq_zero_iff.1 h
  rw [this] at hx;cases hx
theorem NR_on {w:World}:∀(d e:Nat) (v:Value) (l:IL d) (k:IL e),At w d v l->At w e v k->NR e k->NR d l
 | 0,_,_,_,_,_,_,_=>trivial
 | d+1,0,v,l,k,hl,hk,_=>by
  obtain ⟨o,cap,rfl⟩:=hk
  obtain ⟨o',cap',h⟩:=At.len (d+1) _ _ hl
  injection h with _ h2 _
  exact NR_empty (d+1) l h2.symm
 | d+1,e+1,v,l,k,hl,hk,hN=>by
  intro x hx
  have hl':Row 7 (InsAt w (At w d)) v (show List (Ins (IL d)) from l):=hl
  have hk':Row 7 (InsAt w (At w e)) v (show List (Ins (IL e)) from k):=hk
  obtain ⟨i,hi,rfl⟩:=List.getElem_of_mem hx
  obtain ⟨b,off,cap,hv,hc⟩:=Row.some hl' (by omega)
  obtain ⟨o2,cap2,hv2⟩:=Row.len hk'
  rw [hv] at hv2
  injection hv2 with _ hlen _
  obtain ⟨b',off',cap',hv',hc'⟩:=Row.some hk' (by omega)
  rw [hv] at hv'
  injection hv' with ha _ _
  injection ha with ha
  injection ha with hb ho _
  subst hb ho
  obtain ⟨y,hy⟩:∃y,(show List (Ins (IL e)) from k)[i]?=some y:=⟨_,List.getElem?_eq_getElem (by omega)⟩
  have hX:=hc i _ (List.getElem?_eq_getElem hi)
  have hY:=hc' i y hy
  obtain ⟨n1,n2,n3⟩:=hN y (List.mem_of_getElem? hy)
  obtain ⟨v5,c5,a5⟩:=hX.body
  obtain ⟨v6,c6,a6⟩:=hX.els
  obtain ⟨u5,d5,b5⟩:=hY.body
  obtain ⟨u6,d6,b6⟩:=hY.els
  have e5:v5=u5:=by rw [c5] at d5;exact Option.some.inj d5
  have e6:v6=u6:=by rw [c6] at d6;exact Option.some.inj d6
  have en:((show List (Ins (IL d)) from l)[i]).n=y.n:=by
   have h1:=hX.n
   rw [hY.n] at h1
   injection h1 with h1
   injection h1 with _ h1
   exact h1.symm
  refine ⟨by rw [en];exact n1,?_,?_⟩
  ·exact NR_on d e v5 _ y.body a5 (e5 ▸ b5) n2
  ·exact NR_on d e v6 _ y.els a6 (e6 ▸ b6) n3
end Enc
section Of
variable {H:Type} {enc:TypeId × Value->H} {w:World} {base:Nat} {spare:Nat->Bool} {held:Bool}
theorem insN_of {n d:Nat} {cs:List Value} {y:DataW H × List MemPlace} {b o:Nat} (hy:DataW.trod enc Tryd.prog w base spare held n 50 cs=some y) (hc:∀j,j<7->w.cell? ⟨b,o+j,none⟩=cs[j]?)
  (ih:∀m v x,n=m+1->DataW.trod enc Tryd.prog w base spare held m 40 [v]=some x->∃l:IL d,At w d v l/\NR d l):∃z:Ins (IL d),InsAt w (At w d) b o z/\NR1 (NR d) z:=by
 obtain ⟨xs,m,rfl,_,_,hxl,hall⟩:=DataW.trod_struct Tryd.underlying50 hy
 obtain ⟨y0,g0⟩:=field_get hxl hall 0 _ rfl
 obtain ⟨y1,g1⟩:=field_get hxl hall 1 _ rfl
 obtain ⟨y2,g2⟩:=field_get hxl hall 2 _ rfl
 obtain ⟨y3,g3⟩:=field_get hxl hall 3 _ rfl
 obtain ⟨y4,g4⟩:=field_get hxl hall 4 _ rfl
 obtain ⟨y5,g5⟩:=field_get hxl hall 5 _ rfl
 obtain ⟨y6,g6⟩:=field_get hxl hall 6 _ rfl
 obtain ⟨z0,e0,_⟩:=int_field Tryd.underlying3 cInt g0
 obtain ⟨z1,e1,_⟩:=int_field Tryd.underlying3 cInt g1
 obtain ⟨z2,e2,_⟩:=int_field Tryd.underlying3 cInt g2
 obtain ⟨z3,e3,hw0⟩:=int_field Tryd.underlying3 cInt g3
 have hw:-9223372036854775808<=z3/\z3<=9223372036854775807:=by have:=bounds_i64 hw0;omega
 obtain ⟨v4,e4,t4⟩:=slice_field Tryd.underlying28 cInts g4
 obtain ⟨v5,e5,t5⟩:=slice_field Tryd.underlying40 cInstrs g5
 obtain ⟨v6,e6,t6⟩:=slice_field Tryd.underlying40 cInstrs g6
 obtain ⟨l4,h4⟩:=ints_of t4
 obtain ⟨l5,h5,r5⟩:=ih m v5 _ rfl t5
 obtain ⟨l6,h6,r6⟩:=ih m v6 _ rfl t6
 exact ⟨⟨z0,z1,z2,z3,l4,l5,l6⟩,⟨(hc 0 (by omega)).trans e0,(hc 1 (by omega)).trans e1,(hc 2 (by omega)).trans e2,(hc 3 (by omega)).trans e3,⟨v4,(hc 4 (by omega)).trans e4,h4⟩,⟨v5,(hc 5 (by omega)).trans e5,h5⟩,⟨v6,(hc 6 (by omega)).trans e6,h6⟩⟩,hw,r5,r6⟩
theorem atN_of (fuel:Nat):∀(d:Nat) (v:Value) (x:DataW H × List MemPlace),fuel<=d->DataW.trod enc Tryd.prog w base spare held fuel 40 [v]=some x->∃l:IL d,At w d v l/\NR d l:=by
 induction fuel using Nat.strongRecOn with
 | _ fuel ih =>
  intro d v x hd h
  cases d with
  | zero =>
   obtain rfl:fuel=0:=by omega
   simp [DataW.trod] at h
  | succ d =>
   obtain ⟨⟨l,hl⟩,_⟩:=row_of_trod (α:=Ins (IL d)) 7 (by omega) (fun b o z=>InsAt w (At w d) b o z/\NR1 (NR d) z) Tryd.underlying40 cInstr h fun n cs y b o hn hy _ hc =>
    insN_of hy hc fun m' v x hm hx=>ih m' (by omega) d v x (by omega) hx
   exact ⟨l,hl.imp fun _ _ _ _ h=>h.1,row_mem hl⟩
end Of
end Go.Proofs.YtlcpagiljfpbpaaDoor

