/- Texts that the claim needs. -/
import Derived.Test.YthfapccopngfhaaDoorQDex19
import Derived.Deep.CutRange
import Derived.Test.YthfapccopngfhaaDoorQDex20
import Derived.Test.YthfapccopngfhaaDoorQDex21
namespace Go.Proofs.YthfapccopngfhaaDoor
open Go.RowKit Rep Dec
set_option linter.unusedVariables false
set_option maxRecDepth 100000 in
set_option maxHeartbeats 16000000 in
theorem seqCS (d:Nat) (IH:SeqC d):SeqC (d+1):=by
 intro w0 p s c en k i n w dep h hn hd hdep
 have hpw:=h.lt
 have hlen:=h.len
 obtain ⟨sub,hsub⟩:∃sub,sub=rseq s en d (dep+1):=⟨_,rfl⟩
 have hfw:Fwd en sub:=by rw [hsub];exact rseq_fwd hlen d (dep+1)
 have hnb:Nb sub:=by rw [hsub];exact rseq_nb s en d (dep+1)
 have e:rseq s en (d+1) dep i n=rloop sub s en dep (en-i+1) i n:=by rw [hsub];rfl
 rw [e]
 obtain ⟨R,hR⟩:∃R,R=rloop sub s en dep (en-i+1) i n:=⟨_,rfl⟩
 rw [<- hR]
 have HR:=hideR hR
 have H:=hideR h
 have HI:Hid (∀(j n:Nat) (u:World) (op:Int),RS w0 p s c en k j n u->n<=65536->dep<=65->Calls Tryd.prog 27 #[.pointer (some ⟨p,0,none⟩),.int .i64 op,.int .i64 dep] u (Rds2 w0 p s c en k (vIns u.heap.size d) u (rins sub s en dep op j n))):=hideR (fun j n u op hu hn hp=>by
  rw [hsub];exact dIns w0 p s c en k j n u hu hn op dep hp IH (by omega))
 have HFW:=hideR hfw
 have HNB:=hideR hnb
 clear e hR h hsub hfw hnb IH
 go_enter Tryd.func17,Tryd.ntmps17
 go_wp2_with fail
 go_loopw [4] (fun t wr=>∃(l:List (Ins (IL d))) (ps:List (Pc d)) (iq nq f:Nat),(∃o c,t=.slice o l.length c)/\nq<=65536/\en-iq+1<=f/\l.length<=iq/\Hid (R=prq l (rloop sub s en dep f iq nq))/\Hid (RS w0 p s c en k iq nq wr)/\Hid (But p w wr)/\Hid (ps.map (·.1)=l)/\Hid (wr.ownsRow w.heap.size 56 7 t l.length (flat7 ps))/\Hid (∀q ∈ ps,PcOk wr (Since w.heap.size wr t.ownBlock) q)) (fun _ wr=>en-(RowKit.intOf ((wr.cell? ⟨p,1,none⟩).getD (.int .i64 0))).toNat)
 case atStart=>exact ⟨[],[],i,n,en-i+1,⟨none,0,rfl⟩,hn,Nat.le_refl _,by simp,hideR (by rw [HR.out,prq_nil]),H,hideR (But.refl p w),hideR rfl,hideR (World.ownsRow_nil _ _ _ _),hideR (fun q hq=>by cases hq)⟩
 case round =>
  obtain ⟨l,ps,iq,nq,f,⟨oT,cT,rfl⟩,hnq,hf,hll,HP,HS,HB,HM,HO,HK⟩:=hrel
  obtain ⟨f',rfl⟩:∃f',f=f'+1:=⟨f-1,by omega⟩
  have hbig:=HS.out.big
  have hle:=HS.out.le
  have hN:=dNext w0 p s c en k iq nq wr HS.out
  cases hx:nx s en iq with
  | error z =>
   rw [hx] at hN
   have HN:=hideR hN
   have HZ:Hid (R=.error z):=hideR (by rw [HP.out];exact prq_err hx)
   clear hN hx HP HO HK HM
   go_wp2_with fail
   refine HN.out.mono ?_
   rintro e w1 ⟨rfl,hb⟩
   exact ⟨rfl,by rw [HZ.out];exact ⟨rfl,hb⟩⟩
  | ok v =>
   obtain ⟨op,j⟩:=v
   have hnx:=nx_ok hx
   rw [hx] at hN
   have HN:=hideR hN
   clear hN
   by_cases ho:op=11\/op=5
   ·have HZ:Hid (R=.ok ((l,op),j,nq)):=hideR (by rw [HP.out];exact prq_end hx ho)
    have HV:Hid (AtS wr (Since w.heap.size wr none) (d+1) (.slice oT l.length cT) l):=hideR (at_of_row l ps HM.out (by omega) (by rw [show ps.length=l.length by rw [<- HM.out,List.length_map]];exact HO.out) HK.out)
    have hq:(op == 11)=true\/((op == 11)=false/\(op == 5)=true):=by rcases ho with rfl|rfl<;>decide
    clear ho hx HP HO HK HM hnx hf
    generalize l.length=nl at *
    rcases hq with q1|⟨q1,q2⟩
    all_goals
     go_wp2_with fail
     refine HN.out.mono ?_
     rintro e w1 ⟨⟨v,rfl,hv⟩,h1,h2⟩
     have hv:v=.int .i64 op:=hv
     subst hv
     have HF:=hideR (⟨h1,HB.out.trans h2⟩:_/\_)
     have HV2:=hideR (AtS.keep (since_but hpw h2) (d+1) _ _ HV.out)
     clear h1 h2 HN HV
     go_wp2
     go_ret2
     rw [HZ.out]
     exact ⟨⟨_,rfl,_,_,_,rfl,HV2.out⟩,HF.out.1,HF.out.2⟩
   ·have q1:(op == 11)=false:=by rw [beq_eq_false_iff_ne];omega
    have q2:(op == 5)=false:=by rw [beq_eq_false_iff_ne];omega
    cases hr:rins sub s en dep op j nq with
    | error z =>
     have HZ:Hid (R=.error z):=hideR (by rw [HP.out];exact prq_bad hx ho hr)
     have HRR:=hideR hr
     clear ho hx hr HP HO HK HM hnx hf hll
     generalize l.length=nl at *
     go_wp2_with fail
     refine HN.out.mono ?_
     rintro e w1 ⟨⟨v,rfl,hv⟩,h1,h2⟩
     have hv:v=.int .i64 op:=hv
     subst hv
     have hC:=HI.out j nq w1 op h1 hnq hdep
     rw [HRR.out] at hC
     have HC:=hideR hC
     clear h1 h2 HN hC HRR
     go_wp2_with fail
     refine HC.out.mono ?_
     rintro e w2 ⟨rfl,hb⟩
     exact ⟨rfl,by rw [HZ.out];exact ⟨rfl,hb⟩⟩
    | ok v =>
     obtain ⟨x,m,n2⟩:=v
     have hro:=rins_ok hlen HFW.out (by omega) hr
     have hn2:n2<=65536:=rins_nb HNB.out _ _ _ _ _ hnq hr
     have HZ:Hid (R=prq (l++[x]) (rloop sub s en dep f' m n2)):=hideR (by rw [HP.out];exact prq_on hx ho hr)
     have HRR:=hideR hr
     clear ho hx hr HP
     generalize hnl:l.length=nl at *
     go_wp2_with fail
     refine HN.out.mono ?_
     rintro e w1 ⟨⟨v,rfl,hv⟩,h1,h2⟩
     have hv:v=.int .i64 op:=hv
     subst hv
     have hC:=HI.out j nq w1 op h1 hnq hdep
     rw [HRR.out] at hC
     have HC:=hideR hC
     have HO1:=hideR (own_but HO.out hpw h2)
     have HK1:=hideR (fun q hq=>(HK.out q hq).keep (since_butO hpw h2))
     have HB1:=hideR (HB.out.trans h2)
     have HSZ1:Hid (∀q',(Value.slice oT nl cT).ownBlock=some q'->w.heap.size<=q'/\q'<w1.heap.size):=hideR (fun q' hq'=>HO1.out.lt q' hq')
     have HWS:Hid (w.heap.size<=w1.heap.size):=hideR (Nat.le_trans HB.out.size h2.size)
     clear h1 h2 HN hC HRR HO HK HB
     go_wp2_with fail
     refine HC.out.mono ?_
     rintro e w2 ⟨⟨v,rfl,hv⟩,h1,h2⟩
     obtain ⟨o4,n4,k4,o5,n5,k5,o6,n6,k6,rfl,hI4,hA5,hA6⟩:=hv
     have hup:=since_new (B:=w.heap.size) (B2:=w1.heap.size) (u:=w2) (row:=(Value.slice oT nl cT).ownBlock) HWS.out (fun q' hq'=>(HSZ1.out q' hq').2)
     have HNEW:Hid (PcOk w2 (Since w.heap.size w2 (Value.slice oT nl cT).ownBlock) (mkPc x (.slice o4 n4 k4) (.slice o5 n5 k5) (.slice o6 n6 k6))):=hideR ⟨hI4.keep hup,AtS.keep hup _ _ _ hA5,AtS.keep hup _ _ _ hA6⟩
     have HO2:=hideR ((own_but HO1.out hpw h2).alloc (.cells #[.int .i64 x.op,.int .i64 x.a,.int .i64 x.b,.int .i64 x.n,.slice o4 n4 k4,.slice o5 n5 k5,.slice o6 n6 k6] 56))
     have HN2:=hideR (pc_cells w2 x (.slice o4 n4 k4) (.slice o5 n5 k5) (.slice o6 n6 k6))
     have HK2:=hideR (fun q hq=>(HK1.out q hq).keep (since_butO hpw h2))
     have HB2:=hideR ((HB1.out.trans h2).trans (But.of p (new_on' w2 (.cells #[.int .i64 x.op,.int .i64 x.a,.int .i64 x.b,.int .i64 x.n,.slice o4 n4 k4,.slice o5 n5 k5,.slice o6 n6 k6] 56))))
     have HS2:=hideR (h1.on (new_on' w2 (.cells #[.int .i64 x.op,.int .i64 x.a,.int .i64 x.b,.int .i64 x.n,.slice o4 n4 k4,.slice o5 n5 k5,.slice o6 n6 k6] 56)))
     have HBL:=hideR (new_on' w2 (.cells #[.int .i64 x.op,.int .i64 x.a,.int .i64 x.b,.int .i64 x.n,.slice o4 n4 k4,.slice o5 n5 k5,.slice o6 n6 k6] 56))
     have HSZ:Hid (w.heap.size<=w2.heap.size):=hideR (Nat.le_trans HWS.out h2.size)
     clear h1 h2 hI4 hA5 hA6 hup HC HO1 HK1 HB1 HSZ1 HWS
     obtain ⟨i1,hi1,hy0,hy1,hy2⟩:=info_parts insInfo
     go_wp2_with (first|(at_builtin;refine wpList_appS rfl _ _ 23 rfl w.heap.size 56 i1 _ 7 104 Tryd.underlying23 hi1 hy0 hy1 hy2 rfl (by decide) _ _ _ rfl HO2.out (some ⟨w2.heap.size,0,none⟩) 1 1 (pc7 (mkPc x (.slice o4 n4 k4) (.slice o5 n5 k5) (.slice o6 n6 k6))) rfl ?c6 ?c0 ?c1 ?c2 ?c3 ?c4 ?c5 ?_))
     case c6=>intro h;cases h
     case c0=>rfl
     case c1=>exact fun ad h=>by injection h with h;subst h;exact HN2.out
     case c2=>exact pc7_one _ rfl rfl rfl
     case c3=>unfold maxLen;omega
     case c4=>omega
     case c5=>have:=HSZ.out;simp;omega
     intro v9 w9 hown9 hg9 hv9
     have ho9:∀q',(Value.slice oT nl cT).ownBlock=some q'->w.heap.size<=q':=fun q' hq'=>(HO2.out.lt q' hq').1
     have HS9:=hideR (HS2.out.grown hg9 (fun q' hq'=>Nat.lt_of_lt_of_le hpw (ho9 q' hq')))
     have HB9:=hideR (But.grown (p:=p) HB2.out hg9 ho9)
     have HO9:Hid (w9.ownsRow w.heap.size 56 7 v9 (nl+1) (flat7 (ps++[mkPc x (.slice o4 n4 k4) (.slice o5 n5 k5) (.slice o6 n6 k6)]))):=hideR (by rw [flat7_snoc];exact hown9)
     have HK9:Hid (∀q ∈ ps++[mkPc x (.slice o4 n4 k4) (.slice o5 n5 k5) (.slice o6 n6 k6)],PcOk w9 (Since w.heap.size w9 v9.ownBlock) q):=hideR (fun q hq=>by
      have key:∀q:Pc d,PcOk w2 (Since w.heap.size w2 (Value.slice oT nl cT).ownBlock) q->PcOk w9 (Since w.heap.size w9 v9.ownBlock) q:=fun q h=>(h.keep (since_below HBL.out)).keep (since_grown hg9 (by simpa using hv9))
      rcases List.mem_append.1 hq with hq|hq
      ·exact key q (HK2.out q hq)
      ·rw [List.mem_singleton.1 hq];exact key _ HNEW.out)
     have HM9:Hid ((ps++[mkPc x (.slice o4 n4 k4) (.slice o5 n5 k5) (.slice o6 n6 k6)]).map (·.1)=l++[x]):=hideR (by rw [List.map_append,HM.out];rfl)
     have hsl:=own_slice hown9
     have HLN:Hid ((l++[x]).length=nl+1):=hideR (by rw [List.length_append,hnl];rfl)
     have hc9:=HS9.out.cell 1 _ rfl
     have hcr:=HS.out.cell 1 _ rfl
     clear hown9 hg9 hv9 ho9 HO2 HN2 HB2 HS2 HK2 HNEW HBL
     obtain ⟨oN,cN,rfl⟩:=hsl
     go_wp2
     go_roundw
     case rel=>exact ⟨l++[x],_,m,n2,f',⟨oN,cN,by rw [HLN.out]⟩,hn2,by omega,by rw [HLN.out];omega,HZ,HS9,HB9,HM9,by rw [HLN.out];exact HO9,HK9⟩
     case measure=>rw [hc9,hcr];simp [RowKit.intOf];omega
theorem seqC:∀d,SeqC d
 | 0=>seqC0
 | d+1=>seqCS d (seqC d)
end Go.Proofs.YthfapccopngfhaaDoor

namespace Go.Proofs.YthfapccopngfhaaDoor
open Go.RowKit Rep Dec
set_option linter.unusedVariables false
namespace Dec
def vIL (B d:Nat) (a:IL d) (v:Value) (w:World):Prop:=∃o n k,v=.slice o n k/\AtS w (Since B w none) d (.slice o n k) a
def xE (s:ByteArray) (a:Int):R2 (IL 81):=if 262144<s.size then .error 2 else if 0<=a/\a<=s.size then rexpr s s.size a.toNat 0 else .error 1
def XSays (s:ByteArray) (a:Int) (w:World) (e:Ending) (w':World):Prop:=Below w.heap.size w w' /\
 match xE s a with
 | .error z=>e=.returned (.tuple #[.slice none 0 0,.int .i64 0,.int .i64 z])
 | .ok (l,j,_)=>∃o n k,e=.returned (.tuple #[.slice o n k,.int .i64 j,.int .i64 0])/\At w' 81 (.slice o n k) l
end Dec
set_option maxRecDepth 100000 in
set_option maxHeartbeats 4000000 in
theorem dExpression (w0:World) (p:Nat) (s:ByteArray) (c:Nat->Value) (en k i n:Nat) (w:World) (h:RS w0 p s c en k i n w) (hn:n<=65536) :
  Calls Tryd.prog 11 #[.pointer (some ⟨p,0,none⟩)] w (Rds2 w0 p s c en k (vIL w.heap.size 81) w (rexpr s en i n)):=by
 have hC:=seqC 81 w0 p s c en k i n w 0 h hn (by omega) (by omega)
 unfold rexpr
 cases hx:rseq s en 81 0 i n with
 | error z =>
  rw [hx] at hC
  have HC:=hideR hC
  rw [bd2_err]
  clear hC hx h
  go_enter Tryd.func11,Tryd.ntmps11
  go_wp2_with fail
  refine HC.out.mono ?_
  rintro e w1 ⟨rfl,hb⟩
  exact ⟨rfl,rfl,hb⟩
 | ok v =>
  obtain ⟨⟨l,t⟩,j,m⟩:=v
  have htt:t=5\/t=11:=rseq_tb s en 81 0 _ _ _ _ _ hx
  rw [hx] at hC
  have HC:=hideR hC
  rw [bd2_ok']
  dsimp only
  clear hC hx h
  rcases htt with rfl|rfl
  ·rw [if_neg (by decide)]
   go_enter Tryd.func11,Tryd.ntmps11
   go_wp2_with fail
   refine HC.out.mono ?_
   rintro e w1 ⟨⟨v,rfl,o,nn,kk,hv,hA⟩,h1,h2⟩
   have hv:v=.tuple #[.slice o nn kk,.int .i64 5]:=hv
   subst hv
   have HF:=hideR h1.below
   clear h1 h2 hA HC
   go_wp2_with fail
   refine (needN _ _).mono ?_
   rintro e u ⟨rfl,rfl⟩
   exact ⟨rfl,rfl,HF.out⟩
  ·rw [if_pos rfl]
   go_enter Tryd.func11,Tryd.ntmps11
   go_wp2_with fail
   refine HC.out.mono ?_
   rintro e w1 ⟨⟨v,rfl,o,nn,kk,hv,hA⟩,h1,h2⟩
   have hv:v=.tuple #[.slice o nn kk,.int .i64 11]:=hv
   subst hv
   have HF:=hideR (⟨h1,h2,hA⟩:_/\_/\_)
   clear h1 h2 hA HC
   go_wp2_with fail
   refine (needY _ _).mono ?_
   rintro e u ⟨rfl,rfl⟩
   go_wp2
   go_ret
   exact ⟨⟨_,rfl,_,_,_,rfl,HF.out.2.2⟩,HF.out.1,HF.out.2.1⟩
theorem xassert_yes (k:Int) (w:World):(Instr.typeAssert (.iface 24 (.int .i64 k)) 20 24 true).run Tryd.prog w=.ok (.tuple #[.int .i64 k,.bool true]) w:=by
 kernel_rfl
theorem xassert_no (w:World):(Instr.typeAssert .nilIface 20 24 true).run Tryd.prog w=.ok (.tuple #[.int .i64 0,.bool false]) w:=by
 kernel_rfl
theorem cell_oth {w:World} {a:Addr} {b j:Nat} {v:Value} (h:a.block≠b):(w.setCell ⟨b,j,none⟩ v).cell? a=w.cell? a:=World.cell?_of_block (Below.heap_setCell _ _ _ _ h)
theorem exprCatch (p q r:Nat) (v y x:Value) (k:Int) (older:List PanicEntry) (w:World) (hp:w.cell? ⟨p,0,none⟩=some v) (hq:w.cell? ⟨q,0,none⟩=some y) (hr:w.cell? ⟨r,0,none⟩=some x) (fp:w.frozen? ⟨p,0,none⟩=false) (fq:w.frozen? ⟨q,0,none⟩=false) (fr:w.frozen? ⟨r,0,none⟩=false) (hpq:q≠p) (hpr:r≠p) (hqr:r≠q) :
  CallsD Tryd.prog 9 #[.pointer (some ⟨p,0,none⟩),.pointer (some ⟨q,0,none⟩),.pointer (some ⟨r,0,none⟩)] (.panicking ({ v:=.iface 24 (.int .i64 k),recovered:=false } :: older)) w fun e u' w' =>
   e=.returned (.tuple #[])/\u'=.panicking ({ v:=.iface 24 (.int .i64 k),recovered:=true } :: older)/\w'=((w.setCell ⟨p,0,none⟩ (.slice none 0 0)).setCell ⟨q,0,none⟩ (.int .i64 0)).setCell ⟨r,0,none⟩ (.int .i64 k):=by
 have hq':(w.setCell ⟨p,0,none⟩ (.slice none 0 0)).cell? ⟨q,0,none⟩=some y:=by rw [cell_oth hpq];exact hq
 have hr':((w.setCell ⟨p,0,none⟩ (.slice none 0 0)).setCell ⟨q,0,none⟩ (.int .i64 0)).cell? ⟨r,0,none⟩=some x:=by rw [cell_oth hqr,cell_oth hpr];exact hr
 refine callsD_of_wpS Tryd.func9 rfl fun c₀ cs hu=>?_
 apply wpS_seq
 apply wpS_region
 simp [wpOpsS,go_sem,recoverD,hu,Tryd.ntmps9,Exit.thenS,xassert_yes]
 apply wpS_seq
 apply wpS_region
 simp [wpOpsS,go_sem,Exit.thenS]
 refine wpS_cond (t:=true) (by simp [Act.eval,Array.replicate]) ?_
 simp only [if_true]
 apply wpS_region
 simp [wpOpsS,go_sem,hp,hq',hr',fp,fq,fr,bodyPostS,results,Tryd.results9]
theorem exprIdle (p q r:Nat) (w:World) :
  CallsD Tryd.prog 9 #[.pointer (some ⟨p,0,none⟩),.pointer (some ⟨q,0,none⟩),.pointer (some ⟨r,0,none⟩)] .returning w fun e u' w'=>e=.returned (.tuple #[])/\u'=.returning/\w'=w:=by
 refine callsD_of_wpS Tryd.func9 rfl fun c₀ cs hu=>?_
 apply wpS_seq
 apply wpS_region
 simp [wpOpsS,go_sem,recoverD,hu,Tryd.ntmps9,Exit.thenS,xassert_no]
 apply wpS_seq
 apply wpS_region
 simp [wpOpsS,go_sem,Exit.thenS]
 refine wpS_cond (t:=false) (by simp [Act.eval,Array.replicate]) ?_
 simp only [Bool.false_eq_true,if_false]
 refine wpS_of_wp (wp_skip ?_)
 cases c₀
 simp_all [bodyPostS,results,Tryd.results9]
end Go.Proofs.YthfapccopngfhaaDoor

namespace Go.Proofs.YthfapccopngfhaaDoor
open Go.RowKit Rep Dec
set_option linter.unusedVariables false
theorem ySeqC:∀d,YSeqC d
 | 0=>ySeq0
 | d+1=>ySeqS d (ySeqC d)
namespace Dec
def XSx (X:R2 (IL 81)) (e:Ending) (w':World):Prop :=
 match X with
 | .error z=>e=.returned (.tuple #[.slice none 0 0,.int .i64 0,.int .i64 z])
 | .ok (l,j,_)=>∃o n k,e=.returned (.tuple #[.slice o n k,.int .i64 j,.int .i64 0])/\At w' 81 (.slice o n k) l
theorem ds_new {w:World} {s:ByteArray} {a:Nat} (ha:a<=s.size) (hs:s.size<=262144):DS w w.heap.size s s.size a 0 0 (w.alloc (.cells #[.string s,.int .i64 a,.int .i64 s.size,.int .i64 0,.int .i64 0] 52)) :=
 ⟨new_on' _ _,Nat.le_refl _,heap_alloc_new' _ _ rfl,ha,Nat.le_refl _,hs⟩
theorem fit_expr {s:ByteArray} {b i n:Nat} {z t:Int} {l:IL 81} (h:Fits (stk 0 (yq false (rseq s s.size 81 0 b 0))) (fun a=>a=(l,t)) i n z):(z=0/\rexpr s s.size b 0=.ok (l,i,n))\/(z≠0/\rexpr s s.size b 0=.error z):=by
 rw [stk0] at h
 unfold rexpr
 cases hy:rseq s s.size 81 0 b 0 with
 | error e=>rw [hy] at h;obtain ⟨rfl,h⟩:=h;exact .inr ⟨h,rfl⟩
 | ok v =>
  obtain ⟨⟨k,t'⟩,m,n'⟩:=v
  rw [hy] at h
  have h:Fits (if false=true\/t'=11 then (.ok ((k,t'),m,n'):R2 (IL 81 × Int)) else .error 50) (fun a=>a=(l,t)) i n z:=h
  show (z=0/\(if t'=11 then (.ok (k,m,n'):R2 (IL 81)) else .error 50)=_)\/(z≠0/\(if t'=11 then (.ok (k,m,n'):R2 (IL 81)) else .error 50)=_)
  by_cases h11:t'=11
  ·rw [if_pos (.inr h11)] at h
   obtain ⟨h9,rfl,rfl,rfl⟩:=h
   injection h9 with h9 h'
   subst h9
   rw [if_pos h11]
   exact .inl ⟨rfl,rfl⟩
  ·rw [if_neg (by simp [h11])] at h
   obtain ⟨rfl,h⟩:=h
   rw [if_neg h11]
   exact .inr ⟨h,rfl⟩
end Dec
set_option maxRecDepth 100000 in
set_option maxHeartbeats 8000000 in
theorem yExpr (s:ByteArray) (a:Int) (w:World) (hs:s.size<=4611686018427387904):Calls Tryd.prog 6 #[.string s,.int .i64 a] w (XSays s a w):=by
 by_cases h1:262144<s.size
 ·have e:xE s a=.error 2:=by unfold xE;rw [if_pos h1]
  have hd:decide ((s.size:Int) > 262144)=true:=decide_eq_true (by omega)
  unfold XSays
  rw [e]
  clear e h1
  go_enter Tryd.func6,Tryd.ntmps6
  go_wp2
  go_ret3
  exact ⟨Below.refl _ _,rfl⟩
 have hd:decide ((s.size:Int) > 262144)=false:=decide_eq_false (by omega)
 by_cases h2:a<0
 ·have e:xE s a=.error 1:=by unfold xE;rw [if_neg h1,if_neg (by omega)]
  have q1:decide (a<(0:Int))=true:=decide_eq_true (by omega)
  unfold XSays
  rw [e]
  clear e h1 h2
  go_enter Tryd.func6,Tryd.ntmps6
  go_wp2
  go_ret3
  exact ⟨Below.refl _ _,rfl⟩
 have q1:decide (a<(0:Int))=false:=decide_eq_false (by omega)
 by_cases h3:(s.size:Int)<a
 ·have e:xE s a=.error 1:=by unfold xE;rw [if_neg h1,if_neg (by omega)]
  have q2:decide (a > (s.size:Int))=true:=decide_eq_true (by omega)
  unfold XSays
  rw [e]
  clear e h1 h2 h3
  go_enter Tryd.func6,Tryd.ntmps6
  go_wp2
  go_ret3
  exact ⟨Below.refl _ _,rfl⟩
 have q2:decide (a > (s.size:Int))=false:=decide_eq_false (by omega)
 have e:xE s a=rexpr s s.size a.toNat 0:=by unfold xE;rw [if_neg h1,if_pos (by omega)]
 obtain ⟨b,hb⟩:∃b:Nat,b=a.toNat:=⟨_,rfl⟩
 have hab:a=(b:Int):=by omega
 have HD:=hideR (ds_new (w:=w) (s:=s) (a:=b) (by omega) (by omega))
 rw [<- hab] at HD
 have HC:=hideR (ySeqC 81 w w.heap.size s s.size b 0 0 _ 0 false (by have:=HD.out;exact this) (fun _=>by omega) (by omega) (by omega))
 rw [<- hb] at e
 unfold XSays
 rw [e]
 have HX:Hid (∀X,rexpr s s.size b 0=X->∀e w',Below w.heap.size w w'/\XSx X e w'->Below w.heap.size w w'/\XSx (rexpr s s.size b 0) e w'):=hideR (fun X hX _ _ h=>hX ▸ h)
 show Calls _ _ _ _ (fun e w'=>Below w.heap.size w w'/\XSx (rexpr s s.size b 0) e w')
 clear e h1 h2 h3 hs hb hab
 go_enter Tryd.func6,Tryd.ntmps6
 go_wp2_with fail
 refine HC.out.mono ?_
 rintro e u ⟨l,t,o,k,c,i,n,z,rfl,h1,h2,hF,hA,hT⟩
 have hor:=fit_expr hF
 have c4:=h1.cell 4 _ rfl
 have c1:=h1.cell 1 _ rfl
 have HB:=hideR h1.below
 have HA:=hideR hA
 clear h1 h2 hF hA hT HC HD
 rcases hor with ⟨rfl,hr⟩|⟨hz,hr⟩
 ·have HR:=hideR hr
  clear hr
  go_wp2_with fail
  go_quiet (fail)
  go_wp2
  go_ret3
  refine HX.out _ HR.out _ _ ?_
  exact ⟨below_go' HB.out (below_drewN' _ _),o,k,c,rfl,At.on (below_drewN' u _) 81 _ _ (AtS.at 81 _ _ (HA.out trivial))⟩
 ·have HR:=hideR hr
  have b1:(z != 0)=true:=by simp [hz]
  clear hr hz
  go_wp2_with fail
  go_quiet (fail)
  go_wp2
  go_ret3
  refine HX.out _ HR.out _ _ ?_
  exact ⟨below_go' HB.out (below_drewN' _ _),rfl⟩
end Go.Proofs.YthfapccopngfhaaDoor

