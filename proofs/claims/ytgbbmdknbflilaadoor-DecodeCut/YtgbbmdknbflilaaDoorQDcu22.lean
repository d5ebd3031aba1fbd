/- Texts that the claim needs. -/
import Derived.Test.YtgbbmdknbflilaaDoorQDcu15
import Derived.Deep.CutRange
import Derived.Test.YtgbbmdknbflilaaDoorQDcu9
namespace Go.Proofs.YtgbbmdknbflilaaDoor
open Go.RowKit Rep Dec
set_option linter.unusedVariables false
set_option maxRecDepth 100000 in
set_option maxHeartbeats 16000000 in
theorem seqCS (d:Nat) (IH:SeqC d):SeqC (d+1):=by
 intro w0 p s c en k i n w dep h hn hd hdep
 have hpw:=h.lt
 have hlen:=h.len
 obtain ⟨sub,hsub⟩:∃sub,sub=rseq s en d (dep+1):=⟨_,rfl⟩
 have hfw:Fwd en sub:=by rw [hsub];exact rseq_fwd hlen d (dep+1)
 have hnb:Nb sub:=by rw [hsub];exact rseq_nb s en d (dep+1)
 have e:rseq s en (d+1) dep i n=rloop sub s en dep (en-i+1) i n:=by rw [hsub];rfl
 rw [e]
 obtain ⟨R,hR⟩:∃R,R=rloop sub s en dep (en-i+1) i n:=⟨_,rfl⟩
 rw [<- hR]
 have HR:=hideR hR
 have H:=hideR h
 have HI:Hid (∀(j n:Nat) (u:World) (op:Int),RS w0 p s c en k j n u->n<=65536->dep<=65->Calls Tryd.prog 70 #[.pointer (some ⟨p,0,none⟩),.int .i64 op,.int .i64 dep] u (Rds2 w0 p s c en k (vIns u.heap.size d) u (rins sub s en dep op j n))):=hideR (fun j n u op hu hn hp=>by
  rw [hsub];exact dIns w0 p s c en k j n u hu hn op dep hp IH (by omega))
 have HFW:=hideR hfw
 have HNB:=hideR hnb
 clear e hR h hsub hfw hnb IH
 go_enter Tryd.func61,Tryd.ntmps61
 go_wp2_with fail
 go_loopw [4] (fun t wr=>∃(l:List (Ins (IL d))) (ps:List (Pc d)) (iq nq f:Nat),(∃o c,t=.slice o l.length c)/\nq<=65536/\en-iq+1<=f/\l.length<=iq/\Hid (R=prq l (rloop sub s en dep f iq nq))/\Hid (RS w0 p s c en k iq nq wr)/\Hid (But p w wr)/\Hid (ps.map (·.1)=l)/\Hid (wr.ownsRow w.heap.size 75 7 t l.length (flat7 ps))/\Hid (∀q ∈ ps,PcOk wr (Since w.heap.size wr t.ownBlock) q)) (fun _ wr=>en-(RowKit.intOf ((wr.cell? ⟨p,1,none⟩).getD (.int .i64 0))).toNat)
 case atStart=>exact ⟨[],[],i,n,en-i+1,⟨none,0,rfl⟩,hn,Nat.le_refl _,by simp,hideR (by rw [HR.out,prq_nil]),H,hideR (But.refl p w),hideR rfl,hideR (World.ownsRow_nil _ _ _ _),hideR (fun q hq=>by cases hq)⟩
 case round =>
  obtain ⟨l,ps,iq,nq,f,⟨oT,cT,rfl⟩,hnq,hf,hll,HP,HS,HB,HM,HO,HK⟩:=hrel
  obtain ⟨f',rfl⟩:∃f',f=f'+1:=⟨f-1,by omega⟩
  have hbig:=HS.out.big
  have hle:=HS.out.le
  have hN:=dNext w0 p s c en k iq nq wr HS.out
  cases hx:nx s en iq with
  | error z =>
   rw [hx] at hN
   have HN:=hideR hN
   have HZ:Hid (R=.error z):=hideR (by rw [HP.out];exact prq_err hx)
   clear hN hx HP HO HK HM
   go_wp2_with fail
   refine HN.out.mono ?_
   rintro e w1 ⟨rfl,hb⟩
   exact ⟨rfl,by rw [HZ.out];exact ⟨rfl,hb⟩⟩
  | ok v =>
   obtain ⟨op,j⟩:=v
   have hnx:=nx_ok hx
   rw [hx] at hN
   have HN:=hideR hN
   clear hN
   by_cases ho:op=11\/op=5
   ·have HZ:Hid (R=.ok ((l,op),j,nq)):=hideR (by rw [HP.out];exact prq_end hx ho)
    have HV:Hid (AtS wr (Since w.heap.size wr none) (d+1) (.slice oT l.length cT) l):=hideR (at_of_row l ps HM.out (by omega) (by rw [show ps.length=l.length by rw [<- HM.out,List.length_map]];exact HO.out) HK.out)
    have hq:(op == 11)=true\/((op == 11)=false/\(op == 5)=true):=by rcases ho with rfl|rfl<;>decide
    clear ho hx HP HO HK HM hnx hf
    generalize l.length=nl at *
    rcases hq with q1|⟨q1,q2⟩
    all_goals
     go_wp2_with fail
     refine HN.out.mono ?_
     rintro e w1 ⟨⟨v,rfl,hv⟩,h1,h2⟩
     have hv:v=.int .i64 op:=hv
     subst hv
     have HF:=hideR (⟨h1,HB.out.trans h2⟩:_/\_)
     have HV2:=hideR (AtS.keep (since_but hpw h2) (d+1) _ _ HV.out)
     clear h1 h2 HN HV
     go_wp2
     go_ret2
     rw [HZ.out]
     exact ⟨⟨_,rfl,_,_,_,rfl,HV2.out⟩,HF.out.1,HF.out.2⟩
   ·have q1:(op == 11)=false:=by rw [beq_eq_false_iff_ne];omega
    have q2:(op == 5)=false:=by rw [beq_eq_false_iff_ne];omega
    cases hr:rins sub s en dep op j nq with
    | error z =>
     have HZ:Hid (R=.error z):=hideR (by rw [HP.out];exact prq_bad hx ho hr)
     have HRR:=hideR hr
     clear ho hx hr HP HO HK HM hnx hf hll
     generalize l.length=nl at *
     go_wp2_with fail
     refine HN.out.mono ?_
     rintro e w1 ⟨⟨v,rfl,hv⟩,h1,h2⟩
     have hv:v=.int .i64 op:=hv
     subst hv
     have hC:=HI.out j nq w1 op h1 hnq hdep
     rw [HRR.out] at hC
     have HC:=hideR hC
     clear h1 h2 HN hC HRR
     go_wp2_with fail
     refine HC.out.mono ?_
     rintro e w2 ⟨rfl,hb⟩
     exact ⟨rfl,by rw [HZ.out];exact ⟨rfl,hb⟩⟩
    | ok v =>
     obtain ⟨x,m,n2⟩:=v
     have hro:=rins_ok hlen HFW.out (by omega) hr
     have hn2:n2<=65536:=rins_nb HNB.out _ _ _ _ _ hnq hr
     have HZ:Hid (R=prq (l++[x]) (rloop sub s en dep f' m n2)):=hideR (by rw [HP.out];exact prq_on hx ho hr)
     have HRR:=hideR hr
     clear ho hx hr HP
     generalize hnl:l.length=nl at *
     go_wp2_with fail
     refine HN.out.mono ?_
     rintro e w1 ⟨⟨v,rfl,hv⟩,h1,h2⟩
     have hv:v=.int .i64 op:=hv
     subst hv
     have hC:=HI.out j nq w1 op h1 hnq hdep
     rw [HRR.out] at hC
     have HC:=hideR hC
     have HO1:=hideR (own_but HO.out hpw h2)
     have HK1:=hideR (fun q hq=>(HK.out q hq).keep (since_butO hpw h2))
     have HB1:=hideR (HB.out.trans h2)
     have HSZ1:Hid (∀q',(Value.slice oT nl cT).ownBlock=some q'->w.heap.size<=q'/\q'<w1.heap.size):=hideR (fun q' hq'=>HO1.out.lt q' hq')
     have HWS:Hid (w.heap.size<=w1.heap.size):=hideR (Nat.le_trans HB.out.size h2.size)
     clear h1 h2 HN hC HRR HO HK HB
     go_wp2_with fail
     refine HC.out.mono ?_
     rintro e w2 ⟨⟨v,rfl,hv⟩,h1,h2⟩
     obtain ⟨o4,n4,k4,o5,n5,k5,o6,n6,k6,rfl,hI4,hA5,hA6⟩:=hv
     have hup:=since_new (B:=w.heap.size) (B2:=w1.heap.size) (u:=w2) (row:=(Value.slice oT nl cT).ownBlock) HWS.out (fun q' hq'=>(HSZ1.out q' hq').2)
     have HNEW:Hid (PcOk w2 (Since w.heap.size w2 (Value.slice oT nl cT).ownBlock) (mkPc x (.slice o4 n4 k4) (.slice o5 n5 k5) (.slice o6 n6 k6))):=hideR ⟨hI4.keep hup,AtS.keep hup _ _ _ hA5,AtS.keep hup _ _ _ hA6⟩
     have HO2:=hideR ((own_but HO1.out hpw h2).alloc (.cells #[.int .i64 x.op,.int .i64 x.a,.int .i64 x.b,.int .i64 x.n,.slice o4 n4 k4,.slice o5 n5 k5,.slice o6 n6 k6] 75))
     have HN2:=hideR (pc_cells w2 x (.slice o4 n4 k4) (.slice o5 n5 k5) (.slice o6 n6 k6))
     have HK2:=hideR (fun q hq=>(HK1.out q hq).keep (since_butO hpw h2))
     have HB2:=hideR ((HB1.out.trans h2).trans (But.of p (new_on' w2 (.cells #[.int .i64 x.op,.int .i64 x.a,.int .i64 x.b,.int .i64 x.n,.slice o4 n4 k4,.slice o5 n5 k5,.slice o6 n6 k6] 75))))
     have HS2:=hideR (h1.on (new_on' w2 (.cells #[.int .i64 x.op,.int .i64 x.a,.int .i64 x.b,.int .i64 x.n,.slice o4 n4 k4,.slice o5 n5 k5,.slice o6 n6 k6] 75)))
     have HBL:=hideR (new_on' w2 (.cells #[.int .i64 x.op,.int .i64 x.a,.int .i64 x.b,.int .i64 x.n,.slice o4 n4 k4,.slice o5 n5 k5,.slice o6 n6 k6] 75))
     have HSZ:Hid (w.heap.size<=w2.heap.size):=hideR (Nat.le_trans HWS.out h2.size)
     clear h1 h2 hI4 hA5 hA6 hup HC HO1 HK1 HB1 HSZ1 HWS
     obtain ⟨i1,hi1,hy0,hy1,hy2⟩:=info_parts insInfo
     go_wp2_with (first|(at_builtin;refine wpList_appS rfl _ _ 65 rfl w.heap.size 75 i1 _ 7 104 Tryd.underlying65 hi1 hy0 hy1 hy2 rfl (by decide) _ _ _ rfl HO2.out (some ⟨w2.heap.size,0,none⟩) 1 1 (pc7 (mkPc x (.slice o4 n4 k4) (.slice o5 n5 k5) (.slice o6 n6 k6))) rfl ?c6 ?c0 ?c1 ?c2 ?c3 ?c4 ?c5 ?_))
     case c6=>intro h;cases h
     case c0=>rfl
     case c1=>exact fun ad h=>by injection h with h;subst h;exact HN2.out
     case c2=>exact pc7_one _ rfl rfl rfl
     case c3=>unfold maxLen;omega
     case c4=>omega
     case c5=>have:=HSZ.out;simp;omega
     intro v9 w9 hown9 hg9 hv9
     have ho9:∀q',(Value.slice oT nl cT).ownBlock=some q'->w.heap.size<=q':=fun q' hq'=>(HO2.out.lt q' hq').1
     have HS9:=hideR (HS2.out.grown hg9 (fun q' hq'=>Nat.lt_of_lt_of_le hpw (ho9 q' hq')))
     have HB9:=hideR (But.grown (p:=p) HB2.out hg9 ho9)
     have HO9:Hid (w9.ownsRow w.heap.size 75 7 v9 (nl+1) (flat7 (ps++[mkPc x (.slice o4 n4 k4) (.slice o5 n5 k5) (.slice o6 n6 k6)]))):=hideR (by rw [flat7_snoc];exact hown9)
     have HK9:Hid (∀q ∈ ps++[mkPc x (.slice o4 n4 k4) (.slice o5 n5 k5) (.slice o6 n6 k6)],PcOk w9 (Since w.heap.size w9 v9.ownBlock) q):=hideR (fun q hq=>by
      have key:∀q:Pc d,PcOk w2 (Since w.heap.size w2 (Value.slice oT nl cT).ownBlock) q->PcOk w9 (Since w.heap.size w9 v9.ownBlock) q:=fun q h=>(h.keep (since_below HBL.out)).keep (since_grown hg9 (by simpa using hv9))
      rcases List.mem_append.1 hq with hq|hq
      ·exact key q (HK2.out q hq)
      ·rw [List.mem_singleton.1 hq];exact key _ HNEW.out)
     have HM9:Hid ((ps++[mkPc x (.slice o4 n4 k4) (.slice o5 n5 k5) (.slice o6 n6 k6)]).map (·.1)=l++[x]):=hideR (by rw [List.map_append,HM.out];rfl)
     have hsl:=own_slice hown9
     have HLN:Hid ((l++[x]).length=nl+1):=hideR (by rw [List.length_append,hnl];rfl)
     have hc9:=HS9.out.cell 1 _ rfl
     have hcr:=HS.out.cell 1 _ rfl
     clear hown9 hg9 hv9 ho9 HO2 HN2 HB2 HS2 HK2 HNEW HBL
     obtain ⟨oN,cN,rfl⟩:=hsl
     go_wp2
     go_roundw
     case rel=>exact ⟨l++[x],_,m,n2,f',⟨oN,cN,by rw [HLN.out]⟩,hn2,by omega,by rw [HLN.out];omega,HZ,HS9,HB9,HM9,by rw [HLN.out];exact HO9,HK9⟩
     case measure=>rw [hc9,hcr];simp [RowKit.intOf];omega
theorem seqC:∀d,SeqC d
 | 0=>seqC0
 | d+1=>seqCS d (seqC d)
end Go.Proofs.YtgbbmdknbflilaaDoor

namespace Go.Proofs.YtgbbmdknbflilaaDoor
open Go.RowKit Rep Dec
set_option linter.unusedVariables false
namespace Dec
def vIL (B d:Nat) (a:IL d) (v:Value) (w:World):Prop:=∃o n k,v=.slice o n k/\AtS w (Since B w none) d (.slice o n k) a
end Dec
set_option maxRecDepth 100000 in
set_option maxHeartbeats 4000000 in
theorem dExpression (w0:World) (p:Nat) (s:ByteArray) (c:Nat->Value) (en k i n:Nat) (w:World) (h:RS w0 p s c en k i n w) (hn:n<=65536) :
  Calls Tryd.prog 52 #[.pointer (some ⟨p,0,none⟩)] w (Rds2 w0 p s c en k (vIL w.heap.size 81) w (rexpr s en i n)):=by
 have hC:=seqC 81 w0 p s c en k i n w 0 h hn (by omega) (by omega)
 unfold rexpr
 cases hx:rseq s en 81 0 i n with
 | error z =>
  rw [hx] at hC
  have HC:=hideR hC
  rw [bd2_err]
  clear hC hx h
  go_enter Tryd.func52,Tryd.ntmps52
  go_wp2_with fail
  refine HC.out.mono ?_
  rintro e w1 ⟨rfl,hb⟩
  exact ⟨rfl,rfl,hb⟩
 | ok v =>
  obtain ⟨⟨l,t⟩,j,m⟩:=v
  have htt:t=5\/t=11:=rseq_tb s en 81 0 _ _ _ _ _ hx
  rw [hx] at hC
  have HC:=hideR hC
  rw [bd2_ok']
  dsimp only
  clear hC hx h
  rcases htt with rfl|rfl
  ·rw [if_neg (by decide)]
   go_enter Tryd.func52,Tryd.ntmps52
   go_wp2_with fail
   refine HC.out.mono ?_
   rintro e w1 ⟨⟨v,rfl,o,nn,kk,hv,hA⟩,h1,h2⟩
   have hv:v=.tuple #[.slice o nn kk,.int .i64 5]:=hv
   subst hv
   have HF:=hideR h1.below
   clear h1 h2 hA HC
   go_wp2_with fail
   refine (needN _ _).mono ?_
   rintro e u ⟨rfl,rfl⟩
   exact ⟨rfl,rfl,HF.out⟩
  ·rw [if_pos rfl]
   go_enter Tryd.func52,Tryd.ntmps52
   go_wp2_with fail
   refine HC.out.mono ?_
   rintro e w1 ⟨⟨v,rfl,o,nn,kk,hv,hA⟩,h1,h2⟩
   have hv:v=.tuple #[.slice o nn kk,.int .i64 11]:=hv
   subst hv
   have HF:=hideR (⟨h1,h2,hA⟩:_/\_/\_)
   clear h1 h2 hA HC
   go_wp2_with fail
   refine (needY _ _).mono ?_
   rintro e u ⟨rfl,rfl⟩
   go_wp2
   go_ret
   exact ⟨⟨_,rfl,_,_,_,rfl,HF.out.2.2⟩,HF.out.1,HF.out.2.1⟩
theorem xassert_no (w:World):(Instr.typeAssert .nilIface 20 34 true).run Tryd.prog w=.ok (.tuple #[.int .i64 0,.bool false]) w:=by
 kernel_rfl
theorem cell_oth {w:World} {a:Addr} {b j:Nat} {v:Value} (h:a.block≠b):(w.setCell ⟨b,j,none⟩ v).cell? a=w.cell? a:=World.cell?_of_block (Below.heap_setCell _ _ _ _ h)
end Go.Proofs.YtgbbmdknbflilaaDoor

namespace Go.Proofs.YtgbbmdknbflilaaDoor
open Go.RowKit Rep
set_option linter.unusedVariables false
namespace Reg
section
variable {P:Program} {ops:Array Oper} {Q:Exit->Act->World->Prop} {id:Nat} {a0:Act} {w0:World}
def AheadE (ops:Array Oper) (a0:Act) (n:Nat) (dst:Nat->Nat) (K:World->Prop) (R:Nat->World->Prop) (G:Nat->Value->World->Prop) (L:Array Bool) (a:Act) (w:World):Prop :=
 (∀k,n<=k->L.getD k false=false)/\Fr a0 dst n a/\K w/\(∀i,i<n->L.getD i false=false->R i w)/\∀i,i<n->L.getD i false=true->G i (a.eval (.tmp (dst i))) w
theorem wp_region_eff (n:Nat) (dst:Nat->Nat) (fp:Nat->Option Nat) (K:World->Prop) (R:Nat->World->Prop) (G:Nat->Value->World->Prop) (hm:P.follows .mixedOrders=true) (hT:tailOk ops n=true)
  (hinj:∀i j,i<n->j<n->dst i=dst j->i=j)
  (hdst:∀i,i<n->∃o,ops[i]?=some o/\o.dst=some (dst i)/\o.guard=none/\dst i<a0.tmps.size)
  (hstab:∀i k v w w',i<n->k<n->i≠k->K w->G i v w->w.grownBy w' (fp k)->G i v w')
  (hres:∀i k w w',i<n->k<n->i≠k->R i w->w.grownBy w' (fp k)->R i w')
  (hK:∀k w w',k<n->K w->w.grownBy w' (fp k)->K w')
  (hstep:∀i o a w,i<n->ops[i]?=some o->Fr a0 dst n a->K w->R i w->(∀j ∈ deps o,G j (a.eval (.tmp (dst j))) w)->o.wp P a w (fun a' w'=>∃v,a'=a.put o.dst v/\w.grownBy w' (fp i)/\G i v w') Q)
  (htail:∀a w,Fr a0 dst n a->K w->(∀i,i<n->G i (a.eval (.tmp (dst i))) w)->wpList P ops Q (ops.toList.drop n) a w)
  (hK0:K { w0 with drawn:=w0.drawn+1 }) (hR0:∀i,i<n->R i { w0 with drawn:=w0.drawn+1 }) :
  (Code.region id ops true).wp P Q a0 w0:=by
 have hT2:=hT
 unfold tailOk at hT2
 rw [Bool.and_eq_true,List.all_eq_true,decide_eq_true_eq] at hT2
 obtain ⟨hn,hT2⟩:=hT2
 have hlow:∀i,i<ops.size->∀j ∈ depsAt ops i,j<i:=fun i hi j hj=>by
  have:=hT2 i (List.mem_range.2 hi)
  rw [Bool.and_eq_true,List.all_eq_true] at this
  exact of_decide_eq_true (this.1 j hj)
 have hbig:∀(L:Array Bool) i,n<=i->i<ops.size->Closed ops L->(∀j ∈ depsAt ops i,L.getD j false=true)->∀j,j<i->L.getD j false=true:=fun L i hi hs hc hd j hj=>by
  have:=hT2 i (List.mem_range.2 hs)
  rw [Bool.and_eq_true,Bool.or_eq_true,decide_eq_true_eq] at this
  rcases this.2 with h|h
  ·omega
  ·have hjm:j ∈ clos ops [i] i:=by simpa using (List.all_eq_true.1 h) j (List.mem_range.2 hj)
   rcases clos_mem hc hd i [i] (fun m hm=>.inl (List.mem_singleton.1 hm)) j hjm with h|h
   ·omega
   ·exact h
 refine wp_region_inv (fun L a w=>L.size=ops.size/\Closed ops L/\(AheadE ops a0 n dst K R G L a w\/Behind P ops Q n L a w)) hm ?_ ?_ ?_
 ·rintro L i a w hi ⟨hsz,hc,hph⟩
  obtain ⟨hLi,o,ho,hd⟩:=ready_deps hi
  obtain ⟨hiL,hLf⟩:=getD_false hLi
  have hd':∀j ∈ depsAt ops i,L.getD j false=true:=by rw [depsAt_some ho];exact hd
  have hsz':(L.setIfInBounds i true).size=ops.size:=by rw [Array.size_setIfInBounds,hsz]
  have hc':Closed ops (L.setIfInBounds i true):=fun m hm j hj=>by
   rw [getD_set L i _ hiL] at hm ⊢
   split
   ·rfl
   ·by_cases he:m=i
    ·subst he;exact hd' j hj
    ·rw [if_neg he] at hm;exact hc m hm j hj
  have low:∀k,n<=k->(∀j,j<k->L.getD j false=true)->(∀j,k<=j->L.getD j false=false)->n<=i->i=k:=fun k hnk hk1 hk2 hni=>by
   have h1:=hbig L i hni (by omega) hc hd'
   rcases Nat.lt_trichotomy i k with h|h|h
   ·rw [hk1 i h] at hLf;cases hLf
   ·exact h
   ·have:=h1 k h;rw [hk2 k (Nat.le_refl _)] at this;cases this
  have onBehind:∀k,k=i->n<=k->(∀j,j<k->L.getD j false=true)->(∀j,k<=j->L.getD j false=false)->wpList P ops Q (ops.toList.drop k) a w->wpOp P ops Q i (fun a w=>(L.setIfInBounds i true).size=ops.size/\Closed ops (L.setIfInBounds i true)/\(AheadE ops a0 n dst K R G (L.setIfInBounds i true) a w\/Behind P ops Q n (L.setIfInBounds i true) a w)) a w:=by
   rintro k rfl hnk hk1 hk2 hwp
   have hks:k<ops.size:=by omega
   have hcons:ops.toList.drop k=o :: ops.toList.drop (k+1):=by
    rw [List.drop_eq_getElem_cons (by simpa using hks)]
    congr 1
    have:=Array.getElem?_eq_getElem hks
    rw [ho] at this
    simpa using (Option.some.inj this).symm
   rw [hcons] at hwp
   have up:∀a w,wpList P ops Q (ops.toList.drop (k+1)) a w->(L.setIfInBounds k true).size=ops.size/\Closed ops (L.setIfInBounds k true)/\(AheadE ops a0 n dst K R G (L.setIfInBounds k true) a w\/Behind P ops Q n (L.setIfInBounds k true) a w):=fun a w h =>
    ⟨hsz',hc',.inr ⟨k+1,by omega,fun j hj=>by
     rw [getD_set L k _ hiL]
     split
     ·rfl
     ·exact hk1 j (by omega),fun j hj=>by
     rw [getD_set L k _ hiL,if_neg (by omega)]
     exact hk2 j (by omega),h⟩⟩
   unfold wpOp
   rw [ho]
   unfold wpList at hwp
   show ite _ _ _
   split
   ·rename_i hw
    rw [if_pos hw] at hwp
    exact hwp.imp (Oper.wp_mono up) (fun h=>h)
   ·rename_i hw
    rw [if_neg hw] at hwp
    exact up _ _ hwp
  rcases hph with ⟨hk,hF,hB,hR,hG⟩|⟨k,hnk,hk1,hk2,hwp⟩
  ·by_cases hin:i<n
   ·obtain ⟨o',ho',hod,hog,hos⟩:=hdst i hin
    have:o'=o:=by rw [ho] at ho';exact (Option.some.inj ho').symm
    subst this
    have hs:=hstep i o' a w hin ho hF hB (hR i hin hLf) (fun j hj=>hG j (by have:=hlow i (by omega) j (by rw [depsAt_some ho];exact hj);omega) (hd j hj))
    unfold wpOp
    rw [ho]
    show ite _ _ _
    rw [if_pos (by simp [Region.wanted,hog])]
    refine .inl (Oper.wp_mono ?_ hs)
    rintro a' w' ⟨v,rfl,hBw,hGv⟩
    have hos':dst i<a.tmps.size:=by rw [hF.size];exact hos
    refine ⟨hsz',hc',.inl ⟨fun k hnk=>?_,by rw [hod];exact hF.put hin v,?_,fun j hj hLj=>?_,fun j hj hLj=>?_⟩⟩
    ·rw [getD_set L i _ hiL,if_neg (by omega)];exact hk k hnk
    ·exact hK i w w' hin hB hBw
    ·by_cases he:j=i
     ·subst he;rw [getD_set L j _ hiL,if_pos rfl] at hLj;cases hLj
     ·rw [getD_set L i _ hiL,if_neg he] at hLj
      exact hres j i w w' hj hin he (hR j hj hLj) hBw
    ·rw [hod]
     by_cases he:j=i
     ·subst he;rw [put_eval_same v hos'];exact hGv
     ·rw [getD_set L i _ hiL,if_neg he] at hLj
      rw [put_eval_ne v (fun e=>he (hinj i j hin hj e).symm)]
      exact hstab j i _ w w' hj hin he hB (hG j hj hLj) hBw
   ·have h1:=hbig L i (by omega) (by omega) hc hd'
    have hin':n=i:=by
     rcases Nat.lt_or_ge n i with h|h
     ·have:=h1 n h;rw [hk n (Nat.le_refl _)] at this;cases this
     ·omega
    refine onBehind n hin' (Nat.le_refl _) (fun j hj=>h1 j (by omega)) hk (htail a w hF hB fun j hj=>hG j hj (h1 j (by omega)))
  ·rcases Nat.lt_or_ge i n with h|h
   ·rw [hk1 i (by omega)] at hLf;cases hLf
   ·exact onBehind k (low k hnk hk1 hk2 h).symm hnk hk1 hk2 hwp
 ·rintro L a w hr ⟨hsz,hc,⟨hk,_⟩|⟨k,hnk,hk1,hk2,hwp⟩⟩
  ·have:=not_ready hT hsz hr n hn
   rw [hk n (Nat.le_refl _)] at this;cases this
  ·have:ops.size<=k:=by
    rcases Nat.lt_or_ge k ops.size with h|h
    ·have:=not_ready hT hsz hr k h
     rw [hk2 k (Nat.le_refl _)] at this;cases this
    ·exact h
   rw [List.drop_eq_nil_of_le (by simpa using this)] at hwp
   exact hwp
 ·have hf:∀k,(Array.replicate ops.size false).getD k false=false:=fun k=>by
   simp [Array.getD]
  refine ⟨by simp,fun i hi=>?_,.inl ⟨fun k _=>hf k,⟨rfl,rfl,fun _ _=>rfl⟩,hK0,fun i hi _=>hR0 i hi,fun i _ hL=>?_⟩⟩
  ·rw [hf] at hi;cases hi
  ·rw [hf] at hL;cases hL
end
end Reg
end Go.Proofs.YtgbbmdknbflilaaDoor

