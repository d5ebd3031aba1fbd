/- Texts that the claim needs. -/
import Derived.Test.YtlcpagiljfpbpaaDoorQEUn24
namespace Go.Proofs.YtlcpagiljfpbpaaDoor
open Go.RowKit Rep Enc Go.Lib
set_option linter.unusedVariables false
namespace Enc
structure InsN (w w0:World) (d bk o:Nat) (x:Ins (IL d)):Prop where
 op:w.cell? ⟨bk,o,none⟩=.some (.int .i64 x.op)
 a:w.cell? ⟨bk,o+1,none⟩=.some (.int .i64 x.a)
 b:w.cell? ⟨bk,o+2,none⟩=.some (.int .i64 x.b)
 n:w.cell? ⟨bk,o+3,none⟩=.some (.int .i64 x.n)
 labels:∃v,w.cell? ⟨bk,o+4,none⟩=.some v/\Ints w0 v x.labels
 body:∃v,w.cell? ⟨bk,o+5,none⟩=.some v/\At w0 d v x.body
 els:∃v,w.cell? ⟨bk,o+6,none⟩=.some v/\At w0 d v x.els
end Enc
set_option maxRecDepth 100000 in
set_option maxHeartbeats 4000000 in
theorem isRow {I:World->Prop} (C:FormC I) (w0:World) (hI:I w0) (p:Nat) (c:Nat->Value) (d:Nat) (IH:IS w0 p c d) (b1 off1 kL:Nat) (l:List (Ins (IL d))) (v:Value) (bs:List Int) (w:World) (h:WS w0 p c v bs w) (hA:∀(i:Nat) (x:Ins (IL d)),l[i]?=some x->InsN w w0 d b1 (off1+i*7) x) (hq:b1<w.heap.size) (hqp:b1≠p) (hqv:some b1≠v.ownBlock) (la:l.length<=9223372036854775807) (hR:∀x,x ∈ l->Rg1 (Rg d) x) (hlen:bs.length+(insL (bytesI d) (size d) l).length<=39000000000000):Calls Tryd.prog 50 #[.pointer (some ⟨p,0,none⟩),.slice (some ⟨b1,off1,none⟩) l.length kL] w (DoesA w0 p c v w bs (insL (bytesI d) (size d) l)):=by
 have HA:=hideR hA
 have HQ:=hideR (⟨hq,hqp,hqv⟩:b1<w.heap.size/\b1≠p/\some b1≠v.ownBlock)
 have HR:=hideR hR
 have HIH:=hideR IH
 have HLEN:=hideR hlen
 have HS:=hideR h
 have HI:=hideR hI
 clear hA hR IH hlen h hI hq hqp hqv
 generalize hna:l.length=n at *
 go_enter Tryd.func50,Tryd.ntmps50
 go_wp2_with fail
 go_loopw [8] (fun i wr=>∃(j:Nat) (v2:Value) (b2:List Int),j<=n/\i=.int .i64 j/\Hid (WS w0 p c v2 b2 wr)/\Hid (Kept p v w v2 wr)/\Hid (So bs (insL (bytesI d) (size d) (l.take j)) b2)) (fun i _=>n-(RowKit.intOf i).toNat)
 case atStart=>exact ⟨0,v,bs,by omega,rfl,HS,hideR (Kept.refl _ _ _),hideR (So.refl bs)⟩
 case round =>
  clear HS
  obtain ⟨j,v2,b2,hj,rfl,HWS,HKW,HSO⟩:=hrel
  by_cases hgo:j<n
  ·obtain ⟨x,hxk⟩:∃x,l[j]?=some x:=⟨_,List.getElem?_eq_getElem (by omega)⟩
   have HXK:=hideR hxk
   obtain ⟨cx0,cx1,cx2,cx3,⟨v4,cx4,ax4⟩,⟨v5,cx5,ax5⟩,⟨v6,cx6,ax6⟩⟩:=HA.out j x hxk
   clear hxk
   obtain ⟨q4,z4,rfl⟩:=Row.len ax4
   obtain ⟨q5,z5,rfl⟩:=At.len d _ _ ax5
   obtain ⟨q6,z6,rfl⟩:=At.len d _ _ ax6
   have AX4:=hideR ax4
   have AX5:=hideR ax5
   have AX6:=hideR ax6
   clear ax4 ax5 ax6
   have cz0:=(World.cell?_of_block (a:=⟨b1,_,none⟩) (HKW.out.block b1 HQ.out.1 HQ.out.2.1 HQ.out.2.2)).trans cx0
   have cz1:=(World.cell?_of_block (a:=⟨b1,_,none⟩) (HKW.out.block b1 HQ.out.1 HQ.out.2.1 HQ.out.2.2)).trans cx1
   have cz2:=(World.cell?_of_block (a:=⟨b1,_,none⟩) (HKW.out.block b1 HQ.out.1 HQ.out.2.1 HQ.out.2.2)).trans cx2
   have cz3:=(World.cell?_of_block (a:=⟨b1,_,none⟩) (HKW.out.block b1 HQ.out.1 HQ.out.2.1 HQ.out.2.2)).trans cx3
   have cz4:=(World.cell?_of_block (a:=⟨b1,_,none⟩) (HKW.out.block b1 HQ.out.1 HQ.out.2.1 HQ.out.2.2)).trans cx4
   have cz5:=(World.cell?_of_block (a:=⟨b1,_,none⟩) (HKW.out.block b1 HQ.out.1 HQ.out.2.1 HQ.out.2.2)).trans cx5
   have cz6:=(World.cell?_of_block (a:=⟨b1,_,none⟩) (HKW.out.block b1 HQ.out.1 HQ.out.2.1 HQ.out.2.2)).trans cx6
   clear cx0 cx1 cx2 cx3 cx4 cx5 cx6
   generalize hy4:x.labels.length=y4 at *
   generalize hy5:size d x.body=y5 at *
   generalize hy6:size d x.els=y6 at *
   have hb2:b2.length<=39000000000000:=by have h1:=HSO.out.2;have h2:=insL_part (bytesI d) (size d) l j;have h3:=HLEN.out;omega
   go_upto_region 3 with fail
   obtain ⟨u1,hu1⟩:∃u1,u1=wr.alloc (.cells #[.int .i64 x.op,.int .i64 x.a,.int .i64 x.b,.int .i64 x.n,.slice q4 y4 z4,.slice q5 y5 z5,.slice q6 y6 z6] 50):=⟨_,rfl⟩
   have HBK:Hid (Blk u1 wr.heap.size x.op x.a x.b x.n (.slice q4 y4 z4) (.slice q5 y5 z5) (.slice q6 y6 z6)):=hideR (by rw [hu1];exact Blk.new wr wr.heap.size _ _ _ _ _ _ _ rfl)
   have HU:Hid (Below wr.heap.size wr u1):=hideR (by rw [hu1];exact new_on' _ _)
   rw [<- hu1]
   clear hu1 cz0 cz1 cz2 cz3 cz4 cz5 cz6
   have HS1:=hideR (HWS.out.on HU.out)
   have HK1:=hideR (HKW.out.trans (Kept.below (p:=p) (v:=v2) HU.out))
   clear HWS HKW HU
   generalize wr.heap.size=p3 at HBK ⊢
   have HC:=hideR (wFull w0 p c v2 b2 u1 HS1.out (by omega))
   go_wp2_with fail
   refine HC.out.mono ?_
   rintro e w3 ⟨rfl,rfl⟩
   clear HC
   by_cases hfull:262144<b2.length
   ·rw [decide_eq_true hfull]
    have HF:Hid (So bs (insL (bytesI d) (size d) l) b2):=hideR ⟨.inr ⟨hfull,by have h1:=HSO.out.2;have h2:=insL_part (bytesI d) (size d) l j;omega,HSO.out.1.le⟩,by have h1:=HSO.out.2;have h2:=insL_part (bytesI d) (size d) l j;omega⟩
    clear hfull
    go_wp2
    go_end0
    exact ⟨_,_,rfl,HS1.out,HK1.out,HF.out.1,HF.out.2⟩
   ·rw [decide_eq_false hfull]
    clear hfull
    have k0:=HBK.out.cell 0 _ rfl
    have k1:=HBK.out.cell 1 _ rfl
    have k2:=HBK.out.cell 2 _ rfl
    have k3:=HBK.out.cell 3 _ rfl
    have k4:=HBK.out.cell 4 _ rfl
    have k5:=HBK.out.cell 5 _ rfl
    have k6:=HBK.out.cell 6 _ rfl
    have HC:=hideR (wInstr C w0 p c v2 b2 HIH.out x q4 q5 q6 y4 z4 y5 z5 y6 z6 _ HS1.out HI.out hy6 AX4.out AX5.out AX6.out (HR.out x (List.mem_of_getElem? HXK.out)) (by
     have h1:=HSO.out.2
     have h2:=insL_part (bytesI d) (size d) l (j+1)
     rw [insL_take HXK.out,List.length_append] at h2
     have h3:=HLEN.out
     omega))
    go_wp2_with fail
    refine HC.out.mono ?_
    rintro e w4 ⟨v4,b4,rfl,hh,kk,ha,hl⟩
    have HS4:=hideR hh
    have HK4:=hideR (HK1.out.trans kk)
    have HSO4:Hid (So bs (insL (bytesI d) (size d) (l.take (j+1))) b4):=hideR (by rw [insL_take HXK.out];exact HSO.out.adds ha hl)
    clear hh kk ha hl HC HS1 HK1 HBK k0 k1 k2 k3 k4 k5 k6
    go_wp2
    go_roundw
    case rel=>exact ⟨j+1,v4,b4,by omega,by go_num,HS4,HK4,HSO4⟩
    case measure=>simp [RowKit.intOf];omega
  ·obtain rfl:n=j:=by omega
   have HF:Hid (So bs (insL (bytesI d) (size d) l) b2):=hideR (by have:=HSO.out;rw [List.take_of_length_le (by omega)] at this;exact this)
   go_wp2
   go_end0
   exact ⟨_,_,rfl,HWS.out,HKW.out,HF.out.1,HF.out.2⟩
set_option maxRecDepth 100000 in
set_option maxHeartbeats 2000000 in
theorem wExpr1 {I : World → Prop} (C : FormC I) (w0 : World) (hI : I w0) (p : Nat) (c : Nat → Value) (d : Nat) (b1 kL : Nat) (x : Ins (IL d)) (v : Value) (bs : List Int) (w : World) (h : WS w0 p c v bs w) (hA : InsN w w0 d b1 0 x) (hq : b1 < w.heap.size) (hqp : b1 ≠ p) (hqv : some b1 ≠ v.ownBlock) (hR : Rg1 (Rg d) x) (hlen : bs.length + (insB (bytesI d) (size d) x).length ≤ 39000000000000) :
    Calls Tryd.prog 22 #[.pointer (some ⟨p, 0, none⟩), .slice (some ⟨b1, 0, none⟩) 1 kL] w (DoesA w0 p c v w bs (insB (bytesI d) (size d) x ++ [11])) := by
  have e1 : insL (bytesI d) (size d) [x] = insB (bytesI d) (size d) x := by unfold insL; simp
  have HC := hideR (isRow C w0 hI p c d (isAll C w0 hI p c d) b1 0 kL [x] v bs w h (fun i y hy => by
    match i, hy with
    | 0, hy => have : x = y := by simpa using hy
               subst this; simpa using hA
    | i + 1, hy => simp at hy) hq hqp hqv (by simp) (fun y hy => by rw [List.mem_singleton.1 hy]; exact hR) (by rw [e1]; exact hlen))
  rw [e1] at HC
  simp only [List.length_cons, List.length_nil, Nat.zero_add] at HC
  have HLEN := hideR hlen
  clear h hA hR hlen e1 hq hqp hqv
  go_enter Tryd.func22, Tryd.ntmps22
  go_wp2_with fail
  refine HC.out.mono ?_
  rintro e w1 ⟨v1, b2, rfl, h1, k1, a1, l1⟩
  have HC2 := hideR (wPut w0 p c v1 b2 11 w1 h1 (by have := HLEN.out; omega))
  have HSO := hideR (((So.refl bs).adds a1 l1).app [11])
  have HK1 := hideR k1
  clear h1 k1 a1 l1 HC
  go_wp2_with fail
  refine HC2.out.mono ?_
  rintro e w2 ⟨v2, rfl, h2, k2⟩
  have HS := hideR h2
  have HK2 := hideR (HK1.out.trans k2)
  have HF : Hid (So bs (insB (bytesI d) (size d) x ++ [11]) (b2 ++ [11])) := hideR (by have := HSO.out; simpa using this)
  clear h2 k2 HC2
  go_wp2
  go_end0
  exact ⟨_, _, rfl, HS.out, HK2.out, HF.out.1, HF.out.2⟩
end Go.Proofs.YtlcpagiljfpbpaaDoor

namespace Go.Proofs.YtlcpagiljfpbpaaDoor
open Go.RowKit Rep Enc Go.Lib
set_option linter.unusedVariables false
namespace Enc
theorem insN_new {w w0:World} {d:Nat} {x:Ins (IL d)} {v4 v5 v6:Value} (h4:Ints w0 v4 x.labels) (h5:At w0 d v5 x.body) (h6:At w0 d v6 x.els):InsN (w.alloc (.cells #[.int .i64 x.op,.int .i64 x.a,.int .i64 x.b,.int .i64 x.n,v4,v5,v6] 50)) w0 d w.heap.size 0 x:=by
 have hc:∀(i:Nat) (v:Value),#[Value.int .i64 x.op,.int .i64 x.a,.int .i64 x.b,.int .i64 x.n,v4,v5,v6][i]?=some v->(w.alloc (.cells #[.int .i64 x.op,.int .i64 x.a,.int .i64 x.b,.int .i64 x.n,v4,v5,v6] 50)).cell? ⟨w.heap.size,i,none⟩=some v:=fun i v h=>by
  rw [World.cell?_alloc_at _ 50 _ _ rfl];exact h
 exact ⟨hc _ _ rfl,hc _ _ rfl,hc _ _ rfl,hc _ _ rfl,⟨_,hc _ _ rfl,h4⟩,⟨_,hc _ _ rfl,h5⟩,⟨_,hc _ _ rfl,h6⟩⟩
end Enc
set_option maxRecDepth 100000 in
set_option maxHeartbeats 4000000 in
theorem eGlo {I:World->Prop} (C:FormC I) (w0:World) (hI:I w0) (p:Nat) (c:Nat->Value) (v:Value) (bs:List Int) (d:Nat) (m:Mod d) (w:World) (h:WS w0 p c v bs w) (hM:ModAt w0 d (c 0) (c 1) (c 2) (c 3) (c 4) (c 5) (c 6) (c 7) (c 8) (c 9) m) (i:Nat) (x:Glo d) (hx:m.globals[i]?=some x) (hR:Rg1 (Rg d) x.init)  (hlen:bs.length+([x.type%256]++[one x.mtb]++(insB (bytesI d) (size d) x.init++[11])).length<=39000000000000):Calls Tryd.prog 39 #[.pointer (some ⟨p,0,none⟩),.int .i64 (i:Nat)] w (DoesA w0 p c v w bs ([x.type%256]++[one x.mtb]++(insB (bytesI d) (size d) x.init++[11]))):=by
 have hi:i<m.globals.length:=(List.getElem?_eq_some_iff.1 hx).1
 obtain ⟨b1,off1,cap1,hcv,hcx⟩:=Row.some hM.globals (by omega)
 have kc:=h.fld 5 (by omega)
 rw [hcv] at kc
 obtain ⟨cx0,cx1,⟨cx2,cx3,cx4,cx5,⟨v4,cx6,ax4⟩,⟨v5,cx7,ax5⟩,⟨v6,cx8,ax6⟩⟩⟩:=hcx i x hx
 obtain ⟨q4,z4,rfl⟩:=Row.len ax4
 obtain ⟨q5,z5,rfl⟩:=At.len d _ _ ax5
 obtain ⟨q6,z6,rfl⟩:=At.len d _ _ ax6
 have AX4:=hideR ax4
 have AX5:=hideR ax5
 have AX6:=hideR ax6
 clear ax4 ax5 ax6
 have cz0:=cell_on h.below cx0
 have cz1:=cell_on h.below cx1
 have cz2:=cell_on h.below cx2
 have cz3:=cell_on h.below cx3
 have cz4:=cell_on h.below cx4
 have cz5:=cell_on h.below cx5
 have cz6:=cell_on h.below cx6
 have cz7:=cell_on h.below cx7
 have cz8:=cell_on h.below cx8
 clear hcv hcx hM hx cx0 cx1 cx2 cx3 cx4 cx5 cx6 cx7 cx8
 generalize m.globals.length=n at *
 generalize hy4:x.init.labels.length=y4 at *
 generalize hy5:size d x.init.body=y5 at *
 generalize hy6:size d x.init.els=y6 at *
 have HR:=hideR hR
 clear hR
 have hpw:p<w.heap.size:=h.lt
 have hown:∀k,v.ownBlock=some k->k<w.heap.size:=fun k hk=>(h.own.lt k hk).2
 have HBK0:=hideR (Bx.new (w:=w) (b:=w.heap.size) (t:=56) (cs:=#[.int .i64 x.type,.bool x.mtb,.int .i64 x.init.op,.int .i64 x.init.a,.int .i64 x.init.b,.int .i64 x.init.n,.slice q4 y4 z4,.slice q5 y5 z5,.slice q6 y6 z6]) rfl)
 obtain ⟨u1,hu1⟩:∃u1,u1=w.alloc (.cells #[.int .i64 x.type,.bool x.mtb,.int .i64 x.init.op,.int .i64 x.init.a,.int .i64 x.init.b,.int .i64 x.init.n,.slice q4 y4 z4,.slice q5 y5 z5,.slice q6 y6 z6] 56):=⟨_,rfl⟩
 have HU:=hideR (new_on' w (.cells #[.int .i64 x.type,.bool x.mtb,.int .i64 x.init.op,.int .i64 x.init.a,.int .i64 x.init.b,.int .i64 x.init.n,.slice q4 y4 z4,.slice q5 y5 z5,.slice q6 y6 z6] 56))
 rw [<- hu1] at HBK0 HU
 have HS0:=hideR (h.on HU.out)
 have HO0:Hid (some w.heap.size≠v.ownBlock):=hideR (fun e=>by have:=hown _ e.symm;omega)
 have HNP:Hid (w.heap.size≠p):=hideR (by omega)
 have HK0:Hid (Kept p v w v u1):=hideR (Kept.below HU.out)
 have HSO0:Hid (So bs [] bs):=hideR (So.refl bs)
 have HU1:=hideR hu1
 clear h hpw hown HU hu1
 go_enter Tryd.func39,Tryd.ntmps39
 go_upto_region 1 with fail
 rw [<- HU1.out]
 clear HU1 kc cz0 cz1 cz2 cz3 cz4 cz5 cz6 cz7 cz8
 generalize hp3:w.heap.size=p3 at HBK0 HO0 HNP ⊢
 have k0:=HBK0.out.cell 0 _ rfl
 have k1:=HBK0.out.cell 1 _ rfl
 have k2:=HBK0.out.cell 2 _ rfl
 have k3:=HBK0.out.cell 3 _ rfl
 have k4:=HBK0.out.cell 4 _ rfl
 have k5:=HBK0.out.cell 5 _ rfl
 have k6:=HBK0.out.cell 6 _ rfl
 have k7:=HBK0.out.cell 7 _ rfl
 have k8:=HBK0.out.cell 8 _ rfl
 have HC:=hideR (wPut w0 p c v bs x.type u1 HS0.out (by have:=HSO0.out.2;simp only [List.length_append,List.length_cons,List.length_nil] at this hlen ⊢;omega))
 go_wp2_with fail
 refine HC.out.mono ?_
 rintro e w1 ⟨v1,rfl,hh,kk⟩
 have HSO1:=hideR (HSO0.out.app [x.type%256])
 obtain ⟨b1,hb1⟩:∃b,b=bs++[x.type%256]:=⟨_,rfl⟩
 try simp only [show (0:Int)%256=0 from rfl] at hh
 rw [<- hb1] at hh HSO1
 clear hb1
 obtain ⟨bb,bo⟩:=kk.bx HBK0.out HNP.out HO0.out
 have HS1:=hideR hh
 have HBK1:=hideR bb
 have HO1:=hideR bo
 have HK1:=hideR (HK0.out.trans kk)
 clear hh kk bb bo HC HS0 HBK0 HK0 HO0 k0 k1 k2 k3 k4 k5 k6 k7 k8
 have k0:=HBK1.out.cell 0 _ rfl
 have k1:=HBK1.out.cell 1 _ rfl
 have k2:=HBK1.out.cell 2 _ rfl
 have k3:=HBK1.out.cell 3 _ rfl
 have k4:=HBK1.out.cell 4 _ rfl
 have k5:=HBK1.out.cell 5 _ rfl
 have k6:=HBK1.out.cell 6 _ rfl
 have k7:=HBK1.out.cell 7 _ rfl
 have k8:=HBK1.out.cell 8 _ rfl
 have HC:=hideR (wFlag w0 p c v1 b1 x.mtb w1 HS1.out (by have:=HSO1.out.2;simp only [List.length_append,List.length_cons,List.length_nil] at this hlen ⊢;omega))
 go_wp2_with fail
 refine HC.out.mono ?_
 rintro e w2 ⟨v2,rfl,hh,kk⟩
 have HSO2:=hideR (HSO1.out.app [one x.mtb])
 obtain ⟨b2,hb2⟩:∃b,b=b1++[one x.mtb]:=⟨_,rfl⟩
 try simp only [show (0:Int)%256=0 from rfl] at hh
 rw [<- hb2] at hh HSO2
 clear hb2
 obtain ⟨bb,bo⟩:=kk.bx HBK1.out HNP.out HO1.out
 have HS2:=hideR hh
 have HBK2:=hideR bb
 have HO2:=hideR bo
 have HK2:=hideR (HK1.out.trans kk)
 clear hh kk bb bo HC HS1 HBK1 HK1 HO1 k0 k1 k2 k3 k4 k5 k6 k7 k8
 have k0:=HBK2.out.cell 0 _ rfl
 have k1:=HBK2.out.cell 1 _ rfl
 have k2:=HBK2.out.cell 2 _ rfl
 have k3:=HBK2.out.cell 3 _ rfl
 have k4:=HBK2.out.cell 4 _ rfl
 have k5:=HBK2.out.cell 5 _ rfl
 have k6:=HBK2.out.cell 6 _ rfl
 have k7:=HBK2.out.cell 7 _ rfl
 have k8:=HBK2.out.cell 8 _ rfl
 have hown2:∀k,v2.ownBlock=some k->k<w2.heap.size:=fun k hk=>(HS2.out.own.lt k hk).2
 have hpl2:=HS2.out.lt
 have HC:=hideR (wExpr1 C w0 hI p c d w2.heap.size 1 x.init v2 b2 (w2.alloc (.cells #[.int .i64 x.init.op,.int .i64 x.init.a,.int .i64 x.init.b,.int .i64 x.init.n,.slice q4 y4 z4,.slice q5 y5 z5,.slice q6 y6 z6] 50)) (HS2.out.on (new_on' _ _)) (insN_new AX4.out AX5.out AX6.out) (by simp) (by omega) (fun e=>by have:=hown2 _ e.symm;omega) HR.out (by have:=HSO2.out.2;simp only [List.length_append,List.length_cons,List.length_nil] at this hlen ⊢;omega))
 clear hown2 hpl2
 go_wp2_with fail
 refine HC.out.mono ?_
 rintro e w3 ⟨v3,b3,rfl,hh,kq,ha,hl⟩
 have HSO3:=hideR (HSO2.out.adds ha hl)
 have kk:=(Kept.below (p:=p) (v:=v2) (new_on' w2 (.cells #[.int .i64 x.init.op,.int .i64 x.init.a,.int .i64 x.init.b,.int .i64 x.init.n,.slice q4 y4 z4,.slice q5 y5 z5,.slice q6 y6 z6] 50))).trans kq
 clear ha hl kq
 obtain ⟨bb,bo⟩:=kk.bx HBK2.out HNP.out HO2.out
 have HS3:=hideR hh
 have HBK3:=hideR bb
 have HO3:=hideR bo
 have HK3:=hideR (HK2.out.trans kk)
 clear hh kk bb bo HC HS2 HBK2 HK2 HO2 k0 k1 k2 k3 k4 k5 k6 k7 k8
 have HF:Hid (So bs ([x.type%256]++[one x.mtb]++(insB (bytesI d) (size d) x.init++[11])) b3):=hideR (by have:=HSO3.out;simpa [List.append_assoc] using this)
 go_wp2
 go_end0
 exact ⟨_,_,rfl,HS3.out,HK3.out,HF.out.1,HF.out.2⟩
set_option maxRecDepth 100000 in
set_option maxHeartbeats 4000000 in
theorem eElm {I:World->Prop} (C:FormC I) (w0:World) (hI:I w0) (p:Nat) (c:Nat->Value) (v:Value) (bs:List Int) (d:Nat) (m:Mod d) (w:World) (h:WS w0 p c v bs w) (hM:ModAt w0 d (c 0) (c 1) (c 2) (c 3) (c 4) (c 5) (c 6) (c 7) (c 8) (c 9) m) (i:Nat) (x:Elm d) (hx:m.elems[i]?=some x) (hR:Rg1 (Rg d) x.offset) (l1:∀y ∈ x.funcs,0<=y/\y<=4294967295) (l2:x.funcs.length<=1000000) (hlen:bs.length+([0]++(insB (bytesI d) (size d) x.offset++[11])++(idxB x.funcs)).length<=39000000000000):Calls Tryd.prog 42 #[.pointer (some ⟨p,0,none⟩),.int .i64 (i:Nat)] w (DoesA w0 p c v w bs ([0]++(insB (bytesI d) (size d) x.offset++[11])++(idxB x.funcs))):=by
 have hi:i<m.elems.length:=(List.getElem?_eq_some_iff.1 hx).1
 obtain ⟨b1,off1,cap1,hcv,hcx⟩:=Row.some hM.elems (by omega)
 have kc:=h.fld 8 (by omega)
 rw [hcv] at kc
 obtain ⟨⟨cx0,cx1,cx2,cx3,⟨v4,cx4,ax4⟩,⟨v5,cx5,ax5⟩,⟨v6,cx6,ax6⟩⟩,⟨v7,cx7,ax7⟩⟩:=hcx i x hx
 obtain ⟨q4,z4,rfl⟩:=Row.len ax4
 obtain ⟨q5,z5,rfl⟩:=At.len d _ _ ax5
 obtain ⟨q6,z6,rfl⟩:=At.len d _ _ ax6
 have AX4:=hideR ax4
 have AX5:=hideR ax5
 have AX6:=hideR ax6
 clear ax4 ax5 ax6
 obtain ⟨q7,z7,rfl⟩:=Row.len ax7
 have AX7:=hideR ax7
 clear ax7
 generalize hy7:x.funcs.length=y7 at *
 have cz0:=cell_on h.below cx0
 have cz1:=cell_on h.below cx1
 have cz2:=cell_on h.below cx2
 have cz3:=cell_on h.below cx3
 have cz4:=cell_on h.below cx4
 have cz5:=cell_on h.below cx5
 have cz6:=cell_on h.below cx6
 have cz7:=cell_on h.below cx7
 clear hcv hcx hM hx cx0 cx1 cx2 cx3 cx4 cx5 cx6 cx7
 generalize m.elems.length=n at *
 generalize hy4:x.offset.labels.length=y4 at *
 generalize hy5:size d x.offset.body=y5 at *
 generalize hy6:size d x.offset.els=y6 at *
 have HR:=hideR hR
 clear hR
 have hpw:p<w.heap.size:=h.lt
 have hown:∀k,v.ownBlock=some k->k<w.heap.size:=fun k hk=>(h.own.lt k hk).2
 have HBK0:=hideR (Bx.new (w:=w) (b:=w.heap.size) (t:=52) (cs:=#[.int .i64 x.offset.op,.int .i64 x.offset.a,.int .i64 x.offset.b,.int .i64 x.offset.n,.slice q4 y4 z4,.slice q5 y5 z5,.slice q6 y6 z6,.slice q7 y7 z7]) rfl)
 obtain ⟨u1,hu1⟩:∃u1,u1=w.alloc (.cells #[.int .i64 x.offset.op,.int .i64 x.offset.a,.int .i64 x.offset.b,.int .i64 x.offset.n,.slice q4 y4 z4,.slice q5 y5 z5,.slice q6 y6 z6,.slice q7 y7 z7] 52):=⟨_,rfl⟩
 have HU:=hideR (new_on' w (.cells #[.int .i64 x.offset.op,.int .i64 x.offset.a,.int .i64 x.offset.b,.int .i64 x.offset.n,.slice q4 y4 z4,.slice q5 y5 z5,.slice q6 y6 z6,.slice q7 y7 z7] 52))
 rw [<- hu1] at HBK0 HU
 have HS0:=hideR (h.on HU.out)
 have HO0:Hid (some w.heap.size≠v.ownBlock):=hideR (fun e=>by have:=hown _ e.symm;omega)
 have HNP:Hid (w.heap.size≠p):=hideR (by omega)
 have HK0:Hid (Kept p v w v u1):=hideR (Kept.below HU.out)
 have HSO0:Hid (So bs [] bs):=hideR (So.refl bs)
 have HU1:=hideR hu1
 clear h hpw hown HU hu1
 go_enter Tryd.func42,Tryd.ntmps42
 go_upto_region 1 with fail
 rw [<- HU1.out]
 clear HU1 kc cz0 cz1 cz2 cz3 cz4 cz5 cz6 cz7
 generalize hp3:w.heap.size=p3 at HBK0 HO0 HNP ⊢
 have k0:=HBK0.out.cell 0 _ rfl
 have k1:=HBK0.out.cell 1 _ rfl
 have k2:=HBK0.out.cell 2 _ rfl
 have k3:=HBK0.out.cell 3 _ rfl
 have k4:=HBK0.out.cell 4 _ rfl
 have k5:=HBK0.out.cell 5 _ rfl
 have k6:=HBK0.out.cell 6 _ rfl
 have k7:=HBK0.out.cell 7 _ rfl
 have HC:=hideR (wPut w0 p c v bs 0 u1 HS0.out (by have:=HSO0.out.2;simp only [List.length_append,List.length_cons,List.length_nil] at this hlen ⊢;omega))
 go_wp2_with fail
 refine HC.out.mono ?_
 rintro e w1 ⟨v1,rfl,hh,kk⟩
 have HSO1:=hideR (HSO0.out.app [0])
 obtain ⟨b1,hb1⟩:∃b,b=bs++[0]:=⟨_,rfl⟩
 try simp only [show (0:Int)%256=0 from rfl] at hh
 rw [<- hb1] at hh HSO1
 clear hb1
 obtain ⟨bb,bo⟩:=kk.bx HBK0.out HNP.out HO0.out
 have HS1:=hideR hh
 have HBK1:=hideR bb
 have HO1:=hideR bo
 have HK1:=hideR (HK0.out.trans kk)
 clear hh kk bb bo HC HS0 HBK0 HK0 HO0 k0 k1 k2 k3 k4 k5 k6 k7
 have k0:=HBK1.out.cell 0 _ rfl
 have k1:=HBK1.out.cell 1 _ rfl
 have k2:=HBK1.out.cell 2 _ rfl
 have k3:=HBK1.out.cell 3 _ rfl
 have k4:=HBK1.out.cell 4 _ rfl
 have k5:=HBK1.out.cell 5 _ rfl
 have k6:=HBK1.out.cell 6 _ rfl
 have k7:=HBK1.out.cell 7 _ rfl
 have hown1:∀k,v1.ownBlock=some k->k<w1.heap.size:=fun k hk=>(HS1.out.own.lt k hk).2
 have hpl1:=HS1.out.lt
 have HC:=hideR (wExpr1 C w0 hI p c d w1.heap.size 1 x.offset v1 b1 (w1.alloc (.cells #[.int .i64 x.offset.op,.int .i64 x.offset.a,.int .i64 x.offset.b,.int .i64 x.offset.n,.slice q4 y4 z4,.slice q5 y5 z5,.slice q6 y6 z6] 50)) (HS1.out.on (new_on' _ _)) (insN_new AX4.out AX5.out AX6.out) (by simp) (by omega) (fun e=>by have:=hown1 _ e.symm;omega) HR.out (by have:=HSO1.out.2;simp only [List.length_append,List.length_cons,List.length_nil] at this hlen ⊢;omega))
 clear hown1 hpl1
 go_wp2_with fail
 refine HC.out.mono ?_
 rintro e w2 ⟨v2,b2,rfl,hh,kq,ha,hl⟩
 have HSO2:=hideR (HSO1.out.adds ha hl)
 have kk:=(Kept.below (p:=p) (v:=v1) (new_on' w1 (.cells #[.int .i64 x.offset.op,.int .i64 x.offset.a,.int .i64 x.offset.b,.int .i64 x.offset.n,.slice q4 y4 z4,.slice q5 y5 z5,.slice q6 y6 z6] 50))).trans kq
 clear ha hl kq
 obtain ⟨bb,bo⟩:=kk.bx HBK1.out HNP.out HO1.out
 have HS2:=hideR hh
 have HBK2:=hideR bb
 have HO2:=hideR bo
 have HK2:=hideR (HK1.out.trans kk)
 clear hh kk bb bo HC HS1 HBK1 HK1 HO1 k0 k1 k2 k3 k4 k5 k6 k7
 have k0:=HBK2.out.cell 0 _ rfl
 have k1:=HBK2.out.cell 1 _ rfl
 have k2:=HBK2.out.cell 2 _ rfl
 have k3:=HBK2.out.cell 3 _ rfl
 have k4:=HBK2.out.cell 4 _ rfl
 have k5:=HBK2.out.cell 5 _ rfl
 have k6:=HBK2.out.cell 6 _ rfl
 have k7:=HBK2.out.cell 7 _ rfl
 have HC:=hideR (wIdx w0 p c v2 b2 _ x.funcs w2 HS2.out AX7.out l1 (by omega) (by have:=HSO2.out.2;simp only [List.length_append,List.length_cons,List.length_nil] at this hlen ⊢;omega))
 go_wp2_with fail
 refine HC.out.mono ?_
 rintro e w3 ⟨v3,rfl,hh,kk⟩
 have HSO3:=hideR (HSO2.out.app (idxB x.funcs))
 obtain ⟨b3,hb3⟩:∃b,b=b2++(idxB x.funcs):=⟨_,rfl⟩
 try simp only [show (0:Int)%256=0 from rfl] at hh
 rw [<- hb3] at hh HSO3
 clear hb3
 obtain ⟨bb,bo⟩:=kk.bx HBK2.out HNP.out HO2.out
 have HS3:=hideR hh
 have HBK3:=hideR bb
 have HO3:=hideR bo
 have HK3:=hideR (HK2.out.trans kk)
 clear hh kk bb bo HC HS2 HBK2 HK2 HO2 k0 k1 k2 k3 k4 k5 k6 k7
 have HF:Hid (So bs ([0]++(insB (bytesI d) (size d) x.offset++[11])++(idxB x.funcs)) b3):=hideR (by have:=HSO3.out;simpa [List.append_assoc] using this)
 go_wp2
 go_end0
 exact ⟨_,_,rfl,HS3.out,HK3.out,HF.out.1,HF.out.2⟩
set_option maxRecDepth 100000 in
set_option maxHeartbeats 4000000 in
theorem eDat {I:World->Prop} (C:FormC I) (w0:World) (hI:I w0) (p:Nat) (c:Nat->Value) (v:Value) (bs:List Int) (d:Nat) (m:Mod d) (w:World) (h:WS w0 p c v bs w) (hM:ModAt w0 d (c 0) (c 1) (c 2) (c 3) (c 4) (c 5) (c 6) (c 7) (c 8) (c 9) m) (i:Nat) (x:Dat d) (hx:m.datas[i]?=some x) (hR:Rg1 (Rg d) x.offset) (l2:x.bytes.size<=1000000) (hlen:bs.length+([0]++(insB (bytesI d) (size d) x.offset++[11])++(Leb.uB (x.bytes.size:Int)++nums x.bytes)).length<=39000000000000):Calls Tryd.prog 44 #[.pointer (some ⟨p,0,none⟩),.int .i64 (i:Nat)] w (DoesA w0 p c v w bs ([0]++(insB (bytesI d) (size d) x.offset++[11])++(Leb.uB (x.bytes.size:Int)++nums x.bytes))):=by
 have hi:i<m.datas.length:=(List.getElem?_eq_some_iff.1 hx).1
 obtain ⟨b1,off1,cap1,hcv,hcx⟩:=Row.some hM.datas (by omega)
 have kc:=h.fld 9 (by omega)
 rw [hcv] at kc
 obtain ⟨⟨cx0,cx1,cx2,cx3,⟨v4,cx4,ax4⟩,⟨v5,cx5,ax5⟩,⟨v6,cx6,ax6⟩⟩,cx7⟩:=hcx i x hx
 obtain ⟨q4,z4,rfl⟩:=Row.len ax4
 obtain ⟨q5,z5,rfl⟩:=At.len d _ _ ax5
 obtain ⟨q6,z6,rfl⟩:=At.len d _ _ ax6
 have AX4:=hideR ax4
 have AX5:=hideR ax5
 have AX6:=hideR ax6
 clear ax4 ax5 ax6
 have cz0:=cell_on h.below cx0
 have cz1:=cell_on h.below cx1
 have cz2:=cell_on h.below cx2
 have cz3:=cell_on h.below cx3
 have cz4:=cell_on h.below cx4
 have cz5:=cell_on h.below cx5
 have cz6:=cell_on h.below cx6
 have cz7:=cell_on h.below cx7
 clear hcv hcx hM hx cx0 cx1 cx2 cx3 cx4 cx5 cx6 cx7
 generalize m.datas.length=n at *
 generalize hy4:x.offset.labels.length=y4 at *
 generalize hy5:size d x.offset.body=y5 at *
 generalize hy6:size d x.offset.els=y6 at *
 have HR:=hideR hR
 clear hR
 have hpw:p<w.heap.size:=h.lt
 have hown:∀k,v.ownBlock=some k->k<w.heap.size:=fun k hk=>(h.own.lt k hk).2
 have HBK0:=hideR (Bx.new (w:=w) (b:=w.heap.size) (t:=54) (cs:=#[.int .i64 x.offset.op,.int .i64 x.offset.a,.int .i64 x.offset.b,.int .i64 x.offset.n,.slice q4 y4 z4,.slice q5 y5 z5,.slice q6 y6 z6,.string x.bytes]) rfl)
 obtain ⟨u1,hu1⟩:∃u1,u1=w.alloc (.cells #[.int .i64 x.offset.op,.int .i64 x.offset.a,.int .i64 x.offset.b,.int .i64 x.offset.n,.slice q4 y4 z4,.slice q5 y5 z5,.slice q6 y6 z6,.string x.bytes] 54):=⟨_,rfl⟩
 have HU:=hideR (new_on' w (.cells #[.int .i64 x.offset.op,.int .i64 x.offset.a,.int .i64 x.offset.b,.int .i64 x.offset.n,.slice q4 y4 z4,.slice q5 y5 z5,.slice q6 y6 z6,.string x.bytes] 54))
 rw [<- hu1] at HBK0 HU
 have HS0:=hideR (h.on HU.out)
 have HO0:Hid (some w.heap.size≠v.ownBlock):=hideR (fun e=>by have:=hown _ e.symm;omega)
 have HNP:Hid (w.heap.size≠p):=hideR (by omega)
 have HK0:Hid (Kept p v w v u1):=hideR (Kept.below HU.out)
 have HSO0:Hid (So bs [] bs):=hideR (So.refl bs)
 have HU1:=hideR hu1
 clear h hpw hown HU hu1
 go_enter Tryd.func44,Tryd.ntmps44
 go_upto_region 1 with fail
 rw [<- HU1.out]
 clear HU1 kc cz0 cz1 cz2 cz3 cz4 cz5 cz6 cz7
 generalize hp3:w.heap.size=p3 at HBK0 HO0 HNP ⊢
 have k0:=HBK0.out.cell 0 _ rfl
 have k1:=HBK0.out.cell 1 _ rfl
 have k2:=HBK0.out.cell 2 _ rfl
 have k3:=HBK0.out.cell 3 _ rfl
 have k4:=HBK0.out.cell 4 _ rfl
 have k5:=HBK0.out.cell 5 _ rfl
 have k6:=HBK0.out.cell 6 _ rfl
 have k7:=HBK0.out.cell 7 _ rfl
 have HC:=hideR (wPut w0 p c v bs 0 u1 HS0.out (by have:=HSO0.out.2;simp only [List.length_append,List.length_cons,List.length_nil] at this hlen ⊢;omega))
 go_wp2_with fail
 refine HC.out.mono ?_
 rintro e w1 ⟨v1,rfl,hh,kk⟩
 have HSO1:=hideR (HSO0.out.app [0])
 obtain ⟨b1,hb1⟩:∃b,b=bs++[0]:=⟨_,rfl⟩
 try simp only [show (0:Int)%256=0 from rfl] at hh
 rw [<- hb1] at hh HSO1
 clear hb1
 obtain ⟨bb,bo⟩:=kk.bx HBK0.out HNP.out HO0.out
 have HS1:=hideR hh
 have HBK1:=hideR bb
 have HO1:=hideR bo
 have HK1:=hideR (HK0.out.trans kk)
 clear hh kk bb bo HC HS0 HBK0 HK0 HO0 k0 k1 k2 k3 k4 k5 k6 k7
 have k0:=HBK1.out.cell 0 _ rfl
 have k1:=HBK1.out.cell 1 _ rfl
 have k2:=HBK1.out.cell 2 _ rfl
 have k3:=HBK1.out.cell 3 _ rfl
 have k4:=HBK1.out.cell 4 _ rfl
 have k5:=HBK1.out.cell 5 _ rfl
 have k6:=HBK1.out.cell 6 _ rfl
 have k7:=HBK1.out.cell 7 _ rfl
 have hown1:∀k,v1.ownBlock=some k->k<w1.heap.size:=fun k hk=>(HS1.out.own.lt k hk).2
 have hpl1:=HS1.out.lt
 have HC:=hideR (wExpr1 C w0 hI p c d w1.heap.size 1 x.offset v1 b1 (w1.alloc (.cells #[.int .i64 x.offset.op,.int .i64 x.offset.a,.int .i64 x.offset.b,.int .i64 x.offset.n,.slice q4 y4 z4,.slice q5 y5 z5,.slice q6 y6 z6] 50)) (HS1.out.on (new_on' _ _)) (insN_new AX4.out AX5.out AX6.out) (by simp) (by omega) (fun e=>by have:=hown1 _ e.symm;omega) HR.out (by have:=HSO1.out.2;simp only [List.length_append,List.length_cons,List.length_nil] at this hlen ⊢;omega))
 clear hown1 hpl1
 go_wp2_with fail
 refine HC.out.mono ?_
 rintro e w2 ⟨v2,b2,rfl,hh,kq,ha,hl⟩
 have HSO2:=hideR (HSO1.out.adds ha hl)
 have kk:=(Kept.below (p:=p) (v:=v1) (new_on' w1 (.cells #[.int .i64 x.offset.op,.int .i64 x.offset.a,.int .i64 x.offset.b,.int .i64 x.offset.n,.slice q4 y4 z4,.slice q5 y5 z5,.slice q6 y6 z6] 50))).trans kq
 clear ha hl kq
 obtain ⟨bb,bo⟩:=kk.bx HBK1.out HNP.out HO1.out
 have HS2:=hideR hh
 have HBK2:=hideR bb
 have HO2:=hideR bo
 have HK2:=hideR (HK1.out.trans kk)
 clear hh kk bb bo HC HS1 HBK1 HK1 HO1 k0 k1 k2 k3 k4 k5 k6 k7
 have k0:=HBK2.out.cell 0 _ rfl
 have k1:=HBK2.out.cell 1 _ rfl
 have k2:=HBK2.out.cell 2 _ rfl
 have k3:=HBK2.out.cell 3 _ rfl
 have k4:=HBK2.out.cell 4 _ rfl
 have k5:=HBK2.out.cell 5 _ rfl
 have k6:=HBK2.out.cell 6 _ rfl
 have k7:=HBK2.out.cell 7 _ rfl
 have HC:=hideR (wText w0 p c v2 b2 x.bytes w2 HS2.out (by have:=HSO2.out.2;simp only [List.length_append,List.length_cons,List.length_nil] at this hlen ⊢;omega) (by omega))
 go_wp2_with fail
 refine HC.out.mono ?_
 rintro e w3 ⟨v3,rfl,hh,kk⟩
 have HSO3:=hideR (HSO2.out.app (Leb.uB (x.bytes.size:Int)++nums x.bytes))
 rw [List.append_assoc] at hh
 obtain ⟨b3,hb3⟩:∃b,b=b2++(Leb.uB (x.bytes.size:Int)++nums x.bytes):=⟨_,rfl⟩
 try simp only [show (0:Int)%256=0 from rfl] at hh
 rw [<- hb3] at hh HSO3
 clear hb3
 obtain ⟨bb,bo⟩:=kk.bx HBK2.out HNP.out HO2.out
 have HS3:=hideR hh
 have HBK3:=hideR bb
 have HO3:=hideR bo
 have HK3:=hideR (HK2.out.trans kk)
 clear hh kk bb bo HC HS2 HBK2 HK2 HO2 k0 k1 k2 k3 k4 k5 k6 k7
 have HF:Hid (So bs ([0]++(insB (bytesI d) (size d) x.offset++[11])++(Leb.uB (x.bytes.size:Int)++nums x.bytes)) b3):=hideR (by have:=HSO3.out;simpa [List.append_assoc] using this)
 go_wp2
 go_end0
 exact ⟨_,_,rfl,HS3.out,HK3.out,HF.out.1,HF.out.2⟩
end Go.Proofs.YtlcpagiljfpbpaaDoor

