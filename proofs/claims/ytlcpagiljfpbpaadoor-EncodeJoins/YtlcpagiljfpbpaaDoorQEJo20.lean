/- Texts that the claim needs. -/
import Derived.Test.YtlcpagiljfpbpaaDoorQEJo19
namespace Go.Proofs.YtlcpagiljfpbpaaDoor
open Go.RowKit Rep Enc Go.Lib
set_option linter.unusedVariables false
namespace Enc
structure InsN (w w0:World) (d bk o:Nat) (x:Ins (IL d)):Prop where
 op:w.cell? ⟨bk,o,none⟩=.some (.int .i64 x.op)
 a:w.cell? ⟨bk,o+1,none⟩=.some (.int .i64 x.a)
 b:w.cell? ⟨bk,o+2,none⟩=.some (.int .i64 x.b)
 n:w.cell? ⟨bk,o+3,none⟩=.some (.int .i64 x.n)
 labels:∃v,w.cell? ⟨bk,o+4,none⟩=.some v/\Ints w0 v x.labels
 body:∃v,w.cell? ⟨bk,o+5,none⟩=.some v/\At w0 d v x.body
 els:∃v,w.cell? ⟨bk,o+6,none⟩=.some v/\At w0 d v x.els
end Enc
set_option maxRecDepth 100000 in
set_option maxHeartbeats 4000000 in
theorem isRow {I:World->Prop} (C:FormC I) (w0:World) (hI:I w0) (p:Nat) (c:Nat->Value) (d:Nat) (IH:IS w0 p c d) (b1 off1 kL:Nat) (l:List (Ins (IL d))) (v:Value) (bs:List Int) (w:World) (h:WS w0 p c v bs w) (hA:∀(i:Nat) (x:Ins (IL d)),l[i]?=some x->InsN w w0 d b1 (off1+i*7) x) (hq:b1<w.heap.size) (hqp:b1≠p) (hqv:some b1≠v.ownBlock) (la:l.length<=9223372036854775807) (hR:∀x,x ∈ l->Rg1 (Rg d) x) (hlen:bs.length+(insL (bytesI d) (size d) l).length<=39000000000000):Calls Tryd.prog 50 #[.pointer (some ⟨p,0,none⟩),.slice (some ⟨b1,off1,none⟩) l.length kL] w (DoesA w0 p c v w bs (insL (bytesI d) (size d) l)):=by
 have HA:=hideR hA
 have HQ:=hideR (⟨hq,hqp,hqv⟩:b1<w.heap.size/\b1≠p/\some b1≠v.ownBlock)
 have HR:=hideR hR
 have HIH:=hideR IH
 have HLEN:=hideR hlen
 have HS:=hideR h
 have HI:=hideR hI
 clear hA hR IH hlen h hI hq hqp hqv
 generalize hna:l.length=n at *
 go_enter Tryd.func50,Tryd.ntmps50
 go_wp2_with fail
 go_loopw [8] (fun i wr=>∃(j:Nat) (v2:Value) (b2:List Int),j<=n/\i=.int .i64 j/\Hid (WS w0 p c v2 b2 wr)/\Hid (Kept p v w v2 wr)/\Hid (So bs (insL (bytesI d) (size d) (l.take j)) b2)) (fun i _=>n-(intOf i).toNat)
 case atStart=>exact ⟨0,v,bs,by omega,rfl,HS,hideR (Kept.refl _ _ _),hideR (So.refl bs)⟩
 case round =>
  clear HS
  obtain ⟨j,v2,b2,hj,rfl,HWS,HKW,HSO⟩:=hrel
  by_cases hgo:j<n
  ·obtain ⟨x,hxk⟩:∃x,l[j]?=some x:=⟨_,List.getElem?_eq_getElem (by omega)⟩
   have HXK:=hideR hxk
   obtain ⟨cx0,cx1,cx2,cx3,⟨v4,cx4,ax4⟩,⟨v5,cx5,ax5⟩,⟨v6,cx6,ax6⟩⟩:=HA.out j x hxk
   clear hxk
   obtain ⟨q4,z4,rfl⟩:=Row.len ax4
   obtain ⟨q5,z5,rfl⟩:=At.len d _ _ ax5
   obtain ⟨q6,z6,rfl⟩:=At.len d _ _ ax6
   have AX4:=hideR ax4
   have AX5:=hideR ax5
   have AX6:=hideR ax6
   clear ax4 ax5 ax6
   have cz0:=(World.cell?_of_block (a:=⟨b1,_,none⟩) (HKW.out.block b1 HQ.out.1 HQ.out.2.1 HQ.out.2.2)).trans cx0
   have cz1:=(World.cell?_of_block (a:=⟨b1,_,none⟩) (HKW.out.block b1 HQ.out.1 HQ.out.2.1 HQ.out.2.2)).trans cx1
   have cz2:=(World.cell?_of_block (a:=⟨b1,_,none⟩) (HKW.out.block b1 HQ.out.1 HQ.out.2.1 HQ.out.2.2)).trans cx2
   have cz3:=(World.cell?_of_block (a:=⟨b1,_,none⟩) (HKW.out.block b1 HQ.out.1 HQ.out.2.1 HQ.out.2.2)).trans cx3
   have cz4:=(World.cell?_of_block (a:=⟨b1,_,none⟩) (HKW.out.block b1 HQ.out.1 HQ.out.2.1 HQ.out.2.2)).trans cx4
   have cz5:=(World.cell?_of_block (a:=⟨b1,_,none⟩) (HKW.out.block b1 HQ.out.1 HQ.out.2.1 HQ.out.2.2)).trans cx5
   have cz6:=(World.cell?_of_block (a:=⟨b1,_,none⟩) (HKW.out.block b1 HQ.out.1 HQ.out.2.1 HQ.out.2.2)).trans cx6
   clear cx0 cx1 cx2 cx3 cx4 cx5 cx6
   generalize hy4:x.labels.length=y4 at *
   generalize hy5:size d x.body=y5 at *
   generalize hy6:size d x.els=y6 at *
   have hb2:b2.length<=39000000000000:=by have h1:=HSO.out.2;have h2:=insL_part (bytesI d) (size d) l j;have h3:=HLEN.out;omega
   go_upto_region 3 with fail
   obtain ⟨u1,hu1⟩:∃u1,u1=wr.alloc (.cells #[.int .i64 x.op,.int .i64 x.a,.int .i64 x.b,.int .i64 x.n,.slice q4 y4 z4,.slice q5 y5 z5,.slice q6 y6 z6] 50):=⟨_,rfl⟩
   have HBK:Hid (Blk u1 wr.heap.size x.op x.a x.b x.n (.slice q4 y4 z4) (.slice q5 y5 z5) (.slice q6 y6 z6)):=hideR (by rw [hu1];exact Blk.new wr wr.heap.size _ _ _ _ _ _ _ rfl)
   have HU:Hid (Below wr.heap.size wr u1):=hideR (by rw [hu1];exact new_on' _ _)
   rw [<- hu1]
   clear hu1 cz0 cz1 cz2 cz3 cz4 cz5 cz6
   have HS1:=hideR (HWS.out.on HU.out)
   have HK1:=hideR (HKW.out.trans (Kept.below (p:=p) (v:=v2) HU.out))
   clear HWS HKW HU
   generalize wr.heap.size=p3 at HBK ⊢
   have HC:=hideR (wFull w0 p c v2 b2 u1 HS1.out (by omega))
   go_wp2_with fail
   refine HC.out.mono ?_
   rintro e w3 ⟨rfl,rfl⟩
   clear HC
   by_cases hfull:262144<b2.length
   ·rw [decide_eq_true hfull]
    have HF:Hid (So bs (insL (bytesI d) (size d) l) b2):=hideR ⟨.inr ⟨hfull,by have h1:=HSO.out.2;have h2:=insL_part (bytesI d) (size d) l j;omega,HSO.out.1.le⟩,by have h1:=HSO.out.2;have h2:=insL_part (bytesI d) (size d) l j;omega⟩
    clear hfull
    go_wp2
    go_end0
    exact ⟨_,_,rfl,HS1.out,HK1.out,HF.out.1,HF.out.2⟩
   ·rw [decide_eq_false hfull]
    clear hfull
    have k0:=HBK.out.cell 0 _ rfl
    have k1:=HBK.out.cell 1 _ rfl
    have k2:=HBK.out.cell 2 _ rfl
    have k3:=HBK.out.cell 3 _ rfl
    have k4:=HBK.out.cell 4 _ rfl
    have k5:=HBK.out.cell 5 _ rfl
    have k6:=HBK.out.cell 6 _ rfl
    have HC:=hideR (wInstr C w0 p c v2 b2 HIH.out x q4 q5 q6 y4 z4 y5 z5 y6 z6 _ HS1.out HI.out hy6 AX4.out AX5.out AX6.out (HR.out x (List.mem_of_getElem? HXK.out)) (by
     have h1:=HSO.out.2
     have h2:=insL_part (bytesI d) (size d) l (j+1)
     rw [insL_take HXK.out,List.length_append] at h2
     have h3:=HLEN.out
     omega))
    go_wp2_with fail
    refine HC.out.mono ?_
    rintro e w4 ⟨v4,b4,rfl,hh,kk,ha,hl⟩
    have HS4:=hideR hh
    have HK4:=hideR (HK1.out.trans kk)
    have HSO4:Hid (So bs (insL (bytesI d) (size d) (l.take (j+1))) b4):=hideR (by rw [insL_take HXK.out];exact HSO.out.adds ha hl)
    clear hh kk ha hl HC HS1 HK1 HBK k0 k1 k2 k3 k4 k5 k6
    go_wp2
    go_roundw
    case rel=>exact ⟨j+1,v4,b4,by omega,by go_num,HS4,HK4,HSO4⟩
    case measure=>simp [intOf];omega
  ·obtain rfl:n=j:=by omega
   have HF:Hid (So bs (insL (bytesI d) (size d) l) b2):=hideR (by have:=HSO.out;rw [List.take_of_length_le (by omega)] at this;exact this)
   go_wp2
   go_end0
   exact ⟨_,_,rfl,HWS.out,HKW.out,HF.out.1,HF.out.2⟩
set_option maxRecDepth 100000 in
set_option maxHeartbeats 2000000 in
theorem wExpr1 {I : World → Prop} (C : FormC I) (w0 : World) (hI : I w0) (p : Nat) (c : Nat → Value) (d : Nat) (b1 kL : Nat) (x : Ins (IL d)) (v : Value) (bs : List Int) (w : World) (h : WS w0 p c v bs w) (hA : InsN w w0 d b1 0 x) (hq : b1 < w.heap.size) (hqp : b1 ≠ p) (hqv : some b1 ≠ v.ownBlock) (hR : Rg1 (Rg d) x) (hlen : bs.length + (insB (bytesI d) (size d) x).length ≤ 39000000000000) :
    Calls Tryd.prog 22 #[.pointer (some ⟨p, 0, none⟩), .slice (some ⟨b1, 0, none⟩) 1 kL] w (DoesA w0 p c v w bs (insB (bytesI d) (size d) x ++ [11])) := by
  have e1 : insL (bytesI d) (size d) [x] = insB (bytesI d) (size d) x := by unfold insL; simp
  have HC := hideR (isRow C w0 hI p c d (isAll C w0 hI p c d) b1 0 kL [x] v bs w h (fun i y hy => by
    match i, hy with
    | 0, hy => have : x = y := by simpa using hy
               subst this; simpa using hA
    | i + 1, hy => simp at hy) hq hqp hqv (by simp) (fun y hy => by rw [List.mem_singleton.1 hy]; exact hR) (by rw [e1]; exact hlen))
  rw [e1] at HC
  simp only [List.length_cons, List.length_nil, Nat.zero_add] at HC
  have HLEN := hideR hlen
  clear h hA hR hlen e1 hq hqp hqv
  go_enter Tryd.func22, Tryd.ntmps22
  go_wp2_with fail
  refine HC.out.mono ?_
  rintro e w1 ⟨v1, b2, rfl, h1, k1, a1, l1⟩
  have HC2 := hideR (wPut w0 p c v1 b2 11 w1 h1 (by have := HLEN.out; omega))
  have HSO := hideR (((So.refl bs).adds a1 l1).app [11])
  have HK1 := hideR k1
  clear h1 k1 a1 l1 HC
  go_wp2_with fail
  refine HC2.out.mono ?_
  rintro e w2 ⟨v2, rfl, h2, k2⟩
  have HS := hideR h2
  have HK2 := hideR (HK1.out.trans k2)
  have HF : Hid (So bs (insB (bytesI d) (size d) x ++ [11]) (b2 ++ [11])) := hideR (by have := HSO.out; simpa using this)
  clear h2 k2 HC2
  go_wp2
  go_end0
  exact ⟨_, _, rfl, HS.out, HK2.out, HF.out.1, HF.out.2⟩
end Go.Proofs.YtlcpagiljfpbpaaDoor

