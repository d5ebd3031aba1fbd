/- Texts that the claim needs. -/
import Derived.Test.YtlcpagiljfpbpaaDoorQEUn26
import Derived.Test.YtlcpagiljfpbpaaDoorQEUn27
import Derived.Lib.ConvBytes
namespace Go.Proofs.YtlcpagiljfpbpaaDoor
open Go.RowKit Rep Enc Go.Lib
set_option linter.unusedVariables false
namespace Enc
theorem strNums_size (xs:List Int):(strOfNums xs).size=xs.length:=by
 unfold strOfNums ByteArray.size;simp
theorem bytes_below (w:World) (e:TypeId) (s:ByteArray):Below w.heap.size w (Lib.bytesWorld w e s) :=
 ⟨rfl,rfl,rfl,by rw [Lib.bytesWorld_size];omega,fun k hk=>Lib.bytesWorld_at_old w e s k hk⟩
theorem bytesCells_get (w:World) (e:TypeId) (xs:List Int) (hbd:∀x ∈ xs,0<=x/\x<=255) (j:Nat) (u:Value) (hu:(cells xs)[j]?=some u):(Lib.bytesCells w e (strOfNums xs))[j]?=some u:=by
 have h1:=strCells_nums xs hbd
 rw [<- h1] at hu
 unfold strCells at hu
 unfold Lib.bytesCells
 have hj:j<(strOfNums xs).data.size:=by
  have:=(List.getElem?_eq_some_iff.1 hu).1
  simpa using this
 rw [Array.getElem?_append_left (by simpa using hj)]
 simpa using hu
end Enc
set_option maxRecDepth 100000 in
set_option maxHeartbeats 4000000 in
theorem wSizedC (w0:World) (p:Nat) (c:Nat->Value) (v:Value) (bs add:List Int) (q1 q2:Addr) (w:World) (h:WS w0 p c v bs w) (hcall:Calls Tryd.prog 66 #[.pointer (some q1),.pointer (some q2)] w (DoesA w0 p c v w bs add)) (hlen:bs.length+add.length<=38900000000000) :
  Calls Tryd.prog 46 #[.pointer (some ⟨p,0,none⟩),.func (.func 66) #[] #[.pointer (some q1),.pointer (some q2)]] w (DoesA w0 p c v w bs (sizB add)):=by
 obtain ⟨oV,kV,rfl⟩:=h.slice
 have kc:=h.cell
 have HC:=hideR hcall
 have HLEN:=hideR hlen
 clear h hcall hlen
 generalize hn:bs.length=n at *
 have hnb:n<=38900000000000:=by have:=HLEN.out;omega
 go_enter Tryd.func46,Tryd.ntmps46
 go_wp2_with fail
 refine HC.out.mono ?_
 rintro e w1 ⟨v1,b1,rfl,h1,k1,a1,l1⟩
 have hle:=a1.le
 have HSO:Hid (So bs add b1):=hideR ⟨a1,l1⟩
 have HK1:=hideR k1
 obtain ⟨o1,c1,rfl⟩:=h1.slice
 have HS1:=hideR h1
 have kc1:=h1.cell
 have hb1:b1.length<=38900000000000:=by have:=HLEN.out;omega
 clear HC kc h1 k1 a1 l1
 rw [hn] at hle
 generalize hm:b1.length=m at *
 have hs1:(m:Int)-(n:Int)=((m-n:Nat):Int):=by omega
 have hs2:wrap64 ((m-n:Nat):Int)=((m-n:Nat):Int):=by unfold wrap64;omega
 have hs3:IntKind.u64.wrap ((m-n:Nat):Int)=((m-n:Nat):Int):=by simp [IntKind.wrap,IntKind.signed,IntKind.bits];omega
 have hten:=Leb.uB_ten (n:=((m-n:Nat):Int)) (by omega) (by omega)
 have hpos:=Leb.uB_pos ((m-n:Nat):Int)
 obtain ⟨d,hd⟩:∃d,m-n=d:=⟨_,rfl⟩
 rw [hd] at hs1 hs2 hs3 hten hpos
 have HC:=hideR (lebPutU (d:Int) w1 (by omega) (by omega))
 go_wp2_with fail
 refine HC.out.mono ?_
 rintro e w2 ⟨rfl,hb2⟩
 have HS2:=hideR (HS1.out.on hb2)
 have HK2:=hideR (HK1.out.trans (Kept.below (p:=p) (v:=.slice o1 m c1) hb2))
 have kc2:=HS2.out.cell
 clear HC HS1 HK1 kc1 hb2 hs1 hs2 hs3
 obtain ⟨xs,hxs⟩:∃xs,Leb.uB (d:Int)=xs:=⟨_,rfl⟩
 have hbd:=uB_bd _ (d:Int) (by omega) (Nat.le_refl _)
 rw [hxs] at hten hpos hbd ⊢
 have HXS:=hideR hxs
 clear hxs
 have hcv:=Lib.run_convert_string_bytes w2 9 59 5 (strOfNums xs) Tryd.underlying9 Tryd.underlying59 Tryd.underlying5
 rw [strNums_size] at hcv
 generalize hgc:grownCap w2 xs.length 0 5=gc at hcv
 obtain ⟨w3,hw3⟩:∃w3,Lib.bytesWorld w2 5 (strOfNums xs)=w3:=⟨_,rfl⟩
 have hb3:Below w2.heap.size w2 w3:=by rw [<- hw3];exact bytes_below _ _ _
 have hvb:=Lib.bytesWorld_at_new w2 5 (strOfNums xs)
 rw [hw3] at hvb hcv
 have hvs:∀(j:Nat) (u:Value),(cells xs)[j]?=some u->(Lib.bytesCells w2 5 (strOfNums xs))[j]?=some u:=fun j u hu=>bytesCells_get _ _ _ hbd j u hu
 have HS3:=hideR (HS2.out.on hb3)
 have HK3:=hideR (HK2.out.trans (Kept.below (p:=p) (v:=.slice o1 m c1) hb3))
 have hown2:∀k,(Value.slice o1 m c1).ownBlock=some k->k<w2.heap.size:=fun k hk=>(HS2.out.own.lt k hk).2
 have HC:=hideR (pIns w0.heap.size (.slice o1 m c1) b1 xs n w2.heap.size gc _ w3 HS3.out.own HS3.out.below.size (by rw [hm];exact hle) hpos (by rw [hm];omega) hvb hvs (fun e=>by have:=hown2 _ e;omega))
 clear hvs hvb hw3 hown2 HS2 HK2 hgc hb3
 generalize hxl:xs.length=xl at *
 go_wp2_with fail
 refine HC.out.mono ?_
 rintro e w9 ⟨v9,rfl,how9,hg9,hv9⟩
 clear HC
 have kc9:w9.cell? ⟨p,10,none⟩=some (.slice o1 m c1):=by rw [World.cell?_of_block (a:=⟨p,10,none⟩) (hg9.block p HS3.out.lt (fun e=>HS3.out.apart e.symm))];exact HS3.out.cell
 have kf9:w9.frozen? ⟨p,10,none⟩=false:=by rw [World.frozen?_of_block (a:=⟨p,10,none⟩) (hg9.block p HS3.out.lt (fun e=>HS3.out.apart e.symm))];exact HS3.out.frz
 have HE:=hideR (HS3.out.store how9 hg9)
 have HK9:=hideR (HK3.out.trans (Kept.store (p:=p) (i:=10) hg9 hv9 v9))
 have HF:Hid (So bs (sizB add) (b1.take n++(xs++b1.drop n))):=hideR (HSO.out.sized _ (by rw [hm,hn,hd,HXS.out]))
 obtain ⟨o9,k9,rfl⟩:∃o9 k9,v9=.slice o9 (b1.take n++(xs++b1.drop n)).length k9:=by
  rcases how9.2 with ⟨rfl,h0⟩|⟨g,cap,cur,rfl,_⟩
  ·rw [h0];exact ⟨none,0,rfl⟩
  ·exact ⟨_,_,rfl⟩
 clear how9 hg9 hv9 HS3 HK3 HSO kc2 hcv
 generalize hb9:b1.take n++(xs++b1.drop n)=b9 at *
 generalize b9.length=n9 at *
 go_wp2
 go_end0
 exact ⟨_,_,rfl,HE.out,HK9.out,HF.out.1,HF.out.2⟩
set_option maxRecDepth 100000 in
set_option maxHeartbeats 4000000 in
theorem wSizedS (w0:World) (p:Nat) (c:Nat->Value) (v:Value) (bs add:List Int) (q1 q2:Addr) (w:World) (h:WS w0 p c v bs w) (hcall:Calls Tryd.prog 47 #[.pointer (some q1),.pointer (some q2)] w (DoesA w0 p c v w bs add)) (hlen:bs.length+add.length<=38900000000000) :
  Calls Tryd.prog 46 #[.pointer (some ⟨p,0,none⟩),.func (.func 47) #[] #[.pointer (some q1),.pointer (some q2)]] w (DoesA w0 p c v w bs (sizB add)):=by
 obtain ⟨oV,kV,rfl⟩:=h.slice
 have kc:=h.cell
 have HC:=hideR hcall
 have HLEN:=hideR hlen
 clear h hcall hlen
 generalize hn:bs.length=n at *
 have hnb:n<=38900000000000:=by have:=HLEN.out;omega
 go_enter Tryd.func46,Tryd.ntmps46
 go_wp2_with fail
 refine HC.out.mono ?_
 rintro e w1 ⟨v1,b1,rfl,h1,k1,a1,l1⟩
 have hle:=a1.le
 have HSO:Hid (So bs add b1):=hideR ⟨a1,l1⟩
 have HK1:=hideR k1
 obtain ⟨o1,c1,rfl⟩:=h1.slice
 have HS1:=hideR h1
 have kc1:=h1.cell
 have hb1:b1.length<=38900000000000:=by have:=HLEN.out;omega
 clear HC kc h1 k1 a1 l1
 rw [hn] at hle
 generalize hm:b1.length=m at *
 have hs1:(m:Int)-(n:Int)=((m-n:Nat):Int):=by omega
 have hs2:wrap64 ((m-n:Nat):Int)=((m-n:Nat):Int):=by unfold wrap64;omega
 have hs3:IntKind.u64.wrap ((m-n:Nat):Int)=((m-n:Nat):Int):=by simp [IntKind.wrap,IntKind.signed,IntKind.bits];omega
 have hten:=Leb.uB_ten (n:=((m-n:Nat):Int)) (by omega) (by omega)
 have hpos:=Leb.uB_pos ((m-n:Nat):Int)
 obtain ⟨d,hd⟩:∃d,m-n=d:=⟨_,rfl⟩
 rw [hd] at hs1 hs2 hs3 hten hpos
 have HC:=hideR (lebPutU (d:Int) w1 (by omega) (by omega))
 go_wp2_with fail
 refine HC.out.mono ?_
 rintro e w2 ⟨rfl,hb2⟩
 have HS2:=hideR (HS1.out.on hb2)
 have HK2:=hideR (HK1.out.trans (Kept.below (p:=p) (v:=.slice o1 m c1) hb2))
 have kc2:=HS2.out.cell
 clear HC HS1 HK1 kc1 hb2 hs1 hs2 hs3
 obtain ⟨xs,hxs⟩:∃xs,Leb.uB (d:Int)=xs:=⟨_,rfl⟩
 have hbd:=uB_bd _ (d:Int) (by omega) (Nat.le_refl _)
 rw [hxs] at hten hpos hbd ⊢
 have HXS:=hideR hxs
 clear hxs
 have hcv:=Lib.run_convert_string_bytes w2 9 59 5 (strOfNums xs) Tryd.underlying9 Tryd.underlying59 Tryd.underlying5
 rw [strNums_size] at hcv
 generalize hgc:grownCap w2 xs.length 0 5=gc at hcv
 obtain ⟨w3,hw3⟩:∃w3,Lib.bytesWorld w2 5 (strOfNums xs)=w3:=⟨_,rfl⟩
 have hb3:Below w2.heap.size w2 w3:=by rw [<- hw3];exact bytes_below _ _ _
 have hvb:=Lib.bytesWorld_at_new w2 5 (strOfNums xs)
 rw [hw3] at hvb hcv
 have hvs:∀(j:Nat) (u:Value),(cells xs)[j]?=some u->(Lib.bytesCells w2 5 (strOfNums xs))[j]?=some u:=fun j u hu=>bytesCells_get _ _ _ hbd j u hu
 have HS3:=hideR (HS2.out.on hb3)
 have HK3:=hideR (HK2.out.trans (Kept.below (p:=p) (v:=.slice o1 m c1) hb3))
 have hown2:∀k,(Value.slice o1 m c1).ownBlock=some k->k<w2.heap.size:=fun k hk=>(HS2.out.own.lt k hk).2
 have HC:=hideR (pIns w0.heap.size (.slice o1 m c1) b1 xs n w2.heap.size gc _ w3 HS3.out.own HS3.out.below.size (by rw [hm];exact hle) hpos (by rw [hm];omega) hvb hvs (fun e=>by have:=hown2 _ e;omega))
 clear hvs hvb hw3 hown2 HS2 HK2 hgc hb3
 generalize hxl:xs.length=xl at *
 go_wp2_with fail
 refine HC.out.mono ?_
 rintro e w9 ⟨v9,rfl,how9,hg9,hv9⟩
 clear HC
 have kc9:w9.cell? ⟨p,10,none⟩=some (.slice o1 m c1):=by rw [World.cell?_of_block (a:=⟨p,10,none⟩) (hg9.block p HS3.out.lt (fun e=>HS3.out.apart e.symm))];exact HS3.out.cell
 have kf9:w9.frozen? ⟨p,10,none⟩=false:=by rw [World.frozen?_of_block (a:=⟨p,10,none⟩) (hg9.block p HS3.out.lt (fun e=>HS3.out.apart e.symm))];exact HS3.out.frz
 have HE:=hideR (HS3.out.store how9 hg9)
 have HK9:=hideR (HK3.out.trans (Kept.store (p:=p) (i:=10) hg9 hv9 v9))
 have HF:Hid (So bs (sizB add) (b1.take n++(xs++b1.drop n))):=hideR (HSO.out.sized _ (by rw [hm,hn,hd,HXS.out]))
 obtain ⟨o9,k9,rfl⟩:∃o9 k9,v9=.slice o9 (b1.take n++(xs++b1.drop n)).length k9:=by
  rcases how9.2 with ⟨rfl,h0⟩|⟨g,cap,cur,rfl,_⟩
  ·rw [h0];exact ⟨none,0,rfl⟩
  ·exact ⟨_,_,rfl⟩
 clear how9 hg9 hv9 HS3 HK3 HSO kc2 hcv
 generalize hb9:b1.take n++(xs++b1.drop n)=b9 at *
 generalize b9.length=n9 at *
 go_wp2
 go_end0
 exact ⟨_,_,rfl,HE.out,HK9.out,HF.out.1,HF.out.2⟩
end Go.Proofs.YtlcpagiljfpbpaaDoor

namespace Go.Proofs.YtlcpagiljfpbpaaDoor
open Go.RowKit Rep Enc Go.Lib
set_option linter.unusedVariables false
set_option maxRecDepth 100000 in
set_option maxHeartbeats 4000000 in
theorem wCode1 {I:World->Prop} (C:FormC I) (w0:World) (hI:I w0) (p:Nat) (c:Nat->Value) (v:Value) (bs:List Int) (d:Nat) (x:Fun d) (qW qF:Nat) (lv bv:Value) (w:World) (h:WS w0 p c v bs w) (hL:Ints w0 lv x.locals) (hB:At w0 d bv x.body)
  (hW:Bx w qW 58 #[.pointer (some ⟨p,0,none⟩)]) (hF:Bx w qF 42 #[.int .i64 x.type,lv,bv]) (n1:qW≠p) (n2:qF≠p) (n3:some qW≠v.ownBlock) (n4:some qF≠v.ownBlock)
  (hR:Rg d x.body) (hll:x.locals.length<=1000000) (hlen:bs.length+(codB x).length<=38900000000000) :
  Calls Tryd.prog 66 #[.pointer (some ⟨qW,0,none⟩),.pointer (some ⟨qF,0,none⟩)] w (DoesA w0 p c v w bs (codB x)):=by
 have hlen':bs.length+(locB x.locals).length+(bytesI d x.body).length+1<=38900000000000:=by
  unfold codB at hlen
  simp only [List.length_append,List.length_cons,List.length_nil] at hlen
  omega
 have kw:=hW.cell 0 _ rfl
 have kf:=hF.cell 1 _ rfl
 have HC1:=hideR (wLoc w0 p c v bs lv x.locals w h hL hll (by omega))
 have HH:=hideR (⟨hW,hF,n1,n2,n3,n4⟩:Bx w qW 58 #[.pointer (some ⟨p,0,none⟩)]/\Bx w qF 42 #[.int .i64 x.type,lv,bv]/\qW≠p/\qF≠p/\some qW≠v.ownBlock/\some qF≠v.ownBlock)
 have HX:=hideR (⟨hI,hB,hR,hlen'⟩:I w0/\At w0 d bv x.body/\Rg d x.body/\bs.length+(locB x.locals).length+(bytesI d x.body).length+1<=38900000000000)
 clear h hL hB hW hF hR hlen hlen' hI n1 n2 n3 n4
 go_enter Tryd.func66,Tryd.ntmps66
 go_wp2_with fail
 refine HC1.out.mono ?_
 rintro e w1 ⟨v1,rfl,h1,k1⟩
 obtain ⟨b1,_⟩:=k1.bx HH.out.1 HH.out.2.2.1 HH.out.2.2.2.2.1
 obtain ⟨b2,_⟩:=k1.bx HH.out.2.1 HH.out.2.2.2.1 HH.out.2.2.2.2.2
 have kw1:=b1.cell 0 _ rfl
 have kf1:=b2.cell 2 _ rfl
 have HK1:=hideR k1
 have HC2:=hideR (wExpr C w0 HX.out.1 p c d bv x.body v1 (bs++locB x.locals) w1 h1 HX.out.2.1 HX.out.2.2.1 (by have:=HX.out.2.2.2;rw [List.length_append];omega))
 clear b1 b2 k1 h1 kw kf HC1 HH
 go_wp2_with fail
 refine HC2.out.mono ?_
 rintro e w2 ⟨v2,b2,rfl,h2,k2,a2,l2⟩
 have HS:=hideR h2
 have HK2:=hideR (HK1.out.trans k2)
 have HF:Hid (So bs (codB x) b2):=hideR (by
  have h3:=((So.refl bs).app (locB x.locals))
  rw [List.nil_append] at h3
  exact h3.adds a2 l2)
 clear h2 k2 a2 l2 HC2 kw1 kf1
 go_wp2
 go_end0
 exact ⟨_,_,rfl,HS.out,HK2.out,HF.out.1,HF.out.2⟩
set_option maxRecDepth 100000 in
set_option maxHeartbeats 4000000 in
theorem eCode {I:World->Prop} (C:FormC I) (w0:World) (hI:I w0) (p:Nat) (c:Nat->Value) (v:Value) (bs:List Int) (d:Nat) (m:Mod d) (w:World) (h:WS w0 p c v bs w) (hM:ModAt w0 d (c 0) (c 1) (c 2) (c 3) (c 4) (c 5) (c 6) (c 7) (c 8) (c 9) m) (i:Nat) (x:Fun d) (hx:m.funcs[i]?=some x) (hR:Rg d x.body) (hll:x.locals.length<=1000000) (hlen:bs.length+(codB x).length<=38900000000000) :
  Calls Tryd.prog 43 #[.pointer (some ⟨p,0,none⟩),.int .i64 (i:Nat)] w (DoesA w0 p c v w bs (sizB (codB x))):=by
 have hmf:∀(fn:Fn) (first cap:Array Value) (w:World),(Instr.makeFunc fn first cap).run Tryd.prog w=.ok (.func fn first cap) w:=fun _ _ _ _=>rfl
 have hi:i<m.funcs.length:=(List.getElem?_eq_some_iff.1 hx).1
 obtain ⟨b1,off1,cap1,hcv,hcx⟩:=Row.some hM.funcs (by omega)
 obtain ⟨cx0,⟨lv,cx1,al⟩,⟨bv,cx2,ab⟩⟩:=hcx i x hx
 have hu:Below w.heap.size w (w.alloc (.cells #[.pointer (some ⟨p,0,none⟩)] 58)):=new_on' w _
 obtain ⟨u1,hu1⟩:∃u1,u1=w.alloc (.cells #[.pointer (some ⟨p,0,none⟩)] 58):=⟨_,rfl⟩
 rw [<- hu1] at hu
 have hs1:=h.on hu
 have kc:=hs1.fld 2 (by omega)
 rw [hcv] at kc
 have cz0:=cell_on hs1.below cx0
 have cz1:=cell_on hs1.below cx1
 have cz2:=cell_on hs1.below cx2
 have hq:u1.heap.size=w.heap.size+1:=by rw [hu1];simp
 have kq:u1.cell? ⟨w.heap.size,0,none⟩=some (.pointer (some ⟨p,0,none⟩)):=by rw [hu1,World.cell?_alloc_at _ _ _ _ rfl];rfl
 obtain ⟨u2,hu2⟩:∃u2,u2=u1.alloc (.cells #[.int .i64 x.type,lv,bv] 42):=⟨_,rfl⟩
 have hb2:Below u1.heap.size u1 u2:=by rw [hu2];exact new_on' u1 _
 have hs2:=hs1.on hb2
 have hW:Bx u2 w.heap.size 58 #[.pointer (some ⟨p,0,none⟩)]:=by
  unfold Bx
  rw [hb2.block _ (by omega),hu1];exact heap_new w _
 have hF:Bx u2 u1.heap.size 42 #[.int .i64 x.type,lv,bv]:=by rw [hu2];exact Bx.new rfl
 have hpw:p<w.heap.size:=h.lt
 have hown:∀k,v.ownBlock=some k->k<w.heap.size:=fun k hk=>(h.own.lt k hk).2
 have HK:Hid (Kept p v w v u2):=hideR ((Kept.below hu).trans (Kept.below hb2))
 have kq2:=hW.cell 0 _ rfl
 have HC:=hideR (wSizedC w0 p c v bs (codB x) ⟨w.heap.size,0,none⟩ ⟨u1.heap.size,0,none⟩ u2 hs2 (wCode1 C w0 hI p c v bs d x w.heap.size u1.heap.size lv bv u2 hs2 al ab hW hF (by omega) (by omega) (fun e=>by have:=hown _ e.symm;omega) (fun e=>by have:=hown _ e.symm;omega) hR hll hlen) hlen)
 obtain ⟨oL,zL,rfl⟩:=Row.len al
 obtain ⟨oB,zB,rfl⟩:=At.len d _ _ ab
 rw [hq] at HC
 have HU1:=hideR hu1
 have HU2:=hideR hu2
 clear h hM hx hR hll hlen hcv hcx cx0 cx1 cx2 al ab hu hs1 hs2 hb2 hW hF hpw hown hu1 hu2 hI
 generalize x.locals.length=yL at *
 generalize size d x.body=yB at *
 generalize m.funcs.length=n at *
 go_enter Tryd.func43,Tryd.ntmps43
 go_upto_region 1 with fail
 rw [<- HU1.out]
 go_upto_region 2 with fail
 rw [<- HU2.out]
 clear HU1 HU2 kc cz0 cz1 cz2 kq hq
 go_wp2_with fail
 refine HC.out.mono ?_
 rintro e w2 ⟨v2,b2,rfl,h2,k2,a2,l2⟩
 have HS:=hideR h2
 have HK2:=hideR (HK.out.trans k2)
 have HF:Hid (So bs (sizB (codB x)) b2):=hideR ⟨a2,l2⟩
 clear h2 k2 a2 l2 HC HK
 go_wp2
 go_end0
 exact ⟨_,_,rfl,HS.out,HK2.out,HF.out.1,HF.out.2⟩
end Go.Proofs.YtlcpagiljfpbpaaDoor

