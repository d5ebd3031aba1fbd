/- Texts that the claim needs. -/
import Derived.Test.YtlcpagiljfpbpaaGreatDoorQELo9
import Derived.Test.YtlcpagiljfpbpaaGreatDoorQELo18
namespace Go.Proofs.YtlcpagiljfpbpaaGreatDoor
open Go.RowKit Rep Enc Go.Lib
set_option linter.unusedVariables false
namespace Enc
theorem nums_bd (s:ByteArray):∀x ∈ nums s,0<=x/\x<=255:=by
 intro x hx
 unfold nums at hx
 obtain ⟨b,_,rfl⟩:=List.mem_map.1 hx
 have:=b.toNat_lt
 omega
structure PS (w0:World) (p:Nat) (ov:Bool) (v:Value) (bs:List Int) (w:World):Prop where
 below:Below w0.heap.size w0 w
 base:w0.heap.size<=p
 blk:w.heap[p]?=some (.cells #[v,.bool ov] 78 (0,0))
 own:w.ownsRow w0.heap.size 5 1 v bs.length (cells bs)
 apart:v.ownBlock≠some p
 few:bs.length<=524288
 bd:∀x ∈ bs,0<=x/\x<=255
def St (id:List Int) (ov:Bool) (bs:List Int):Prop:=(ov=false/\bs=id)\/(ov=true/\524288<id.length)
theorem St.more {id:List Int} {ov:Bool} {bs:List Int} (h:St id ov bs) (ho:ov=true) (add:List Int):St (id++add) ov bs:=by
 rcases h with ⟨h,_⟩|⟨_,h⟩
 ·rw [h] at ho;cases ho
 ·exact .inr ⟨ho,by rw [List.length_append];omega⟩
section
variable {w0 w w':World} {p:Nat} {ov:Bool} {v:Value} {bs:List Int}
theorem PS.cell (h:PS w0 p ov v bs w):w.cell? ⟨p,0,none⟩=some v:=by unfold World.cell?;rw [h.blk];rfl
theorem PS.cellO (h:PS w0 p ov v bs w):w.cell? ⟨p,1,none⟩=some (.bool ov):=by unfold World.cell?;rw [h.blk];rfl
theorem PS.frz (h:PS w0 p ov v bs w) (i:Nat):w.frozen? ⟨p,i,none⟩=false:=by unfold World.frozen?;rw [h.blk];simp
theorem PS.lt (h:PS w0 p ov v bs w):p<w.heap.size:=(Array.getElem?_eq_some_iff.1 h.blk).1
theorem PS.slice (h:PS w0 p ov v bs w):∃o k,v=.slice o bs.length k:=by
 rcases h.own.2 with ⟨rfl,h0⟩|⟨g,cap,cur,rfl,_⟩
 ·rw [h0];exact ⟨none,0,rfl⟩
 ·exact ⟨_,_,rfl⟩
theorem PS.on (h:PS w0 p ov v bs w) (hb:Below w.heap.size w w'):PS w0 p ov v bs w' :=
 ⟨h.below.trans (hb.mono h.below.size),h.base,by rw [hb.block p h.lt];exact h.blk,own_on' h.own hb,h.apart,h.few,h.bd⟩
theorem PS.mark (h:PS w0 p ov v bs w) (o:Bool):PS w0 p o v bs (w.setCell ⟨p,1,none⟩ (.bool o)) :=
 ⟨h.below.setCell h.base _,h.base,heap_setCell_same w p 1 _ _ _ h.blk,⟨h.own.1,h.own.2.imp id fun ⟨g,cap,cur,k1,k2,k3,k4⟩=>⟨g,cap,cur,k1,k2,by
  rw [Below.heap_setCell _ _ _ _ (by show g≠p;intro e;subst e;exact h.apart (by rw [k1];rfl))];exact k3,k4⟩⟩,h.apart,h.few,h.bd⟩
theorem Kept.mark {p i:Nat} {v:Value} {w:World} (u:Value):Kept p v w v (w.setCell ⟨p,i,none⟩ u) :=
 ⟨by simp,fun k hk hp _=>by rw [Below.heap_setCell _ _ _ _ (by show k≠p;exact hp)],fun k h=>.inl h⟩
theorem PS.store {w9:World} {v':Value} {bs':List Int} (h:PS w0 p ov v bs w) (ho:w9.ownsRow w0.heap.size 5 1 v' bs'.length (cells bs')) (hg:w.grownBy w9 v.ownBlock) (hf:bs'.length<=524288) (hd:∀x ∈ bs',0<=x/\x<=255):PS w0 p ov v' bs' (w9.setCell ⟨p,0,none⟩ v'):=by
 have hp9:w9.heap[p]?=some (.cells #[v,.bool ov] 78 (0,0)):=by rw [hg.block p h.lt (fun e=>h.apart e.symm)];exact h.blk
 have hap:v'.ownBlock≠some p:=by
  rcases ho.2 with ⟨rfl,_⟩|⟨g,cap,cur,rfl,_,hgg,_⟩
  ·simp [Value.ownBlock]
  ·intro e
   have:g=p:=by simpa [Value.ownBlock] using e
   subst this
   rw [hgg] at hp9
   injection hp9 with hp9
   injection hp9 with _ hp9
   exact absurd hp9 (by decide)
 refine ⟨(h.below.grown hg h.below.size fun k hk=>(h.own.lt k hk).1).setCell h.base _,h.base,heap_setCell_same w9 p 0 _ _ v' hp9,?_,hap,hf,hd⟩
 refine ⟨ho.1,ho.2.imp id fun ⟨g,cap,cur,k1,k2,k3,k4⟩=>⟨g,cap,cur,k1,k2,?_,k4⟩⟩
 rw [Below.heap_setCell _ _ _ _ (by show g≠p;intro e;subst e;exact hap (by rw [k1];rfl))]
 exact k3
end
theorem PS.new (w:World):PS w w.heap.size false (.slice none 0 0) [] (w.alloc (.cells #[.slice none 0 0,.bool false] 78)) :=
 ⟨new_on' w _,Nat.le_refl _,heap_new w _,World.ownsRow_nil _ _ _ _,by simp [Value.ownBlock],by simp,by simp⟩
def PDo (w0:World) (p:Nat) (v:Value) (w:World) (id:List Int) (e:Ending) (w':World):Prop:=∃ov' v' bs',e=.returned (.tuple #[])/\PS w0 p ov' v' bs' w'/\St id ov' bs'/\Kept p v w v' w'
end Enc
set_option maxRecDepth 100000 in
set_option maxHeartbeats 1000000 in
theorem dPut (w0:World) (p:Nat) (ov:Bool) (v:Value) (bs id:List Int) (s:ByteArray) (w:World) (h:PS w0 p ov v bs w) (hS:St id ov bs) (hs:s.size<=100000000) :
  Calls Tryz.prog 22 #[.pointer (some ⟨p,0,none⟩),.string s] w (PDo w0 p v w (id++nums s)):=by
 obtain ⟨o,k,rfl⟩:=h.slice
 have hfew:=h.few
 have kc:=h.cell
 have kf0:=h.frz 0
 have kf1:=h.frz 1
 have ko:=h.cellO
 have HS:=hideR h
 have HST:=hideR hS
 obtain ⟨i0,hi,hz0,hz1,hz2⟩:=info_parts u8Info
 clear h hS
 generalize hn:s.size=n at *
 by_cases hbig:524288<bs.length+n
 ·have hd:decide ((524288:Int)<(bs.length:Int)+(n:Int))=true:=by simp;omega
  have HF:Hid (PS w0 p true (.slice o bs.length k) bs (w.setCell ⟨p,1,none⟩ (.bool true))/\St (id++nums s) true bs):=hideR ⟨HS.out.mark true,.inr ⟨rfl,by
   have hl:=nums_len s
   rw [List.length_append]
   rcases HST.out with ⟨_,h⟩|⟨_,h⟩
   ·rw [<- h];omega
   ·omega⟩⟩
  generalize hbl:bs.length=bl at *
  clear hbig
  go_enter Tryz.func22,Tryz.ntmps22
  go_wp2
  go_end0
  exact ⟨_,_,_,rfl,by simpa [hbl] using HF.out.1,HF.out.2,Kept.mark _⟩
 ·have hd:decide ((524288:Int)<(bs.length:Int)+(n:Int))=false:=by simp;omega
  have hST2:St (id++nums s) ov (bs++nums s):=by
   rcases HST.out with ⟨h1,h⟩|⟨h1,h⟩
   ·exact .inl ⟨h1,by rw [h]⟩
   ·exact .inr ⟨h1,by rw [List.length_append];omega⟩
  have HST2:=hideR hST2
  clear hST2
  have hl2:(bs++nums s).length=bs.length+n:=by rw [List.length_append,nums_len,hn]
  have HL2:=hideR hl2
  clear hl2
  have hbig':bs.length+n<=524288:=by omega
  have HBG:=hideR hbig'
  clear hbig hbig'
  generalize hbl:bs.length=bl at *
  go_enter Tryz.func22,Tryz.ntmps22
  go_wp2_with (first|(at_builtin;refine wpList_str rfl _ _ 53 9 rfl w0.heap.size 5 i0 Tryz.underlying53 Tryz.underlying9 hi hz0 hz1 hz2 _ _ _ rfl HS.out.own s rfl ?c3 ?c4 ?c5 ?_))
  case c3=>unfold maxLen;have:=HBG.out;omega
  case c4=>have:=HBG.out;omega
  case c5=>exact HS.out.below.size
  intro v' w9 hown hg hv
  have hown':w9.ownsRow w0.heap.size 5 1 v' (bs++nums s).length (cells (bs++nums s)):=by
   have:cells (bs++nums s)=cells bs++strCells s:=by rw [strCells_cells];unfold cells;rw [List.map_append]
   rw [this,List.length_append,nums_len,hbl,hn];exact hown
  have HE:=hideR (HS.out.store hown' hg (by rw [HL2.out];exact HBG.out) (fun x hx=>(List.mem_append.1 hx).elim (HS.out.bd x) (nums_bd s x)))
  have HK:=hideR (Kept.store (p:=p) (i:=0) hg hv v')
  have kc9:w9.cell? ⟨p,0,none⟩=some (.slice o bl k):=by rw [World.cell?_of_block (a:=⟨p,0,none⟩) (hg.block p HS.out.lt (fun e=>HS.out.apart e.symm))];exact kc
  have kf9:w9.frozen? ⟨p,0,none⟩=false:=by rw [World.frozen?_of_block (a:=⟨p,0,none⟩) (hg.block p HS.out.lt (fun e=>HS.out.apart e.symm))];exact kf0
  obtain ⟨o9,k9,rfl⟩:∃o9 k9,v'=.slice o9 (bs++nums s).length k9:=by
   rcases hown'.2 with ⟨rfl,h0⟩|⟨g,cap,cur,rfl,_⟩
   ·rw [h0];exact ⟨none,0,rfl⟩
   ·exact ⟨_,_,rfl⟩
  clear hown hown' hg hv kc ko kf0 kf1 HS
  generalize (bs++nums s).length=n9 at *
  go_wp2
  go_end0
  exact ⟨_,_,_,rfl,HE.out,HST2.out,by simpa [hbl] using HK.out⟩
end Go.Proofs.YtlcpagiljfpbpaaGreatDoor

namespace Go.Proofs.YtlcpagiljfpbpaaGreatDoor
open Go.RowKit Rep Enc Go.Lib
set_option linter.unusedVariables false
namespace Enc
theorem cells_inj {a b:List Int} (h:cells a=cells b):a=b:=by
 unfold cells at h
 exact (List.map_inj_right (fun x y h=>by injection h)).1 h
theorem nums_str (xs:List Int) (h:∀x ∈ xs,0<=x/\x<=255):nums (strOfNums xs)=xs:=cells_inj (by rw [<- strCells_cells,strCells_nums xs h])
theorem PS.mono {w0 w1 w:World} {p:Nat} {ov:Bool} {v:Value} {bs:List Int} (h:PS w1 p ov v bs w) (hb:Below w0.heap.size w0 w1):PS w0 p ov v bs w :=
 ⟨hb.trans (h.below.mono hb.size),Nat.le_trans hb.size h.base,h.blk,⟨h.own.1,h.own.2.imp (fun h=>h) fun ⟨g,cap,cur,k1,k2,k3⟩=>⟨g,cap,cur,k1,Nat.le_trans hb.size k2,k3⟩⟩,h.apart,h.few,h.bd⟩
theorem St.nil:St [] false []:=.inl ⟨rfl,rfl⟩
theorem PDo.step {w0 w w1:World} {p:Nat} {v v1:Value} {id:List Int} {e:Ending} {w':World} (hk:Kept p v w v1 w1) (h:PDo w0 p v1 w1 id e w'):PDo w0 p v w id e w':=by
 obtain ⟨ov,v',bs,h1,h2,h3,h4⟩:=h
 exact ⟨ov,v',bs,h1,h2,h3,hk.trans h4⟩
end Enc
set_option maxRecDepth 100000 in
set_option maxHeartbeats 1000000 in
theorem dByte (w0:World) (p:Nat) (ov:Bool) (v:Value) (bs id:List Int) (n:Int) (w:World) (h:PS w0 p ov v bs w) (hS:St id ov bs) :
  Calls Tryz.prog 75 #[.pointer (some ⟨p,0,none⟩),.int .i64 n] w (PDo w0 p v w (id++[n%256])):=by
 have hw:=wrap_u8 n
 have hb:=new_on' w (.cells #[.int .u8 (n%256)] 5)
 have hcv:(convert 53 9 (.slice (some ⟨w.heap.size,0,none⟩) 1 1)).run Tryz.prog (w.alloc (.cells #[.int .u8 (n%256)] 5))=.ok (.string (strOfNums [n%256])) (w.alloc (.cells #[.int .u8 (n%256)] 5)) :=
  run_convert_bytes_arg _ 53 5 Tryz.underlying53 Tryz.underlying5 w.heap.size 0 1 1 [n%256] rfl (fun i hi=>by
   rw [Nat.zero_add,World.cell?_alloc_at _ _ _ _ rfl]
   match i,hi with
   | 0,_=>rfl) 9 Tryz.underlying9
 have hnum:nums (strOfNums [n%256]) = [n%256]:=nums_str _ (fun x hx=>by rw [List.mem_singleton.1 hx];omega)
 have hsz:(strOfNums [n%256]).size=1:=strNums_size _
 have HK0:Hid (Kept p v w v (w.alloc (.cells #[.int .u8 (n%256)] 5))):=hideR (Kept.below hb)
 have HC:=hideR (dPut w0 p ov v bs id (strOfNums [n%256]) _ (h.on hb) hS (by rw [hsz];omega))
 rw [hnum] at HC
 clear h hS hb hnum hsz
 generalize strOfNums [n%256]=S at *
 go_enter Tryz.func75,Tryz.ntmps75
 go_wp2_with fail
 refine HC.out.mono ?_
 rintro e w1 ⟨ov1,v1,b1,rfl,h1,s1,k1⟩
 have HF:=hideR (⟨h1,s1,HK0.out.trans k1⟩:PS w0 p ov1 v1 b1 w1/\St (id++[n%256]) ov1 b1/\Kept p v w v1 w1)
 clear h1 s1 k1 HC HK0 hcv
 go_wp2
 go_end0
 exact ⟨_,_,_,rfl,HF.out.1,HF.out.2.1,HF.out.2.2⟩
set_option maxRecDepth 100000 in
set_option maxHeartbeats 1000000 in
theorem dU (w0:World) (p:Nat) (ov:Bool) (v:Value) (bs id:List Int) (n:Int) (w:World) (h:PS w0 p ov v bs w) (hS:St id ov bs) (h0:0<=n) (h1:n<=9223372036854775807) :
  Calls Tryz.prog 107 #[.pointer (some ⟨p,0,none⟩),.int .i64 n] w (PDo w0 p v w (id++Leb.uB n)):=by
 have hw:IntKind.u64.wrap n=n:=by simp [IntKind.wrap,IntKind.signed,IntKind.bits];omega
 have HR:=hideR (refPutU n w h0 (by omega))
 have hnum:nums (strOfNums (Leb.uB n))=Leb.uB n:=nums_str _ (uB_bd _ n h0 (Nat.le_refl _))
 have hsz:(strOfNums (Leb.uB n)).size<=10:=by rw [strNums_size];exact Leb.uB_ten h0 (by omega)
 have HP:Hid (∀w1,Below w.heap.size w w1->Calls Tryz.prog 22 #[.pointer (some ⟨p,0,none⟩),.string (strOfNums (Leb.uB n))] w1 (PDo w0 p v w1 (id++Leb.uB n))):=hideR fun w1 hb=>by
  have:=dPut w0 p ov v bs id (strOfNums (Leb.uB n)) w1 (h.on hb) hS (by omega)
  rwa [hnum] at this
 clear h hS hnum hsz
 generalize strOfNums (Leb.uB n)=S at *
 go_enter Tryz.func107,Tryz.ntmps107
 go_wp2_with fail
 refine HR.out.mono ?_
 rintro e w1 ⟨rfl,hb⟩
 have HC:=hideR (HP.out w1 hb)
 have HK0:Hid (Kept p v w v w1):=hideR (Kept.below hb)
 clear hb HP HR
 go_wp2_with fail
 refine HC.out.mono ?_
 rintro e w2 ⟨ov1,v1,b1,rfl,h1,s1,k1⟩
 have HF:=hideR (⟨h1,s1,HK0.out.trans k1⟩:PS w0 p ov1 v1 b1 w2/\St (id++Leb.uB n) ov1 b1/\Kept p v w v1 w2)
 clear h1 s1 k1 HC HK0
 go_wp2
 go_end0
 exact ⟨_,_,_,rfl,HF.out.1,HF.out.2.1,HF.out.2.2⟩
set_option maxRecDepth 100000 in
set_option maxHeartbeats 1000000 in
theorem dS (w0:World) (p:Nat) (ov:Bool) (v:Value) (bs id:List Int) (n:Int) (w:World) (h:PS w0 p ov v bs w) (hS:St id ov bs) (h0:-9223372036854775808<=n) (h1:n<=9223372036854775807) :
  Calls Tryz.prog 128 #[.pointer (some ⟨p,0,none⟩),.int .i64 n] w (PDo w0 p v w (id++Leb.sB n)):=by
 have HR:=hideR (refPutS n w h0 (by omega))
 have hnum:nums (strOfNums (Leb.sB n))=Leb.sB n:=nums_str _ (sB_bd _ n (Nat.le_refl _))
 have hsz:(strOfNums (Leb.sB n)).size<=10:=by rw [strNums_size];exact Leb.sB_ten h0 (by omega)
 have HP:Hid (∀w1,Below w.heap.size w w1->Calls Tryz.prog 22 #[.pointer (some ⟨p,0,none⟩),.string (strOfNums (Leb.sB n))] w1 (PDo w0 p v w1 (id++Leb.sB n))):=hideR fun w1 hb=>by
  have:=dPut w0 p ov v bs id (strOfNums (Leb.sB n)) w1 (h.on hb) hS (by omega)
  rwa [hnum] at this
 have hw:wrap64 n=n:=by unfold wrap64;omega
 clear h hS hnum hsz
 generalize strOfNums (Leb.sB n)=S at *
 go_enter Tryz.func128,Tryz.ntmps128
 go_wp2_with fail
 refine HR.out.mono ?_
 rintro e w1 ⟨rfl,hb⟩
 have HC:=hideR (HP.out w1 hb)
 have HK0:Hid (Kept p v w v w1):=hideR (Kept.below hb)
 clear hb HP HR
 go_wp2_with fail
 refine HC.out.mono ?_
 rintro e w2 ⟨ov1,v1,b1,rfl,h1,s1,k1⟩
 have HF:=hideR (⟨h1,s1,HK0.out.trans k1⟩:PS w0 p ov1 v1 b1 w2/\St (id++Leb.sB n) ov1 b1/\Kept p v w v1 w2)
 clear h1 s1 k1 HC HK0
 go_wp2
 go_end0
 exact ⟨_,_,_,rfl,HF.out.1,HF.out.2.1,HF.out.2.2⟩
set_option maxRecDepth 100000 in
set_option maxHeartbeats 1000000 in
theorem dName (w0:World) (p:Nat) (ov:Bool) (v:Value) (bs id:List Int) (s:ByteArray) (w:World) (h:PS w0 p ov v bs w) (hS:St id ov bs) (hs:s.size<=100000000) :
  Calls Tryz.prog 106 #[.pointer (some ⟨p,0,none⟩),.string s] w (PDo w0 p v w (id++texB s)):=by
 have HC:=hideR (dU w0 p ov v bs id (s.size:Int) w h hS (by omega) (by omega))
 have e1:id++texB s=id++Leb.uB (s.size:Int)++nums s:=by unfold texB;rw [List.append_assoc]
 rw [e1]
 clear h hS e1
 generalize hn:s.size=n at *
 go_enter Tryz.func106,Tryz.ntmps106
 go_wp2_with fail
 refine HC.out.mono ?_
 rintro e w1 ⟨ov1,v1,b1,rfl,h1,s1,k1⟩
 have HC2:=hideR (dPut w0 p ov1 v1 b1 _ s w1 h1 s1 (by omega))
 have HK:=hideR k1
 clear h1 s1 k1 HC
 go_wp2_with fail
 refine HC2.out.mono ?_
 rintro e w2 ⟨ov2,v2,b2,rfl,h2,s2,k2⟩
 have HF:=hideR (⟨h2,s2,HK.out.trans k2⟩:PS w0 p ov2 v2 b2 w2/\St (id++Leb.uB (n:Int)++nums s) ov2 b2/\Kept p v w v2 w2)
 clear h2 s2 k2 HC2 HK
 go_wp2
 go_end0
 exact ⟨_,_,_,rfl,HF.out.1,HF.out.2.1,HF.out.2.2⟩
namespace Enc
theorem own_text {w:World} {B:Nat} {v:Value} {bs:List Int} (h:w.ownsRow B 5 1 v bs.length (cells bs)):(convert 53 9 v).run Tryz.prog w=.ok (.string (strOfNums bs)) w:=by
 rcases Nat.eq_zero_or_pos bs.length with h0|h0
 ·have hn:bs = []:=List.length_eq_zero_iff.1 h0
  subst hn
  rcases h.2 with ⟨rfl,_⟩|⟨g,cap,cur,rfl,_,hg,_⟩
  ·exact run_convert_bytes_nil w 53 5 Tryz.underlying53 Tryz.underlying5 0 0 9 Tryz.underlying9
  ·exact run_convert_bytes_arg w 53 5 Tryz.underlying53 Tryz.underlying5 g 0 0 cap [] rfl (fun i hi=>by omega) 9 Tryz.underlying9
 ·obtain ⟨g,cap,rfl,hcv⟩:=own_string h h0
  exact hcv
end Enc
namespace Enc
structure PS1 (w1:World) (p:Nat) (ov:Bool) (v:Value) (bs:List Int) (w:World):Prop where
 base:w1.heap.size<=p
 blk:w.heap[p]?=some (.cells #[v,.bool ov] 78 (0,0))
 own:w.ownsRow w1.heap.size 5 1 v bs.length (cells bs)
 few:bs.length<=524288
 bd:∀x ∈ bs,0<=x/\x<=255
theorem PS1.cell {w1 w:World} {p:Nat} {ov:Bool} {v:Value} {bs:List Int} (h:PS1 w1 p ov v bs w):w.cell? ⟨p,0,none⟩=some v:=by unfold World.cell?;rw [h.blk];rfl
theorem PS1.cellO {w1 w:World} {p:Nat} {ov:Bool} {v:Value} {bs:List Int} (h:PS1 w1 p ov v bs w):w.cell? ⟨p,1,none⟩=some (.bool ov):=by unfold World.cell?;rw [h.blk];rfl
theorem PS1.slice {w1 w:World} {p:Nat} {ov:Bool} {v:Value} {bs:List Int} (h:PS1 w1 p ov v bs w):∃o k,v=.slice o bs.length k:=by
 rcases h.own.2 with ⟨rfl,h0⟩|⟨g,cap,cur,rfl,_⟩
 ·rw [h0];exact ⟨none,0,rfl⟩
 ·exact ⟨_,_,rfl⟩
theorem PS1.of {w1 w w' : World} {p q : Nat} {oq : Bool} {v v' u : Value} {bq : List Int} (hq : PS w1 q oq u bq w) (hpq : p < w1.heap.size) (hown : ∀ b, v.ownBlock = some b → b < w1.heap.size) (hk : Kept p v w v' w') : PS1 w1 q oq u bq w' :=
  ⟨hq.base, by rw [hk.block q hq.lt (by have := hq.base; omega) (fun e => by have := hown _ e.symm; have := hq.base; omega)]; exact hq.blk,
   ⟨hq.own.1, hq.own.2.imp (fun h => h) fun ⟨g, cap, cur, k1, k2, k3, k4⟩ => ⟨g, cap, cur, k1, k2, by rw [hk.block g (Array.getElem?_eq_some_iff.1 k3).1 (by omega) (fun e => by have := hown _ e.symm; omega)]; exact k3, k4⟩⟩, hq.few, hq.bd⟩
end Enc
set_option maxRecDepth 100000 in
set_option maxHeartbeats 1000000 in
theorem dPart1 (w0 w1:World) (p q:Nat) (ov oq:Bool) (v u:Value) (bs id bq iq:List Int) (w:World) (h:PS w0 p ov v bs w) (hS:St id ov bs) (hq:PS1 w1 q oq u bq w) (hQ:St iq oq bq) (hpq:p<w1.heap.size) :
  Calls Tryz.prog 104 #[.pointer (some ⟨p,0,none⟩),.pointer (some ⟨q,0,none⟩)] w (PDo w0 p v w (id++sizB iq)):=by
 have hne:p≠q:=by have:=hq.base;omega
 have kq:=hq.cellO
 have kp:=h.cellO
 have kf:=h.frz 1
 have hnum:nums (strOfNums bq)=bq:=nums_str _ hq.bd
 have hszq:(strOfNums bq).size=bq.length:=strNums_size _
 have hfew:=hq.few
 have hm:=h.mark (ov || oq)
 have hbl:∀k,k≠p->(w.setCell ⟨p,1,none⟩ (.bool (ov || oq))).heap[k]?=w.heap[k]?:=fun k hk=>Below.heap_setCell _ _ _ _ (by show k≠p;exact hk)
 have ho2:(w.setCell ⟨p,1,none⟩ (.bool (ov || oq))).ownsRow w1.heap.size 5 1 u bq.length (cells bq) :=
  ⟨hq.own.1,hq.own.2.imp (fun h=>h) fun ⟨g,cap,cur,k1,k2,k3,k4⟩=>⟨g,cap,cur,k1,k2,by rw [hbl g (by omega)];exact k3,k4⟩⟩
 have hcv:=own_text ho2
 have kq2:(w.setCell ⟨p,1,none⟩ (.bool (ov || oq))).cell? ⟨q,0,none⟩=some u:=by
  rw [World.cell?_of_block (a:=⟨q,0,none⟩) (hbl q (fun e=>hne e.symm))];exact hq.cell
 have hst2:∃id2,St id2 (ov || oq) bs/\∀ov' bs',bs'.length<=524288->St (id2++texB (strOfNums bq)) ov' bs'->St (id++sizB iq) ov' bs':=by
  have hL:texB (strOfNums bq)=sizB bq:=by unfold texB sizB;rw [hszq,hnum]
  rw [hL]
  rcases hQ with ⟨h1,h2⟩|⟨h1,h2⟩
  ·refine ⟨id,by rw [h1,Bool.or_false];exact hS,fun ov' bs' _ h=>by rw [<- h2];exact h⟩
  ·
   refine ⟨id++iq,.inr ⟨by rw [h1,Bool.or_true],by rw [List.length_append];omega⟩,fun ov' bs' hf h=>?_⟩
   rcases h with ⟨h3,h4⟩|⟨h3,_⟩
   ·rw [h4,List.length_append,List.length_append] at hf;omega
   ·exact .inr ⟨h3,by unfold sizB;rw [List.length_append,List.length_append];omega⟩
 obtain ⟨id2,hs2,hend⟩:=hst2
 have HC:=hideR (dName w0 p (ov || oq) v bs id2 (strOfNums bq) _ hm hs2 (by omega))
 have HEND:=hideR hend
 have HK0:Hid (Kept p v w v (w.setCell ⟨p,1,none⟩ (.bool (ov || oq)))):=hideR (Kept.mark _)
 obtain ⟨oU,kU,rfl⟩:=hq.slice
 clear h hS hq hQ hm hbl ho2 hs2 hend hnum hszq hfew hpq
 generalize strOfNums bq=S at *
 generalize bq.length=nU at *
 cases ov with
 | true =>
  simp only [Bool.true_or] at *
  go_enter Tryz.func104,Tryz.ntmps104
  go_wp2_with fail
  refine HC.out.mono ?_
  rintro e w2 ⟨ov2,v2,b2,rfl,h2,s2,k2⟩
  have HF:=hideR (⟨h2,HEND.out ov2 b2 h2.few s2,HK0.out.trans k2⟩:PS w0 p ov2 v2 b2 w2/\St (id++sizB iq) ov2 b2/\Kept p v w v2 w2)
  clear h2 s2 k2 HC HK0
  go_wp2
  go_end0
  exact ⟨_,_,_,rfl,HF.out.1,HF.out.2.1,HF.out.2.2⟩
 | false =>
  simp only [Bool.false_or] at *
  go_enter Tryz.func104,Tryz.ntmps104
  go_wp2_with fail
  refine HC.out.mono ?_
  rintro e w2 ⟨ov2,v2,b2,rfl,h2,s2,k2⟩
  have HF:=hideR (⟨h2,HEND.out ov2 b2 h2.few s2,HK0.out.trans k2⟩:PS w0 p ov2 v2 b2 w2/\St (id++sizB iq) ov2 b2/\Kept p v w v2 w2)
  clear h2 s2 k2 HC HK0
  go_wp2
  go_end0
  exact ⟨_,_,_,rfl,HF.out.1,HF.out.2.1,HF.out.2.2⟩
theorem dPart (w0 w1:World) (p q:Nat) (ov oq:Bool) (v u:Value) (bs id bq iq:List Int) (w:World) (h:PS w0 p ov v bs w) (hS:St id ov bs) (hq:PS w1 q oq u bq w) (hQ:St iq oq bq) (hpq:p<w1.heap.size) :
  Calls Tryz.prog 104 #[.pointer (some ⟨p,0,none⟩),.pointer (some ⟨q,0,none⟩)] w (PDo w0 p v w (id++sizB iq)) :=
 dPart1 w0 w1 p q ov oq v u bs id bq iq w h hS ⟨hq.base,hq.blk,hq.own,hq.few,hq.bd⟩ hQ hpq
end Go.Proofs.YtlcpagiljfpbpaaGreatDoor

