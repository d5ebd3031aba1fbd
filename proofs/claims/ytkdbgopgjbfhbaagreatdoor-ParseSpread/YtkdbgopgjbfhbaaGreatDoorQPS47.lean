/- Texts that the claim needs. -/
import Derived.Test.YtkdbgopgjbfhbaaGreatDoorQPS45
import Derived.Test.YtkdbgopgjbfhbaaGreatDoorQPS40
import Derived.Test.YtkdbgopgjbfhbaaGreatDoorQPS46
import Derived.Lib.AppendStr
namespace Go.Proofs.YtkdbgopgjbfhbaaGreatDoor
open Go.RowKit Lx
set_option linter.unusedVariables false
set_option maxRecDepth 100000
set_option maxHeartbeats 16000000
namespace Lx
structure TC (w:World) (b o:Nat) (t:Tk):Prop where
 c0:w.cell? ⟨b,o,none⟩=some (.int .i64 t.k)
 c1:w.cell? ⟨b,o+1,none⟩=some (.string t.x)
 c2:w.cell? ⟨b,o+2,none⟩=some (.int .i64 t.n)
 c3:w.cell? ⟨b,o+3,none⟩=some (.int .i64 t.a)
theorem TC.on {w w':World} {b o:Nat} {t:Tk} (h:TC w b o t) (hb:Below w.heap.size w w'):TC w' b o t:=⟨bb.ah hb h.c0,bb.ah hb h.c1,bb.ah hb h.c2,bb.ah hb h.c3⟩
def sO (w:World) (v:Value) (l:List Tk):Prop:=bb.Row 4 (TC w) v l
theorem sO.on {w w':World} {v:Value} {l:List Tk} (h:sO w v l) (hb:Below w.heap.size w w'):sO w' v l:=bb.Row.imp h fun _ _ _ _ hx=>hx.on hb
theorem sO.len {w:World} {v:Value} {l:List Tk} (h:sO w v l):∃o c,v=.slice o l.length c:=bb.Row.len h
theorem sO.some {w:World} {v:Value} {l:List Tk} (h:sO w v l) (h0:0<l.length):∃b off c,v=.slice (some ⟨b,off,none⟩) l.length c/\∀(i:Nat) (x:Tk),l[i]?=some x->TC w b (off+i*4) x:=bb.Row.some h h0
def OB (w0:World) (v:Value) (J:List UInt8) (w:World):Prop:=w.ownsRow w0.heap.size 5 1 v J.length (Lib.byteCells J)/\Below w0.heap.size w0 w
theorem OB.nil (w0 w:World) (hb:Below w0.heap.size w0 w):OB w0 (.slice none 0 0) [] w:=⟨World.ownsRow_nil _ _ _ _,hb⟩
theorem OB.on {w0 w w':World} {v:Value} {J:List UInt8} (h:OB w0 v J w) (hb:Below w.heap.size w w'):OB w0 v J w':=by
 refine ⟨⟨h.1.1,?_⟩,az h.2 hb⟩;rcases h.1.2 with h2|⟨g,cap,cur,h1,h2,hg,h3⟩
 ·exact .inl h2
 ·exact .inr ⟨g,cap,cur,h1,h2,by rw [hb.block g (Array.getElem?_eq_some_iff.1 hg).1];exact hg,h3⟩
theorem OB.len {w0 w:World} {v:Value} {J:List UInt8} (h:OB w0 v J w):∃o c,v=.slice o J.length c:=XL h.1
theorem OB.byte {w0 wr w1:World} {v v':Value} {J:List UInt8} {c:UInt8} {o:Obj} (h:OB w0 v J wr) (hown':w1.ownsRow w0.heap.size 5 1 v' (J.length+1) (Lib.byteCells J++[.int .u8 (c.toNat:Int)])) (hgrow:(wr.alloc o).grownBy w1 v.ownBlock):OB w0 v' (J++[c]) w1 :=
 ⟨by rw [List.length_append,Lib.byteCells_append];exact hown',(h.2.alloc h.2.size o).grown hgrow (by have:=h.2.size;simp;omega) (fun j hj=>(h.1.lt j hj).1)⟩
theorem OB.byte' {w0 wr wq w1:World} {v v':Value} {J:List UInt8} {c:UInt8} (h:OB w0 v J wr) (hown':w1.ownsRow w0.heap.size 5 1 v' (J.length+1) (Lib.byteCells J++[.int .u8 (c.toNat:Int)])) (hb:Below w0.heap.size w0 w1):OB w0 v' (J++[c]) w1 :=
 ⟨by rw [List.length_append,Lib.byteCells_append];exact hown',hb⟩
theorem OB.str {w0 wr w1:World} {v v':Value} {J:List UInt8} {s:ByteArray} (h:OB w0 v J wr) (hown':w1.ownsRow w0.heap.size 5 1 v' (J.length+s.size) (Lib.byteCells J++Lib.strCells s)) (hgrow:wr.grownBy w1 v.ownBlock):OB w0 v' (J++s.data.toList) w1 :=
 ⟨by rw [List.length_append,Lib.byteCells_append,Jc,<- Lib.strCells_eq];exact hown',h.2.grown hgrow h.2.size (fun j hj=>(h.1.lt j hj).1)⟩
theorem OB.conv {w0 w:World} {v:Value} {J:List UInt8} (h:OB w0 v J w):(convert 90 9 v).run Tryz.prog w=.ok (.string ⟨J.toArray⟩) w:=by
 have h1:=h.1;rcases h1.2 with ⟨hv,h0⟩|⟨g,cap,cur,hv,_⟩
 ·subst hv
  have:J = []:=List.eq_nil_of_length_eq_zero h0
  subst this;exact run_convert_bytes_nil w 90 5 Tryz.underlying90 Tryz.underlying5 0 0 9 Tryz.underlying9
 ·subst hv
  have e:strOfNums (J.map fun b=>(b.toNat:Int))=⟨J.toArray⟩:=by
   have hid:((fun n:Int=>UInt8.ofNat n.toNat) ∘ fun b:UInt8=>(b.toNat:Int))=id:=by funext b;simp
   unfold strOfNums;rw [List.map_map,hid,List.map_id]
  rw [<- e];refine run_convert_bytes_arg w 90 5 Tryz.underlying90 Tryz.underlying5 g 0 J.length cap (J.map fun b=>(b.toNat:Int)) (by simp) (fun i hi=>?_) 9 Tryz.underlying9
  have:=h1.cellAt i (by rw [Nat.mul_one];exact hi)
  rw [Nat.zero_add,this];simp [Lib.byteCells,List.getElem?_eq_getElem hi,List.getD]
theorem OZ {n:Nat} (h:n<=140000):n+1<=maxLen/\(n+1)*1<=140737488355328:=by unfold maxLen;omega
theorem Aw {n m:Nat} (h:n<=140100) (hm:m<=33):n+m<=maxLen/\n+m<=140737488355328:=by unfold maxLen;omega
theorem O0 {x:ByteArray} {n:Int}:(iS 3 x n).data.toList = [39]++x.data.toList:=by
 show (⟨#[39]⟩++x:ByteArray).data.toList=_;simp [ByteArray.data_append]
theorem x3 {k:Int} {x:ByteArray} {n:Int} (hk:k=3) (h:dJ k x n=true):x.size<=33:=by
 have:=vZ h
 subst hk;rw [show iS 3 x n=⟨#[39]⟩++x from rfl,yB] at this;omega
theorem x4 {k:Int} {x:ByteArray} {n:Int} (hk:k=4) (h:dJ k x n=true):bV n=true:=by
 subst hk;unfold dJ at h;rw [if_neg (by rintro ⟨h,_⟩;exact h rfl),if_neg (by decide),if_neg (by decide),if_neg (by decide),if_pos rfl,Bool.and_eq_true] at h;exact h.2
theorem O1 (v:Value):v.ownBlock=none\/v.ownBlock≠none:=by cases v.ownBlock with|none=>exact .inl rfl|some q=>exact .inr (fun e=>by cases e)
def tG (w0:World) (vb vl:Value) (J:List UInt8) (g off k:Nat) (x:ByteArray) (i:Nat) (v:Value) (w:World):Prop:=match i with
 | 0=>v=vb
 | 1=>∃b,v=.slice (some ⟨b,0,none⟩) 1 1/\w.cell? ⟨b,0,none⟩=some (.int .u8 39)/\vb.ownBlock≠some b/\b<w.heap.size
 | 2=>w.ownsRow w0.heap.size 5 1 v (J.length+1) (Lib.byteCells J++[.int .u8 39])
 | 3=>v=vl
 | 4=>v=.int .i64 (k:Int)
 | 5=>v=.pointer (some ⟨g,off+k*4,none⟩)
 | 6=>v=.pointer (some ⟨g,off+k*4+1,none⟩)
 | _=>v=.string x
def tF (vb:Value) (i:Nat):Option Nat:=match i with
 | 2=>vb.ownBlock
 | _=>none
theorem O2 {vb:Value} {k:Nat} (h:k≠2):tF vb k=none:=by
 unfold tF;split
 ·exact absurd rfl h
 ·rfl
theorem O3 {w0:World} {vb vl:Value} {J:List UInt8} {g off k:Nat} {x:ByteArray} {i j:Nat} (hij:i≠j) {v:Value} {w w':World} (h:tG w0 vb vl J g off k x i v w) (hg:w.grownBy w' (tF vb j)):tG w0 vb vl J g off k x i v w':=by
 match i,h with
 | 0,h=>exact h
 | 1,⟨b,h1,h2,h3,h4⟩ =>
  refine ⟨b,h1,hg.cell h2 ?_,h3,Nat.lt_of_lt_of_le h4 hg.size⟩;show some b≠tF vb j;unfold tF;split
  ·exact fun e=>h3 e.symm
  ·exact fun e=>by cases e
 | 2,h =>
  have hn:tF vb j=none:=by
   unfold tF;split
   ·exact absurd rfl hij
   ·rfl
  rw [hn] at hg;refine World.ownsRow.kept h hg ?_;cases v.ownBlock with
  | none=>exact .inl rfl
  | some q=>exact .inr (fun e=>by cases e)
 | 3,h=>exact h
 | 4,h=>exact h
 | 5,h=>exact h
 | 6,h=>exact h
 | n+7,h=>exact h
theorem len8 {x:List Value} (h:x.length=8):∃x0 x1 x2 x3 x4 x5 x6 x7,x = [x0,x1,x2,x3,x4,x5,x6,x7]:=by
 match x,h with
 | [x0,x1,x2,x3,x4,x5,x6,x7],_=>exact ⟨x0,x1,x2,x3,x4,x5,x6,x7,rfl⟩
end Lx
theorem XM (v:Value) (l:List Tk) (w:World) (hv:sO w v l) :
  Calls Tryz.prog 21 #[v] w (O4 w (txt l)):=by
 obtain ⟨o,c,rfl⟩:=hv.len;by_cases h4:4096<l.length
 ·have hR:txt l=(⟨#[]⟩,3):=if_pos h4;have q0:decide ((l.length:Int) > 4096)=true:=decide_eq_true (by omega);have HR:=ae hR;clear hv hR h4;go_enter Tryz.func21,Tryz.ntmps21;go_wp2;go_ret2;exact Ff HR.out (Below.refl _ _)
 ·have q0:decide ((l.length:Int) > 4096)=false:=decide_eq_false (by omega);obtain ⟨i0,hi,hz0,hz1,hz2⟩:=info_parts XN;have HV:=ae hv;have H4:=ae h4;clear hv h4;go_enter Tryz.func21,Tryz.ntmps21;go_wp2_with fail;go_loopw [5] (fun x wx=>∃k:Nat,x=.int .i64 k/\k<=l.length/\Hid (∀t ∈ l.take k,lU t=true)/\Hid (Below w.heap.size w wx)) (fun x _=>match x with | .int _ k=>l.length-k.toNat|_=>0)
  case atStart=>exact ⟨0,rfl,Nat.zero_le _,ae (fun t ht=>by simp at ht),ae (Below.refl _ _)⟩
  case round =>
   obtain ⟨k,rfl,hk,HG,HW⟩:=hrel;by_cases hkl:k<l.length
   ·obtain ⟨q1,hw1⟩:=tB hkl (by have:=H4.out;omega);obtain ⟨tt,ht⟩:∃t,l[k]?=some t:=⟨_,List.getElem?_eq_getElem hkl⟩;obtain ⟨g,off,cg,yC,hcells⟩:=(HV.out.on HW.out).some (by omega);injection yC with Ay _ Jd;subst Ay;have y0:wr.cell? ⟨g,off+k*4,none⟩=some (.int .i64 tt.k):=(hcells k tt ht).c0;have y1:wr.cell? ⟨g,off+k*4+1,none⟩=some (.string tt.x):=(hcells k tt ht).c1;have y2:wr.cell? ⟨g,off+k*4+2,none⟩=some (.int .i64 tt.n):=(hcells k tt ht).c2;have y3:wr.cell? ⟨g,off+k*4+3,none⟩=some (.int .i64 tt.a):=(hcells k tt ht).c3;have Fg:=ae (fun hg=>taken HG.out ht hg);have CR:=ae (fun hg=>XO H4.out ht hg);have Az:lU tt=dJ tt.k tt.x tt.n:=rfl;rw [Az] at Fg CR;obtain ⟨tk,tx,tn,ta⟩:=tt;simp only at y0 y1 y2 y3 Fg CR;have O5:=ae (XP tk tx tn ta wr);generalize dJ tk tx tn=M at *;clear ht hcells Jd Az;go_wp2_with fail;refine Calls.mono (show Calls _ _ _ _ _ from O5.out) ?_;rintro e u1 ⟨rfl,hb1⟩;have HB1:=ae (az HW.out hb1);clear hb1 O5 y0 y1 y2 y3;cases M with
    | false =>
     have HR:=ae (CR.out rfl);clear CR;go_wp2;go_ret2;exact Ff HR.out HB1.out
    | true =>
     have XQ:=ae (Fg.out rfl);clear Fg CR;go_wp2;go_roundw
     case rel=>exact ⟨k+1,by first|rfl|(congr 1),hkl,XQ,HB1⟩
     case measure=>simp only [hw1];clear hw1 q1;simp;omega
   ·have O6:k=l.length:=by omega
    have q1:=aK l.length k hkl;have hG:=HG.out;rw [O6,List.take_length] at hG;have HA:=ae hG;clear HG hG O6;have O7:=ae (OB.nil w wr HW.out);go_wp2_with fail;go_loopw [4,6] (fun vb x wx=>∃k:Nat,x=.int .i64 k/\k<=l.length/\Hid (OB w vb (gu (l.take k)) wx)) (fun _ x _=>match x with | .int _ k=>l.length-k.toNat|_=>0)
    case atStart=>exact ⟨0,rfl,Nat.zero_le _,O7⟩
    case round =>
     clear O7 HW;obtain ⟨j,rfl,hj,HO⟩:=hrel;obtain ⟨ov,cv,hvv⟩:=HO.out.len;subst hvv;by_cases hjl:j<l.length
     ·obtain ⟨q2,hw2⟩:=tB hjl (by have:=H4.out;omega);obtain ⟨tt,ht⟩:∃t,l[j]?=some t:=⟨_,List.getElem?_eq_getElem hjl⟩;have hgd:dJ tt.k tt.x tt.n=true:=HA.out tt (List.mem_of_getElem? ht);obtain ⟨g,off,cg,yC,hcells⟩:=HV.out.some (by omega);injection yC with Ay _ Jd;subst Ay;have HY:Hid (∀u,Below w.heap.size w u->u.cell? ⟨g,off+j*4,none⟩=some (.int .i64 tt.k)/\u.cell? ⟨g,off+j*4+1,none⟩=some (.string tt.x)/\u.cell? ⟨g,off+j*4+2,none⟩=some (.int .i64 tt.n)):=ae fun u hb=>⟨bb.ah hb (hcells j tt ht).c0,bb.ah hb (hcells j tt ht).c1,bb.ah hb (hcells j tt ht).c2⟩;have bF:g<w.heap.size:=World.block_lt_of_cell? _ _ (hcells j tt ht).c0;have HJ:=ae (XR ht);have hsk:fT tt=iS tt.k tt.x tt.n:=rfl;rw [hsk] at HJ
      have yD:Hid ((gu (l.take j)).length<=140000):=ae (by
       have h1:=XS (l.take j) (fun t ht=>HA.out t (List.mem_of_mem_take ht));rw [List.length_take,Nat.min_eq_left hj] at h1
       have:=H4.out
       omega)
      obtain ⟨tk,tx,tn,ta⟩:=tt;simp only at hgd HY HJ;have AA:=ae hgd;clear ht hcells Jd hsk hgd q1 hkl;rcases Nat.eq_zero_or_pos j with h0|h0
      ·have q5:¬ 0<j:=by omega
       have qO:=HJ.out;rw [if_pos h0] at qO;have hj0:gu (l.take j) = []:=by rw [h0,List.take_zero];rfl
       have kP:Hid (gu (l.take (j+1))=gu (l.take j)++(iS tk tx tn).data.toList):=ae (by rw [qO,hj0];rfl);have yE:=yD;have yF:=ae (OZ yD.out);have yG:Hid ((gu (l.take j)).length<=140100):=ae (Nat.le_trans yD.out (by decide));clear qO hj0 HJ h0 yD;generalize gu (l.take j)=J1 at *;obtain ⟨y0,y1,y2⟩:=HY.out wr HO.out.2;by_cases h4:tk=4
       ·have q4:=sP h4;have hin:=x4 h4 AA.out;have hsz:=Je hin;have hsp:iS tk tx tn=nW tn:=by subst h4;rfl
        rw [hsp] at kP;have CU:=ae (O8 tn hin wr);have iV:=ae hsz;generalize nW tn=S at *;clear hin hsz hsp h4;go_wp2_with fail;refine Calls.mono (show Calls _ _ _ _ _ from CU.out) ?_;rintro e u5 ⟨rfl,hb5⟩;have mf:=ae (HO.out.on hb5);clear hb5 CU;have jv:=ae (Aw (n:=(J1).length) (m:=S.size) yG.out iV.out);go_wp2_with (first|(at_builtin;refine Lib.wpList_append_own_string _ rfl _ _ 90 9 rfl w.heap.size 5 i0 Tryz.underlying90 Tryz.underlying9 hi hz0 hz1 hz2 _ _ _ rfl mf.out.1 S rfl jv.out.1 jv.out.2 mf.out.2.size ?c7))
        case c7 =>
         intro v9 w9 dS lV _;have iy:=ae (OB.str mf.out dS lV);clear dS lV jv;have lW:Hid (OB w v9 (gu (l.take (j+1))) w9):=ae (by rw [kP.out];first|exact iy.out|(rw [<- List.append_assoc];exact iy.out)|(simpa using iy.out))
         clear iy;obtain ⟨o9,c9,bD⟩:=lW.out.len;subst bD;go_wp2;go_roundw
         case rel=>exact ⟨j+1,by first|rfl|(congr 1),hjl,lW⟩
         case measure=>clear hw2 q2;simp;omega
       ·have q4:=iW h4;by_cases h3:tk=3
        ·have q3:=sP h3;have hsz:=x3 h3 AA.out;have hsp:(iS tk tx tn).data.toList = [39]++tx.data.toList:=by subst h3;exact O0
         rw [hsp] at kP;have iV:=ae hsz;have hown:=HO.out.1.lt;have kv:Hid (∀b,(Value.slice ov J1.length cv).ownBlock=some b->w.heap.size<=b/\b<wr.heap.size):=ae hown;have wh:=ae bF;clear hsz hsp h3 h4 hown;go_upto_region 19 with fail;clear y0 y1 y2;refine ag.O9 8 (fun i=>57+i) (tF (Value.slice ov J1.length cv)) (fun u=>Below w.heap.size w u/\wr.heap.size<=u.heap.size) (fun i u=>i=2->u.ownsRow w.heap.size 5 1 (Value.slice ov J1.length cv) (J1).length (Lib.byteCells (J1))) (tG w (Value.slice ov J1.length cv) (.slice (some ⟨g,off,none⟩) l.length c) (J1) g off j tx) (by kernel_rfl) (by kernel_rfl) (fun i j h1 h2 h=>by have h':57+i=57+j:=h;omega) ?XT (fun i k v u u' _ _ hik _ h hg=>O3 hik h hg) (fun i k u u' _ _ hik h hg h2=>by subst h2;refine World.ownsRow.kept (h rfl) hg ?_;have hn:tF (Value.slice ov J1.length cv) k=none:=O2 (fun e=>hik e.symm);rw [hn];exact O1 _) (fun k u u' _ h hg=>⟨h.1.grown hg (Nat.le_trans HO.out.2.size h.2) (fun b hb=>by unfold tF at hb;split at hb;exact (kv.out b hb).1;cases hb),Nat.le_trans h.2 hg.size⟩) ?XU ?XV ⟨az HO.out.2 (gJ _),Nat.le_refl _⟩ (fun i _ _=>(HO.out.on (gJ _)).1)
         case XT=>exact ag.mS (size:=71) (by kernel_rfl)
         case XU =>
          intro i o a u Jf ho hF hK hR hd;obtain ⟨y0,y1,y2⟩:=HY.out u hK.1;have f0:a.tmps[0]?.getD undef=.slice (some ⟨g,off,none⟩) l.length c:=ag.au (hF.eval 0 (fun i hi=>by show 57+i≠0;omega));have f4:a.tmps[4]?.getD undef=Value.slice ov J1.length cv:=ag.au (hF.eval 4 (fun i hi=>by show 57+i≠4;omega));have f6:a.tmps[6]?.getD undef=.int .i64 (j:Int):=ag.au (hF.eval 6 (fun i hi=>by show 57+i≠6;omega));have oU:u.grownBy u none:=⟨rfl,rfl,rfl,Nat.le_refl _,fun _ _ _=>rfl⟩;have hcase:i=0\/i=1\/i=2\/i=3\/i=4\/i=5\/i=6\/i=7:=by clear hw2;omega
          clear Jf;rcases hcase with rfl|rfl|rfl|rfl|rfl|rfl|rfl|rfl
          all_goals (simp only [List.getElem?_toArray,List.getElem?_cons_succ,List.getElem?_cons_zero,Option.some.injEq] at ho;subst ho)
          ·refine ag.bw fun KK ai=>?_;go_simp;exact ai _ _ ⟨_,rfl,oU,rfl⟩
          ·have HN:=ae (nb u (.int .u8 39) 5);have Jg:Hid ((Value.slice ov J1.length cv).ownBlock≠some u.heap.size):=ae (fun e=>by have:=(kv.out _ e).2;have:=hK.2;omega);refine ag.bw fun KK ai=>?_;go_simp;exact ai _ _ ⟨_,rfl,World.grownBy_alloc u _ _,⟨_,rfl,HN.out.2,Jg.out,by simp⟩⟩
          ·obtain ⟨bk,g1,hc,_,_⟩:=hd 1 (by decide);have g0:a.eval (.tmp 57)=Value.slice ov J1.length cv:=hd 0 (by decide);refine wp_append_own u _ _ 90 rfl w.heap.size 5 i0 (.int .u8 0) 1 1 Tryz.underlying90 hi hz0 hz1 hz2 rfl (by decide) (Value.slice ov J1.length cv) (J1).length (Lib.byteCells (J1)) g0 (hR rfl) ⟨bk,0,none⟩ 1 1 [.int .u8 39] g1 rfl (fun q uu hq=>by match q,hq with|0,hq=>simp at hq;subst hq;exact hc) (by simp [Value.oneCell']) yF.out.1 yF.out.2 (Nat.le_trans HO.out.2.size hK.2) (fun v9 w9 h9 fF _=>⟨v9,rfl,fF,h9⟩)
          ·refine ag.bw fun KK ai=>?_;go_simp;exact ai _ _ ⟨_,rfl,oU,rfl⟩
          ·refine ag.bw fun KK ai=>?_;go_simp;exact ai _ _ ⟨_,rfl,oU,rfl⟩
          ·have g0:a.tmps[60]?.getD undef=.slice (some ⟨g,off,none⟩) l.length c:=ag.au (hd 3 (by decide));have g1:a.tmps[61]?.getD undef=.int .i64 (j:Int):=ag.au (hd 4 (by decide));refine ag.bw fun KK ai=>?_;go_simp;exact ai _ _ ⟨_,rfl,oU,rfl⟩
          ·have g0:a.tmps[62]?.getD undef=.pointer (some ⟨g,off+j*4,none⟩):=ag.au (hd 5 (by decide));refine ag.bw fun KK ai=>?_;go_simp;exact ai _ _ ⟨_,rfl,oU,rfl⟩
          ·have g0:a.tmps[63]?.getD undef=.pointer (some ⟨g,off+j*4+1,none⟩):=ag.au (hd 6 (by decide));refine ag.bw fun KK ai=>?_;go_simp;exact ai _ _ ⟨_,rfl,oU,rfl⟩
         case XV =>
          intro a u hF hK hG;have oW:OB w (a.eval (.tmp 59)) ((J1)++[39]) u:=OB.byte' (wq:=u) HO.out (c:=39) (hG 2 (by decide)) hK.1;have g7:a.eval (.tmp 64)=.string tx:=hG 7 (by decide);obtain ⟨xs,hxl,rfl,hev⟩:=hF.lit (by simp);rw [hev 2 (by decide)] at oW;rw [hev 7 (by decide)] at g7;obtain ⟨x0,x1,x2,x3,x4,x5,x6,x7,rfl⟩:=len8 hxl;have CV:OB w x2 ((J1)++[39]) u:=oW;have g8:x7=.string tx:=g7;subst g8;have uq:=ae CV;have Jh:Hid (((J1)++[39]).length<=140100):=ae (by rw [List.length_append];have:=yE.out;simp;omega);have HJ2:Hid (gu (l.take (j+1))=(J1++[39])++tx.data.toList):=ae (by rw [kP.out,List.append_assoc]);clear kP oW CV yE yF yG;generalize J1++[39]=J2 at *;have kP:=HJ2;obtain ⟨o6,c6,AB⟩:=uq.out.len;subst AB;clear hF hK hG g7 hev hxl;simp only [List.take_succ_cons,List.take_zero,List.drop_succ_cons,List.drop_zero,List.cons_append,List.nil_append];have jv:=ae (Aw (n:=(J2).length) (m:=tx.size) Jh.out iV.out);go_wp2_with (first|(at_builtin;refine Lib.wpList_append_own_string _ rfl _ _ 90 9 rfl w.heap.size 5 i0 Tryz.underlying90 Tryz.underlying9 hi hz0 hz1 hz2 _ _ _ rfl uq.out.1 tx rfl jv.out.1 jv.out.2 uq.out.2.size ?c7))
          case c7 =>
           intro v9 w9 dS lV _;have iy:=ae (OB.str uq.out dS lV);clear dS lV jv;have lW:Hid (OB w v9 (gu (l.take (j+1))) w9):=ae (by rw [kP.out];first|exact iy.out|(rw [<- List.append_assoc];exact iy.out)|(simpa using iy.out))
           clear iy;obtain ⟨o9,c9,bD⟩:=lW.out.len;subst bD;go_wp2;go_roundw
           case rel=>exact ⟨j+1,by first|rfl|(congr 1),hjl,lW⟩
           case measure=>clear hw2 q2;simp;omega
        ·have q3:=iW h3;have hsp:iS tk tx tn=tx:=by unfold iS;rw [if_neg h3,if_neg h4]
         have hsz:=vZ AA.out;rw [hsp] at kP hsz;have iV:=ae hsz;clear hsp hsz h3 h4;have jv:=ae (Aw (n:=(J1).length) (m:=tx.size) yG.out iV.out);go_wp2_with (first|(at_builtin;refine Lib.wpList_append_own_string _ rfl _ _ 90 9 rfl w.heap.size 5 i0 Tryz.underlying90 Tryz.underlying9 hi hz0 hz1 hz2 _ _ _ rfl HO.out.1 tx rfl jv.out.1 jv.out.2 HO.out.2.size ?c7))
         case c7 =>
          intro v9 w9 dS lV _;have iy:=ae (OB.str HO.out dS lV);clear dS lV jv;have lW:Hid (OB w v9 (gu (l.take (j+1))) w9):=ae (by rw [kP.out];first|exact iy.out|(rw [<- List.append_assoc];exact iy.out)|(simpa using iy.out))
          clear iy;obtain ⟨o9,c9,bD⟩:=lW.out.len;subst bD;go_wp2;go_roundw
          case rel=>exact ⟨j+1,by first|rfl|(congr 1),hjl,lW⟩
          case measure=>clear hw2 q2;simp;omega
      ·have q5:0<j:=h0;have qO:=HJ.out;rw [if_neg (by omega)] at qO;have Pd:=ae qO;have Ji:=ae (OZ yD.out);have Pe:Hid (w.heap.size<=(wr.alloc (.cells #[.int .u8 32] 5)).heap.size):=ae (by have:=HO.out.2.size;simp;omega);clear qO HJ h0;generalize gu (l.take j)=J at *;go_wp2_with (first|(at_builtin;refine wpList_append_own _ rfl _ _ 90 rfl w.heap.size 5 i0 (.int .u8 0) 1 1 Tryz.underlying90 hi hz0 hz1 hz2 rfl (by decide) _ _ _ rfl (HO.out.1.alloc _) ⟨wr.heap.size,0,none⟩ 1 1 [.int .u8 32] rfl rfl (XW _ _ _) ?c2 Ji.out.1 Ji.out.2 Pe.out ?c6))
       case c2=>simp [Value.oneCell']
       case c6 =>
        intro v8 w8 Pf Pg _;have fJ:=ae (OB.byte (c:=32) HO.out Pf Pg);have yE:Hid ((J++[32]).length<=140001):=ae (by rw [List.length_append];have:=yD.out;simp;omega);have kP:Hid (gu (l.take (j+1))=(J++[32])++(iS tk tx tn).data.toList):=Pd;clear Pf Pg HO Ji Pe Pd yD;generalize J++[32]=J1 at *;obtain ⟨ow,cw,XX⟩:=fJ.out.len;subst XX;have yF:Hid (J1.length+1<=maxLen/\(J1.length+1)*1<=140737488355328):=ae (by have:=yE.out;unfold maxLen;omega);have yG:Hid (J1.length<=140100):=ae (Nat.le_trans yE.out (by decide));obtain ⟨y0,y1,y2⟩:=HY.out w8 fJ.out.2;by_cases h4:tk=4
        ·have q4:=sP h4;have hin:=x4 h4 AA.out;have hsz:=Je hin;have hsp:iS tk tx tn=nW tn:=by subst h4;rfl
         rw [hsp] at kP;have CU:=ae (O8 tn hin w8);have iV:=ae hsz;generalize nW tn=S at *;clear hin hsz hsp h4;go_wp2_with fail;refine Calls.mono (show Calls _ _ _ _ _ from CU.out) ?_;rintro e u5 ⟨rfl,hb5⟩;have mf:=ae (fJ.out.on hb5);clear hb5 CU;have jv:=ae (Aw (n:=(J1).length) (m:=S.size) yG.out iV.out);go_wp2_with (first|(at_builtin;refine Lib.wpList_append_own_string _ rfl _ _ 90 9 rfl w.heap.size 5 i0 Tryz.underlying90 Tryz.underlying9 hi hz0 hz1 hz2 _ _ _ rfl mf.out.1 S rfl jv.out.1 jv.out.2 mf.out.2.size ?c7))
         case c7 =>
          intro v9 w9 dS lV _;have iy:=ae (OB.str mf.out dS lV);clear dS lV jv;have lW:Hid (OB w v9 (gu (l.take (j+1))) w9):=ae (by rw [kP.out];first|exact iy.out|(rw [<- List.append_assoc];exact iy.out)|(simpa using iy.out))
          clear iy;obtain ⟨o9,c9,bD⟩:=lW.out.len;subst bD;go_wp2;go_roundw
          case rel=>exact ⟨j+1,by first|rfl|(congr 1),hjl,lW⟩
          case measure=>simp only [hw2];clear hw2 q2;simp;omega
        ·have q4:=iW h4;by_cases h3:tk=3
         ·have q3:=sP h3;have hsz:=x3 h3 AA.out;have hsp:(iS tk tx tn).data.toList = [39]++tx.data.toList:=by subst h3;exact O0
          rw [hsp] at kP;have iV:=ae hsz;have hown:=fJ.out.1.lt;have kv:Hid (∀b,(Value.slice ow J1.length cw).ownBlock=some b->w.heap.size<=b/\b<w8.heap.size):=ae hown;have wh:=ae bF;clear hsz hsp h3 h4 hown;go_upto_region 19 with fail;clear y0 y1 y2;refine ag.O9 8 (fun i=>57+i) (tF (Value.slice ow J1.length cw)) (fun u=>Below w.heap.size w u/\w8.heap.size<=u.heap.size) (fun i u=>i=2->u.ownsRow w.heap.size 5 1 (Value.slice ow J1.length cw) (J1).length (Lib.byteCells (J1))) (tG w (Value.slice ow J1.length cw) (.slice (some ⟨g,off,none⟩) l.length c) (J1) g off j tx) (by kernel_rfl) (by kernel_rfl) (fun i j h1 h2 h=>by have h':57+i=57+j:=h;omega) ?XY (fun i k v u u' _ _ hik _ h hg=>O3 hik h hg) (fun i k u u' _ _ hik h hg h2=>by subst h2;refine World.ownsRow.kept (h rfl) hg ?_;have hn:tF (Value.slice ow J1.length cw) k=none:=O2 (fun e=>hik e.symm);rw [hn];exact O1 _) (fun k u u' _ h hg=>⟨h.1.grown hg (Nat.le_trans fJ.out.2.size h.2) (fun b hb=>by unfold tF at hb;split at hb;exact (kv.out b hb).1;cases hb),Nat.le_trans h.2 hg.size⟩) ?XZ ?X0 ⟨az fJ.out.2 (gJ _),Nat.le_refl _⟩ (fun i _ _=>(fJ.out.on (gJ _)).1)
          case XY=>exact ag.mS (size:=71) (by kernel_rfl)
          case XZ =>
           intro i o a u Jf ho hF hK hR hd;obtain ⟨y0,y1,y2⟩:=HY.out u hK.1;have f0:a.tmps[0]?.getD undef=.slice (some ⟨g,off,none⟩) l.length c:=ag.au (hF.eval 0 (fun i hi=>by show 57+i≠0;omega));have f4:a.tmps[4]?.getD undef=Value.slice ow J1.length cw:=ag.au (hF.eval 4 (fun i hi=>by show 57+i≠4;omega));have f6:a.tmps[6]?.getD undef=.int .i64 (j:Int):=ag.au (hF.eval 6 (fun i hi=>by show 57+i≠6;omega));have oU:u.grownBy u none:=⟨rfl,rfl,rfl,Nat.le_refl _,fun _ _ _=>rfl⟩;have hcase:i=0\/i=1\/i=2\/i=3\/i=4\/i=5\/i=6\/i=7:=by clear hw2;omega
           clear Jf;rcases hcase with rfl|rfl|rfl|rfl|rfl|rfl|rfl|rfl
           all_goals (simp only [List.getElem?_toArray,List.getElem?_cons_succ,List.getElem?_cons_zero,Option.some.injEq] at ho;subst ho)
           ·refine ag.bw fun KK ai=>?_;go_simp;exact ai _ _ ⟨_,rfl,oU,rfl⟩
           ·have HN:=ae (nb u (.int .u8 39) 5);have Jg:Hid ((Value.slice ow J1.length cw).ownBlock≠some u.heap.size):=ae (fun e=>by have:=(kv.out _ e).2;have:=hK.2;omega);refine ag.bw fun KK ai=>?_;go_simp;exact ai _ _ ⟨_,rfl,World.grownBy_alloc u _ _,⟨_,rfl,HN.out.2,Jg.out,by simp⟩⟩
           ·obtain ⟨bk,g1,hc,_,_⟩:=hd 1 (by decide);have g0:a.eval (.tmp 57)=Value.slice ow J1.length cw:=hd 0 (by decide);refine wp_append_own u _ _ 90 rfl w.heap.size 5 i0 (.int .u8 0) 1 1 Tryz.underlying90 hi hz0 hz1 hz2 rfl (by decide) (Value.slice ow J1.length cw) (J1).length (Lib.byteCells (J1)) g0 (hR rfl) ⟨bk,0,none⟩ 1 1 [.int .u8 39] g1 rfl (fun q uu hq=>by match q,hq with|0,hq=>simp at hq;subst hq;exact hc) (by simp [Value.oneCell']) yF.out.1 yF.out.2 (Nat.le_trans fJ.out.2.size hK.2) (fun v9 w9 h9 fF _=>⟨v9,rfl,fF,h9⟩)
           ·refine ag.bw fun KK ai=>?_;go_simp;exact ai _ _ ⟨_,rfl,oU,rfl⟩
           ·refine ag.bw fun KK ai=>?_;go_simp;exact ai _ _ ⟨_,rfl,oU,rfl⟩
           ·have g0:a.tmps[60]?.getD undef=.slice (some ⟨g,off,none⟩) l.length c:=ag.au (hd 3 (by decide));have g1:a.tmps[61]?.getD undef=.int .i64 (j:Int):=ag.au (hd 4 (by decide));refine ag.bw fun KK ai=>?_;go_simp;exact ai _ _ ⟨_,rfl,oU,rfl⟩
           ·have g0:a.tmps[62]?.getD undef=.pointer (some ⟨g,off+j*4,none⟩):=ag.au (hd 5 (by decide));refine ag.bw fun KK ai=>?_;go_simp;exact ai _ _ ⟨_,rfl,oU,rfl⟩
           ·have g0:a.tmps[63]?.getD undef=.pointer (some ⟨g,off+j*4+1,none⟩):=ag.au (hd 6 (by decide));refine ag.bw fun KK ai=>?_;go_simp;exact ai _ _ ⟨_,rfl,oU,rfl⟩
          case X0 =>
           intro a u hF hK hG;have oW:OB w (a.eval (.tmp 59)) ((J1)++[39]) u:=OB.byte' (wq:=u) fJ.out (c:=39) (hG 2 (by decide)) hK.1;have g7:a.eval (.tmp 64)=.string tx:=hG 7 (by decide);obtain ⟨xs,hxl,rfl,hev⟩:=hF.lit (by simp);rw [hev 2 (by decide)] at oW;rw [hev 7 (by decide)] at g7;obtain ⟨x0,x1,x2,x3,x4,x5,x6,x7,rfl⟩:=len8 hxl;have CV:OB w x2 ((J1)++[39]) u:=oW;have g8:x7=.string tx:=g7;subst g8;have uq:=ae CV;have Jh:Hid (((J1)++[39]).length<=140100):=ae (by rw [List.length_append];have:=yE.out;simp;omega);have HJ2:Hid (gu (l.take (j+1))=(J1++[39])++tx.data.toList):=ae (by rw [kP.out,List.append_assoc]);clear kP oW CV yE yF yG;generalize J1++[39]=J2 at *;have kP:=HJ2;obtain ⟨o6,c6,AB⟩:=uq.out.len;subst AB;clear hF hK hG g7 hev hxl;simp only [List.take_succ_cons,List.take_zero,List.drop_succ_cons,List.drop_zero,List.cons_append,List.nil_append];have jv:=ae (Aw (n:=(J2).length) (m:=tx.size) Jh.out iV.out);go_wp2_with (first|(at_builtin;refine Lib.wpList_append_own_string _ rfl _ _ 90 9 rfl w.heap.size 5 i0 Tryz.underlying90 Tryz.underlying9 hi hz0 hz1 hz2 _ _ _ rfl uq.out.1 tx rfl jv.out.1 jv.out.2 uq.out.2.size ?c7))
           case c7 =>
            intro v9 w9 dS lV _;have iy:=ae (OB.str uq.out dS lV);clear dS lV jv;have lW:Hid (OB w v9 (gu (l.take (j+1))) w9):=ae (by rw [kP.out];first|exact iy.out|(rw [<- List.append_assoc];exact iy.out)|(simpa using iy.out))
            clear iy;obtain ⟨o9,c9,bD⟩:=lW.out.len;subst bD;go_wp2;go_roundw
            case rel=>exact ⟨j+1,by first|rfl|(congr 1),hjl,lW⟩
            case measure=>simp only [hw2];clear hw2 q2;simp;omega
         ·have q3:=iW h3;have hsp:iS tk tx tn=tx:=by unfold iS;rw [if_neg h3,if_neg h4]
          have hsz:=vZ AA.out;rw [hsp] at kP hsz;have iV:=ae hsz;clear hsp hsz h3 h4;have jv:=ae (Aw (n:=(J1).length) (m:=tx.size) yG.out iV.out);go_wp2_with (first|(at_builtin;refine Lib.wpList_append_own_string _ rfl _ _ 90 9 rfl w.heap.size 5 i0 Tryz.underlying90 Tryz.underlying9 hi hz0 hz1 hz2 _ _ _ rfl fJ.out.1 tx rfl jv.out.1 jv.out.2 fJ.out.2.size ?c7))
          case c7 =>
           intro v9 w9 dS lV _;have iy:=ae (OB.str fJ.out dS lV);clear dS lV jv;have lW:Hid (OB w v9 (gu (l.take (j+1))) w9):=ae (by rw [kP.out];first|exact iy.out|(rw [<- List.append_assoc];exact iy.out)|(simpa using iy.out))
           clear iy;obtain ⟨o9,c9,bD⟩:=lW.out.len;subst bD;go_wp2;go_roundw
           case rel=>exact ⟨j+1,by first|rfl|(congr 1),hjl,lW⟩
           case measure=>simp only [hw2];clear hw2 q2;simp;omega
     ·have Ph:j=l.length:=by omega
      have q2:=aK l.length j hjl;have htl:l.take j=l:=by rw [Ph,List.take_length]
      rw [htl] at HO ⊢;have hO:=HO.out;have HR:=ae (Pj H4.out HA.out);have hcv:=hO.conv;have HW2:=ae hO.2;clear hO HO Ph htl HA;generalize gu l=J at *;by_cases h8:8192<J.length
      ·have q3:decide ((J.length:Int) > 8192)=true:=decide_eq_true (by omega);have hR:=HR.out;rw [if_pos h8] at hR;have HR2:=ae hR;clear hR HR h8 hcv;go_wp2;go_ret2;exact Ff HR2.out HW2.out
      ·have q3:decide ((J.length:Int) > 8192)=false:=decide_eq_false (by omega);have hR:=HR.out;rw [if_neg h8] at hR;have HR2:=ae hR;clear hR HR h8;go_wp2;go_ret2;exact Ff HR2.out HW2.out
end Go.Proofs.YtkdbgopgjbfhbaaGreatDoor
