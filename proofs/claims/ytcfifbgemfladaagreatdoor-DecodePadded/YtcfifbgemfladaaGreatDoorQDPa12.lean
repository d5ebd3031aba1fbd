/- Texts that the claim needs. -/
import Derived.Test.YtcfifbgemfladaaGreatDoorQDPa11
import Derived.Laws.IdiomCopy
import Derived.Laws.NewBlocks
import Derived.Shelf.Lays
import Derived.Shelf.Lay
import Derived.Shelf.Bits.Mul64
import Derived.Test.YtcfifbgemfladaaGreatDoorQDPa10
namespace Go.Proofs.YtcfifbgemfladaaGreatDoor
open Go.RowKit Go.Shelf au Go.Lib aI Go.Proofs.Tryz
set_option linter.unusedVariables false
set_option maxRecDepth 100000
set_option maxHeartbeats 4000000
shelf_lay Lays.n212 Nm 212 at Tryz as Tryz.Xp
theorem Xq (c:Nat) (hc:c<=256) (w:AG):Calls prog 124 #[.int .u64 1,.int .u64 c] w λe w'=>e=.returned (.tuple #[.int .u64 0,.int .u64 c])/\w'=w:=by
 have h:=Any.bits_Mul Tryz.Xp 1 c (by omega) (by omega) w;rw [Nat.one_mul,Nat.div_eq_of_lt (by omega),Nat.mod_eq_of_lt (by omega)] at h;exact h
namespace aI
theorem NA (g:Nat) (t:TypeId):∀(vs:List Value) (o:Nat) (w:AG) (cur:Array Value),w.heap[g]?=some (.cells cur t (0,0))->o+vs.length<=cur.size ->
  ∃cur',(w.setCells g o vs).heap[g]?=some (.cells cur' t (0,0))/\cur'.toList=cur.toList.take o++vs++cur.toList.drop (o+vs.length)
 | [],o,w,cur,h,_=>⟨cur,h,by simp⟩
 | v :: r,o,w,cur,h,hl=>by
  simp only [ik] at hl;obtain ⟨cur',h1,h2⟩:=NA g t r (o+1) (w.setCell ⟨g,o,none⟩ v) (cur.setIfInBounds o v) (heap_setCell_same w g o cur t v h) (by rw [Array.size_setIfInBounds];omega);refine ⟨cur',h1,?_⟩;rw [h2,Array.toList_setIfInBounds];have hs:o<cur.toList.length:=by rw [Array.length_toList];omega
  have e1:(cur.toList.set o v).take (o+1)=cur.toList.take o++[v]:=by
   rw [List.take_add_one,List.take_set_of_le (aC o),List.getElem?_set_self hs];rfl
  have e2:(cur.toList.set o v).drop (o+1+r.length)=cur.toList.drop (o+1+r.length):=List.drop_set_of_lt (by omega);rw [e1,e2];simp only [ik,bw,iy,fN];rw [show o+1+r.length=o+(r.length+1) by omega]
theorem NB (g:Nat):∀(vs:List Value) (o:Nat) (w0 w:AG),AS w0 w->w0.heap.size<=g->AS w0 (w.setCells g o vs)
 | [],_,_,_,h,_=>h
 | v :: r,o,w0,w,h,hg=>NB g r (o+1) w0 _ (h.setCell (p:=⟨g,o,none⟩) hg v) hg
structure Rp (w0:AG) (c n:Nat) (v:Int) (w:AG):Prop where
 below:AS w0 w
 le:n<=c
 blk:∃cur,w.heap[w0.heap.size]?=some (.cells cur 3 (0,0))/\cur.toList=List.replicate n (Value.int .i64 v)++List.replicate (c-n) (Value.int .i64 0)
theorem Rp.cell {w0 w:AG} {c n:Nat} {v:Int} (h:Rp w0 c n v w) {j:Nat} (hj:j<n):w.cell? ⟨w0.heap.size,j,none⟩=some (.int .i64 v):=by
 obtain ⟨cur,h1,h2⟩:=h.blk;unfold World.cell?;rw [h1];show cur[j]?=_;rw [<- Array.getElem?_toList,h2,vB (by simpa using hj),List.getElem?_replicate,AE hj]
theorem Rp.isSome {w0 w:AG} {c n:Nat} {v:Int} (h:Rp w0 c n v w) {j:Nat} (hj:j<c):(w.cell? ⟨w0.heap.size,j,none⟩).isSome=true:=by
 obtain ⟨cur,h1,h2⟩:=h.blk;unfold World.cell?;rw [h1];show (cur[j]?).isSome=true;have hl:cur.toList.length=c:=by rw [h2];simp;have:=h.le;omega
 rw [<- Array.getElem?_toList,bG (by omega)];rfl
theorem Rp.ax {w0 w:AG} {c n:Nat} {v:Int} (h:Rp w0 c n v w) (j:Nat):w.frozen? ⟨w0.heap.size,j,none⟩=false:=by
 obtain ⟨cur,h1,h2⟩:=h.blk;unfold World.frozen?;rw [h1];simp
theorem Rp.set {w0 w:AG} {c n:Nat} {v:Int} (h:Rp w0 c n v w) (m:Nat) (hm:n+m<=c):Rp w0 c (n+m) v (w.setCells w0.heap.size n (List.replicate m (.int .i64 v))):=by
 obtain ⟨cur,h1,h2⟩:=h.blk;have hl:cur.toList.length=c:=by rw [h2];simp;have:=h.le;omega
 obtain ⟨cur',g1,g2⟩:=NA w0.heap.size 3 (List.replicate m (.int .i64 v)) n w cur h1 (by rw [<- Array.length_toList,List.length_replicate];omega);refine ⟨NB _ _ _ _ _ h.below (aC _),hm,cur',g1,?_⟩;rw [g2,h2,List.take_append_of_le_length (by simp),List.take_replicate,Nat.min_self,List.drop_append,List.length_replicate,List.length_replicate,List.drop_replicate,List.drop_replicate,show n-(n+m)=0 by omega,show c-n-(n+m-n)=c-(n+m) by omega,List.replicate_zero,fN,List.replicate_append_replicate]
theorem Rp.drew {w0 w:AG} {c n:Nat} {v:Int} (h:Rp w0 c n v w):Rp w0 c n v w.drew:=⟨⟨h.below.os,h.below.tape,h.below.output,h.below.size,h.below.block⟩,h.le,h.blk⟩
end aI
theorem Xr (v : Int) (c b k : Nat) (w : AG) (hc : c ≤ 256) (hb : w.cell? ⟨b, 0, none⟩ = some (.int .i64 v)) :
    Calls prog 113 #[.slice (some ⟨b, 0, none⟩) 1 k, .int .i64 c] w λe w' => e = .returned (.slice (some ⟨w.heap.size, 0, none⟩) c c) ∧ Rp w c c v w' := by
  have HM := aa (Xq c hc w);obtain ⟨i0, hi, hz0, hz1, hz2⟩ := info_parts Gh;have hsz : (prog.info? 3).map (·.size) = some 1 := by rw [hi]; simp [hz1]
  have hmk := run_makeSlice (P := prog) w 28 3 i0 _ underlying28 hi hz0 .i64 .i64 (c : Int) (c : Int) (by omega) (by omega) (by rw [hz1]; omega) (by rw [hz2]; omega) (by omega);rw [Int.toNat_natCast, hz1, Nat.mul_one] at hmk;clear hi hz0 hz1 hz2;go_enter func113, ntmps113;go_wp2_with fail;refine HM.out.mono ?_;rintro e w' ⟨rfl, hw⟩;subst hw;clear HM;obtain ⟨W1, hW1⟩ : ∃ W1, W1 = w'.alloc (.cells (madeCells (Value.int IntKind.i64 0).cells c) 3) := ⟨_, rfl⟩;rw [← hW1] at hmk
  have h0 : Rp w' c 0 v W1 := by
    rw [hW1];refine ⟨aQ w' _, Nat.zero_le _, _, mV _ _ rfl, ?_⟩;rw [show (Value.int IntKind.i64 0).cells = #[Value.int .i64 0] from rfl, toList_madeCells_one];rfl
  have hbw : b < w'.heap.size := block_lt_of_cell hb;have hb1 : W1.cell? ⟨b, 0, none⟩ = some (.int .i64 v) := ak h0.below hb;obtain ⟨m, hm⟩ : ∃ m, m = Nat.min 1 c := ⟨_, rfl⟩;have Xt : m ≤ c := by rw [hm]; exact Nat.min_le_right _ _
  have hm0 : m = 0 → c = 0 := by rw [hm]; simp only [Nat.min_def]; split <;> omega
  have hcp : ∀ ty, (Builtin.copy_ #[28, 28] ty #[.slice (some ⟨w'.heap.size, 0, none⟩) c c, .slice (some ⟨b, 0, none⟩) 1 k]).run prog W1 = .ok (goInt m) (W1.setCells w'.heap.size 0 (List.replicate m (.int .i64 v))) := λty => by
    have := run_copy_cells (P := prog) W1 28 28 ty 3 w'.heap.size 0 c c ⟨b, 0, none⟩ 1 k (List.replicate m (.int .i64 v)) underlying28 hsz (by rw [List.length_replicate, hm])
      (λj u hj => by
        rw [List.getElem?_replicate] at hj;split at hj
        · rename_i h
          have : j = 0 := by have : m ≤ 1 := by rw [hm]; exact Nat.min_le_left _ _
                             omega
          subst this;cases hj;exact hb1
        cases hj)
      (λj hj => h0.isSome (by rw [List.length_replicate] at hj; omega)) (λj hj => h0.ax _) (λu hu => by rw [List.eq_of_mem_replicate hu]; rfl)
    rw [List.length_replicate] at this;exact this
  have h1 : Rp w' c m v (W1.setCells w'.heap.size 0 (List.replicate m (.int .i64 v))) := by
    have := h0.set m (by omega);rwa [Nat.zero_add] at this
  obtain ⟨W2, gY⟩ : ∃ W2, W2 = W1.setCells w'.heap.size 0 (List.replicate m (.int .i64 v)) := ⟨_, rfl⟩;rw [← gY] at hcp h1;have H1 := aa h1;have Xu := aa hcp;clear hW1 gY h0 hb1 hm hbw hcp h1;generalize hB : w'.heap.size = B at *;have hcp := Xu.out 3;go_wp2_with fail;clear hcp;go_loopw [8] (λu wr => ∃ q : Nat, u = .int .i64 q ∧ q ≤ c ∧ (q = 0 → c = 0) ∧ Hid (Rp w' c q v wr)) (λu _ => c - (RowKit.intOf u).toNat)
  case atStart => exact ⟨m, rfl, Xt, hm0, H1⟩
  case round =>
    obtain ⟨q, rfl, hq, hq0, HR⟩ := hrel;by_cases hgo : q < c
    · have hne : ¬ c = q := by omega
      have hne2 : ¬ q = c := by omega
      obtain ⟨r, hr⟩ : ∃ r, r = Nat.min q (c - q) := ⟨_, rfl⟩;have hr1 : q + r ≤ c := by rw [hr]; simp only [Nat.min_def]; split <;> omega
      have hr2 : 0 < r := by rw [hr]; simp only [Nat.min_def]; split <;> omega
      have hr3 : r ≤ q := by rw [hr]; exact Nat.min_le_left _ _
      have hw1 : IntKind.i64.wrap ((q : Int) + (r : Int)) = (q : Int) + (r : Int) := by rw [IntKind.wrap_i64]; omega
      have hcp : ∀ ty dc sc, (Builtin.copy_ #[28, 28] ty #[.slice (some ⟨B, q, none⟩) (c - q) dc, .slice (some ⟨B, 0, none⟩) q sc]).run prog wr.drew = .ok (goInt r) (wr.drew.setCells B q (List.replicate r (.int .i64 v))) := λty dc sc => by
        have := run_copy_cells (P := prog) wr.drew 28 28 ty 3 B q (c - q) dc ⟨B, 0, none⟩ q sc (List.replicate r (.int .i64 v)) underlying28 hsz (by rw [List.length_replicate, hr])
          (λj u hj => by
            rw [List.getElem?_replicate] at hj;split at hj
            · rename_i h
              cases hj;rw [uH, Nat.zero_add, ← hB];exact HR.out.drew.cell (by omega)
            cases hj)
          (λj hj => by rw [← hB]; exact HR.out.drew.isSome (by rw [List.length_replicate] at hj; omega)) (λj hj => by rw [← hB]; exact HR.out.drew.ax _) (λu hu => by rw [List.eq_of_mem_replicate hu]; rfl)
        rw [List.length_replicate] at this;exact this
      have HR2 : Hid (Rp w' c (q + r) v (wr.drew.setCells B q (List.replicate r (.int .i64 v)))) := aa (by rw [← hB]; exact HR.out.drew.set r hr1);obtain ⟨W3, hW3⟩ : ∃ W3, W3 = wr.drew.setCells B q (List.replicate r (.int .i64 v)) := ⟨_, rfl⟩;rw [← hW3] at hcp HR2;have Xv := aa hcp;clear hcp hW3 hr HR;go_wp2_with fail;have Xw := Xv.out 3 (c - q) c;go_region_law fail;clear Xw;go_wp2;go_simp;go_roundw
      case rel => first | exact ⟨q + r, by go_num, hr1, by omega, HR2⟩ | ((repeat apply Exists.intro); exact ⟨⟨q + r, by go_num, hr1, by omega, HR2⟩, rfl⟩)
      case measure => simp [RowKit.intOf]; omega
    obtain rfl : q = c := by omega
    go_wp2;go_ret;rw [hB];exact ⟨rfl, HR.out⟩
end Go.Proofs.YtcfifbgemfladaaGreatDoor
namespace Go.Proofs.YtcfifbgemfladaaGreatDoor
open Go.RowKit au aI Go.Proofs.Tryz
set_option linter.unusedVariables false
set_option maxRecDepth 100000
set_option maxHeartbeats 4000000
namespace aI
def wB (s:AH) (en:Nat):Nat->List Int->Nat->R (List Int)
 | 0,l,i=>.ok (l,i)
 | r+1,l,i=>bd (ru s en i) λc j=>if c<=256-(l.length:Int) then bd (rt s en j) λt j2=>wB s en r (l++List.replicate c.toNat t) j2 else .error 3
def Co (s:AH) (en i:Nat):R (List Int):=bd (rc s en i) λn j=>wB s en n.toNat [] j
end aI
theorem abb (w0:AG) (p:Nat) (s:AH) (c:Nat->Value) (en k i n:Nat) (w:AG) (h:RS w0 p s c en k i n w) :
  Calls prog 102 #[.pointer (some ⟨p,0,none⟩)] w (cz w0 p s c en k n (zr w.heap.size) w (Co s en i)):=by
 have HC:=aa (tN w0 p s c en k i n w h);have hpw:=h.lt;have hlen:=h.len;have hle:=h.le;clear h;unfold Co;cases hx:rc s en i with
 | error z =>
  rw [hx] at HC;rw [bW];clear hx;go_enter func102,ntmps102;go_wp2_with fail;refine HC.out.mono ?_;rintro e w1 ⟨rfl,hb⟩;exact ⟨rfl,rfl,hb⟩
 | ok v =>
  obtain ⟨x,j⟩:=v;have hrc:=rW hlen hx;rw [hx] at HC;rw [aK];obtain ⟨m,rfl⟩:∃m:Nat,x=(m:Int):=⟨x.toNat,by omega⟩;have hm:m<=4096:=by omega
  rw [show ((m:Int).toNat)=m by omega];obtain ⟨R,hR⟩:∃R,R=wB s en m [] j:=⟨_,rfl⟩;rw [<- hR];have HR:=aa hR;clear hx hrc hR hle;go_enter func102,ntmps102;go_wp2_with fail;refine HC.out.mono ?_;rintro e w1 ⟨⟨v,rfl,hv⟩,h1,h2⟩;have hv:v=.int .i64 m:=hv;subst hv;have H1:=aa h1;have H2:=aa h2;clear h1 h2 HC;go_wp2_with fail;go_loopw [3,7] (λt u wr=>∃(q:Nat) (l:List Int) (jq:Nat),q<=m/\u=.int .i64 q/\l.length<=256/\(∃o c,t=.slice o l.length c)/\Hid (R=wB s en (m-q) l jq)/\Hid (RS w0 p s c en k jq n wr)/\Hid (But p w wr)/\Hid (wr.ownsRow w.heap.size 3 1 t l.length (l.map λz=>Value.int .i64 z))) (λ_ u _=>m-(RowKit.intOf u).toNat)
  case atStart=>exact ⟨0,[],j,by omega,rfl,by simp,⟨none,0,rfl⟩,aa (by rw [HR.out];rfl),H1,H2,aa (World.ownsRow_nil _ _ _ _)⟩
  case round =>
   obtain ⟨q,l,jq,hq,rfl,hl,⟨oT,cT,rfl⟩,HP,HS,HB,HO⟩:=hrel;by_cases hgo:q<m
   ·have hU:=jU w0 p s c en k jq n wr HS.out;obtain ⟨r,hr⟩:∃r,m-q=r+1:=⟨m-q-1,by omega⟩;have hr1:m-(q+1)=r:=by omega
    cases hu:ru s en jq with
    | error z =>
     rw [hu] at hU;have HU:=aa hU;have HZ:Hid (R=.error z):=aa (by rw [HP.out,hr];unfold wB;rw [hu];rfl);clear hU hu HP HO;go_wp2_with fail;refine HU.out.mono ?_;rintro e w2 ⟨rfl,hb⟩;exact ⟨rfl,by rw [HZ.out];exact ⟨rfl,hb⟩⟩
    | ok v =>
     obtain ⟨y,j2⟩:=v;rw [hu] at hU;have Lu:=tu hlen hu;obtain ⟨y,rfl⟩:∃y':Nat,y=y':=⟨y.toNat,by omega⟩;have HU:=aa hU;have hw1:IntKind.i64.wrap (256-(l.length:Int))=256-(l.length:Int):=by rw [IntKind.wrap_i64];omega
     by_cases hy:(y:Int)<=256-(l.length:Int)
     ·have hy':(y:Int)<=256-(l.length:Int):=by omega
      have dY:decide ((y:Int)<=256-(l.length:Int))=true:=ay hy';have HN:=λu=>aa (dA 3 u);have hT:=λ(u:AG) (hu:RS w0 p s c en k j2 n u)=>Kl (h:=hu);cases ht:rt s en j2 with
      | error z =>
       rw [ht] at hT;have HT:=aa hT;have HZ:Hid (R=.error z):=aa (by rw [HP.out,hr];unfold wB;rw [hu,aK,AE hy',ht];rfl);clear hU hu HP HO hT ht;go_wp2_with fail;refine HU.out.mono ?_;rintro e w2 ⟨⟨v,rfl,hv⟩,h1,h2⟩;have hv:v=.int .i64 y:=hv;subst hv;go_wp2_with fail;refine (HN _).out.mono ?_;rintro e w3 ⟨rfl,hw⟩;subst hw;go_wp2_with fail;refine (HT.out _ h1).mono ?_;rintro e w4 ⟨rfl,hb⟩;exact ⟨rfl,by rw [HZ.out];exact ⟨rfl,hb⟩⟩
      | ok v =>
       obtain ⟨t,j3⟩:=v;rw [ht] at hT;have HT:=aa hT
       have HZ:Hid (R=wB s en (m-(q+1)) (l++List.replicate y t) j3):=aa (by
        rw [HP.out,hr,hr1]
        conv=>lhs;unfold wB;rw [hu,aK,AE hy',ht]
        rfl)
       clear hU hu HP hT ht;go_wp2_with fail;refine HU.out.mono ?_;rintro e w2 ⟨⟨v,rfl,hv⟩,h1,h2⟩;have hv:v=.int .i64 y:=hv;subst hv;go_wp2_with fail;refine (HN _).out.mono ?_;rintro e w3 ⟨rfl,hw⟩;subst hw;go_wp2_with fail;refine (HT.out _ h1).mono ?_;rintro e w4 ⟨⟨v,rfl,hv⟩,h3,h4⟩;have hv:v=.int .i64 t:=hv;subst hv;obtain ⟨w5,Hr⟩:∃w5,w5=w4.alloc (.cells #[.int .i64 t] 3):=⟨_,rfl⟩;have hb5:AS w4 w5:=by rw [Hr];exact aQ w4 _
       have Sv:w5.cell? ⟨w4.heap.size,0,none⟩=some (.int .i64 t):=by rw [Hr];exact Gx w4 (.int .i64 t) 3 0 _ rfl
       have Sw:=aa (Xr t y w4.heap.size 1 w5 (by omega) Sv);have sj:=aa (Jg (qV (qV HO.out hpw h2) hpw h4) hb5);have AF:=aa (((HB.out.trans h2).trans h4).trans (But.of p hb5));have xj:=aa (h3.on hb5);clear h1 h2 h3 h4 HU HN HT HO HS HB Sv hb5;go_wp2_with fail;rw [<- Hr];clear Hr;refine Sw.out.mono ?_;rintro e w6 ⟨rfl,nH⟩;have Bs:=aa (Jg sj.out nH.below);have AJ:=aa (AF.out.trans (But.of p nH.below));have Fh:=aa (xj.out.on nH.below);have iA:Hid (w.heap.size<=w6.heap.size):=aa AJ.out.size
       have Sy:Hid (∀j u,(List.replicate y (Value.int .i64 t))[j]?=some u->w6.cell? ((⟨w5.heap.size,0,none⟩:Addr).add j)=some u):=aa λj u hj=>by
        rw [List.getElem?_replicate] at hj;split at hj
        ·rename_i h;cases hj;rw [uH,Nat.zero_add];exact nH.cell h
        cases hj
       clear nH Sw sj AF xj;obtain ⟨i0,hi,hz0,hz1,hz2⟩:=info_parts Gh;go_wp2_with (first|(at_builtin;refine tO rfl _ _ 28 rfl w.heap.size 3 i0 _ 1 8 underlying28 hi hz0 hz1 hz2 rfl (by decide) _ _ _ rfl Bs.out (some ⟨w5.heap.size,0,none⟩) y y (List.replicate y (.int .i64 t)) rfl ?c6 ?c0 ?c1 ?c2 ?c3 ?c4 ?c5 ?_))
       case c6=>intro h;cases h
       case c0=>rw [List.length_replicate,Nat.mul_one]
       case c1=>exact λad h=>by injection h with h;subst h;exact Sy.out
       case c2=>exact λu hu=>by rw [List.eq_of_mem_replicate hu];rfl
       case c3=>unfold maxLen;omega
       case c4=>omega
       case c5=>have:=iA.out;omega
       intro v9 w9 dO cE _;have dP:∀q',(Value.slice oT l.length cT).ownBlock=some q'->w.heap.size<=q':=λq' hq'=>(Bs.out.lt q' hq').1;have jZ:=aa (Fh.out.grown cE (λq' hq'=>jg hpw (dP q' hq')));have jw:=aa (But.grown (p:=p) AJ.out cE dP);have xE:(l++List.replicate y t).length=l.length+y:=by simp
       have kQ:Hid (w9.ownsRow w.heap.size 3 1 v9 (l++List.replicate y t).length ((l++List.replicate y t).map λz=>Value.int .i64 z)):=aa (by rw [xE,qw,List.map_replicate];exact dO);have hsl:=rU dO;rw [<- xE] at hsl;clear dO cE dP Bs Sy AJ Fh;obtain ⟨oN,cN,rfl⟩:=hsl;generalize hl9:l++List.replicate y t=l9 at *;go_wp2;go_roundw
       case rel=>exact ⟨q+1,l9,j3,by omega,by go_num,by omega,⟨_,_,rfl⟩,HZ,jZ,jw,kQ⟩
       case measure=>simp [RowKit.intOf];omega
     have hy':¬ (y:Int)<=256-(l.length:Int):=by omega
     have dY:decide ((y:Int)<=256-(l.length:Int))=false:=aj hy';have HN:=λu=>aa (iX 3 u);have HZ:Hid (R=.error 3):=aa (by rw [HP.out,hr];unfold wB;rw [hu,aK,AD hy']);clear hU hu HP HO;go_wp2_with fail;refine HU.out.mono ?_;rintro e w2 ⟨⟨v,rfl,hv⟩,h1,h2⟩;have hv:v=.int .i64 y:=hv;subst hv;go_wp2_with fail;refine (HN _).out.mono ?_;rintro e w3 ⟨rfl,hw⟩;exact ⟨rfl,by rw [HZ.out];exact ⟨rfl,by rw [hw];exact h1.below⟩⟩
   obtain rfl:q=m:=by omega
   have HZ:Hid (R=.ok (l,jq)):=aa (by rw [HP.out,Nat.sub_self];rfl);have HV:Hid (zr w.heap.size l (.slice oT l.length cT) wr):=aa (JL (l:=l) HO.out (by omega));clear HP HO;go_wp2;go_ret;rw [HZ.out];exact ⟨⟨_,rfl,HV.out⟩,HS.out,HB.out⟩
section
variable (w0:AG) (p:Nat) (s:AH) (c:Nat->Value) (en k i n:Nat) (w:AG) (h:RS w0 p s c en k i n w)
include h
theorem NC (bits:Int) (hbt:bits=32\/bits=64):Calls prog 122 #[.pointer (some ⟨p,0,none⟩),.int .i64 bits] w (cz w0 p s c en k n BQ w (rs s en bits i)):=by
 have c0:=h.cell 0 _ rfl;have c1:=h.cell 1 _ rfl;have c2:=h.cell 2 _ rfl;have hle:=h.len;have hz:(s.extract 0 en).size=en:=by rw [ByteArray.size_extract];omega
 have HU:=λu=>aa (c16 (s.extract 0 en) i bits u (by have:=h.big;omega));have H:=aa h;have ht:((en:Int).toNat)=en:=by omega
 unfold rs;obtain ⟨N,hN⟩:∃N,N=(af.jW (s.extract 0 en) i bits).1:=⟨_,rfl⟩;obtain ⟨J,hJ⟩:∃J,J=(af.jW (s.extract 0 en) i bits).2.1:=⟨_,rfl⟩;obtain ⟨E,hE⟩:∃E,E=(af.jW (s.extract 0 en) i bits).2.2:=⟨_,rfl⟩;have hok:=Jj (s.extract 0 en) i bits;rw [<- hN,<- hJ,<- hE,hz] at hok;rw [<- hN,<- hJ,<- hE];simp only [<- hN,<- hJ,<- hE] at HU;clear hN hJ hE h;by_cases he:E=0
 ·rw [AE he];obtain ⟨b1,b2,b3,b4,_⟩:=hok he;obtain ⟨j,rfl⟩:∃j:Nat,J=(j:Int):=⟨J.toNat,by omega⟩;subst he;have Du:((j:Int).toNat)=j:=by omega
  rw [Du];have HB:Hid (j<=en):=aa (by omega);clear hok hz Du b1 b2;go_enter func122,ntmps122;go_wp2_with fail;go_region_with (first|(go_at_call 128;refine (HU _).out.mono ?_;rintro e u ⟨rfl,hb⟩))
  all_goals (
   have HB1:=aa hb;have HR:=aa ((H.out.on (mE w 1)).on hb);have f1:=HR.out.ax 1;have d1:=HR.out.cell 1 _ rfl;have AL:Hid (But p w u):=aa ((But.of p (wX w)).trans (But.of p hb));clear hb HU HB1;go_wp2_with fail;refine (dA _ _).mono ?_;rintro e u2 ⟨rfl,rfl⟩;go_wp2;go_ret;exact ⟨⟨_,rfl,rfl⟩,HR.out.at_ HB.out,AL.out.trans (But.set p 1 _ _)⟩)
 rw [AD he];have hq:(E==0)=false:=by rw [wY];exact he
 clear hok hz;go_enter func122,ntmps122;go_wp2_with fail;go_region_with (first|(go_at_call 128;refine (HU _).out.mono ?_;rintro e u ⟨rfl,hb⟩))
 all_goals (
  have HB1:=aa ((H.out.below.drew).trans (hb.mono (by have:=H.out.below.size;simp;omega)));clear hb HU;go_wp2_with fail;refine (iX _ _).mono ?_;rintro e u2 ⟨rfl,rfl⟩;exact ⟨rfl,rfl,HB1.out⟩)
end
end Go.Proofs.YtcfifbgemfladaaGreatDoor
