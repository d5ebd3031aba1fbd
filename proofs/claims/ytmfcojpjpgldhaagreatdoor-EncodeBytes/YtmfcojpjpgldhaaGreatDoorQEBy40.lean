/- Texts that the claim needs. -/
import Derived.Test.YtmfcojpjpgldhaaGreatDoorQEBy37
import Derived.Test.YtmfcojpjpgldhaaGreatDoorQEBy38
import Derived.Test.YtmfcojpjpgldhaaGreatDoorQEBy39
import Derived.Test.YtmfcojpjpgldhaaGreatDoorQEBy34
import Derived.Lib.SlBytesConst
import Derived.Laws.EntriesVeiled
import Derived.Test.YtmfcojpjpgldhaaGreatDoorQEBy6
import Derived.Test.YtmfcojpjpgldhaaGreatDoorQEBy0
import Derived.Deep.CutRange
import Derived.Test.YtmfcojpjpgldhaaGreatDoorQEBy36
namespace Go.Proofs.YtmfcojpjpgldhaaGreatDoor
open Go.RowKit aA Go.Proofs.Tryz
set_option linter.unusedVariables false
namespace aA
structure Cq {d:Nat} (v3 v4:Value) (m:Mod d):Prop where
 deep:d<=4611686018427387904
 ax:∀x ∈ m.ax,x.bytes.size<=9223372036854775807
 texts:zF m
 tables:∀n c,v3=.slice none n c->c=0
 aD:∀n c,v4=.slice none n c->c=0
theorem Sj {d:Nat} {m:Mod d} (h:nO m=true):m.tables.length<=4096/\m.aD.length<=4096:=by
 unfold nO at h;rw [gm] at h;have h1:=iF.1 h.1;have a:=h1 (len m.tables) (by simp);have b:=h1 (len m.aD) (by simp);have a:=of_decide_eq_true (p:=((m.tables.length:Int)<=4096)) a;have b:=of_decide_eq_true (p:=((m.aD.length:Int)<=4096)) b;omega
end aA
theorem Kj {I:World->Prop} (C:vF I) (d:Nat) (v0 v1 v2 v3 v4 v5 v6 v7 v8 v9:Value) (m:Mod d) (w:World) (hI:I w) (hM:da w d v0 v1 v2 v3 v4 v5 v6 v7 v8 v9 m) (hO:Cq v3 v4 m) :
  Calls prog 12 #[.agg #[v0,v1,v2,v3,v4,v5,v6,v7,v8,v9]] w λe w'=>e=.returned (.int .i64 (mF m))/\Below w.heap.size w w':=by
 refine Sk C.todB d hO.deep v0 v1 v2 v3 v4 v5 v6 v7 v8 v9 m w hI hM hO.ax λhf w' hb=>?_;have hl:=Sj hf;have Ed:=hM.on hb;obtain ⟨o3,c3,e3⟩:=Row.len Ed.tables;obtain ⟨o4,c4,e4⟩:=Row.len Ed.aD;refine Sl C d v0 v1 v2 v3 v4 v5 v6 v7 v8 v9 m w' (C.keep hb hI) Ed hO.texts λu b hu k0 k1=>?_;have hM2:=Ed.on hu;have r3:=hM2.tables;have r4:=hM2.aD;rw [e3] at r3 k0;rw [e4] at r4 k1;refine Sm m.tables m.aD o3 o4 c3 c4 u b r3 r4 (λh=>?_) (λh=>?_) k0 k1 hl.1 hl.2
 ·subst h;exact hO.tables _ _ e3
 subst h;exact hO.aD _ _ e4
theorem Sq {I:World->Prop} (C:gh I) (hU:∀w,I w->ym w):vF I :=
 { todB:=RP C,name:=λs w h hs=>Sr s w hs (hU w h) }
theorem Ss {w w':World} (hb:Below w.heap.size w w') (h:ym w):ym w':=Utf8Tabs_below h hb
end Go.Proofs.YtmfcojpjpgldhaaGreatDoor
namespace Go.Proofs.YtmfcojpjpgldhaaGreatDoor
open Go.RowKit aA Enc Go.Lib Go.Proofs.Tryz
set_option linter.unusedVariables false
set_option maxRecDepth 100000
set_option maxHeartbeats 4000000
namespace Enc
def Og (bs:List Int):ByteArray:=if 262144<bs.length then ⟨#[]⟩ else strOfNums bs
def Oh (bs:List Int):Int:=if 262144<bs.length then 2 else 0
theorem GF (bs:List Int):told bs=.tuple #[.string (Og bs),.int .i64 (Oh bs)]:=by
 unfold told Og Oh;split<;>rfl
theorem aal {a x b:List Int} (h:rA a x b):told b=told (a++x):=by
 rcases h with rfl|⟨h1,h2,_⟩
 ·rfl
 unfold told;rw [if_pos h1,if_pos (by rw [aB];exact h2)]
def WX (w0:World) (p:Nat) (c:Nat->Value) (v:Value) (b:List Int) (w:World):Prop:=WS w0 p c v b w\/(b=jI/\WN w0 p c v w)
section
variable {w0 w w':World} {p:Nat} {c:Nat->Value} {v:Value} {b:List Int}
theorem WX.on (h:WX w0 p c v b w) (hb:Below w.heap.size w w'):WX w0 p c v b w':=h.imp (λh=>h.on hb) λh=>⟨h.1,h.2.on hb⟩
theorem WX.lt (h:WX w0 p c v b w):p<w.heap.size:=by
 rcases h with h|⟨_,h⟩
 ·exact h.lt
 exact h.lt
theorem WX.own (h:WX w0 p c v b w):∀k,v.ownBlock=some k->k<w.heap.size:=by
 rcases h with h|⟨_,h⟩
 ·exact λk hk=>(h.own.lt k hk).2
 obtain ⟨g,rfl,_,_,hg⟩:=h.row;intro k hk
 have:g=k:=by simpa [Value.ownBlock] using hk
 subst this;exact (kD.1 hg).1
theorem WX.below (h:WX w0 p c v b w):Below w0.heap.size w0 w:=by
 rcases h with h|⟨_,h⟩
 ·exact h.below
 exact h.below
theorem WX.put (h:WX w0 p c v b w) (hn:b.length<=100000000000000):CS w0 p c v b w:=by
 rcases h with h|⟨rfl,h⟩
 ·exact CS.of h hn
 exact λb w' hb=>ZI w0 p c v b w' (h.on hb)
theorem WX.told (h:WX w0 p c v b w) (hn:b.length<=100000000000000) (h0:0<b.length):Calls prog 15 #[.pointer (some ⟨p,0,none⟩)] w λe w'=>e=.returned (told b)/\w'=w:=by
 rcases h with h|⟨rfl,h⟩
 ·exact RU w0 p c v b w h hn h0
 exact ZJ w0 p c v w h
end
theorem aam (w0:World) (p:Nat) (c:Nat->Value) (id:Int) (n:Nat) (F:FuncId) (f:Nat->List Int) (v:Value) (b:List Int) (w:World) (h:WX w0 p c v b w) (hS:qL w0 p c id n F f) (hid:0<=id/\id<=255) (hlen:b.length+(eZ id n (gV id n f)).length<=38800000000000) :
  Calls prog 14 #[.pointer (some ⟨p,0,none⟩),.agg #[.int .i64 id,.int .i64 (n:Nat),.func (.func F) #[.pointer (some ⟨p,0,none⟩)] #[]]] w λe w'=>∃v' b',e=.returned (.tuple #[])/\WX w0 p c v' b' w'/\Kept p v w v' w'/\So b (eZ id n (gV id n f)) b':=by
 rcases Nat.eq_zero_or_pos n with rfl|hn
 ·refine (XU p id F w).mono ?_;rintro e w' ⟨rfl,hb⟩;exact ⟨v,b,rfl,h.on hb,Kept.below hb,by unfold eZ;rw [if_pos rfl];exact So.refl b⟩
 have hs:eZ id n (gV id n f) = [id]++dW (gV id n f):=by unfold eZ;rw [if_neg (by omega)]
 rw [hs] at hlen ⊢;refine (XV w0 p c id n F f v b w (h.put (by omega)) h.lt h.own hS hn hid (by unfold dW at hlen;simp only [aB] at hlen;omega)).mono ?_;rintro e w' ⟨v',b',rfl,h1,h2,h3,h4⟩;exact ⟨v',b',rfl,.inl h1,h2,h3,h4⟩
def AY {d:Nat} (m:Mod d):Value:=if mF m=0 then told (sQ m) else .tuple #[.string ⟨#[]⟩,.int .i64 (mF m)]
end Enc
theorem aan {I:World->Prop} (C:vF I) (d:Nat) (v0 v1 v2 v3 v4 v5 v6 v7 v8 v9:Value) (m:Mod d) (w:World) (hI:I w) (hM:da w d v0 v1 v2 v3 v4 v5 v6 v7 v8 v9 m) (hO:Cq v3 v4 m) (h0:mF m≠0) :
  Calls prog 7 #[.agg #[v0,v1,v2,v3,v4,v5,v6,v7,v8,v9]] w λe w'=>e=.returned (.tuple #[.string ⟨#[]⟩,.int .i64 (mF m)])/\Below w.heap.size w w':=by
 have hb:=aU w (.cells #[v0,v1,v2,v3,v4,v5,v6,v7,v8,v9] 32);have HB:=aa hb;obtain ⟨o0,k0,rfl⟩:=Row.len hM.types;obtain ⟨o1,k1,rfl⟩:=Row.len hM.imports;obtain ⟨o2,k2,rfl⟩:=Row.len hM.funcs;obtain ⟨o3,k3,rfl⟩:=Row.len hM.tables;obtain ⟨o4,k4,rfl⟩:=Row.len hM.aD;obtain ⟨o5,k5,rfl⟩:=Row.len hM.globals;obtain ⟨o6,k6,rfl⟩:=Row.len hM.exports;obtain ⟨o7,k7,rfl⟩:=Row.len hM.start;obtain ⟨o8,k8,rfl⟩:=Row.len hM.elems;obtain ⟨o9,k9,rfl⟩:=Row.len hM.ax;have HC:=aa (Kj C d _ _ _ _ _ _ _ _ _ _ m _ (C.keep hb hI) (hM.on hb) hO);clear hM hO hI hb;generalize m.types.length=n0 at *;generalize m.imports.length=n1 at *;generalize m.funcs.length=n2 at *;generalize m.tables.length=n3 at *;generalize m.aD.length=n4 at *;generalize m.globals.length=n5 at *;generalize m.exports.length=n6 at *;generalize m.start.length=n7 at *;generalize m.elems.length=n8 at *;generalize m.ax.length=n9 at *;generalize mF m=r at *;go_enter func7,ntmps7;go_wp2_with fail;refine HC.out.mono ?_;rintro e w1 ⟨rfl,hb1⟩;have HB1:=aa (HB.out.trans (hb1.mono HB.out.size));clear hb1 HB HC;go_wp2;go_ret2;exact ⟨rfl,HB1.out⟩
theorem Oi {I:World->Prop} (C:vF I) (d:Nat) (v0 v1 v2 v3 v4 v5 v6 v7 v8 v9:Value) (m:Mod d) (w:World) (hI:I w) (hM:da w d v0 v1 v2 v3 v4 v5 v6 v7 v8 v9 m) (hO:Cq v3 v4 m) (h0:mF m=0) (W:Wr m) :
  Calls prog 7 #[.agg #[v0,v1,v2,v3,v4,v5,v6,v7,v8,v9]] w λe w'=>e=.returned (told (sQ m))/\Below w.heap.size w w':=by
 have hkc:=λ(w:World) (C:Array Value) (n c:Nat)=>Lib.run_convert_bytes_const (P:=prog) w 59 5 C n c underlying59 underlying5;have hb:=aU w (.cells #[v0,v1,v2,v3,v4,v5,v6,v7,v8,v9] 32)
 have hC0:Calls prog 12 #[.agg #[v0,v1,v2,v3,v4,v5,v6,v7,v8,v9]] (w.alloc (.cells #[v0,v1,v2,v3,v4,v5,v6,v7,v8,v9] 32)) λe w'=>e=.returned (.int .i64 0)/\Below (w.alloc (.cells #[v0,v1,v2,v3,v4,v5,v6,v7,v8,v9] 32)).heap.size (w.alloc (.cells #[v0,v1,v2,v3,v4,v5,v6,v7,v8,v9] 32)) w':=by
  have:=Kj C d _ _ _ _ _ _ _ _ _ _ m _ (C.keep hb hI) (hM.on hb) hO
  rw [h0] at this;exact this
 have cg:=aa (Bx.new (w:=w) (b:=w.heap.size) (t:=32) (cs:=#[v0,v1,v2,v3,v4,v5,v6,v7,v8,v9]) rfl);obtain ⟨c,hc⟩:∃c:Nat->Value,c=λi=>(#[v0,v1,v2,v3,v4,v5,v6,v7,v8,v9]).getD i undef:=⟨_,rfl⟩
 have Oj:Hid (∀(p j:Nat),j<11->∃(id:Int) (n:Nat) (F:FuncId) (f:Nat->List Int),(xB p (ln m))[j*3]?=some (.int .i64 id)/\(xB p (ln m))[j*3+1]?=some (.int .i64 (n:Nat))/\(xB p (ln m))[j*3+2]?=some (.func (.func F) #[.pointer (some ⟨p,0,none⟩)] #[])/\(0<=id/\id<=255)/\qL w p c id n F f/\sb m j=eZ id n (gV id n f)) :=
  aa λp j hj=>Xo C.todB w hI p c d m (by rw [hc];exact hM) W j hj
 have Ol:Hid (∀w1:World,Below w.heap.size w w1->WN w (w1.heap.size+1) c (.slice (some ⟨w1.heap.size,0,none⟩) 8 8) ((w1.alloc (.cells #[.int .u8 0,.int .u8 97,.int .u8 115,.int .u8 109,.int .u8 1,.int .u8 0,.int .u8 0,.int .u8 0] 5 (8,9))).alloc (.cells #[v0,v1,v2,v3,v4,v5,v6,v7,v8,v9,.slice (some ⟨w1.heap.size,0,none⟩) 8 8] 61))):=aa λw1 hb1 =>
  ⟨hb1.trans ((((Below.refl _ w1).alloc (aI _) _).alloc (by simp) _).mono hb1.size),by have:=hb1.size;omega,by rw [hc];exact Mq _ _ _,w1.heap.size,rfl,hb1.size,by omega,by
   have h1:=aU (w1.alloc (.cells #[.int .u8 0,.int .u8 97,.int .u8 115,.int .u8 109,.int .u8 1,.int .u8 0,.int .u8 0,.int .u8 0] 5 (8,9))) (.cells #[v0,v1,v2,v3,v4,v5,v6,v7,v8,v9,.slice (some ⟨w1.heap.size,0,none⟩) 8 8] 61);rw [h1.block _ (by simp)];exact tF _ _⟩
 have Ir:Hid (sQ m=jI++aH (sb m) 11/\(sQ m).length<=38000000000000):=aa ⟨Mb m,W.short⟩;have HB:=aa hb;have HC:=aa hC0;obtain ⟨o0,k0,rfl⟩:=Row.len hM.types;obtain ⟨o1,k1,rfl⟩:=Row.len hM.imports;obtain ⟨o2,k2,rfl⟩:=Row.len hM.funcs;obtain ⟨o3,k3,rfl⟩:=Row.len hM.tables;obtain ⟨o4,k4,rfl⟩:=Row.len hM.aD;obtain ⟨o5,k5,rfl⟩:=Row.len hM.globals;obtain ⟨o6,k6,rfl⟩:=Row.len hM.exports;obtain ⟨o7,k7,rfl⟩:=Row.len hM.start;obtain ⟨o8,k8,rfl⟩:=Row.len hM.elems;obtain ⟨o9,k9,rfl⟩:=Row.len hM.ax
 have Om:Hid (∀i,i<10->c i=.slice ((#[o0,o1,o2,o3,o4,o5,o6,o7,o8,o9]).getD i none) (ln m i) ((#[k0,k1,k2,k3,k4,k5,k6,k7,k8,k9]).getD i 0)):=aa λi hi=>by
  rw [hc]
  match i,hi with
  | 0,_=>rfl|1,_=>rfl|2,_=>rfl|3,_=>rfl|4,_=>rfl|5,_=>rfl|6,_=>rfl|7,_=>rfl|8,_=>rfl|9,_=>rfl
 clear hM hO hI hb hC0 hc W;obtain ⟨S,E,vQ⟩:∃S E,told (sQ m)=.tuple #[.string S,.int .i64 E]:=⟨_,_,GF _⟩;rw [vQ];have xy:=aa vQ;clear vQ;generalize m.types.length=n0 at *;generalize m.imports.length=n1 at *;generalize m.funcs.length=n2 at *;generalize m.tables.length=n3 at *;generalize m.aD.length=n4 at *;generalize m.globals.length=n5 at *;generalize m.exports.length=n6 at *;generalize m.start.length=n7 at *;generalize m.elems.length=n8 at *;generalize m.ax.length=n9 at *;go_enter func7,ntmps7;go_wp2_with fail;refine HC.out.mono ?_;rintro e w1 ⟨rfl,hb1⟩;have CX:Hid (Bx w1 w.heap.size 32 #[.slice o0 n0 k0,.slice o1 n1 k1,.slice o2 n2 k2,.slice o3 n3 k3,.slice o4 n4 k4,.slice o5 n5 k5,.slice o6 n6 k6,.slice o7 n7 k7,.slice o8 n8 k8,.slice o9 n9 k9]):=aa (by unfold Bx;rw [hb1.block _ cg.out.lt];exact cg.out);have HB1:=aa (HB.out.trans (hb1.mono HB.out.size));clear hb1 HB HC cg;obtain ⟨q0,q1,q2,q3,q4,q5,q6,q7,q8,q9⟩:=CX.out.mE;go_upto_region 5 with fail;obtain ⟨w2,hw2⟩:∃w2,w2=((w1.alloc (.cells #[.int .u8 0,.int .u8 97,.int .u8 115,.int .u8 109,.int .u8 1,.int .u8 0,.int .u8 0,.int .u8 0] 5 (8,9))).alloc (.cells #[.slice o0 n0 k0,.slice o1 n1 k1,.slice o2 n2 k2,.slice o3 n3 k3,.slice o4 n4 k4,.slice o5 n5 k5,.slice o6 n6 k6,.slice o7 n7 k7,.slice o8 n8 k8,.slice o9 n9 k9,.slice (some ⟨w1.heap.size,0,none⟩) 8 8] 61)):=⟨_,rfl⟩;have HN:=aa (Ol.out w1 HB1.out);rw [<- hw2] at HN ⊢;clear hw2 q0 q1 q2 q3 q4 q5 q6 q7 q8 q9 CX HB1 Ol hkc;have HS:=aa (Oj.out (w1.heap.size+1));clear Oj;generalize hp:w1.heap.size+1=p at HN HS ⊢;generalize hg:w1.heap.size=g0 at *;clear hp hg;have HC:=aa (XY p _ _ _ w2 (λi hi=>by rw [HN.out.rJ i hi];exact congrArg some (Om.out i hi)));go_wp2_with fail;refine HC.out.mono ?_;rintro e w3 ⟨rfl,hsc,hb3⟩;clear HC Om;have HBS:Hid (Bx w3 (w2.heap.size+1) 66 (xB p (ln m))):=aa hsc
 have bH:Hid (w2.heap.size+1≠p/\w2.heap.size+1≠g0):=aa ⟨by have:=HN.out.lt;omega,by
  obtain ⟨g,h1,_,_,h4⟩:=HN.out.row;injection h1 with h1 _ _;injection h1 with h1;injection h1 with h1 _ _
  have:=(kD.1 h4).1
  omega⟩
 have Oo:Hid (WX w p c (.slice (some ⟨g0,0,none⟩) 8 8) jI w3):=aa (.inr ⟨rfl,HN.out.on hb3⟩);clear hsc hb3 HN;generalize w2.heap.size+1=gs at *;go_wp2_with fail;go_loopw [21] (λi wr=>∃(j:Nat) (v:Value) (b:List Int),j<=11/\i=.int .i64 j/\Hid (WX w p c v b wr)/\Hid (Kept p (.slice (some ⟨g0,0,none⟩) 8 8) w3 v wr)/\Hid (So jI (aH (sb m) j) b)) (λi _=>11-(Lib.intOf i).toNat)
 case atStart=>exact ⟨0,_,_,by omega,rfl,Oo,aa (Kept.refl _ _ _),aa (So.refl _)⟩
 case round =>
  clear Oo;obtain ⟨j,v,b,hj,rfl,HX,HK,aR⟩:=hrel;by_cases hgo:j<11
  ·obtain ⟨id,n,F,f,e0,e1,e2,hid,Oq,hsb⟩:=HS.out j hgo;obtain ⟨bS,_⟩:=HK.out.bx HBS.out bH.out.1 (λe=>bH.out.2 (by simpa [Value.ownBlock] using e));have z0:=bS.cell _ _ e0;have z1:=bS.cell _ _ e1;have z2:=bS.cell _ _ e2;clear bS e0 e1 e2;have hfs:=lW (sb m) (j+1) 11 (by omega);have hfe:aH (sb m) (j+1)=aH (sb m) j++eZ id n (gV id n f):=by show aH (sb m) j++sb m j=_;rw [hsb]
   rw [hfe,aB] at hfs;have HFE:=aa hfe;have Iu:=Ir.out;rw [Iu.1,aB] at Iu;have hbl:b.length+(eZ id n (gV id n f)).length<=38800000000000:=by have:=aR.out.2;omega
   obtain ⟨u1,hu1⟩:∃u1,u1=wr.alloc (.cells #[.int .i64 id,.int .i64 (n:Nat),.func (.func F) #[.pointer (some ⟨p,0,none⟩)] #[]] 66):=⟨_,rfl⟩;have Iv:Below wr.heap.size wr u1:=by rw [hu1];exact aU _ _
   have hbx:Bx u1 wr.heap.size 66 #[.int .i64 id,.int .i64 (n:Nat),.func (.func F) #[.pointer (some ⟨p,0,none⟩)] #[]]:=by rw [hu1];exact Bx.new rfl
   have y0:=hbx.cell 0 _ rfl;have y1:=hbx.cell 1 _ rfl;have y2:=hbx.cell 2 _ rfl;have Ap:=aa (aam w p c id n F f v b u1 (HX.out.on Iv) Oq hid hbl);have aO:=aa (HK.out.trans (Kept.below (p:=p) (v:=v) Iv));have HU:=aa hu1;clear hsb hfs hfe Iu hbl hu1 Iv hbx Oq hid HX HK;go_upto_region 8 with fail;rw [<- HU.out];clear HU z0 z1 z2;generalize wr.heap.size=p3 at *;go_wp2_with fail;refine Ap.out.mono ?_;rintro e w4 ⟨v4,b4,rfl,h4,k4,s4⟩;have HX4:=aa h4;have bO:=aa (aO.out.trans k4);have iR:Hid (So jI (aH (sb m) (j+1)) b4):=aa (by rw [HFE.out];exact aR.out.adds s4.1 s4.2);clear h4 k4 s4 Ap aO y0 y1 y2;go_wp2;go_roundw
   case rel=>exact ⟨j+1,v4,b4,by omega,by go_num,HX4,bO,iR⟩
   case measure=>simp [Lib.intOf];omega
  obtain rfl:j=11:=by omega
  have hlb:jI.length<=b.length:=aR.out.1.le
  have HC:=aa (HX.out.told (by
   have h1:=aR.out.2;have h2:=Ir.out;rw [h2.1,aB] at h2;omega) (by have:jI.length=8:=rfl;omega))
  have ht:told b=.tuple #[.string S,.int .i64 E]:=by rw [aal aR.out.1,<- Ir.out.1];exact xy.out
  rw [ht] at HC;have cK:=aa HX.out.below;clear hlb ht;go_wp2_with fail;refine HC.out.mono ?_;rintro e w5 ⟨rfl,rfl⟩;go_wp2;go_ret2;exact ⟨rfl,cK.out⟩
theorem Ve {I:World->Prop} (C:vF I) (d:Nat) (v0 v1 v2 v3 v4 v5 v6 v7 v8 v9:Value) (m:Mod d) (w:World) (hI:I w) (hM:da w d v0 v1 v2 v3 v4 v5 v6 v7 v8 v9 m) (hO:Cq v3 v4 m) (W:mF m=0->Wr m) :
  Calls prog 7 #[.agg #[v0,v1,v2,v3,v4,v5,v6,v7,v8,v9]] w λe w'=>e=.returned (AY m)/\Below w.heap.size w w':=by
 unfold AY;by_cases h0:mF m=0
 ·rw [if_pos h0];exact Oi C d v0 v1 v2 v3 v4 v5 v6 v7 v8 v9 m w hI hM hO h0 (W h0)
 rw [if_neg h0];exact aan C d v0 v1 v2 v3 v4 v5 v6 v7 v8 v9 m w hI hM hO h0
end Go.Proofs.YtmfcojpjpgldhaaGreatDoor
namespace Go.Proofs.YtmfcojpjpgldhaaGreatDoor
open Go.RowKit aA Go.Proofs.Tryz
set_option linter.unusedVariables false
set_option maxRecDepth 100000
set_option maxHeartbeats 8000000
namespace aA
theorem rN (n:Nat):few (n:Int)=true↔n<=4096:=by
 unfold few;rw [decide_eq_true_iff];omega
theorem UU (n:Nat):CH (n:Int)=true↔n<=1:=by
 unfold CH;rw [decide_eq_true_iff];omega
theorem UW {d:Nat} (f:gy d):vL f=true↔f.locals.length<=256:=by
 unfold vL;rw [decide_eq_true_iff];omega
theorem UX {d:Nat} (m:Mod d):nO m=true ↔
  (m.types.length<=4096/\m.imports.length<=4096/\m.funcs.length<=4096/\m.tables.length<=4096/\m.aD.length<=4096/\m.globals.length<=4096/\m.exports.length<=4096/\m.elems.length<=4096/\m.ax.length<=4096/\m.start.length<=1) /\
  (∀x ∈ m.types,x.params.length<=4096/\x.results.length<=4096)/\(∀x ∈ m.funcs,x.locals.length<=256)/\(∀x ∈ m.elems,x.funcs.length<=4096)/\room 262144 m.ax=true:=by
 unfold nO;simp only [gm,iF,List.all_cons,List.all_nil,len,zN,sN,UW,UU,rN,and_true];constructor
 ·rintro ⟨⟨a,b,c,e,f⟩,⟨g,h,i,j⟩,k,l,p,q,r⟩;exact ⟨⟨a,b,c,e,f,g,h,i,j,k⟩,l,p,q,r⟩
 rintro ⟨⟨a,b,c,e,f,g,h,i,j,k⟩,l,p,q,r⟩;exact ⟨⟨a,b,c,e,f⟩,⟨g,h,i,j⟩,k,l,p,q,r⟩
theorem Gx {α:Type} {l:List α} {p:α->Prop} {j:Nat} {x:α} (h:∀t y,t<j->l[t]?=some y->p y) (hx:l[j]?=some x) (hp:p x):∀t y,t<j+1->l[t]?=some y->p y:=λt y ht hy=>by
 by_cases h2:t<j
 ·exact h t y h2 hy
 obtain rfl:t=j:=by omega
 obtain rfl:x=y:=Option.some.inj (hx.symm.trans hy);exact hp
theorem Gy {α:Type} {l:List α} {p:α->Prop} {n:Nat} (hn:l.length=n) (h:∀t y,t<n->l[t]?=some y->p y):∀x ∈ l,p x:=λx hx=>by
 obtain ⟨i,hi,rfl⟩:=List.getElem_of_mem hx;exact h i _ (by omega) (aY hi)
end aA
theorem UY (d:Nat) (v0 v1 v2 v3 v4 v5 v6 v7 v8 v9:Value) (m:Mod d) (w:World) (hM:da w d v0 v1 v2 v3 v4 v5 v6 v7 v8 v9 m) (hsz:∀x ∈ m.ax,x.bytes.size<=4611686018427387904) :
  Calls prog 50 #[.agg #[v0,v1,v2,v3,v4,v5,v6,v7,v8,v9]] w λe w'=>e=.returned (.bool (!nO m))/\Below w.heap.size w w':=by
 have l0:=hM.types.1;have l1:=hM.imports.1;have l2:=hM.funcs.1;have l3:=hM.tables.1;have l4:=hM.aD.1;have l5:=hM.globals.1;have l6:=hM.exports.1;have l7:=hM.start.1;have l8:=hM.elems.1;have l9:=hM.ax.1;have HM:=aa hM;have HZ:=aa hsz;obtain ⟨o0,c0,rfl⟩:=Row.len hM.types;obtain ⟨o1,c1,rfl⟩:=Row.len hM.imports;obtain ⟨o2,c2,rfl⟩:=Row.len hM.funcs;obtain ⟨o3,c3,rfl⟩:=Row.len hM.tables;obtain ⟨o4,c4,rfl⟩:=Row.len hM.aD;obtain ⟨o5,c5,rfl⟩:=Row.len hM.globals;obtain ⟨o6,c6,rfl⟩:=Row.len hM.exports;obtain ⟨o7,c7,rfl⟩:=Row.len hM.start;obtain ⟨o8,c8,rfl⟩:=Row.len hM.elems;obtain ⟨o9,c9,rfl⟩:=Row.len hM.ax;have aT:=aa (dN.start w 32 (.slice o0 m.types.length c0) (.slice o1 m.imports.length c1) (.slice o2 m.funcs.length c2) (.slice o3 m.tables.length c3) (.slice o4 m.aD.length c4) (.slice o5 m.globals.length c5) (.slice o6 m.exports.length c6) (.slice o7 m.start.length c7) (.slice o8 m.elems.length c8) (.slice o9 m.ax.length c9));obtain ⟨R,hR⟩:∃R,R = !nO m:=⟨_,rfl⟩;rw [<- hR];have RT:Hid (¬ nO m=true->R=true):=aa (λh=>by rw [hR,Bool.eq_false_iff.2 h];rfl);have RF:Hid (nO m=true->R=false):=aa (λh=>by rw [hR,h];rfl);have rO:=aa (UX m);clear hM hsz hR;generalize hn0:m.types.length=n0 at *;generalize iK:m.imports.length=n1 at *;generalize gW:m.funcs.length=n2 at *;generalize ja:m.tables.length=n3 at *;generalize iG:m.aD.length=n4 at *;generalize iS:m.globals.length=n5 at *;generalize jD:m.exports.length=n6 at *;generalize iE:m.start.length=n7 at *;generalize iO:m.elems.length=n8 at *;generalize jb:m.ax.length=n9 at *;go_enter func50,ntmps50;go_upto_region 1 with fail;obtain ⟨wb,hwb⟩:∃wb,wb=w.alloc (.cells #[.slice o0 n0 c0,.slice o1 n1 c1,.slice o2 n2 c2,.slice o3 n3 c3,.slice o4 n4 c4,.slice o5 n5 c5,.slice o6 n6 c6,.slice o7 n7 c7,.slice o8 n8 c8,.slice o9 n9 c9] 32):=⟨_,rfl⟩;rw [<- hwb] at aT ⊢;clear hwb;obtain ⟨q0,q1,q2,q3,q4,q5,q6,q7,q8,q9,qb⟩:=aT.out;have QB:=aa qb;clear qb;obtain ⟨B,hB⟩:∃B:Bool,B=decide (4096<n0\/4096<n1\/4096<n2\/4096<n3\/4096<n4\/4096<n5\/4096<n6\/4096<n8\/4096<n9\/1<n7):=⟨_,rfl⟩;have cZ:=aa hB;clear hB;go_cut [65] from 8 to 65 (λc wx=>c=.bool B/\wx=wb)
 case first =>
  by_cases g0:4096<n0
  ·obtain rfl:B=true:=cZ.out.trans (aC (by omega));have t0:decide ((4096:Int)<(n0:Int))=true:=aC (by omega);go_wp2_with fail
   go_meet
   exact ⟨rfl,rfl⟩
  have t0:decide ((4096:Int)<(n0:Int))=false:=au (by omega);by_cases g1:4096<n1
  ·obtain rfl:B=true:=cZ.out.trans (aC (by omega));have t1:decide ((4096:Int)<(n1:Int))=true:=aC (by omega);go_wp2_with fail
   go_meet
   exact ⟨rfl,rfl⟩
  have t1:decide ((4096:Int)<(n1:Int))=false:=au (by omega);by_cases g2:4096<n2
  ·obtain rfl:B=true:=cZ.out.trans (aC (by omega));have t2:decide ((4096:Int)<(n2:Int))=true:=aC (by omega);go_wp2_with fail
   go_meet
   exact ⟨rfl,rfl⟩
  have t2:decide ((4096:Int)<(n2:Int))=false:=au (by omega);by_cases g3:4096<n3
  ·obtain rfl:B=true:=cZ.out.trans (aC (by omega));have t3:decide ((4096:Int)<(n3:Int))=true:=aC (by omega);go_wp2_with fail
   go_meet
   exact ⟨rfl,rfl⟩
  have t3:decide ((4096:Int)<(n3:Int))=false:=au (by omega);by_cases g4:4096<n4
  ·obtain rfl:B=true:=cZ.out.trans (aC (by omega));have t4:decide ((4096:Int)<(n4:Int))=true:=aC (by omega);go_wp2_with fail
   go_meet
   exact ⟨rfl,rfl⟩
  have t4:decide ((4096:Int)<(n4:Int))=false:=au (by omega);by_cases g5:4096<n5
  ·obtain rfl:B=true:=cZ.out.trans (aC (by omega));have t5:decide ((4096:Int)<(n5:Int))=true:=aC (by omega);go_wp2_with fail
   go_meet
   exact ⟨rfl,rfl⟩
  have t5:decide ((4096:Int)<(n5:Int))=false:=au (by omega);by_cases g6:4096<n6
  ·obtain rfl:B=true:=cZ.out.trans (aC (by omega));have t6:decide ((4096:Int)<(n6:Int))=true:=aC (by omega);go_wp2_with fail
   go_meet
   exact ⟨rfl,rfl⟩
  have t6:decide ((4096:Int)<(n6:Int))=false:=au (by omega);by_cases g8:4096<n8
  ·obtain rfl:B=true:=cZ.out.trans (aC (by omega));have t8:decide ((4096:Int)<(n8:Int))=true:=aC (by omega);go_wp2_with fail
   go_meet
   exact ⟨rfl,rfl⟩
  have t8:decide ((4096:Int)<(n8:Int))=false:=au (by omega);by_cases g9:4096<n9
  ·obtain rfl:B=true:=cZ.out.trans (aC (by omega));have t9:decide ((4096:Int)<(n9:Int))=true:=aC (by omega);go_wp2_with fail
   go_meet
   exact ⟨rfl,rfl⟩
  have t9:decide ((4096:Int)<(n9:Int))=false:=au (by omega);by_cases g7:1<n7
  ·obtain rfl:B=true:=cZ.out.trans (aC (by omega));have t7:decide ((1:Int)<(n7:Int))=true:=aC (by omega);go_wp2_with fail
   go_meet
   exact ⟨rfl,rfl⟩
  have t7:decide ((1:Int)<(n7:Int))=false:=au (by omega);obtain rfl:B=false:=cZ.out.trans (au (by omega));go_wp2_with fail
  go_meet
  exact ⟨rfl,rfl⟩
 obtain ⟨rfl,hwc⟩:=hcut;obtain rfl:wb=wc:=hwc.symm;cases B with
 | true =>
  have hB:=of_decide_eq_true cZ.out.symm;obtain rfl:=RT.out (λh=>by have:=(rO.out.1 h).1;omega);clear RT RF rO hB;go_wp2;go_ret;exact ⟨rfl,QB.out⟩
 | false =>
 have hB:=of_decide_eq_false cZ.out.symm;have yE:Hid (n0<=4096/\n1<=4096/\n2<=4096/\n3<=4096/\n4<=4096/\n5<=4096/\n6<=4096/\n8<=4096/\n9<=4096/\n7<=1):=aa (by omega);have g0:n0<=4096:=by omega
 have g2:n2<=4096:=by omega
 have g8:n8<=4096:=by omega
 have g9:n9<=4096:=by omega
 clear hB cZ;go_wp2_with fail;go_loopw [3] (λi wr=>∃j:Nat,j<=n0/\i=.int .i64 j/\Hid (∀t y,t<j->m.types[t]?=some y->y.params.length<=4096/\y.results.length<=4096)/\wr=wb) (λi _=>n0-(RowKit.intOf i).toNat)
 case atStart=>exact ⟨0,by omega,rfl,aa (λt y ht=>by omega),rfl⟩
 case round =>
  obtain ⟨j,hj,rfl,HF,rfl⟩:=hrel;by_cases hgo:j<n0
  ·obtain ⟨b,off,cap2,hv2,hx⟩:=Row.some ((HM.out.on QB.out).types) (by omega);injection hv2 with ho h2 h3;subst ho;obtain ⟨x,hxk⟩:∃x,m.types[j]?=some x:=⟨_,aY (by omega)⟩;have hI:=hx j x hxk;have pI:=aa (dK hxk);obtain ⟨vp,kp,ip⟩:=hI.params
   obtain ⟨op',uL,KX,rfl,rP⟩:∃ol nl cl,vp=.slice ol nl cl/\nl=x.params.length:=by
    obtain ⟨ol,cl,h⟩:=Row.len ip;exact ⟨ol,_,cl,h,rfl⟩
   have CI:=ip.1;rw [<- rP] at CI;obtain ⟨vr,kr,ir⟩:=hI.results
   obtain ⟨or',Gz,cr',rfl,hnr⟩:∃ol nl cl,vr=.slice ol nl cl/\nl=x.results.length:=by
    obtain ⟨ol,cl,h⟩:=Row.len ir;exact ⟨ol,_,cl,h,rfl⟩
   have UZ:=ir.1;rw [<- hnr] at UZ;have NP:=aa rP;have NR:=aa hnr;have eU:=aa hxk;clear hx h2 h3 hxk rP hnr ip ir;by_cases hb1:4096<uL
   ·have t1:decide ((4096:Int)<(uL:Int))=true:=aC (by omega);obtain rfl:=RT.out (λh=>by have:=(rO.out.1 h).2.1 x pI.out;rw [<- NP.out] at this;omega);clear RT RF rO pI;go_wp2;go_ret;exact ⟨rfl,QB.out⟩
   have t1:decide ((4096:Int)<(uL:Int))=false:=au (by omega);by_cases hb2:4096<Gz
   ·have t2:decide ((4096:Int)<(Gz:Int))=true:=aC (by omega);obtain rfl:=RT.out (λh=>by have:=(rO.out.1 h).2.1 x pI.out;rw [<- NR.out] at this;omega);clear RT RF rO pI;go_wp2;go_ret;exact ⟨rfl,QB.out⟩
   have t2:decide ((4096:Int)<(Gz:Int))=false:=au (by omega);have pJ:=aa (Gx (p:=λx=>x.params.length<=4096/\x.results.length<=4096) HF.out eU.out ⟨by rw [<- NP.out];omega,by rw [<- NR.out];omega⟩);clear HF NP NR eU pI hI;go_wp2;go_roundw
   case rel=>exact ⟨j+1,by omega,by go_num,pJ,trivial⟩
   case measure=>simp [RowKit.intOf];omega
  obtain rfl:n0=j:=by omega
  obtain ⟨wb,rfl⟩:∃wb,wb=wr:=⟨_,rfl⟩;have F1:=HF;clear HF;go_wp2_with fail;go_loopw [4] (λi wr=>∃j:Nat,j<=n8/\i=.int .i64 j/\Hid (∀t y,t<j->m.elems[t]?=some y->y.funcs.length<=4096)/\wr=wb) (λi _=>n8-(RowKit.intOf i).toNat)
  case atStart=>exact ⟨0,by omega,rfl,aa (λt y ht=>by omega),rfl⟩
  case round =>
   obtain ⟨j2,hj2,rfl,HF,rfl⟩:=hrel;by_cases hgo:j2<n8
   ·obtain ⟨b,off,cap2,hv2,hx⟩:=Row.some ((HM.out.on QB.out).elems) (by omega);injection hv2 with ho h2 h3;subst ho;obtain ⟨x,hxk⟩:∃x,m.elems[j2]?=some x:=⟨_,aY (by omega)⟩;have hI:=hx j2 x hxk;have pI:=aa (dK hxk);obtain ⟨vp,kp,ip⟩:=hI.funcs
    obtain ⟨op',uL,KX,rfl,rP⟩:∃ol nl cl,vp=.slice ol nl cl/\nl=x.funcs.length:=by
     obtain ⟨ol,cl,h⟩:=Row.len ip;exact ⟨ol,_,cl,h,rfl⟩
    have CI:=ip.1;rw [<- rP] at CI;have NP:=aa rP;have eU:=aa hxk;clear hx h2 h3 hxk rP ip;by_cases hb1:4096<uL
    ·have t1:decide ((4096:Int)<(uL:Int))=true:=aC (by omega);obtain rfl:=RT.out (λh=>by have:=(rO.out.1 h).2.2.2.1 x pI.out;rw [<- NP.out] at this;omega);clear RT RF rO pI;go_wp2;go_ret;exact ⟨rfl,QB.out⟩
    have t1:decide ((4096:Int)<(uL:Int))=false:=au (by omega);have pJ:=aa (Gx (p:=λx=>x.funcs.length<=4096) HF.out eU.out (by rw [<- NP.out];omega));clear HF NP eU pI hI;go_wp2;go_roundw
    case rel=>exact ⟨j2+1,by omega,by go_num,pJ,trivial⟩
    case measure=>simp [RowKit.intOf];omega
   obtain rfl:n8=j2:=by omega
   obtain ⟨wb,rfl⟩:∃wb,wb=wr:=⟨_,rfl⟩;have F2:=HF;clear HF;go_wp2_with fail;go_loopw [5,6] (λc i wr=>∃j s:Nat,j<=n9/\s<=262144/\i=.int .i64 j/\c=.int .i64 s/\Hid (room 262144 m.ax=room (262144-s) (m.ax.drop j))/\wr=wb) (λ_ i _=>n9-(RowKit.intOf i).toNat)
   case atStart=>exact ⟨0,0,by omega,by omega,rfl,rfl,aa rfl,rfl⟩
   case round =>
    obtain ⟨j3,s,hj3,hs,rfl,rfl,HF,rfl⟩:=hrel;by_cases hgo:j3<n9
    ·obtain ⟨b,off,cap2,hv2,hx⟩:=Row.some ((HM.out.on QB.out).ax) (by omega);injection hv2 with ho h2 h3;subst ho;obtain ⟨x,hxk⟩:∃x,m.ax[j3]?=some x:=⟨_,aY (by omega)⟩;have hI:=hx j3 x hxk;have pI:=aa (dK hxk);have kb:=hI.bytes;have hz:=HZ.out x pI.out;have Es:=aa (HF.out.trans (KY hxk));clear hx h2 h3 hxk hI HF;generalize hsx:x.bytes.size=sx at *;by_cases hb1:262144<s+sx
     ·have HN:Hid (room 262144 m.ax=false):=aa (by rw [Es.out,au (by omega)];rfl);obtain rfl:=RT.out (λh=>by have:=(rO.out.1 h).2.2.2.2;rw [HN.out] at this;cases this);clear RT RF rO pI Es HN;go_wp2;go_ret;exact ⟨rfl,QB.out⟩
     have pJ:Hid (room 262144 m.ax=room (262144-(s+sx)) (m.ax.drop (j3+1))):=aa (by rw [Es.out,aC (by omega),fN,show 262144-s-sx=262144-(s+sx) by omega]);clear Es pI;go_wp2;go_roundw
     case rel=>exact ⟨j3+1,s+sx,by omega,by omega,by go_num,by go_num,pJ,trivial⟩
     case measure=>simp [RowKit.intOf];omega
    obtain rfl:n9=j3:=by omega
    obtain ⟨wb,rfl⟩:∃wb,wb=wr:=⟨_,rfl⟩;have F3:Hid (room 262144 m.ax=true):=aa (by rw [HF.out,room_end (by omega)]);clear HF;go_wp2_with fail;go_loopw [7] (λi wr=>∃j:Nat,j<=n2/\i=.int .i64 j/\Hid (∀t y,t<j->m.funcs[t]?=some y->y.locals.length<=256)/\wr=wb) (λi _=>n2-(RowKit.intOf i).toNat)
    case atStart=>exact ⟨0,by omega,rfl,aa (λt y ht=>by omega),rfl⟩
    case round =>
     obtain ⟨j4,hj4,rfl,HF,rfl⟩:=hrel;by_cases hgo:j4<n2
     ·obtain ⟨b,off,cap2,hv2,hx⟩:=Row.some ((HM.out.on QB.out).funcs) (by omega);injection hv2 with ho h2 h3;subst ho;obtain ⟨x,hxk⟩:∃x,m.funcs[j4]?=some x:=⟨_,aY (by omega)⟩;have hI:=hx j4 x hxk;have pI:=aa (dK hxk);obtain ⟨vp,kp,ip⟩:=hI.locals
      obtain ⟨op',uL,KX,rfl,rP⟩:∃ol nl cl,vp=.slice ol nl cl/\nl=x.locals.length:=by
       obtain ⟨ol,cl,h⟩:=Row.len ip;exact ⟨ol,_,cl,h,rfl⟩
      have CI:=ip.1;rw [<- rP] at CI;have NP:=aa rP;have eU:=aa hxk;clear hx h2 h3 hxk rP ip;by_cases hb1:256<uL
      ·have t1:decide ((256:Int)<(uL:Int))=true:=aC (by omega);obtain rfl:=RT.out (λh=>by have:=(rO.out.1 h).2.2.1 x pI.out;rw [<- NP.out] at this;omega);clear RT RF rO pI;go_wp2;go_ret;exact ⟨rfl,QB.out⟩
      have t1:decide ((256:Int)<(uL:Int))=false:=au (by omega);have pJ:=aa (Gx (p:=λx=>x.locals.length<=256) HF.out eU.out (by rw [<- NP.out];omega));clear HF NP eU pI hI;go_wp2;go_roundw
      case rel=>exact ⟨j4+1,by omega,by go_num,pJ,trivial⟩
      case measure=>simp [RowKit.intOf];omega
     obtain rfl:n2=j4:=by omega
     have hfin:nO m=true:=rO.out.2 ⟨by have:=yE.out;omega,Gy hn0 F1.out,Gy gW HF.out,Gy iO F2.out,F3.out⟩;obtain rfl:=RF.out hfin;clear hfin HF RT RF rO;go_wp2;go_ret;exact ⟨rfl,QB.out⟩
namespace aA
theorem ML {α:Type} {p:α->Bool} {l:List α} {j:Nat} {x:α} {R:Bool} (hx:l[j]?=some x) (h:R=(l.drop j).all p):R=(p x&&(l.drop (j+1)).all p):=by
 have hl:j<l.length:=(fZ.1 hx).1;have he:l[j]=x:=(fZ.1 hx).2;rw [h,lX hl,he];rfl
theorem ZA {α:Type} {p:α->Bool} {l:List α} {j:Nat} {R:Bool} (hj:l.length<=j) (h:R=(l.drop j).all p):R=true:=by
 rw [h,List.drop_of_length_le hj];rfl
end aA
theorem MM (v:Value) (l:List gN) (w:World) (hAt:Row 3 (gD w) v l) :
  Calls prog 94 #[v] w λe w'=>e=.returned (.bool (l.all cB))/\w'=w:=by
 have hlen:=hAt.1;obtain ⟨o,cap,hv⟩:=Row.len hAt;have HA:=aa hAt;subst hv;obtain ⟨R,hR⟩:∃R,R=l.all cB:=⟨_,rfl⟩;rw [<- hR];have HR:Hid (R=(l.drop 0).all cB):=hR;clear hAt hR;generalize hn:l.length=n at *;go_enter func94,ntmps94;go_wp2_with fail;go_loopw [3] (λi wr=>∃j:Nat,j<=n/\i=.int .i64 j/\Hid (R=(l.drop j).all cB)/\wr=w) (λi _=>n-(RowKit.intOf i).toNat)
 case atStart=>exact ⟨0,by omega,rfl,HR,rfl⟩
 case round =>
  obtain ⟨j,hj,rfl,HK,rfl⟩:=hrel;by_cases hgo:j<n
  ·obtain ⟨b,off,cap2,hv2,hx⟩:=Row.some HA.out (by omega);injection hv2 with ho h2 h3;subst ho;obtain ⟨x,hxk⟩:∃x,l[j]?=some x:=⟨_,aY (by omega)⟩;have hI:=hx j x hxk;have k0:=hI.min;have k1:=hI.max;have k2:=hI.has;have HN:Hid (R=(cB x&&(l.drop (j+1)).all cB)):=aa (ML hxk HK.out);have NA:Hid (cB x=((idx x.min&&(idx x.max&&true))&&(x.has || x.max==0))):=aa rfl;clear hx hxk hI h2 h3 HK;rw [NA.out] at HN;clear NA;go_wp2_with fail;refine (mG _ _).mono ?_;rintro e u ⟨rfl,rfl⟩;generalize idx x.min=t1 at *;cases t1 with
   | false =>
    obtain rfl:R=false:=HN.out;clear HN;go_wp2;go_ret;exact ⟨rfl,rfl⟩
   | true =>
    go_wp2_with fail;refine (mG _ _).mono ?_;rintro e u ⟨rfl,rfl⟩;generalize idx x.max=t2 at *;cases t2 with
    | false =>
     obtain rfl:R=false:=HN.out;clear HN;go_wp2;go_ret;exact ⟨rfl,rfl⟩
    | true =>
     generalize hxh:x.has=hs at *;generalize hxm:x.max=mx at *;cases hs with
     | true =>
      have dQ:Hid (R=(l.drop (j+1)).all cB):=aa (by rw [HN.out];rfl);clear HN;go_wp2;go_roundw
      case rel=>exact ⟨j+1,by omega,by go_num,dQ,trivial⟩
      case measure=>simp [RowKit.intOf];omega
     | false =>
      by_cases hm:mx=0
      ·subst hm;have dQ:Hid (R=(l.drop (j+1)).all cB):=aa (by rw [HN.out];rfl);clear HN;go_wp2;go_roundw
       case rel=>exact ⟨j+1,by omega,by go_num,dQ,trivial⟩
       case measure=>simp [RowKit.intOf];omega
      have AL:(mx==0)=false:=by rw [Nn];exact hm
      have hmt:(mx != 0)=true:=by rw [bne_iff_ne];exact hm
      obtain rfl:R=false:=by rw [HN.out,AL];rfl
      clear HN;go_wp2;go_ret;exact ⟨rfl,rfl⟩
  obtain rfl:R=true:=ZA (by omega) HK.out;clear HK;go_wp2;go_ret;exact ⟨rfl,rfl⟩
end Go.Proofs.YtmfcojpjpgldhaaGreatDoor
