/- Texts that the claim needs. -/
import Derived.Test.YtlcpagiljfpbpaaGreatDoorQELo9
namespace Go.Proofs.YtlcpagiljfpbpaaGreatDoor
open Go.RowKit Rep Enc Go.Lib
set_option linter.unusedVariables false
namespace Enc
def idxB (l:List Int):List Int:=Leb.uB (l.length:Int)++l.flatMap Leb.uB
def typB (l:List Int):List Int:=Leb.uB (l.length:Int)++l.flatMap fun x=>[x%256]
theorem flat_take {f:Int->List Int} {l:List Int} {j:Nat} {x:Int} (hx:l[j]?=some x):(l.take (j+1)).flatMap f=(l.take j).flatMap f++f x:=by
 rw [List.take_add_one,hx,List.flatMap_append];simp
theorem flat_le {f:Int->List Int} (k:Nat):∀(l:List Int),(∀x ∈ l,(f x).length<=k)->(l.flatMap f).length<=l.length*k
 | [],_=>by simp
 | x :: r,h=>by
  rw [List.flatMap_cons,List.length_append,List.length_cons,Nat.add_mul]
  have h1:=h x (List.mem_cons_self ..)
  have h2:=flat_le k r fun y hy=>h y (List.mem_cons_of_mem _ hy)
  omega
theorem flat_len {f:Int->List Int} (k:Nat) (l:List Int) (j:Nat) (h:∀x ∈ l,(f x).length<=k):((l.take j).flatMap f).length<=l.length*k :=
 Nat.le_trans (flat_le k _ fun x hx=>h x (List.mem_of_mem_take hx)) (Nat.mul_le_mul_right _ (by rw [List.length_take];omega))
end Enc
set_option maxRecDepth 100000 in
set_option maxHeartbeats 2000000 in
theorem wIdx (w0:World) (p:Nat) (c:Nat->Value) (v:Value) (bs:List Int) (lv:Value) (l:List Int) (w:World) (h:WS w0 p c v bs w) (hL:Ints w0 lv l) (hr:∀x ∈ l,0<=x/\x<=4294967295) (hl:l.length<=10000000) (hn:bs.length<=50000000000000):Calls Tryz.prog 90 #[.pointer (some ⟨p,0,none⟩),lv] w (Does w0 p c v w (bs++idxB l)):=by
 obtain ⟨oL,kL,rfl⟩:=Row.len hL
 have HL:=hideR hL
 have HR:=hideR hr
 clear hL hr
 have H1:=hideR (wU w0 p c v bs (l.length:Int) w h (by omega) (by omega) (by omega))
 have hten:=Leb.uB_ten (n:=(l.length:Int)) (by omega) (by omega)
 clear h
 obtain ⟨b2,hb2⟩:∃b2,b2=bs++idxB l:=⟨_,rfl⟩
 rw [<- hb2]
 have HB2:=hideR hb2
 clear hb2
 have HLN0:∀j,Hid ((bs++Leb.uB (l.length:Int)++(l.take j).flatMap Leb.uB).length<=100000000000000):=fun j=>hideR (by
  have:=flat_len (f:=Leb.uB) 10 l j (fun x hx=>Leb.uB_ten (HR.out x hx).1 (by have:=(HR.out x hx).2;omega))
  rw [List.length_append,List.length_append]
  omega)
 clear hten
 unfold idxB at HB2
 generalize hln:l.length=n at *
 go_enter Tryz.func90,Tryz.ntmps90
 go_wp2_with fail
 refine H1.out.mono ?_
 rintro e w1 ⟨v1,rfl,h1,k1⟩
 have HK1:=hideR k1
 clear k1
 have HS1:Hid (WS w0 p c v1 (bs++Leb.uB (n:Int)++(l.take 0).flatMap Leb.uB) w1):=hideR (by simpa using h1)
 clear h1 H1
 go_wp2_with fail
 go_loopw [12] (fun i wr=>∃(j:Nat) (v2:Value),j<=n/\i=.int .i64 j/\Hid (WS w0 p c v2 (bs++Leb.uB (n:Int)++(l.take j).flatMap Leb.uB) wr)/\Hid (Kept p v w v2 wr)) (fun i _=>n-(intOf i).toNat)
 case atStart=>exact ⟨0,v1,by omega,rfl,HS1,HK1⟩
 case round =>
  clear HS1 HK1
  obtain ⟨j,v2,hj,rfl,HWS,HKW⟩:=hrel
  by_cases hgo:j<n
  ·obtain ⟨b1,off1,cap1,hv1,hx1⟩:=Row.some HL.out (by omega)
   injection hv1 with ho1 e11 e12
   subst ho1
   clear e11 e12
   obtain ⟨x,hxk⟩:∃x,l[j]?=some x:=⟨_,List.getElem?_eq_getElem (by omega)⟩
   have cx:=cell_on HWS.out.below (hx1 j x hxk)
   simp only [Nat.mul_one] at cx
   have HXK:=hideR hxk
   have HLN:=HLN0 j
   clear hx1 hxk
   have HC:=hideR (wU w0 p c v2 (bs++Leb.uB (n:Int)++(l.take j).flatMap Leb.uB) x wr HWS.out (HR.out x (List.mem_of_getElem? HXK.out)).1 (by have:=(HR.out x (List.mem_of_getElem? HXK.out)).2;omega) HLN.out)
   go_wp2_with fail
   refine HC.out.mono ?_
   rintro e w3 ⟨v3,rfl,h3,k3⟩
   have HK3:=hideR (HKW.out.trans k3)
   clear k3
   have HN:Hid (WS w0 p c v3 (bs++Leb.uB (n:Int)++(l.take (j+1)).flatMap Leb.uB) w3):=hideR (by rw [flat_take HXK.out,<- List.append_assoc];exact h3)
   clear h3 HC cx HWS
   go_wp2
   go_roundw
   case rel=>exact ⟨j+1,v3,by omega,by go_num,HN,HK3⟩
   case measure=>simp [intOf];omega
  ·obtain rfl:n=j:=by omega
   have HE:Hid (WS w0 p c v2 b2 wr):=hideR (by have:=HWS.out;rw [List.take_of_length_le (by omega)] at this;rw [HB2.out,<- List.append_assoc];exact this)
   clear HWS
   go_wp2
   go_end0
   exact ⟨_,rfl,HE.out,HKW.out⟩
set_option maxRecDepth 100000 in
set_option maxHeartbeats 2000000 in
theorem wTyp (w0:World) (p:Nat) (c:Nat->Value) (v:Value) (bs:List Int) (lv:Value) (l:List Int) (w:World) (h:WS w0 p c v bs w) (hL:Ints w0 lv l)  (hl:l.length<=10000000) (hn:bs.length<=50000000000000):Calls Tryz.prog 86 #[.pointer (some ⟨p,0,none⟩),lv] w (Does w0 p c v w (bs++typB l)):=by
 obtain ⟨oL,kL,rfl⟩:=Row.len hL
 have HL:=hideR hL
 have HR:=True.intro
 clear hL
 have H1:=hideR (wU w0 p c v bs (l.length:Int) w h (by omega) (by omega) (by omega))
 have hten:=Leb.uB_ten (n:=(l.length:Int)) (by omega) (by omega)
 clear h
 obtain ⟨b2,hb2⟩:∃b2,b2=bs++typB l:=⟨_,rfl⟩
 rw [<- hb2]
 have HB2:=hideR hb2
 clear hb2
 have HLN0:∀j,Hid ((bs++Leb.uB (l.length:Int)++(l.take j).flatMap (fun x=>[x%256])).length<=100000000000000):=fun j=>hideR (by
  have:=flat_len (f:=(fun x=>[x%256])) 1 l j (fun x hx=>by simp)
  rw [List.length_append,List.length_append]
  omega)
 clear hten
 unfold typB at HB2
 generalize hln:l.length=n at *
 go_enter Tryz.func86,Tryz.ntmps86
 go_wp2_with fail
 refine H1.out.mono ?_
 rintro e w1 ⟨v1,rfl,h1,k1⟩
 have HK1:=hideR k1
 clear k1
 have HS1:Hid (WS w0 p c v1 (bs++Leb.uB (n:Int)++(l.take 0).flatMap (fun x=>[x%256])) w1):=hideR (by simpa using h1)
 clear h1 H1
 go_wp2_with fail
 go_loopw [12] (fun i wr=>∃(j:Nat) (v2:Value),j<=n/\i=.int .i64 j/\Hid (WS w0 p c v2 (bs++Leb.uB (n:Int)++(l.take j).flatMap (fun x=>[x%256])) wr)/\Hid (Kept p v w v2 wr)) (fun i _=>n-(intOf i).toNat)
 case atStart=>exact ⟨0,v1,by omega,rfl,HS1,HK1⟩
 case round =>
  clear HS1 HK1
  obtain ⟨j,v2,hj,rfl,HWS,HKW⟩:=hrel
  by_cases hgo:j<n
  ·obtain ⟨b1,off1,cap1,hv1,hx1⟩:=Row.some HL.out (by omega)
   injection hv1 with ho1 e11 e12
   subst ho1
   clear e11 e12
   obtain ⟨x,hxk⟩:∃x,l[j]?=some x:=⟨_,List.getElem?_eq_getElem (by omega)⟩
   have cx:=cell_on HWS.out.below (hx1 j x hxk)
   simp only [Nat.mul_one] at cx
   have HXK:=hideR hxk
   have HLN:=HLN0 j
   clear hx1 hxk
   have HC:=hideR (wPut w0 p c v2 (bs++Leb.uB (n:Int)++(l.take j).flatMap fun x=>[x%256]) x wr HWS.out HLN.out)
   go_wp2_with fail
   refine HC.out.mono ?_
   rintro e w3 ⟨v3,rfl,h3,k3⟩
   have HK3:=hideR (HKW.out.trans k3)
   clear k3
   have HN:Hid (WS w0 p c v3 (bs++Leb.uB (n:Int)++(l.take (j+1)).flatMap (fun x=>[x%256])) w3):=hideR (by rw [flat_take HXK.out,<- List.append_assoc];exact h3)
   clear h3 HC cx HWS
   go_wp2
   go_roundw
   case rel=>exact ⟨j+1,v3,by omega,by go_num,HN,HK3⟩
   case measure=>simp [intOf];omega
  ·obtain rfl:n=j:=by omega
   have HE:Hid (WS w0 p c v2 b2 wr):=hideR (by have:=HWS.out;rw [List.take_of_length_le (by omega)] at this;rw [HB2.out,<- List.append_assoc];exact this)
   clear HWS
   go_wp2
   go_end0
   exact ⟨_,rfl,HE.out,HKW.out⟩
end Go.Proofs.YtlcpagiljfpbpaaGreatDoor

