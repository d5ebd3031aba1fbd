/- Texts that the claim needs. -/
import Derived.Test.YtlcpagiljfpbpaaGreatDoorQELo20
import Derived.Test.YtlcpagiljfpbpaaGreatDoorQELo22
namespace Go.Proofs.YtlcpagiljfpbpaaGreatDoor
open Go.RowKit Rep Enc Go.Lib
set_option linter.unusedVariables false
namespace Enc
theorem Rg_empty:∀(d:Nat) (l:IL d),size d l=0->Rg d l
 | 0,_,_=>trivial
 | d+1,l,h=>by
  intro x hx
  have:(show List (Ins (IL d)) from l) = []:=List.length_eq_zero_iff.1 h
  rw [this] at hx;cases hx
theorem bytes_empty:∀(d:Nat) (l:IL d),size d l=0->(bytesI d l).length=0
 | 0,_,_=>rfl
 | d+1,l,h=>by
  have e:(show List (Ins (IL d)) from l) = []:=List.length_eq_zero_iff.1 h
  show (insL (bytesI d) (size d) (show List (Ins (IL d)) from l)).length=0
  rw [e];rfl
theorem bare_iff {a b n:Int} {nl nb ne:Nat} (h:bare a b n nl nb ne=true):nl=0/\nb=0/\ne=0:=by
 have:=of_decide_eq_true h;exact this.2.2.2
theorem cst_rg {d:Nat} {x:Ins (IL d)} (h:cstOk x=true) (hN:NR1 (NR d) x):Rg1 (Rg d) x/\(insB (bytesI d) (size d) x).length<=100000100:=by
 unfold cstOk at h
 rw [Bool.and_eq_true] at h
 obtain ⟨h1,h2⟩:=h
 have hf:form x.op=9\/(form x.op=4\/form x.op=6\/form x.op=7):=by
  unfold cst at h1
  rw [Bool.or_eq_true,Bool.or_eq_true] at h1
  rcases h1 with (h1|h1)|h1
  ·left;rw [eq_of_beq h1];decide
  ·left;rw [eq_of_beq h1];decide
  ·right;rw [eq_of_beq h1];decide
 have hok:okF (form x.op) x.op x.a x.b x.n x.labels (size d x.body) (size d x.els)=true:=h2
 have hz:x.labels.length=0/\size d x.body=0/\size d x.els=0:=by
  have hok':=hok
  unfold okF at hok'
  rcases hf with hf|hf
  ·rw [hf] at hok'
   rw [if_neg (by omega),if_neg (by omega),if_neg (by omega),if_neg (by omega),if_neg (by omega),if_neg (by omega),if_pos rfl,Bool.and_eq_true] at hok'
   exact bare_iff hok'.2
  ·rw [if_neg (by omega),if_neg (by omega),if_neg (by omega),if_pos hf,Bool.and_eq_true] at hok'
   exact bare_iff hok'.2
 obtain ⟨z1,z2,z3⟩:=hz
 have R:Rg1 (Rg d) x:=rg1_of hok (by omega) hN.1 (Rg_empty d _ z2) (Rg_empty d _ z3)
 have hl:=insB_len (rec:=bytesI d) (sz:=size d) R
 have e1:=bytes_empty d _ z2
 have e2:=bytes_empty d _ z3
 exact ⟨R,by omega⟩
theorem few_iff {n:Nat} (h:few n=true):n<=4096:=by
 have:=of_decide_eq_true (p:=((n:Int)<=4096)) h;omega
theorem room_le {d:Nat}:∀(r:Nat) (l:List (Dat d)),room r l=true->∀x ∈ l,x.bytes.size<=r
 | _,[],_,x,hx=>by cases hx
 | r,y :: t,h,x,hx=>by
  have h':(decide (y.bytes.size<=r) && room (r-y.bytes.size) t)=true:=h
  rw [Bool.and_eq_true] at h'
  have h1:=of_decide_eq_true h'.1
  rcases List.mem_cons.1 hx with rfl|hx
  ·exact h1
  ·have:=room_le _ t h'.2 x hx;omega
theorem goF_all {d:Nat} {step:Unit->Sn->Nat->Option Unit}:∀(l:List (Fun d)),goF step d l ()=some ()->∀x ∈ l,goI step d x.body 0 ()=some ()
 | [],_,x,hx=>by cases hx
 | y :: r,h,x,hx=>by
  have h':((goI step d y.body 0 ()).bind fun s1=>goF step d r s1)=some ():=h
  obtain ⟨s1,e1,h1⟩:=Option.bind_eq_some_iff.1 h'
  rcases List.mem_cons.1 hx with rfl|hx
  ·exact e1
  ·exact goF_all r h1 x hx
def totF {d:Nat}:List (Fun d)->Nat
 | []=>0
 | f :: r=>tot d f.body+totF r
theorem goF_tot {d:Nat}:∀(l:List (Fun d)) (c c':Nat),c<=65536->goF stepCount d l c=some c'->c'=c+totF l/\c'<=65536
 | [],c,c',hc,h=>by injection h with h;exact ⟨by show c'=c+0;omega,by omega⟩
 | y :: r,c,c',hc,h=>by
  have h':((goI stepCount d y.body 0 c).bind fun s1=>goF stepCount d r s1)=some c':=h
  obtain ⟨s1,e1,h1⟩:=Option.bind_eq_some_iff.1 h'
  have t1:=goI_tot d _ _ _ _ e1
  have t2:=goI_count_le d _ _ _ _ hc e1
  have t3:=goF_tot r s1 c' t2 h1
  exact ⟨by show c'=c+(tot d y.body+totF r);omega,t3.2⟩
theorem flat_leg {α:Type} {f:α->List Int} (k:Nat):∀(l:List α),(∀x ∈ l,(f x).length<=k)->(l.flatMap f).length<=l.length*k
 | [],_=>by simp
 | x :: r,h=>by
  rw [List.flatMap_cons,List.length_append,List.length_cons,Nat.add_mul]
  have h1:=h x (List.mem_cons_self ..)
  have h2:=flat_leg k r fun y hy=>h y (List.mem_cons_of_mem _ hy)
  omega
theorem uB_nat (n:Nat) (h:n<=18446744073709551615):(Leb.uB (n:Int)).length<=10:=Leb.uB_ten (by omega) (by omega)
theorem uB_ix {n:Int} (h:0<=n/\n<=4294967295):(Leb.uB n).length<=10:=Leb.uB_ten h.1 (by omega)
theorem sec_le (id:Int) (n:Nat) (b:List Int) (k:Nat) (h:b.length<=k) (hk:k<=18446744073709551615):(secB id n b).length<=k+11:=by
 unfold secB sizB
 have:=uB_nat b.length (by omega)
 split
 ·simp
 ·simp only [List.length_append,List.length_cons,List.length_nil];omega
theorem lis_le {α:Type} (f:α->List Int) (l:List α) (n k:Nat) (hn:l.length<=n) (hn2:n<=18446744073709551615) (h:∀x ∈ l,(f x).length<=k):(lisB f l).length<=10+n*k:=by
 unfold lisB
 have h1:=uB_nat l.length (by omega)
 have h2:=flat_leg k l h
 have h3:l.length*k<=n*k:=Nat.mul_le_mul_right _ hn
 rw [List.length_append];omega
theorem tex_le (s:ByteArray) (n:Nat) (h:s.size<=n) (hn:n<=18446744073709551615):(texB s).length<=10+n:=by
 unfold texB
 have h1:=uB_nat s.size (by omega)
 rw [List.length_append,nums_len];omega
theorem idxB_le (l:List Int) (n:Nat) (h:l.length<=n) (hn:n<=18446744073709551615) (hi:∀y ∈ l,0<=y/\y<=4294967295):(idxB l).length<=10+n*10:=by
 unfold idxB
 have h1:=uB_nat l.length (by omega)
 have h2:=flat_leg (f:=Leb.uB) 10 l fun y hy=>uB_ix (hi y hy)
 rw [List.length_append];omega
theorem typB_le (l:List Int) (n:Nat) (h:l.length<=n) (hn:n<=18446744073709551615):(typB l).length<=10+n:=by
 unfold typB
 have h1:=uB_nat l.length (by omega)
 have h2:=flat_leg (f:=fun x:Int=>[x%256]) 1 l fun y hy=>by simp
 rw [List.length_append];omega
theorem lim_le (x:Lim) (h1:0<=x.min/\x.min<=4294967295) (h2:0<=x.max/\x.max<=4294967295):(limB x).length<=21:=by
 unfold limB
 have a1:=uB_ix h1
 have a2:=uB_ix h2
 have a3:(if x.has then Leb.uB x.max else []:List Int).length<=10:=by
  split
  ·exact a2
  ·simp
 simp only [List.length_append,List.length_cons,List.length_nil];omega
theorem loc_le (l:List Int) (n:Nat) (h:l.length<=n) (hn:n<=1000000):(locB l).length<=10+n*11:=by
 unfold locB
 obtain ⟨b1,b2⟩:=rn_bound l
 have h1:=uB_nat (rn l).length (by omega)
 have h2:=flat_leg (f:=fun x:Int × Int=>Leb.uB x.1++[x.2%256]) 11 (rn l) fun y hy=>by
  have:=b2 y hy
  have h3:=Leb.uB_ten (n:=y.1) (by omega) (by omega)
  rw [List.length_append];simp only [List.length_cons,List.length_nil];omega
 rw [List.length_append];omega
theorem codes_le {d:Nat}:∀(l:List (Fun d)),(∀x ∈ l,Rg d x.body/\x.locals.length<=256)->totF l<=65536->(l.flatMap fun x=>sizB (codB x)).length<=l.length*3000+totF l*100000100
 | [],_,_=>by simp
 | x :: r,h,ht=>by
  have ht':tot d x.body+totF r<=65536:=ht
  have h1:=h x (List.mem_cons_self ..)
  have h2:=codes_le r (fun y hy=>h y (List.mem_cons_of_mem _ hy)) (by omega)
  have h3:=bytesI_len d x.body h1.1
  have h4:=loc_le x.locals 256 h1.2 (by omega)
  have h5:(codB x).length<=2900+tot d x.body*100000100:=by
   unfold codB
   simp only [List.length_append,List.length_cons,List.length_nil];omega
  have h6:=uB_nat (codB x).length (by omega)
  have h7:(sizB (codB x)).length<=2910+tot d x.body*100000100:=by
   unfold sizB;rw [List.length_append];omega
  rw [List.flatMap_cons,List.length_append,List.length_cons]
  show _<=_+(tot d x.body+totF r)*100000100
  omega
theorem short_of {d:Nat} {m:Mod d} (hT:∀x ∈ m.types,x.params.length<=4096/\x.results.length<=4096) (hI:∀x ∈ m.imports,x.mod.size<=64/\x.name.size<=64/\0<=x.type/\x.type<=4294967295) (hF:∀x ∈ m.funcs,(0<=x.type/\x.type<=4294967295)/\Rg d x.body/\x.locals.length<=256)
  (hB:∀x ∈ m.tables,(0<=x.min/\x.min<=4294967295)/\0<=x.max/\x.max<=4294967295) (hM:∀x ∈ m.mems,(0<=x.min/\x.min<=4294967295)/\0<=x.max/\x.max<=4294967295) (hG:∀x ∈ m.globals,(insB (bytesI d) (size d) x.init).length<=100000100)
  (hX:∀x ∈ m.exports,x.name.size<=64/\0<=x.index/\x.index<=4294967295) (hS:∀x ∈ m.start,0<=x/\x<=4294967295) (hE:∀x ∈ m.elems,(insB (bytesI d) (size d) x.offset).length<=100000100/\(∀y ∈ x.funcs,0<=y/\y<=4294967295)/\x.funcs.length<=4096)
  (hD:∀x ∈ m.datas,(insB (bytesI d) (size d) x.offset).length<=100000100/\x.bytes.size<=262144) (ht:totF m.funcs<=65536)
  (n0:m.types.length<=4096) (n1:m.imports.length<=4096) (n2:m.funcs.length<=4096) (n3:m.tables.length<=4096) (n4:m.mems.length<=4096) (n5:m.globals.length<=4096) (n6:m.exports.length<=4096) (n7:m.start.length<=4096) (n8:m.elems.length<=4096) (n9:m.datas.length<=4096):(modB m).length<=38000000000000:=by
 have s0:=sec_le 1 m.types.length _ _ (lis_le ftB m.types 4096 9000 n0 (by omega) fun x hx=>by
  have h:=hT x hx
  have a1:=typB_le x.params 4096 h.1 (by omega)
  have a2:=typB_le x.results 4096 h.2 (by omega)
  unfold ftB
  simp only [List.length_append,List.length_cons,List.length_nil];omega) (by omega)
 have s1:=sec_le 2 m.imports.length _ _ (lis_le impB m.imports 4096 9000 n1 (by omega) fun x hx=>by
  have h:=hI x hx
  have a1:=tex_le x.mod 64 h.1 (by omega)
  have a2:=tex_le x.name 64 h.2.1 (by omega)
  have a3:=uB_ix h.2.2
  unfold impB
  simp only [List.length_append,List.length_cons,List.length_nil];omega) (by omega)
 have s2:=sec_le 3 m.funcs.length _ _ (lis_le (fun x:Fun d=>Leb.uB x.type) m.funcs 4096 10 n2 (by omega) fun x hx=>uB_ix (hF x hx).1) (by omega)
 have s3:=sec_le 4 m.tables.length _ _ (lis_le (fun x:Lim=>[112]++limB x) m.tables 4096 30 n3 (by omega) fun x hx=>by
  have a:=lim_le x (hB x hx).1 (hB x hx).2
  simp only [List.length_append,List.length_cons,List.length_nil];omega) (by omega)
 have s4:=sec_le 5 m.mems.length _ _ (lis_le limB m.mems 4096 21 n4 (by omega) fun x hx=>lim_le x (hM x hx).1 (hM x hx).2) (by omega)
 have s5:=sec_le 6 m.globals.length _ _ (lis_le gloB m.globals 4096 100000200 n5 (by omega) fun x hx=>by
  have h:=hG x hx
  unfold gloB
  simp only [List.length_append,List.length_cons,List.length_nil];omega) (by omega)
 have s6:=sec_le 7 m.exports.length _ _ (lis_le expB m.exports 4096 9000 n6 (by omega) fun x hx=>by
  have h:=hX x hx
  have a1:=tex_le x.name 64 h.1 (by omega)
  have a2:=uB_ix h.2
  unfold expB
  simp only [List.length_append,List.length_cons,List.length_nil];omega) (by omega)
 have s7:=sec_le 8 m.start.length (m.start.flatMap Leb.uB) 50000 (by
  have a:=flat_leg (f:=Leb.uB) 10 m.start fun x hx=>uB_ix (hS x hx)
  omega) (by omega)
 have s8:=sec_le 9 m.elems.length _ _ (lis_le elmB m.elems 4096 100100000 n8 (by omega) fun x hx=>by
  have h:=hE x hx
  have a1:=idxB_le x.funcs 4096 h.2.2 (by omega) h.2.1
  have a2:=h.1
  unfold elmB
  simp only [List.length_append,List.length_cons,List.length_nil];omega) (by omega)
 have s9:=sec_le 10 m.funcs.length (lisB (fun x:Fun d=>sizB (codB x)) m.funcs) 7000000000000 (by
  have a:=codes_le m.funcs (fun x hx=>(hF x hx).2) ht
  have b:=uB_nat m.funcs.length (by omega)
  unfold lisB
  rw [List.length_append]
  omega) (by omega)
 have s10:=sec_le 11 m.datas.length _ _ (lis_le datB m.datas 4096 101000000 n9 (by omega) fun x hx=>by
  have h:=hD x hx
  have a1:=tex_le x.bytes 262144 h.2 (by omega)
  have a2:=h.1
  unfold datB
  simp only [List.length_append,List.length_cons,List.length_nil];omega) (by omega)
 unfold modB
 simp only [List.length_append,List.length_cons,List.length_nil]
 omega
theorem wr_of {d:Nat} {m:Mod d} (h:chk m=0) (hN:NRM m):Wr m:=by
 obtain ⟨hf,⟨c,hc⟩,hL,hs,hF⟩:=chk_zero h
 obtain ⟨N1,N2,N3,N4⟩:=hN
 have ht:=(goF_tot m.funcs 0 c (by omega) hc)
 unfold fewM at hf
 simp only [Bool.and_eq_true,List.all_cons,List.all_nil] at hf
 unfold shM at hs
 simp only [Bool.and_eq_true] at hs
 obtain ⟨⟨f0,f1,f2,f3,f4,_⟩,⟨f5,f6,f8,f9,_⟩,f7,fT,fL,fE,fD⟩:=hf
 obtain ⟨sT,sI,sF,sL,sG,sX,sS,sE,sD⟩:=hs
 have n0:=few_iff f0
 have n1:=few_iff f1
 have n2:=few_iff f2
 have n3:=few_iff f3
 have n4:=few_iff f4
 have n5:=few_iff f5
 have n6:=few_iff f6
 have n8:=few_iff f8
 have n9:=few_iff f9
 have n7:m.start.length<=1:=by
  have:=of_decide_eq_true (p:=((m.start.length:Int)<=1)) f7;omega
 have hT:∀x ∈ m.types,x.params.length<=4096/\x.results.length<=4096:=fun x hx=>by
  have:=List.all_eq_true.1 fT x hx
  unfold fewT at this
  simp only [Bool.and_eq_true] at this
  exact ⟨few_iff this.1,few_iff this.2.1⟩
 have hI:∀x ∈ m.imports,x.mod.size<=64/\x.name.size<=64/\0<=x.type/\x.type<=4294967295:=fun x hx=>by
  have:=List.all_eq_true.1 sI x hx
  unfold shI nm at this
  simp only [Bool.and_eq_true] at this
  obtain ⟨⟨a,b,_⟩,e,_⟩:=this
  have a:=of_decide_eq_true a.1
  have b:=of_decide_eq_true b.1
  exact ⟨by omega,by omega,idx_iff e⟩
 have hFu:∀x ∈ m.funcs,(0<=x.type/\x.type<=4294967295)/\Rg d x.body/\x.locals.length<=256:=fun x hx=>by
  have a:=List.all_eq_true.1 sF x hx
  have b:=of_decide_eq_true (p:=((x.locals.length:Int)<=256)) (List.all_eq_true.1 fL x hx)
  unfold shF at a
  simp only [Bool.and_eq_true] at a
  exact ⟨idx_iff a.1.1,rg_of d x.body 0 (goF_all _ hF x hx) (goF_all _ hL x hx) (N1 x hx),by omega⟩
 have hLi:∀x ∈ m.tables++m.mems,(0<=x.min/\x.min<=4294967295)/\0<=x.max/\x.max<=4294967295:=fun x hx=>by
  have a:=List.all_eq_true.1 sL x hx
  unfold shL at a
  simp only [Bool.and_eq_true] at a
  exact ⟨idx_iff a.1.1,idx_iff a.1.2.1⟩
 have hB:=fun x hx=>hLi x (List.mem_append_left _ hx)
 have hM:=fun x hx=>hLi x (List.mem_append_right _ hx)
 have hG:=fun x (hx:x ∈ m.globals)=>by
  have a:=List.all_eq_true.1 sG x hx
  unfold shG at a
  simp only [Bool.and_eq_true] at a
  exact cst_rg a.2 (N2 x hx)
 have hX:∀x ∈ m.exports,x.name.size<=64/\0<=x.index/\x.index<=4294967295:=fun x hx=>by
  have a:=List.all_eq_true.1 sX x hx
  unfold shE nm at a
  simp only [Bool.and_eq_true] at a
  obtain ⟨⟨a,_⟩,_,e,_⟩:=a
  have a:=of_decide_eq_true a.1
  exact ⟨by omega,idx_iff e⟩
 have hS:∀x ∈ m.start,0<=x/\x<=4294967295:=fun x hx=>idx_iff (List.all_eq_true.1 sS x hx)
 have hE:=fun x (hx:x ∈ m.elems)=>by
  have a:=List.all_eq_true.1 sE x hx
  simp only [Bool.and_eq_true] at a
  have b:=List.all_eq_true.1 fE x hx
  unfold fewE at b
  simp only [Bool.and_eq_true] at b
  exact (⟨cst_rg a.1 (N3 x hx),fun y hy=>idx_iff (List.all_eq_true.1 a.2 y hy),few_iff b.1⟩:_/\(∀y ∈ x.funcs,0<=y/\y<=4294967295)/\x.funcs.length<=4096)
 have hD:=fun x (hx:x ∈ m.datas)=>by
  have a:=List.all_eq_true.1 sD x hx
  exact (⟨cst_rg a (N4 x hx),room_le _ _ fD x hx⟩:_/\x.bytes.size<=262144)
 refine ⟨fun x hx=>?_,fun x hx=>?_,fun x hx=>?_,hB,hM,fun x hx=>(hG x hx).1,fun x hx=>?_,hS,fun x hx=>?_,fun x hx=>?_,by omega,?_,fun x hx y hy=>?_,n7⟩
 ·have:=hT x hx;omega
 ·have:=hI x hx;omega
 ·have:=hFu x hx;exact ⟨this.1,this.2.1,by omega⟩
 ·have:=hX x hx;omega
 ·have:=hE x hx;exact ⟨this.1.1,this.2.1,by omega⟩
 ·have:=hD x hx;exact ⟨this.1.1,by omega⟩
 ·exact short_of hT hI hFu hB hM (fun x hx=>(hG x hx).2) hX hS (fun x hx=>⟨(hE x hx).1.2,(hE x hx).2⟩) (fun x hx=>⟨(hD x hx).1.2,(hD x hx).2⟩) (by omega) n0 n1 n2 n3 n4 n5 n6 (by omega) n8 n9
 ·have a:=List.all_eq_true.1 sF x hx
  unfold shF at a
  simp only [Bool.and_eq_true] at a
  exact of_decide_eq_true (List.all_eq_true.1 a.2 y hy)
end Enc
end Go.Proofs.YtlcpagiljfpbpaaGreatDoor

