/- Texts that the claim needs. -/
import Derived.Test.YtgbbmdknbflilaaDoorQDcu2
import Derived.Test.YtgbbmdknbflilaaDoorQDcu26
namespace Go.Proofs.YtgbbmdknbflilaaDoor
open Go.RowKit Rep
set_option linter.unusedVariables false
namespace Dec
theorem ext_mid (s:ByteArray) (k i j:Nat) (h:j<=k):(s.extract 0 k).extract i j=s.extract i j:=by
 rw [ByteArray.extract_extract]
 congr 1
 ·omega
 ·omega
theorem rtext_cut:Cut rtext:=by
 intro s en i a j k he hk hi hie h
 obtain ⟨n,m,h1,h2⟩:=bd_in h
 obtain ⟨p1,p2,p3⟩:=ru_cut s en i n m k he hk hi hie h1
 have hn:=ru_ok he h1
 by_cases hc:n<=(en:Int)-m
 ·rw [if_pos hc] at h2
  injection h2 with h2
  injection h2 with h3 h4
  subst h3;subst h4
  refine ⟨by omega,by omega,?_⟩
  unfold rtext
  by_cases hm:m<=k
  ·rw [p3,if_pos hm,bd_ok]
   by_cases hj:m+n.toNat<=k
   ·rw [if_pos (by omega),if_pos hj,ext_mid s k _ _ hj]
   ·rw [if_neg (by omega),if_neg hj]
  ·rw [p3,if_neg hm,if_neg (by omega)];rfl
 ·rw [if_neg hc] at h2;cases h2
theorem rflag_cut:Cut rflag:=Cut.bd (g:=fun (b:Int) _ _ j=>if b<=1 then .ok (b == 1,j) else .error 50) nx_cut fun b=>Cut.ite (Cut.ok _) (Cut.err _)
theorem rname_cut:Cut rname:=Cut.bd (g:=fun (t:ByteArray) _ _ j=>if nm t then .ok (t,j) else .error 50) rtext_cut fun t=>Cut.ite (Cut.ok _) (Cut.err _)
theorem rlim_cut:Cut rlim:=by
 unfold rlim
 refine Cut.bd (g:=fun (f:Bool) s en j=>bd (ru s en j) fun a m=>if f=true then bd (ru s en m) fun b q=>.ok ((⟨a,b,true⟩:Lim),q) else .ok (⟨a,0,false⟩,m)) rflag_cut fun f=>?_
 refine Cut.bd (g:=fun (a:Int) s en m=>if f=true then bd (ru s en m) fun b q=>.ok ((⟨a,b,true⟩:Lim),q) else .ok (⟨a,0,false⟩,m)) ru_cut fun a=>?_
 exact Cut.ite (Cut.bd (g:=fun (b:Int) _ _ q=>.ok ((⟨a,b,true⟩:Lim),q)) ru_cut fun b=>Cut.ok _) (Cut.ok _)
theorem rexp_cut:Cut rexp:=by
 unfold rexp
 refine Cut.bd (g:=fun (t:ByteArray) s en j=>bd (nx s en j) fun x m=>if x<=3 then bd (ru s en m) fun b q=>.ok ((⟨t,x,b⟩:Exp),q) else .error 50) rname_cut fun t=>?_
 refine Cut.bd (g:=fun (x:Int) s en m=>if x<=3 then bd (ru s en m) fun b q=>.ok ((⟨t,x,b⟩:Exp),q) else .error 50) nx_cut fun x=>?_
 exact Cut.ite (Cut.bd (g:=fun (b:Int) _ _ q=>.ok ((⟨t,x,b⟩:Exp),q)) ru_cut fun b=>Cut.ok _) (Cut.err _)
theorem rimp_cut:Cut rimp:=by
 unfold rimp
 refine Cut.bd (g:=fun (t:ByteArray) s en j=>bd (rname s en j) fun x m=>bd (must s en 0 m) fun _ q=>bd (ru s en q) fun b e=>.ok ((⟨t,x,b⟩:Imp),e)) rname_cut fun t=>?_
 refine Cut.bd (g:=fun (x:ByteArray) s en m=>bd (must s en 0 m) fun _ q=>bd (ru s en q) fun b e=>.ok ((⟨t,x,b⟩:Imp),e)) rname_cut fun x=>?_
 refine Cut.bd (g:=fun (_:Unit) s en q=>bd (ru s en q) fun b e=>.ok ((⟨t,x,b⟩:Imp),e)) (must_cut 0) fun _=>?_
 exact Cut.bd (g:=fun (b:Int) _ _ e=>.ok ((⟨t,x,b⟩:Imp),e)) ru_cut fun b=>Cut.ok _
theorem rtab_cut:Cut rtab:=Cut.bd (g:=fun (_:Unit) s en j=>rlim s en j) (must_cut 112) fun _=>rlim_cut
theorem rfty_cut:Cut rfty:=Cut.bd (g:=fun (a:Int) _ _ j=>.ok (a,j)) ru_cut fun a=>Cut.ok _
theorem rlt_cut:Cut rlt:=Cut.bd (g:=fun (n:Int) s en i=>rep (rt s en) n.toNat i) rc_cut fun n=>rep_cut rt_cut _
theorem rft_cut:Cut rft:=by
 unfold rft
 refine Cut.bd (g:=fun (_:Unit) s en j=>bd (rlt s en j) fun a m=>bd (rlt s en m) fun b q=>.ok ((⟨a,b⟩:FT),q)) (must_cut 96) fun _=>?_
 refine Cut.bd (g:=fun (a:List Int) s en m=>bd (rlt s en m) fun b q=>.ok ((⟨a,b⟩:FT),q)) rlt_cut fun a=>?_
 exact Cut.bd (g:=fun (b:List Int) _ _ q=>.ok ((⟨a,b⟩:FT),q)) rlt_cut fun b=>Cut.ok _
theorem rconst_cut (d:Nat):Cut (rconst d):=by
 unfold rconst
 refine Cut.bd (g:=fun (op:Int) s en j=>if form op=10 then .error 51 else if op=65\/op=66\/op=35 then bd (rsim (none_ d) s en op j) fun x m=>bd (must s en 11 m) fun _ q=>.ok (x,q) else .error 50) nx_cut fun op=>?_
 refine Cut.ite (Cut.err _) (Cut.ite ?_ (Cut.err _))
 refine Cut.bd (g:=fun (x:Ins (IL d)) s en m=>bd (must s en 11 m) fun _ q=>.ok (x,q)) (rsim_cut (none_ d) op) fun x=>?_
 exact Cut.bd (g:=fun (_:Unit) _ _ q=>.ok (x,q)) (must_cut 11) fun _=>Cut.ok _
theorem rglo_cut (d:Nat):Cut (rglo d):=by
 unfold rglo
 refine Cut.bd (g:=fun (t:Int) s en j=>bd (rflag s en j) fun f m=>bd (rconst d s en m) fun x q=>.ok ((⟨t,f,x⟩:Glo d),q)) rt_cut fun t=>?_
 refine Cut.bd (g:=fun (f:Bool) s en m=>bd (rconst d s en m) fun x q=>.ok ((⟨t,f,x⟩:Glo d),q)) rflag_cut fun f=>?_
 exact Cut.bd (g:=fun (x:Ins (IL d)) _ _ q=>.ok ((⟨t,f,x⟩:Glo d),q)) (rconst_cut d) fun x=>Cut.ok _
theorem relm_cut (d:Nat):Cut (relm d):=by
 unfold relm
 refine Cut.bd (g:=fun (_:Unit) s en j=>bd (rconst d s en j) fun x m=>bd (rl s en m) fun l q=>.ok ((⟨x,l⟩:Elm d),q)) (must_cut 0) fun _=>?_
 refine Cut.bd (g:=fun (x:Ins (IL d)) s en m=>bd (rl s en m) fun l q=>.ok ((⟨x,l⟩:Elm d),q)) (rconst_cut d) fun x=>?_
 exact Cut.bd (g:=fun (l:List Int) _ _ q=>.ok ((⟨x,l⟩:Elm d),q)) rl_cut fun l=>Cut.ok _
theorem rdat_cut (d:Nat):Cut (rdat d):=by
 unfold rdat
 refine Cut.bd (g:=fun (_:Unit) s en j=>bd (rconst d s en j) fun x m=>bd (rtext s en m) fun t q=>.ok ((⟨x,t⟩:Dat d),q)) (must_cut 0) fun _=>?_
 refine Cut.bd (g:=fun (x:Ins (IL d)) s en m=>bd (rtext s en m) fun t q=>.ok ((⟨x,t⟩:Dat d),q)) (rconst_cut d) fun x=>?_
 exact Cut.bd (g:=fun (t:ByteArray) _ _ q=>.ok ((⟨x,t⟩:Dat d),q)) rtext_cut fun t=>Cut.ok _
theorem rents_cut {α:Type} {f:ByteArray->Nat->Nat->R α} (hf:Cut f):Cut (fun s en i=>rents (f s en) s en i):=Cut.bd (g:=fun (n:Int) s en j=>rep (f s en) n.toNat j) rc_cut fun n=>rep_cut hf _
theorem rstart_cut:Cut rstart:=Cut.bd (g:=fun (a:Int) _ _ j=>.ok ([a],j)) ru_cut fun a=>Cut.ok _
theorem rlocs_cut:∀(r:Nat) (l:List Int),Cut (fun s en i=>rlocs s en r l i)
 | 0,l=>Cut.ok _
 | r+1,l=>by
  refine Cut.bd (g:=fun (c:Int) s en j=>if c<=256-(l.length:Int) then bd (rt s en j) fun t j2=>rlocs s en r (l++List.replicate c.toNat t) j2 else .error 3) ru_cut fun c=>?_
  exact Cut.ite (Cut.bd (g:=fun (t:Int) s en j2=>rlocs s en r (l++List.replicate c.toNat t) j2) rt_cut fun t=>rlocs_cut r _) (Cut.err _)
theorem rlocals_cut:Cut rlocals:=Cut.bd (g:=fun (n:Int) s en j=>rlocs s en n.toNat [] j) rc_cut fun n=>rlocs_cut _ _
theorem rfun_cut:Cut2 rfun:=by
 unfold rfun
 refine Cut2.bd (g:=fun (l:List Int) s en j m=>bd2 (rexpr s en j m) fun b j2 m2=>.ok ((l,b),j2,m2)) (Cut.lift rlocals_cut) fun l=>?_
 exact Cut2.bd (g:=fun (b:IL 81) _ _ j2 m2=>.ok ((l,b),j2,m2)) rexpr_cut fun b=>Cut2.ok _
theorem min_min (a b c:Nat):min (min a b) c=min (min a c) b:=by omega
theorem rsizedF_cut:Cut2 rsizedF:=by
 intro s en i n a j m k he hk hi hie h
 unfold rsizedF at h
 obtain ⟨z,j1,n1,h1,h2⟩:=bd2_in h
 obtain ⟨h1',rfl⟩:=lift_in h1
 obtain ⟨p1,p2,p3⟩:=ru_cut s en i z j1 k he hk hi hie h1'
 obtain ⟨x,m2,n2,h3,h4⟩:=bd2_in h2
 by_cases hq:m2=j1+z.toNat
 ·rw [if_pos hq] at h4
  injection h4 with h4
  injection h4 with h5 h6
  injection h6 with h6 h7
  subst h5;subst h6;subst h7
  have hz:j1<=min en (j1+z.toNat):=by omega
  obtain ⟨q1,q2,_⟩:=rfun_cut s (min en (j1+z.toNat)) j1 n1 x m2 n2 s.size (by omega) (Nat.le_refl _) (by omega) hz h3
  refine ⟨by omega,by omega,?_⟩
  unfold rsizedF
  by_cases hm:j1<=k
  ·rw [p3,if_pos hm]
   show bd2 (rfun _ (min (min en k) (j1+z.toNat)) j1 n1) _=_
   obtain ⟨r1,r2,r3⟩:=rfun_cut s (min en (j1+z.toNat)) j1 n1 x m2 n2 k (by omega) hk hm hz h3
   rw [min_min en k,r3]
   by_cases hj:m2<=k
   ·rw [if_pos hj]
    try rw [if_pos hj]
    show (if m2=j1+z.toNat then _ else _)=_
    rw [if_pos hq]
   ·rw [if_neg hj];first|rfl|(rw [if_neg hj];rfl)
  ·rw [p3,if_neg hm,if_neg (by omega)];rfl
 ·rw [if_neg hq] at h4;cases h4
theorem rfs_cut:∀(r:Nat) (l:List (List Int × IL 81)),Cut2 (fun s en i n=>rfs s en r l i n)
 | 0,l=>Cut2.ok _
 | r+1,l=>Cut2.bd (g:=fun (x:List Int × IL 81) s en j m=>rfs s en r (l++[x]) j m) rsizedF_cut fun x=>rfs_cut r _
theorem rcode_cut (L:Nat):Cut2 (fun s en i n=>rcode s en L i n):=by
 unfold rcode
 exact Cut2.bd (g:=fun (z:Int) s en j m=>if z=(L:Int) then rfs s en L [] j m else .error 50) (Cut.lift rc_cut) fun z=>Cut2.ite (rfs_cut L []) (Cut2.err _)
theorem secM_cut (id:Int) (h0:id≠0) (h1:0<=id) (st:Sg):Cut (fun s en i=>secM s id st en i):=by
 unfold secM
 have hid:id.toNat≠0:=by omega
 generalize id.toNat=n at *
 match n,hid with
 | 1,_=>exact Cut.bd (g:=fun (l:List FT) _ _ j=>.ok (({ st with m:={ st.m with types:=l } }:Sg),j)) (rents_cut rft_cut) fun l=>Cut.ok _
 | 2,_=>exact Cut.bd (g:=fun (l:List Imp) _ _ j=>.ok (({ st with m:={ st.m with imports:=l } }:Sg),j)) (rents_cut rimp_cut) fun l=>Cut.ok _
 | 3,_=>exact Cut.bd (g:=fun (l:List Int) _ _ j=>.ok (({ st with m:={ st.m with funcs:=l.map tyFun } }:Sg),j)) (rents_cut rfty_cut) fun l=>Cut.ok _
 | 4,_=>exact Cut.bd (g:=fun (l:List Lim) _ _ j=>.ok (({ st with m:={ st.m with tables:=l } }:Sg),j)) (rents_cut rtab_cut) fun l=>Cut.ok _
 | 5,_=>exact Cut.bd (g:=fun (l:List Lim) _ _ j=>.ok (({ st with m:={ st.m with mems:=l } }:Sg),j)) (rents_cut rlim_cut) fun l=>Cut.ok _
 | 6,_=>exact Cut.bd (g:=fun (l:List (Glo 81)) _ _ j=>.ok (({ st with m:={ st.m with globals:=l } }:Sg),j)) (rents_cut (rglo_cut 81)) fun l=>Cut.ok _
 | 7,_=>exact Cut.bd (g:=fun (l:List Exp) _ _ j=>.ok (({ st with m:={ st.m with exports:=l } }:Sg),j)) (rents_cut rexp_cut) fun l=>Cut.ok _
 | 8,_=>exact Cut.bd (g:=fun (l:List Int) _ _ j=>.ok (({ st with m:={ st.m with start:=l } }:Sg),j)) rstart_cut fun l=>Cut.ok _
 | 9,_=>exact Cut.bd (g:=fun (l:List (Elm 81)) _ _ j=>.ok (({ st with m:={ st.m with elems:=l } }:Sg),j)) (rents_cut (relm_cut 81)) fun l=>Cut.ok _
 | 10,_ =>
  intro s en i a j k he hk hi hie h
  have h:(match rcode s en st.m.funcs.length i st.cnt with | .ok (fs,j,n)=>.ok ((⟨{ st.m with funcs:=List.zipWith codeFun st.m.funcs fs },st.m.funcs.length,n⟩:Sg),j) | .error z=>.error z:R Sg)=.ok (a,j):=h
  show i<=j/\j<=en/\(match rcode (s.extract 0 k) (min en k) st.m.funcs.length i st.cnt with | .ok (fs,j,n)=>.ok ((⟨{ st.m with funcs:=List.zipWith codeFun st.m.funcs fs },st.m.funcs.length,n⟩:Sg),j) | .error z=>.error z:R Sg)=_
  cases hc:rcode s en st.m.funcs.length i st.cnt with
  | error z=>rw [hc] at h;cases h
  | ok v =>
   obtain ⟨fs,j2,n2⟩:=v
   rw [hc] at h
   injection h with h
   injection h with h3 h4
   subst h3;subst h4
   obtain ⟨p1,p2,p3⟩:=rcode_cut st.m.funcs.length s en i st.cnt fs j2 n2 k he hk hi hie hc
   have p3:rcode (s.extract 0 k) (min en k) st.m.funcs.length i st.cnt=_:=p3
   refine ⟨p1,p2,?_⟩
   rw [p3]
   by_cases hj:j2<=k
   ·rw [if_pos hj];first|done|rfl|(rw [if_pos hj];done)|(rw [if_pos hj];rfl)
   ·rw [if_neg hj];first|done|rfl|(rw [if_neg hj];done)|(rw [if_neg hj];rfl)
 | 11,_=>exact Cut.bd (g:=fun (l:List (Dat 81)) _ _ j=>.ok (({ st with m:={ st.m with datas:=l } }:Sg),j)) (rents_cut (rdat_cut 81)) fun l=>Cut.ok _
 | n+12,_=>exact Cut.err 50
theorem rsizedM_cut (id:Int) (h1:0<=id) (st:Sg):Cut (fun s en i=>rsized (secM s id) s st en i):=by
 intro s en i a j k he hk hi hie h
 have h:rsized (secM s id) s st en i=.ok (a,j):=h
 show i<=j/\j<=en/\rsized (secM (s.extract 0 k) id) (s.extract 0 k) st (min en k) i=_
 unfold rsized at h ⊢
 obtain ⟨z,j1,h1',h2⟩:=bd_in h
 obtain ⟨p1,p2,p3⟩:=ru_cut s en i z j1 k he hk hi hie h1'
 obtain ⟨x,m2,h3,h4⟩:=bd_in h2
 by_cases hq:m2=j1+z.toNat
 ·rw [if_pos hq] at h4
  injection h4 with h4
  injection h4 with h5 h6
  subst h5;subst h6
  have hz:j1<=min en (j1+z.toNat):=by omega
  by_cases h0:id=0
  ·subst h0
   have h3:bd (rcustom s (min en (j1+z.toNat)) j1) (fun _ j=>(.ok (st,j):R Sg))=.ok (x,m2):=h3
   obtain ⟨u,m3,h7,h8⟩:=bd_in h3
   injection h8 with h8
   injection h8 with h9 h10
   subst h9;subst h10
   unfold rcustom at h7
   obtain ⟨t,m4,h11,h12⟩:=bd_in h7
   by_cases hv:Lib.validD t.data.toList=true
   ·rw [if_pos hv] at h12
    injection h12 with h12
    injection h12 with _ h13
    have hE:min en (j1+z.toNat)=j1+z.toNat:=by omega
    rw [hE] at h11
    refine ⟨by omega,by omega,?_⟩
    by_cases hm:j1<=k
    ·rw [p3,if_pos hm]
     show bd (bd (rcustom (s.extract 0 k) (min (min en k) (j1+z.toNat)) j1) fun _ j=>(.ok (st,j):R Sg)) _=_
     obtain ⟨r1,r2,r3⟩:=rtext_cut s (j1+z.toNat) j1 t m4 k (by omega) hk hm (by omega) h11
     rw [min_min en k,hE]
     unfold rcustom
     rw [r3]
     by_cases hj:m4<=k
     ·rw [if_pos hj]
      show bd (bd (if Lib.validD t.data.toList=true then (.ok ((),min (j1+z.toNat) k):R Unit) else .error 50) fun _ j=>(.ok (st,j):R Sg)) _=_
      rw [if_pos hv]
      show (if min (j1+z.toNat) k=j1+z.toNat then (.ok (st,min (j1+z.toNat) k):R Sg) else .error 50)=_
      by_cases hm3:m3<=k
      ·rw [if_pos (by omega),if_pos hm3,show min (j1+z.toNat) k=m3 by omega]
      ·rw [if_neg (by omega),if_neg hm3]
     ·rw [if_neg hj,if_neg (by omega)];rfl
    ·rw [p3,if_neg hm,if_neg (by omega)];rfl
   ·rw [if_neg hv] at h12;cases h12
  ·have hc:=secM_cut id h0 h1 st
   obtain ⟨q1,q2,_⟩:=hc s (min en (j1+z.toNat)) j1 x m2 s.size (by omega) (Nat.le_refl _) (by omega) hz h3
   refine ⟨by omega,by omega,?_⟩
   by_cases hm:j1<=k
   ·rw [p3,if_pos hm]
    show bd (secM (s.extract 0 k) id st (min (min en k) (j1+z.toNat)) j1) _=_
    obtain ⟨r1,r2,r3⟩:=hc s (min en (j1+z.toNat)) j1 x m2 k (by omega) hk hm hz h3
    have r3:secM (s.extract 0 k) id st (min (min en (j1+z.toNat)) k) j1=_:=r3
    rw [min_min en k,r3]
    by_cases hj:m2<=k
    ·rw [if_pos hj]
     try rw [if_pos hj]
     show (if m2=j1+z.toNat then _ else _)=_
     rw [if_pos hq]
    ·rw [if_neg hj];first|rfl|(rw [if_neg hj];rfl)
   ·rw [p3,if_neg hm,if_neg (by omega)];rfl
 ·rw [if_neg hq] at h4;cases h4
def endsF (s:ByteArray):Nat->Nat->List Nat
 | 0,_=>[]
 | f+1,i=>if i<s.size then
   if (Leb.uRead s ((i:Int)+1) 32).2.2=0/\(Leb.uRead s ((i:Int)+1) 32).1<=(s.size:Int)-(Leb.uRead s ((i:Int)+1) 32).2.1 then
    ((Leb.uRead s ((i:Int)+1) 32).2.1+(Leb.uRead s ((i:Int)+1) 32).1).toNat :: endsF s f ((Leb.uRead s ((i:Int)+1) 32).2.1+(Leb.uRead s ((i:Int)+1) 32).1).toNat
   else []
  else []
theorem secs_cut (s:ByteArray) (k:Nat) (hk:k<s.size):∀(f g h:Nat) (last:Int) (st:Sg) (i:Nat) (x:Sg × Nat),i<=k->k-i<g->s.size-i<h->rsecsM s f last st i=some (.ok x) ->
  rsecsM (s.extract 0 k) g last st i=some (.error 50)\/((k=i\/k ∈ endsF s h i)/\∃y,rsecsM (s.extract 0 k) g last st i=some (.ok y))
 | 0,g,h,last,st,i,x,hi,hg,hh,hx=>by cases hx
 | f+1,0,h,last,st,i,x,hi,hg,hh,hx=>by omega
 | f+1,g+1,0,last,st,i,x,hi,hg,hh,hx=>by omega
 | f+1,g+1,h+1,last,st,i,x,hi,hg,hh,hx=>by
  have hsz:=Leb.ext_size s k (by omega)
  by_cases hik:i=k
  ·subst hik
   unfold rsecsM rsecs
   rw [hsz,if_neg (by omega)]
   split
   ·exact .inr ⟨.inl rfl,_,rfl⟩
   ·exact .inl rfl
  have hlt:i<k:=by omega
  have e1:rsecsM s (f+1) last st i=rsecs (secM s) okM Sg.codes flM s s.size (f+1) last st i:=rfl
  rw [e1] at hx
  unfold rsecs at hx
  rw [if_pos (by omega)] at hx
  have e2:rsecsM (s.extract 0 k) (g+1) last st i=rsecs (secM (s.extract 0 k)) okM Sg.codes flM (s.extract 0 k) k (g+1) last st i:=by show rsecs _ _ _ _ _ (s.extract 0 k).size _ _ _ _=_;rw [hsz]
  rw [e2]
  have hn:nx s s.size i=.ok (Leb.bt s i,i+1):=by unfold nx;rw [if_pos (by omega)]
  have hn2:nx (s.extract 0 k) k i=.ok (Leb.bt s i,i+1):=by unfold nx;rw [if_pos hlt,Leb.bt_cut s k i hlt (by omega)]
  rw [hn] at hx
  unfold rsecs
  rw [if_pos hlt,hn2]
  simp only [] at hx ⊢
  have hb:=Leb.bt_bd s i
  generalize Leb.bt s i=id at *
  by_cases h1:11<id
  ·rw [if_pos h1] at hx;cases hx
  rw [if_neg h1] at hx ⊢
  by_cases h2:id≠0/\¬ last<id
  ·rw [if_pos h2] at hx;cases hx
  rw [if_neg h2] at hx ⊢
  have hok:okM id=true:=decide_eq_true ⟨by omega,by omega⟩
  rw [if_pos hok] at hx ⊢
  cases hz:rsized (secM s id) s st s.size (i+1) with
  | error z=>rw [hz] at hx;cases hx
  | ok v =>
   obtain ⟨st',m⟩:=v
   rw [hz] at hx
   obtain ⟨p1,p2,p3⟩:=rsizedM_cut id (by omega) st s s.size (i+1) st' m k (Nat.le_refl _) (by omega) (by omega) (by omega) hz
   have p3:rsized (secM (s.extract 0 k) id) (s.extract 0 k) st (min s.size k) (i+1)=_:=p3
   rw [show min s.size k=k by omega] at p3
   have hgt:=rsized_gt (Nat.le_refl _) hz
   rw [p3]
   by_cases hm:m<=k
   ·rw [if_pos hm]
    simp only []
    have key:m ∈ endsF s (h+1) i/\∀q,q ∈ endsF s h m->q ∈ endsF s (h+1) i:=by
     unfold rsized at hz
     obtain ⟨z,j1,h3,h4⟩:=bd_in hz
     obtain ⟨x2,m2,h5,h6⟩:=bd_in h4
     have hru:=ru_ok (Nat.le_refl _) h3
     by_cases hq:m2=j1+z.toNat
     ·rw [if_pos hq] at h6
      injection h6 with h6
      injection h6 with _ h7
      unfold ru at h3
      rw [show s.extract 0 s.size=s from ByteArray.extract_zero_size] at h3
      by_cases h0:(Leb.uRead s ((i+1:Nat):Int) 32).2.2=0
      ·rw [if_pos h0] at h3
       injection h3 with h3
       injection h3 with h8 h9
       have hui:=uRead_at32 s (i+1) h0
       rw [show (((i+1:Nat):Int))=(i:Int)+1 by omega] at h0 h8 h9 hui
       have hE:((Leb.uRead s ((i:Int)+1) 32).2.1+(Leb.uRead s ((i:Int)+1) 32).1).toNat=m:=by omega
       have e3:endsF s (h+1) i=m :: endsF s h m:=by
        show (if i<s.size then _ else _)=_
        rw [if_pos (by omega),if_pos ⟨h0,by omega⟩,hE]
       rw [e3]
       exact ⟨List.mem_cons_self,fun q hq=>List.mem_cons_of_mem _ hq⟩
      ·rw [if_neg h0] at h3;cases h3
     ·rw [if_neg hq] at h6;cases h6
    have ih:=secs_cut s k hk f g h (if id=0 then last else id) st' m x hm (by omega) (by omega) hx
    have e4:∀l st i,rsecsM (s.extract 0 k) g l st i=rsecs (secM (s.extract 0 k)) okM Sg.codes flM (s.extract 0 k) k g l st i:=fun l st i=>by show rsecs _ _ _ _ _ (s.extract 0 k).size _ _ _ _=_;rw [hsz]
    rw [e4] at ih
    rcases ih with ih|⟨h7,h8⟩
    ·exact .inl ih
    ·refine .inr ⟨.inr ?_,h8⟩
     rcases h7 with rfl|h7
     ·exact key.1
     ·exact key.2 k h7
   ·rw [if_neg hm]
    exact .inl rfl
theorem pfx_cut (s:ByteArray) (k:Nat) (hk:k<=s.size) (h:pfx s=true):pfx (s.extract 0 k)=decide (8<=k):=by
 unfold pfx at *
 rw [Leb.ext_size s k hk]
 by_cases h8:8<=k
 ·rw [Bool.and_eq_true] at h
  rw [ext_ext s k 8 h8,h.2]
  simp
 ·simp [h8]
theorem rdec_cut (s:ByteArray) (k:Nat) (hk:k<s.size) (hs:s.size<=20000) (x:Sg × Nat) (h:rdec s=.ok x) :
  rdec (s.extract 0 k)=.error 50\/(k ∈ 8 :: endsF s (s.size+1) 8/\∃y,rdec (s.extract 0 k)=.ok y):=by
 have hsz:=Leb.ext_size s k (by omega)
 unfold rdec at h
 rw [if_neg (by omega)] at h
 cases hp:pfx s with
 | false=>rw [hp,if_pos rfl] at h;cases h
 | true =>
  rw [hp,if_neg (by simp)] at h
  have hp2:=pfx_cut s k (by omega) hp
  unfold rdec
  rw [hsz,if_neg (by omega),hp2]
  by_cases h8:8<=k
  ·rw [if_neg (by simp [h8])]
   obtain ⟨X,hX⟩:=rsecsM_some s (s.size+1) 0 sg0 8 (by omega)
   rw [hX] at h
   have h:X=.ok x:=h
   subst h
   rcases secs_cut s k hk (s.size+1) (k+1) (s.size+1) 0 sg0 8 x h8 (by omega) (by omega) hX with h1|⟨h1,y,h2⟩
   ·left;rw [h1];rfl
   ·right
    refine ⟨?_,y,by rw [h2];rfl⟩
    rcases h1 with rfl|h1
    ·exact List.mem_cons_self
    ·exact List.mem_cons_of_mem _ h1
  ·rw [if_pos (by simp [h8])]
   exact .inl rfl
end Dec
end Go.Proofs.YtgbbmdknbflilaaDoor

namespace Go.Proofs.YtgbbmdknbflilaaDoor
open Go.RowKit Rep
set_option linter.unusedVariables false
namespace Dec
def NZ {α:Type} (x:R α):Prop:=∀z,x=.error z->z≠0
def NZ2 {α:Type} (x:R2 α):Prop:=∀z,x=.error z->z≠0
section
variable {α β:Type}
theorem NZ.bd {x:R α} {f:α->Nat->R β} (hx:NZ x) (hf:∀a i,NZ (f a i)):NZ (bd x f):=fun z h=>by
 cases x with
 | error e=>exact hx z (by injection h with h;rw [h])
 | ok v=>exact hf _ _ z h
theorem NZ.ok (v:α × Nat):NZ (.ok v):=fun z h=>by cases h
theorem NZ.err {e:Int} (h:e≠0):NZ (.error e:R α):=fun z hz=>by injection hz with hz;omega
theorem NZ.ite {c:Prop} [Decidable c] {x y:R α} (hx:NZ x) (hy:NZ y):NZ (if c then x else y):=by
 split
 ·exact hx
 ·exact hy
theorem NZ2.bd {x:R2 α} {f:α->Nat->Nat->R2 β} (hx:NZ2 x) (hf:∀a i n,NZ2 (f a i n)):NZ2 (bd2 x f):=fun z h=>by
 cases x with
 | error e=>exact hx z (by injection h with h;rw [h])
 | ok v=>exact hf _ _ _ z h
theorem NZ2.ok (v:α × Nat × Nat):NZ2 (.ok v):=fun z h=>by cases h
theorem NZ2.err {e:Int} (h:e≠0):NZ2 (.error e:R2 α):=fun z hz=>by injection hz with hz;omega
theorem NZ2.ite {c:Prop} [Decidable c] {x y:R2 α} (hx:NZ2 x) (hy:NZ2 y):NZ2 (if c then x else y):=by
 split
 ·exact hx
 ·exact hy
theorem NZ.lift {x:R α} (hx:NZ x) (n:Nat):NZ2 (lift x n):=fun z h=>by
 cases x with
 | error e=>exact hx z (by injection h with h;rw [h])
 | ok v=>cases h
end
theorem nz_nx (s:ByteArray) (en i:Nat):NZ (nx s en i):=NZ.ite (NZ.ok _) (NZ.err (by decide))
theorem nz_ru (s:ByteArray) (en i:Nat):NZ (ru s en i):=NZ.ite (NZ.ok _) (NZ.err (by decide))
theorem nz_rs (s:ByteArray) (en:Nat) (b:Int) (i:Nat):NZ (rs s en b i):=NZ.ite (NZ.ok _) (NZ.err (by decide))
theorem nz_must (s:ByteArray) (en:Nat) (b:Int) (i:Nat):NZ (must s en b i):=NZ.bd (nz_nx _ _ _) fun _ _=>NZ.ite (NZ.ok _) (NZ.err (by decide))
theorem nz_vty (b:Int) (i:Nat):NZ (vty b i):=NZ.ite (NZ.err (by decide)) (NZ.ite (NZ.ok _) (NZ.err (by decide)))
theorem nz_rt (s:ByteArray) (en i:Nat):NZ (rt s en i):=NZ.bd (nz_nx _ _ _) fun _ _=>nz_vty _ _
theorem nz_rres (s:ByteArray) (en i:Nat):NZ (rres s en i):=NZ.bd (nz_nx _ _ _) fun _ _=>NZ.ite (NZ.ok _) (nz_vty _ _)
theorem nz_rc (s:ByteArray) (en i:Nat):NZ (rc s en i):=NZ.bd (nz_ru _ _ _) fun _ _=>NZ.ite (NZ.ok _) (NZ.err (by decide))
theorem nz_rep {α:Type} {f:Nat->R α} (hf:∀i,NZ (f i)):∀n i,NZ (rep f n i)
 | 0,i=>NZ.ok _
 | n+1,i=>NZ.bd (hf i) fun _ _=>NZ.bd (nz_rep hf n _) fun _ _=>NZ.ok _
theorem nz_rl (s:ByteArray) (en i:Nat):NZ (rl s en i):=NZ.bd (nz_rc _ _ _) fun _ _=>nz_rep (nz_ru s en) _ _
theorem nz_rlt (s:ByteArray) (en i:Nat):NZ (rlt s en i):=NZ.bd (nz_rc _ _ _) fun _ _=>nz_rep (nz_rt s en) _ _
theorem nz_rsim {α:Type} (z:α) (s:ByteArray) (en:Nat) (op:Int) (i:Nat):NZ (rsim z s en op i):=by
 unfold rsim
 repeat' first|exact NZ.ok _|refine NZ.ite ?_ ?_|refine NZ.bd (nz_must _ _ _ _) fun _ _=>?_|refine NZ.bd (nz_ru _ _ _) fun _ _=>?_|refine NZ.bd (nz_rl _ _ _) fun _ _=>?_|refine NZ.bd (nz_rs _ _ _ _) fun _ _=>?_
theorem nz_rask {dep n:Nat} {op z:Int} (h:rask dep op n=some z):z≠0:=by
 unfold rask at h
 repeat' split at h
 all_goals first|(cases h;done)|(cases h;decide)
theorem nz_rblk {α:Type} (z:α) (s:ByteArray) (en:Nat) {sub:Nat->Nat->R2 (α × Int)} (hs:∀i n,NZ2 (sub i n)) (op:Int) (i n:Nat):NZ2 (rblk z s en sub op i n):=by
 unfold rblk
 refine NZ2.bd (NZ.lift (nz_rres _ _ _) _) fun _ _ _=>NZ2.bd (hs _ _) fun _ _ _=>NZ2.ite (NZ2.bd (hs _ _) fun _ _ _=>NZ2.ite (NZ2.ok _) (NZ2.err (by decide))) (NZ2.ite (NZ2.ok _) (NZ2.err (by decide)))
theorem nz_rins {d:Nat} {sub:Nat->Nat->R2 (IL d × Int)} (hs:∀i n,NZ2 (sub i n)) (s:ByteArray) (en dep:Nat) (op:Int) (i n:Nat):NZ2 (rins sub s en dep op i n):=by
 unfold rins
 split
 ·rename_i e he;exact NZ2.err (nz_rask he)
 ·exact NZ2.ite (nz_rblk _ _ _ hs _ _ _) (NZ.lift (nz_rsim _ _ _ _ _) _)
theorem nz_rloop {d:Nat} {sub:Nat->Nat->R2 (IL d × Int)} (hs:∀i n,NZ2 (sub i n)) (s:ByteArray) (en dep:Nat):∀f i n,NZ2 (rloop sub s en dep f i n)
 | 0,i,n=>NZ2.err (by decide)
 | f+1,i,n=>NZ2.bd (NZ.lift (nz_nx _ _ _) _) fun _ _ _=>NZ2.ite (NZ2.ok _) (NZ2.bd (nz_rins hs s en dep _ _ _) fun _ _ _=>NZ2.bd (nz_rloop hs s en dep f _ _) fun _ _ _=>NZ2.ok _)
theorem nz_rseq (s:ByteArray) (en:Nat):∀d dep i n,NZ2 (rseq s en d dep i n)
 | 0,dep,i,n=>NZ2.bd (NZ.lift (nz_nx _ _ _) _) fun op _ n1=>NZ2.ite (NZ2.ok _) (NZ2.err (by
   cases h:rask dep op n1 with
   | none=>decide
   | some z=>exact nz_rask h))
 | d+1,dep,i,n=>nz_rloop (nz_rseq s en d (dep+1)) s en dep _ _ _
theorem nz_rexpr (s:ByteArray) (en i n:Nat):NZ2 (rexpr s en i n):=NZ2.bd (nz_rseq _ _ _ _ _ _) fun _ _ _=>NZ2.ite (NZ2.ok _) (NZ2.err (by decide))
theorem nz_rtext (s:ByteArray) (en i:Nat):NZ (rtext s en i):=NZ.bd (nz_ru _ _ _) fun _ _=>NZ.ite (NZ.ok _) (NZ.err (by decide))
theorem nz_rname (s:ByteArray) (en i:Nat):NZ (rname s en i):=NZ.bd (nz_rtext _ _ _) fun _ _=>NZ.ite (NZ.ok _) (NZ.err (by decide))
theorem nz_rflag (s:ByteArray) (en i:Nat):NZ (rflag s en i):=NZ.bd (nz_nx _ _ _) fun _ _=>NZ.ite (NZ.ok _) (NZ.err (by decide))
theorem nz_rcustom (s:ByteArray) (en i:Nat):NZ (rcustom s en i):=NZ.bd (nz_rtext _ _ _) fun _ _=>NZ.ite (NZ.ok _) (NZ.err (by decide))
theorem nz_rlim (s:ByteArray) (en i:Nat):NZ (rlim s en i):=NZ.bd (nz_rflag _ _ _) fun _ _=>NZ.bd (nz_ru _ _ _) fun _ _=>NZ.ite (NZ.bd (nz_ru _ _ _) fun _ _=>NZ.ok _) (NZ.ok _)
theorem nz_rexp (s:ByteArray) (en i:Nat):NZ (rexp s en i):=NZ.bd (nz_rname _ _ _) fun _ _=>NZ.bd (nz_nx _ _ _) fun _ _=>NZ.ite (NZ.bd (nz_ru _ _ _) fun _ _=>NZ.ok _) (NZ.err (by decide))
theorem nz_rimp (s:ByteArray) (en i:Nat):NZ (rimp s en i):=NZ.bd (nz_rname _ _ _) fun _ _=>NZ.bd (nz_rname _ _ _) fun _ _=>NZ.bd (nz_must _ _ _ _) fun _ _=>NZ.bd (nz_ru _ _ _) fun _ _=>NZ.ok _
theorem nz_rtab (s:ByteArray) (en i:Nat):NZ (rtab s en i):=NZ.bd (nz_must _ _ _ _) fun _ _=>nz_rlim _ _ _
theorem nz_rfty (s:ByteArray) (en i:Nat):NZ (rfty s en i):=NZ.bd (nz_ru _ _ _) fun _ _=>NZ.ok _
theorem nz_rft (s:ByteArray) (en i:Nat):NZ (rft s en i):=NZ.bd (nz_must _ _ _ _) fun _ _=>NZ.bd (nz_rlt _ _ _) fun _ _=>NZ.bd (nz_rlt _ _ _) fun _ _=>NZ.ok _
theorem nz_rconst (d:Nat) (s:ByteArray) (en i:Nat):NZ (rconst d s en i):=NZ.bd (nz_nx _ _ _) fun _ _=>NZ.ite (NZ.err (by decide)) (NZ.ite (NZ.bd (nz_rsim _ _ _ _ _) fun _ _=>NZ.bd (nz_must _ _ _ _) fun _ _=>NZ.ok _) (NZ.err (by decide)))
theorem nz_rglo (d:Nat) (s:ByteArray) (en i:Nat):NZ (rglo d s en i):=NZ.bd (nz_rt _ _ _) fun _ _=>NZ.bd (nz_rflag _ _ _) fun _ _=>NZ.bd (nz_rconst _ _ _ _) fun _ _=>NZ.ok _
theorem nz_relm (d:Nat) (s:ByteArray) (en i:Nat):NZ (relm d s en i):=NZ.bd (nz_must _ _ _ _) fun _ _=>NZ.bd (nz_rconst _ _ _ _) fun _ _=>NZ.bd (nz_rl _ _ _) fun _ _=>NZ.ok _
theorem nz_rdat (d:Nat) (s:ByteArray) (en i:Nat):NZ (rdat d s en i):=NZ.bd (nz_must _ _ _ _) fun _ _=>NZ.bd (nz_rconst _ _ _ _) fun _ _=>NZ.bd (nz_rtext _ _ _) fun _ _=>NZ.ok _
theorem nz_rents {α:Type} {f:Nat->R α} (hf:∀i,NZ (f i)) (s:ByteArray) (en i:Nat):NZ (rents f s en i):=NZ.bd (nz_rc _ _ _) fun _ _=>nz_rep hf _ _
theorem nz_rstart (s:ByteArray) (en i:Nat):NZ (rstart s en i):=NZ.bd (nz_ru _ _ _) fun _ _=>NZ.ok _
theorem nz_rlocs (s:ByteArray) (en:Nat):∀r l i,NZ (rlocs s en r l i)
 | 0,l,i=>NZ.ok _
 | r+1,l,i=>NZ.bd (nz_ru _ _ _) fun _ _=>NZ.ite (NZ.bd (nz_rt _ _ _) fun _ _=>nz_rlocs s en r _ _) (NZ.err (by decide))
theorem nz_rlocals (s:ByteArray) (en i:Nat):NZ (rlocals s en i):=NZ.bd (nz_rc _ _ _) fun _ _=>nz_rlocs _ _ _ _ _
theorem nz_rfun (s:ByteArray) (en i n:Nat):NZ2 (rfun s en i n):=NZ2.bd (NZ.lift (nz_rlocals _ _ _) _) fun _ _ _=>NZ2.bd (nz_rexpr _ _ _ _) fun _ _ _=>NZ2.ok _
theorem nz_rsizedF (s:ByteArray) (en i n:Nat):NZ2 (rsizedF s en i n):=NZ2.bd (NZ.lift (nz_ru _ _ _) _) fun _ _ _=>NZ2.bd (nz_rfun _ _ _ _) fun _ _ _=>NZ2.ite (NZ2.ok _) (NZ2.err (by decide))
theorem nz_rfs (s:ByteArray) (en:Nat):∀r l i n,NZ2 (rfs s en r l i n)
 | 0,l,i,n=>NZ2.ok _
 | r+1,l,i,n=>NZ2.bd (nz_rsizedF _ _ _ _) fun _ _ _=>nz_rfs s en r _ _ _
theorem nz_rcode (s:ByteArray) (en L i n:Nat):NZ2 (rcode s en L i n):=NZ2.bd (NZ.lift (nz_rc _ _ _) _) fun _ _ _=>NZ2.ite (nz_rfs _ _ _ _ _ _) (NZ2.err (by decide))
theorem nz_secM (s:ByteArray) (id:Int) (st:Sg) (en i:Nat):NZ (secM s id st en i):=by
 unfold secM
 split
 ·exact NZ.bd (nz_rcustom _ _ _) fun _ _=>NZ.ok _
 ·exact NZ.bd (nz_rents (nz_rft s en) _ _ _) fun _ _=>NZ.ok _
 ·exact NZ.bd (nz_rents (nz_rimp s en) _ _ _) fun _ _=>NZ.ok _
 ·exact NZ.bd (nz_rents (nz_rtab s en) _ _ _) fun _ _=>NZ.ok _
 ·exact NZ.bd (nz_rents (nz_rlim s en) _ _ _) fun _ _=>NZ.ok _
 ·exact NZ.bd (nz_rents (nz_rglo 81 s en) _ _ _) fun _ _=>NZ.ok _
 ·exact NZ.bd (nz_rents (nz_rexp s en) _ _ _) fun _ _=>NZ.ok _
 ·exact NZ.bd (nz_rstart _ _ _) fun _ _=>NZ.ok _
 ·exact NZ.bd (nz_rents (nz_relm 81 s en) _ _ _) fun _ _=>NZ.ok _
 ·exact NZ.bd (nz_rents (nz_rdat 81 s en) _ _ _) fun _ _=>NZ.ok _
 ·exact NZ.bd (nz_rents (nz_rfty s en) _ _ _) fun _ _=>NZ.ok _
 ·split
  ·exact NZ.ok _
  ·rename_i z h;exact NZ.err (nz_rcode _ _ _ _ _ z h)
 ·exact NZ.err (by decide)
theorem nz_rsized (s:ByteArray) (id:Int) (st:Sg) (en i:Nat):NZ (rsized (secM s id) s st en i):=NZ.bd (nz_ru _ _ _) fun _ _=>NZ.bd (nz_secM _ _ _ _ _) fun _ _=>NZ.ite (NZ.ok _) (NZ.err (by decide))
theorem nz_rsecs (s:ByteArray):∀(f:Nat) (last:Int) (st:Sg) (i:Nat) (X:R Sg),rsecsM s f last st i=some X->NZ X
 | 0,last,st,i,X,h=>by cases h
 | f+1,last,st,i,X,h=>by
  unfold rsecsM rsecs at h
  split at h
  ·split at h
   ·rename_i z hz
    injection h with h;subst h
    exact NZ.err (nz_nx _ _ _ z hz)
   ·split at h
    ·injection h with h;subst h;exact NZ.err (by decide)
    split at h
    ·injection h with h;subst h;exact NZ.err (by decide)
    split at h
    ·split at h
     ·rename_i z hz
      injection h with h;subst h
      exact NZ.err (nz_rsized _ _ _ _ _ z hz)
     ·exact nz_rsecs s f _ _ _ X h
    ·cases h
  ·injection h with h;subst h
   exact NZ.ite (NZ.ok _) (NZ.err (by decide))
theorem nz_rdec (s:ByteArray):NZ (rdec s):=by
 unfold rdec
 refine NZ.ite (NZ.err (by decide)) (NZ.ite (NZ.err (by decide)) ?_)
 cases h:rsecsM s (s.size+1) 0 sg0 8 with
 | none=>exact NZ.err (by decide)
 | some X=>exact nz_rsecs s _ _ _ _ X h
end Dec
end Go.Proofs.YtgbbmdknbflilaaDoor

