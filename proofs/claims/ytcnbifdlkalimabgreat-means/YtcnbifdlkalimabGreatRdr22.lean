/- Lemmas for the statement Means; their conditions stand in each. -/
import Derived.Test.YtcnbifdlkalimabGreatRdrM
namespace Go.Proofs.YtcnbifdlkalimabGreat
open Go.RowKit Go.Proofs.Tryz
set_option linter.unusedVariables false
set_option maxRecDepth 100000
set_option maxHeartbeats 6400000
theorem Zk4(rb sb B:Nat)(s:ZB)(tp:Value)(S:Nat->Value)(w:World)(hs:s.size<=300)(H:Zx w rb sb B s ⟨⟨0,0⟩,1,[],[],[],[]⟩ ⟨#[]⟩ tp S []) :
  Calls prog 72 #[.pointer (some ⟨rb,0,none⟩)] w λe w'=>e=.returned (.tuple #[])∧Zx w' rb sb B s (headP s) (tabP s) tp S []∧ZW rb sb S S w w':=by
 obtain⟨n,hn⟩:∃n:Nat,nP s=n:=⟨(nP s).toNat,by have:=(Znd s).1;omega⟩
 have hn1:1<=n:=by have:=(Znd s).1;omega
 have hn6:n<=6:=by have:=(Znd s).2;omega
 have bdr:Below w.heap.size w w.drew:=(Qh _ _).drew
 have hT0:=Za2 rb s ⟨#[49,50,51,52,53,54]⟩ ⟨0,0⟩ w.drew (H.step bdr).rd ⟨hs,Q8 _⟩ ZsI (by decide)
 obtain⟨f,hf⟩:∃f:Int,((fnI (tok s ⟨0,0⟩) (bl ⟨#[49,50,51,52,53,54]⟩):Nat):Int)=f:=⟨_,rfl⟩
 obtain⟨r0,hr0⟩:∃r0,digR s ⟨0,0⟩ 1 6=r0:=⟨_,rfl⟩
 have hfn:(1:Int)+f=n:=by rw[<-hf,(Znq s ⟨0,0⟩).2,<-hn];rfl
 have e0:Zbn s ⟨0,0⟩ (Zd0 s ⟨#[49,50,51,52,53,54]⟩ ⟨0,0⟩) 11=r0:=by rw[(Znq s ⟨0,0⟩).1,<-hr0];rfl
 rw[e0,hf]at hT0
 have hr0l:r0.a<=s.size:=by rw[<-hr0];exact Zad (by omega) (Q8 _)
 obtain⟨fin,hfin⟩:∃fin,prP s=fin:=⟨_,rfl⟩
 have hprs:ZiB s n (s.size+1) r0 []=fin:=by rw[<-hfin];unfold prP;rw[hn,hr0]
 have hfl:∀x∈fin.2,0<=x∧x<=5:=by rw[<-hprs];exact ZpA s n (by omega) (by omega) _ _ _ (λx hx=>by cases hx)
 obtain⟨dc,hdc⟩:∃dc,dcP s=dc:=⟨_,rfl⟩
 have hdcs:ZbB s n (s.size+1) (tk s fin.1 46) [] []=dc:=by rw[<-hdc];unfold dcP;rw[hn,hfin]
 have hhd:headP s=⟨tk s dc.1 46,n,dc.2.1,dc.2.2,[],[]⟩:=by unfold headP;rw[hdc,hn]
 obtain⟨TB,hTB⟩:∃TB,tabP s=TB:=⟨_,rfl⟩
 have htab:bs (cells (λi j=>hopF fin.2 (n-1) i j) n)=TB:=by rw[<-hTB];unfold tabP;rw[hfin,hn];rfl
 rw[hhd,hTB]
 have c3:=H.c3
 have hm0:muR s r0<=s.size+1:=by have:=Z1 s r0;unfold muR;split<;>omega
 have hO:Kp (∀(r:Rd) w1,Zct w1 rb s r->r.a<=s.size->Calls prog 138 #[.pointer (some ⟨rb,0,none⟩),.string ⟨#[48,49,50,51,52,53,54,55,56,57]⟩] w1 λe w'=>e=.returned (.bool (dgB (tok s r)))∧Zi w1 w' rb (adv s r)):=⟨λr w1 A hl=>by
  have h:=Zay rb s ⟨#[48,49,50,51,52,53,54,55,56,57]⟩ r w1 A ⟨hs,hl⟩ Zsg (by decide)
  rw[ZfH]at h
  exact h⟩
 have hLv:Kp (∀(r:Rd) (p:Rs) w1 t1,Zx w1 rb sb B s p t1 tp S []->p.r=r->p.n=n->r.a<=s.size->Calls prog 139 #[.pointer (some ⟨rb,0,none⟩)] w1 λe w'=>e=.returned (.int .i64 (dig s r 0 ((n:Int)-1)))∧Zi w1 w' rb (digR s r 0 ((n:Int)-1))):=⟨λr p w1 t1 A hr hpn hl=>by
  subst hr
  have cN:w1.cell? ⟨sb,0,none⟩=some (.int .i64 n):=by rw[<-hpn];exact A.cn
  exact Zej rb sb s p.r n w1 A.rd ⟨hs,hl⟩ A.c3 cN hn1 hn6⟩
 have hBy:Kp (∀(x:Int) w1,0<=x->x<=255->Calls prog 51 #[.int .i64 x] w1 λe w'=>e=.returned (.string (bs [x]))∧Below w1.heap.size w1 w'):=⟨λx w1 h0 h1=>by
  have h:=Zj x w1
  rw[show x%256=x from by omega]at h
  exact h⟩
 have H0:Kp _:=⟨H⟩
 have hf0:0<=f:=by omega
 obtain⟨hwn,hwn2⟩:=i64w (x:=(n:Int)) (by omega) (by omega)
 have hne:sb≠rb:=H.ne
 have hne2:rb≠sb:=λe=>H.ne e.symm
 have hf5:f<=5:=by omega
 replace hT0:=Z_ hT0
 replace hr0l:=Z_ hr0l
 replace hprs:=Z_ hprs
 replace hfl:=Z_ hfl
 replace hdcs:=Z_ hdcs
 replace htab:=Z_ htab
 replace hm0:=Z_ hm0
 replace bdr:=Z_ bdr
 clear H hn hf hr0 e0 hfin hdc hhd hTB
 go_enter func72,ntmps72
 go_wp2_with fail
 go_region_held (λw'=>w'.cell? ⟨rb,3,none⟩=some (.pointer (some ⟨sb,0,none⟩))) (go_keep) ((go_at_call 137;refine hT0.out.mono ?_;rintro e w1 ⟨rfl,T⟩;have d3:=(T.cell 3 (by omega) (by omega)).trans c3;have A1:=(H0.out.step bdr.out).rdto T;have g0:=A1.cn;have gf:=A1.f 0 (by omega);have gl:=A1.lt;have A2:=A1.setN n;have T1:=(ZW.below (rb:=rb) (sb:=sb) (S:=S) bdr.out).trans ((ZW.rd T).trans A2.2);replace A2:Kp _:=⟨A2.1⟩;replace T1:=Z_ T1;clear A1 T))
 obtain⟨w2,hw2⟩:∃w2,w1.setCell ⟨sb,0,none⟩ (.int .i64 n)=w2:=⟨_,rfl⟩
 rw[hw2]at A2 T1 ⊢
 clear hw2 d3 g0 gf gl
 go_wp2_with fail
 refine(hO.out r0 _ A2.out.rd hr0l.out).mono ?_
 rintro e w3 ⟨rfl,R⟩
 have A3:=A2.out.rdto R
 have T3:=T1.out.trans (ZW.rd R)
 replace A3:=Z_ A3
 replace T3:=Z_ T3
 clear R A2 T1 c3 hT0
 go_wp2_with fail
 go_loopg [2,3] (muR s r0) (λgm pv mv wr=>∃(j:Nat) (r:Rd) (l:List Int),pv=.string (bs l)∧mv=.bool (dgB (tok s r))∧Kp (Zx wr rb sb B s ⟨adv s r,n,[],[],[],[]⟩ ⟨#[]⟩ tp S [])∧Kp (r.a<=s.size)∧Kp (muR s r<=j)∧Kp (l.length+2*muR s r<=602∧l.length%2=0)∧Kp (ZiB s n j r l=fin)∧Kp (ZW rb sb S S w wr)∧Kp (gm=muR s r))
 case atStart=>exact⟨s.size+1,r0,[],rfl,rfl,A3,hr0l,hm0,⟨by have:=hm0.out;simp;omega⟩,hprs,T3,⟨rfl⟩⟩
 case round=>
  clear A3 T3 hr0l hm0 hprs
  obtain⟨j,r,l,rfl,rfl,hA,hL,hj,hl,hM,hT,hm⟩:=hrel
  by_cases hd:48<=tok s r∧tok s r<=57
  ·have he:(adv s r).er=0:=by rw[Zk];exact(Z5 (s:=s) (r:=r) (by omega)).1
   have hmu:=ZoO (s:=s) (n:=n) he
   have hma:=ZqK s r
   have hj1:=hj.out
   obtain⟨j,rfl⟩:∃i,j=i+1:=⟨j-1,by omega⟩
   have hM2:ZiB s n j (digR s (digR s (adv s r) 0 ((n:Int)-1)) 0 ((n:Int)-1)) (l++[dig s (adv s r) 0 ((n:Int)-1),dig s (digR s (adv s r) 0 ((n:Int)-1)) 0 ((n:Int)-1)])=fin:=by
    rw[<-hM.out]
    simp only[ZiB]
    rw[if_pos hd]
   have hA':Zx wr rb sb B s ⟨adv s r,n,[],[],[],[]⟩ ⟨#[]⟩ tp S []:=hA.out
   have hL1:=hLv.out (adv s r) _ wr _ hA' rfl rfl (Ze hL.out)
   have hda:=ZcB (s:=s) (r:=adv s r) (n:=n) (by omega)
   have hdb:=ZcB (s:=s) (r:=digR s (adv s r) 0 ((n:Int)-1)) (n:=n) (by omega)
   have hl1:(digR s (adv s r) 0 ((n:Int)-1)).a<=s.size:=Zad (by omega) (Ze hL.out)
   have hm2:=Zgt s (digR s (adv s r) 0 ((n:Int)-1)) 0 ((n:Int)-1)
   have hl2:(digR s (digR s (adv s r) 0 ((n:Int)-1)) 0 ((n:Int)-1)).a<=s.size:=Zad (by omega) hl1
   obtain⟨a,ha⟩:∃a,dig s (adv s r) 0 ((n:Int)-1)=a:=⟨_,rfl⟩
   obtain⟨b,hb⟩:∃b,dig s (digR s (adv s r) 0 ((n:Int)-1)) 0 ((n:Int)-1)=b:=⟨_,rfl⟩
   rw[ha,hb]at hM2
   rw[ha]at hL1 hda
   rw[hb]at hdb
   have hL2:Kp (∀w1,Zi wr w1 rb (digR s (adv s r) 0 ((n:Int)-1))->Calls prog 139 #[.pointer (some ⟨rb,0,none⟩)] w1 λe w'=>e=.returned (.int .i64 b)∧Zi w1 w' rb (digR s (digR s (adv s r) 0 ((n:Int)-1)) 0 ((n:Int)-1))):=⟨λw1 R=>by
    have h:=hLv.out (digR s (adv s r) 0 ((n:Int)-1)) _ w1 _ (hA'.rdto R) rfl rfl hl1
    rw[hb]at h
    exact h⟩
   have hB1:=λW=>hBy.out a W hda.1 (by omega)
   have hB2:=λW=>hBy.out b W hdb.1 (by omega)
   have hcat:bs l++bs [a]++bs [b]=bs (l++[a,b]):=by rw[Zg,show ([a,b]:List Int)=[a]++[b] from rfl,Zg,QR]
   have hln:(l++[a,b]).length=l.length+2:=by rw[Qe];rfl
   generalize digR s (digR s (adv s r) 0 ((n:Int)-1)) 0 ((n:Int)-1)=r2 at *
   generalize digR s (adv s r) 0 ((n:Int)-1)=r1 at *
   have hnum:Kp (muR s r2<=j∧muR s r2<muR s r∧(l++[a,b]).length+2*muR s r2<=602∧(l++[a,b]).length%2=0):=⟨by have:=hl.out;rw[hln];omega⟩
   have hVs:(bs l).size<=602:=by rw[Zc];have:=hl.out;omega
   have hA1:(bs [a]).size=1:=by rw[Zc];rfl
   have hA2:(bs [b]).size=1:=by rw[Zc];rfl
   rw[show dgB (tok s r)=true from Qv hd]
   obtain⟨V,hV⟩:∃V,bs l=V:=⟨_,rfl⟩
   obtain⟨Va,hVa⟩:∃V,bs [a]=V:=⟨_,rfl⟩
   obtain⟨Vb,hVb⟩:∃V,bs [b]=V:=⟨_,rfl⟩
   rw[hV]at hVs hcat ⊢
   rw[hVa]at hA1 hcat hB1
   rw[hVb]at hA2 hcat hB2
   have s0:(V.size:Int)<=602:=by omega
   have s1:¬(9223372036854775807:Int)<(V.size:Int)+1:=by omega
   have s2:¬(9223372036854775807:Int)<((V.size+1:Nat):Int):=by omega
   have s3:¬(9223372036854775807:Int)<(V.size:Int)+1+1:=by omega
   have s4:¬(9223372036854775807:Int)<((V.size+1+1:Nat):Int):=by omega
   replace hL1:=Z_ hL1
   replace hB1:=Z_ hB1
   replace hB2:=Z_ hB2
   replace hM2:=Z_ hM2
   replace hcat:=Z_ hcat
   replace hl2:=Z_ hl2
   clear hd he hmu hma hj1 hA' hda hdb hl1 hm2 ha hb hln hV hVa hVb hM hj hl hL
   go_wp2_with fail
   refine hL1.out.mono ?_
   rintro e w4 ⟨rfl,R4⟩
   replace R4:=Z_ R4
   go_wp2_with fail
   refine(hL2.out _ R4.out).mono ?_
   rintro e w5 ⟨rfl,R5⟩
   have A5:Kp _:=⟨(hA.out.rdto R4.out).rdto R5⟩
   have T5:Kp _:=⟨(hT.out.trans (ZW.rd R4.out)).trans (ZW.rd R5)⟩
   clear R4 R5
   go_wp2_with fail
   refine(hB1.out _).mono ?_
   rintro e w6 ⟨rfl,b6⟩
   replace b6:=Z_ b6
   go_wp2_with fail
   refine(hB2.out _).mono ?_
   rintro e w7 ⟨rfl,b7⟩
   have b8:Kp _:=⟨b6.out.trans (b7.mono b6.out.size)⟩
   have A7:Kp _:=⟨A5.out.step b8.out⟩
   have T7:Kp _:=⟨T5.out.trans (ZW.below b8.out)⟩
   clear b6 b7 b8 A5 T5 hA hT
   go_wp2_with fail
   refine(hO.out r2 _ A7.out.rd hl2.out).mono ?_
   rintro e w8 ⟨rfl,R8⟩
   replace R8:=Z_ R8
   go_wp2_with fail
   go_roundg (muR s r2)
   case measure=>have h1:=hm.out;have h2:=hnum.out;omega
   case rel=>exact⟨j,r2,l++[a,b],by rw[<-hcat.out],rfl,⟨A7.out.rdto R8.out⟩,hl2,⟨hnum.out.1⟩,⟨hnum.out.2.2⟩,hM2,⟨T7.out.trans (ZW.rd R8.out)⟩,⟨rfl⟩⟩
  ·have e1:fin=(adv s r,l):=by
    rw[<-hM.out]
    cases j with
    | zero=>rfl
    | succ j=>simp only[ZiB];rw[if_neg hd]
   rw[show dgB (tok s r)=false from Qx hd]
   have hTk:=ZH rb s ⟨#[46]⟩ 46 (adv s r) wr hA.out.rd ⟨hs,Ze hL.out⟩ (by decide) (by omega)
   have e2:tk s (adv s r) 46=tk s fin.1 46:=by rw[e1]
   rw[e2]at hTk
   have hfle:(tk s fin.1 46).a<=s.size:=by rw[e1];exact Z0 (Ze hL.out) (by omega)
   have e3:l=fin.2:=by rw[e1]
   have hll:(bs fin.2).size<=1000∧(bs fin.2).size%2=0:=by rw[Zc,<-e3];have:=hl.out;omega
   have hCl:Kp (∀W,Calls prog 140 #[.string (bs fin.2),.int .i64 n] W λe w'=>e=.returned (.string TB)∧Below W.heap.size W w'):=⟨λW=>by
    have h:=Zlv (bs fin.2) n W hll.1 hll.2 hn1 hn6
    rw[ZrU (λx hx=>by have:=hfl.out x hx;omega),htab.out]at h
    exact h⟩
   rw[e3]
   obtain⟨r3,hr3⟩:∃r3,tk s fin.1 46=r3:=⟨_,rfl⟩
   rw[hr3]at hTk hfle hdcs
   obtain⟨V,hV⟩:∃V,bs fin.2=V:=⟨_,rfl⟩
   rw[hV]at hCl ⊢
   have hm3:muR s r3<=s.size+1:=by have:=Z1 s r3;unfold muR;split<;>omega
   replace hTk:=Z_ hTk
   replace hfle:=Z_ hfle
   replace hm3:=Z_ hm3
   have hA0:=hA
   clear e1 e2 e3 hll hr3 hV hd hM hj hl hL hm hfl htab hO
   go_wp2_with fail
   refine hTk.out.mono ?_
   rintro e w4 ⟨rfl,R4⟩
   have A4:=hA0.out.rdto R4
   have T4:=hT.out.trans (ZW.rd R4)
   have c3:=A4.c3
   have g0:=A4.cn
   replace A4:=Z_ A4
   replace T4:=Z_ T4
   clear R4 hA0 hA hT hTk
   go_wp2_with fail
   go_region_held (λw'=>w'.cell? ⟨rb,3,none⟩=some (.pointer (some ⟨sb,0,none⟩))∧w'.cell? ⟨sb,0,none⟩=some (.int .i64 n)) (first|go_keep|(constructor<;>assumption)) ((go_at_call 140;refine(hCl.out _).mono ?_;rintro e w5 ⟨rfl,b5⟩;have b6:Below w4.heap.size w4 w5:=(Qh _ _).drew.trans b5;have A5:=A4.out.step b6;have d3:=A5.c3;have d0:=A5.cn;have gt:=A5.ct;have gf:=A5.f 1 (by omega);have gl:=A5.lt;have A6:=A5.setT TB;have k3:=A6.1.c3;have k0:=A6.1.cn;have T6:=T4.out.trans ((ZW.below (rb:=rb) (sb:=sb) (S:=S) b6).trans A6.2);replace A6:Kp _:=⟨A6.1⟩;replace T6:=Z_ T6;clear A5 b5 b6))
   obtain⟨w7,hw7⟩:∃w7,w5.setCell ⟨sb,1,none⟩ (.string TB)=w7:=⟨_,rfl⟩
   rw[hw7]at A6 T6 ⊢
   clear hw7 d3 d0 gt gf gl k3 k0 A4 T4 c3 g0 hCl
   have hO:Kp (∀(r:Rd) w1,Zct w1 rb s r->r.a<=s.size->Calls prog 138 #[.pointer (some ⟨rb,0,none⟩),.string ⟨#[97,98,99,100,101,102,103,104]⟩] w1 λe w'=>e=.returned (.bool (isL (tok s r)))∧Zi w1 w' rb (adv s r)):=⟨λr w1 A hl=>by
    have h:=Zay rb s ⟨#[97,98,99,100,101,102,103,104]⟩ r w1 A ⟨hs,hl⟩ Zq6 (by decide)
    rw[Zjx]at h
    exact h⟩
   go_wp2_with fail
   refine(hO.out r3 _ A6.out.rd hfle.out).mono ?_
   rintro e w8 ⟨rfl,R8⟩
   have A8:=A6.out.rdto R8
   have T8:=T6.out.trans (ZW.rd R8)
   replace A8:=Z_ A8
   replace T8:=Z_ T8
   clear R8 A6 T6
   go_wp2_with fail
   obtain⟨wq,hwq⟩:∃x,x=wr:=⟨_,rfl⟩
   go_loopg [3] (muR s r3) (λgm mv wr=>∃(j:Nat) (r:Rd) (ls vs:List Int),mv=.bool (isL (tok s r))∧Kp (Zx wr rb sb B s ⟨adv s r,n,ls,vs,[],[]⟩ TB tp S [])∧Kp (r.a<=s.size)∧Kp (muR s r<=j)∧Kp (Let1 ls)∧Kp (vs.length<=8∧vs.length=ls.length)∧Kp (ZbB s n j r ls vs=dc)∧Kp (ZW rb sb S S w wr)∧Kp (gm=muR s r))
   case atStart=>exact⟨s.size+1,r3,[],[],rfl,A8,hfle,hm3,⟨Let1.nil⟩,⟨by simp⟩,hdcs,T8,⟨rfl⟩⟩
   case round=>
    clear A8 T8 hfle hm3 hdcs hwq
    obtain⟨j,r,ls,vs,rfl,hA,hL,hj,hN,hvl,hM,hT,hm⟩:=hrel
    by_cases hi:isL (tok s r)=true
    ·have hpos:=QB hi
     have ht0:tok s r≠0:=by omega
     have he:r.er=0:=(Z5 ht0).1
     have hj1:=hj.out
     have hmr:muR s r=rem s r+1:=by unfold muR;rw[if_pos he]
     obtain⟨j,rfl⟩:∃i,j=i+1:=⟨j-1,by omega⟩
     have hM2:=hM.out
     simp only[ZbB]at hM2
     rw[if_pos hi]at hM2
     have hA':Zx wr rb sb B s ⟨adv s r,n,ls,vs,[],[]⟩ TB tp S []:=hA.out
     have hS:=Zay rb s (bs ls) (adv s r) wr hA'.rd ⟨hs,Ze hL.out⟩ hN.out.lets.noz (by rw[Zc];have:=hN.out.lets.1;omega)
     have e1:Zd0 s (bs ls) (adv s r)=decide (fnd (tok s r) ls<ls.length):=by
      rw[(Zpw hN.out.lets).1,Zfs]
      unfold ZaW
      rw[hi]
      simp
     rw[e1,ZY]at hS
     have c3:=hA'.c3
     have cL:=hA'.cl
     rw[hi]
     by_cases ho:fnd (tok s r) ls<ls.length
     ·rw[if_pos ho]at hM2
      rw[Qv ho]at hS
      replace hS:=Z_ hS
      have e2:Kp (dc=(⟨(adv s r).a,12⟩,ls,vs)):=⟨by
       rw[<-hM2]
       unfold rfs
       rw[if_pos (by rw[Zk];exact he)]⟩
      clear hM2 hM e1 hj hj1 hmr hpos ht0 hm hN hvl ho hi hL
      go_wp2_with fail
      refine hS.out.mono ?_
      rintro e w9 ⟨rfl,R9⟩
      have A9:=hA'.rdto R9
      have T9:=hT.out.trans (ZW.rd R9)
      have g2:=A9.rd.c2
      have gf:=A9.rd.f2
      have gl:=A9.rd.lt
      have R10:=Zi.setE A9.rd 12
      have A10:=A9.rdto R10
      have T10:=T9.trans (ZW.rd R10)
      have e3:Kp (tk s (⟨(adv s r).a,12⟩:Rd) 46=⟨(adv s r).a,12⟩):=⟨Zc5 (by show (12:Int)≠0;omega)⟩
      replace A10:=Z_ A10
      replace T10:=Z_ T10
      clear A9 T9 R9 R10 hA'
      go_wp2_with fail
      first|go_end0|refine Qi (Qp rfl _ _ _) rfl ?_
      exact⟨rfl,by rw[e2.out];show Zx _ rb sb B s ⟨tk s (⟨(adv s r).a,12⟩:Rd) 46,n,ls,vs,[],[]⟩ TB tp S [];rw[e3.out];exact A10.out,T10.out⟩
     ·rw[if_neg ho]at hM2
      rw[Qx ho]at hS
      have hTk:=Za2 rb s ⟨#[97,98,99,100,101,102,103,104]⟩ (adv s r)
      obtain⟨v,hv⟩:∃v:Nat,tok s r=((97+v:Nat):Int):=⟨(tok s r-97).toNat,by omega⟩
      have hv8:v<8:=by omega
      have hTk2:Kp (∀w1,Zct w1 rb s (adv s r)->Calls prog 137 #[.pointer (some ⟨rb,0,none⟩),.string ⟨#[97,98,99,100,101,102,103,104]⟩] w1 λe w'=>e=.returned (.int .i64 (v:Nat))∧Zi w1 w' rb (nx (adv s r))):=⟨λw1 A=>by
       have h:=hTk w1 A ⟨hs,Ze hL.out⟩ Zq6 (by decide)
       have q1:Zd0 s ⟨#[97,98,99,100,101,102,103,104]⟩ (adv s r)=true:=by rw[Zjx,Zp];exact hi
       have q2:fnI (tok s (adv s r)) (bl ⟨#[97,98,99,100,101,102,103,104]⟩)=v:=by rw[Zp,ZqM hpos.1 hpos.2];omega
       have q3:Zbn s (adv s r) true 11=nx (adv s r):=by unfold Zbn;rw[if_pos rfl,ZY]
       rw[q1,q2,q3]at h
       exact h⟩
      have hnl:(nx (adv s r)).a<=s.size:=Zak ht0
      have hnm:muR s (nx (adv s r))<muR s r:=by
       have h1:=ZK ht0
       have h2:(nx (adv s r)).er=0:=by rw[Zdt,Zk];exact he
       unfold muR
       rw[if_pos h2,if_pos he]
       omega
      have hdd:=ZcB (s:=s) (r:=nx (adv s r)) (n:=n) (by omega)
      have hm2:=Zgt s (nx (adv s r)) 0 ((n:Int)-1)
      have hl2:(digR s (nx (adv s r)) 0 ((n:Int)-1)).a<=s.size:=Zad (by omega) hnl
      have hL2:Kp (∀w1,Zx w1 rb sb B s ⟨nx (adv s r),n,ls,vs,[],[]⟩ TB tp S []->Calls prog 139 #[.pointer (some ⟨rb,0,none⟩)] w1 λe w'=>e=.returned (.int .i64 (dig s (nx (adv s r)) 0 ((n:Int)-1)))∧Zi w1 w' rb (digR s (nx (adv s r)) 0 ((n:Int)-1))):=⟨λw1 A=>hLv.out (nx (adv s r)) _ w1 _ A rfl rfl hnl⟩
      have hN2:Kp (Let1 (ls++[tok s r])):=⟨hN.out.add ho hpos.1 hpos.2⟩
      generalize digR s (nx (adv s r)) 0 ((n:Int)-1)=r2 at *
      generalize dig s (nx (adv s r)) 0 ((n:Int)-1)=d at *
      have hvl2:Kp ((vs++[d]).length<=8∧(vs++[d]).length=(ls++[tok s r]).length):=⟨by
       have h1:=hN2.out.lets.1
       have h2:=hvl.out
       have e1:(vs++[d]).length=vs.length+1:=by rw[Qe];rfl
       have e2:(ls++[tok s r]).length=ls.length+1:=by rw[Qe];rfl
       rw[e2]at h1
       rw[e1,e2]
       omega⟩
      have hext:=ZqL hv8
      rw[<-hv]at hext
      have hcl:bs ls++bs [tok s r]=bs (ls++[tok s r]):=(Zg _ _).symm
      have hcv:bs vs++bs [d]=bs (vs++[d]):=(Zg _ _).symm
      have hB1:=λW=>hBy.out d W hdd.1 (by omega)
      have hzl:(bs ls).size<=8:=by rw[Zc];exact hN.out.lets.1
      have hzv:(bs vs).size<=8:=by rw[Zc];exact hvl.out.1
      have hz1:(bs [tok s r]).size=1:=by rw[Zc];rfl
      have hz2:(bs [d]).size=1:=by rw[Zc];rfl
      have hnum:Kp (muR s r2<=j∧muR s r2<muR s r):=⟨by omega⟩
      have cV:=hA'.cv
      obtain⟨t1,ht1⟩:∃t1,tok s r=t1:=⟨_,rfl⟩
      rw[ht1]at hM2 hN2 hvl2 hext hcl hz1
      obtain⟨Vl,hVl⟩:∃V,bs ls=V:=⟨_,rfl⟩
      obtain⟨Vv,hVv⟩:∃V,bs vs=V:=⟨_,rfl⟩
      obtain⟨V1,hV1⟩:∃V,bs [t1]=V:=⟨_,rfl⟩
      obtain⟨Vd,hVd⟩:∃V,bs [d]=V:=⟨_,rfl⟩
      rw[hVl]at hcl hzl hS
      rw[hVv]at hcv hzv
      rw[hV1]at hcl hz1 hext
      rw[hVd]at hcv hz2 hB1
      clear cL
      have cL:wr.cell? ⟨sb,2,none⟩=some (.string Vl):=by rw[<-hVl];exact hA'.cl
      have hVl':Kp (bs ls=Vl):=⟨hVl⟩
      have hVv':Kp (bs vs=Vv):=⟨hVv⟩
      obtain⟨v1,hv1⟩:∃v1,v+1=v1:=⟨_,rfl⟩
      have hvi:(v:Int)+1=v1:=by omega
      rw[hv1]at hext
      have hvle:v<=v1:=by omega
      have hv18:v1<=8:=by omega
      have hvlei:(v:Int)<=v1:=by omega
      have hv18i:(v1:Int)<=8:=by omega
      have s1:(Vl.size:Int)<=8:=by omega
      have s2:(Vv.size:Int)<=8:=by omega
      have s3:¬(9223372036854775807:Int)<(Vl.size:Int)+1:=by omega
      have s4:¬(9223372036854775807:Int)<((Vl.size+1:Nat):Int):=by omega
      have s5:¬(9223372036854775807:Int)<(Vv.size:Int)+1:=by omega
      have s6:¬(9223372036854775807:Int)<((Vv.size+1:Nat):Int):=by omega
      have hvw:=i64w (x:=(v:Int)+1) (by omega) (by omega)
      have hvw1:IntKind.i64.wrap ((v:Int)+1)=(v1:Int):=hvw.1.trans hvi
      have hvw2:wrap64 ((v:Int)+1)=(v1:Int):=hvw.2.trans hvi
      replace hS:=Z_ hS
      replace hB1:=Z_ hB1
      replace hM2:=Z_ hM2
      replace hcl:=Z_ hcl
      replace hcv:=Z_ hcv
      replace hl2:=Z_ hl2
      replace hv1:=Z_ hv1
      replace hvw1:=Z_ hvw1
      replace hvw2:=Z_ hvw2
      clear hTk hM e1 hj hj1 hmr hpos ht0 hvl ho hi hL he hv hnl hnm hdd hm2 cV ht1 hVl hVv hV1 hVd hvw hvi hN
      go_wp2_with fail
      refine hS.out.mono ?_
      rintro e w9 ⟨rfl,R9⟩
      have A9:Kp _:=⟨hA'.rdto R9⟩
      have T9:Kp _:=⟨hT.out.trans (ZW.rd R9)⟩
      clear R9 hA' hT hA cL c3 hS
      go_wp2_with fail
      refine(hTk2.out _ A9.out.rd).mono ?_
      rintro e w10 ⟨rfl,R10⟩
      have A10:Kp _:=⟨A9.out.rdto R10⟩
      have T10:Kp _:=⟨T9.out.trans (ZW.rd R10)⟩
      clear R10 A9 T9 hTk2
      go_wp2_with fail
      refine(hL2.out _ A10.out).mono ?_
      rintro e w11 ⟨rfl,R11⟩
      have A11:=A10.out.rdto R11
      have T11:=T10.out.trans (ZW.rd R11)
      have c3:=A11.c3
      have cL:w11.cell? ⟨sb,2,none⟩=some (.string Vl):=by rw[<-hVl'.out];exact A11.cl
      have gf:=A11.f 2 (by omega)
      have gl:=A11.lt
      have A12:=A11.setL (ls++[t1])
      rw[<-hcl.out]at A12
      have k3:=A12.1.c3
      have T12:Kp _:=⟨T11.trans A12.2⟩
      replace A12:Kp _:=⟨A12.1⟩
      clear R11 A10 T10 hL2 A11 T11
      go_wp2_with fail
      replace hvw1:=hvw1.out
      replace hvw2:=hvw2.out
      go_region
      obtain⟨w13,hw13⟩:∃w13,(w11.setCell ⟨sb,2,none⟩ (.string (Vl++V1))).drew=w13:=⟨_,rfl⟩
      have A13:=A12.out.step ((Qh _ _).drew)
      have T13:=T12.out.trans (ZW.below (rb:=rb) (sb:=sb) (S:=S) ((Qh _ _).drew))
      rw[hw13]at A13 T13 ⊢
      clear hw13 A12 T12 c3 cL gf gl k3 hvw1 hvw2 hext hvle hv18 hvlei hv18i s3 s4
      have c3:=A13.c3
      have cV:w13.cell? ⟨sb,3,none⟩=some (.string Vv):=by rw[<-hVv'.out];exact A13.cv
      have gf:=A13.f 3 (by omega)
      have gl:=A13.lt
      replace A13:=Z_ A13
      replace T13:=Z_ T13
      go_wp2_with fail
      have q1:¬(9223372036854775807:Int)<(Vv.size:Int)+Vd.size:=by omega
      have q2:¬(9223372036854775807:Int)<((Vv.size+Vd.size:Nat):Int):=by omega
      have q3:(Vv.size:Int)+Vd.size<=9223372036854775807:=by omega
      clear s5 s6 hz2 s1 s2 hzl hzv hz1 hfn hf0 hf5 hwn hwn2 hn1 hn6
      go_region_with ((go_at_call 51;refine(hB1.out _).mono ?_;rintro e w14 ⟨rfl,b14⟩;have b15:Below w13.heap.size w13 w14:=(Qh _ _).drew.trans b14;have A14:=A13.out.step b15;have d3:=A14.c3;have dV:w14.cell? ⟨sb,3,none⟩=some (.string Vv):=(by rw[<-hVv'.out];exact A14.cv);have df:=A14.f 3 (by omega);have dl:=A14.lt;have A15:=A14.setV (vs++[d]);rw[<-hcv.out]at A15;have k3:=A15.1.c3;have T15:=T13.out.trans ((ZW.below (rb:=rb) (sb:=sb) (S:=S) b15).trans A15.2);replace A15:Kp _:=⟨A15.1⟩;replace T15:=Z_ T15;clear A14 b14 b15))
      all_goals
       clear d3 dV df dl k3
       generalize w14.setCell ⟨sb,3,none⟩ (.string (Vv++Vd))=w16 at A15 T15 ⊢
       clear c3 cV gf gl A13 T13
       go_wp2_with fail
       refine(hO.out r2 _ A15.out.rd hl2.out).mono ?_
       rintro e w17 ⟨rfl,R17⟩
       replace R17:=Z_ R17
       go_wp2_with fail
       go_roundg (muR s r2)
       case measure=>have h1:=hm.out;have h2:=hnum.out;omega
       case rel=>exact⟨j,r2,ls++[t1],vs++[d],rfl,⟨A15.out.rdto R17.out⟩,hl2,⟨hnum.out.1⟩,hN2,hvl2,hM2,⟨T15.out.trans (ZW.rd R17.out)⟩,⟨rfl⟩⟩
    ·have hi:isL (tok s r)=false:=by simpa using hi
     have e1:dc=(adv s r,ls,vs):=by
      rw[<-hM.out]
      cases j with
      | zero=>rfl
      | succ j=>simp only[ZbB];rw[if_neg (by rw[hi];simp)]
     have hTk:=ZH rb s ⟨#[46]⟩ 46 (adv s r) wr hA.out.rd ⟨hs,Ze hL.out⟩ (by decide) (by omega)
     have e2:tk s (adv s r) 46=tk s dc.1 46:=by rw[e1]
     rw[e2]at hTk
     rw[hi]
     replace hTk:=Z_ hTk
     replace e1:=Z_ e1
     clear hi hM e2 hj hL hN hvl hm
     go_wp2_with fail
     refine hTk.out.mono ?_
     rintro e w9 ⟨rfl,R9⟩
     have A9:=hA.out.rdto R9
     have T9:=hT.out.trans (ZW.rd R9)
     replace A9:=Z_ A9
     replace T9:=Z_ T9
     clear R9
     go_wp2_with fail
     first|go_end0|refine Qi (Qp rfl _ _ _) rfl ?_
     exact⟨rfl,by have h:=A9.out;rw[e1.out]at h ⊢;exact h,T9.out⟩
end Go.Proofs.YtcnbifdlkalimabGreat
