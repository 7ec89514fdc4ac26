import Derived.Test.YtcnbifdlkalimabGreatRdrG
/- Lemmas for the statement Means; their conditions stand in each. -/
namespace Go.Proofs.YtcnbifdlkalimabGreat
open Go.RowKit Go.Proofs.Tryz
set_option linter.unusedVariables false
set_option maxRecDepth 100000
set_option maxHeartbeats 6400000
variable{ex:List Ex}{l:List Nat}{sm:List Sm}{pl:Nat}
theorem Zbi(V:ZB)(w:World)(h:V.size<=100000):Calls prog 50 #[.string V] w λe w'=>e=.returned (.int .i64 (V.size/2:Nat))∧w'=w:=by
 have h1:(V.size:Int)<=100000:=by omega
 have h2:((V.size/2:Nat):Int)=(V.size:Int)/2:=by omega
 rw[h2]
 go_enter func50,ntmps50
 go_wp2
 go_ret
 exact⟨by simp,rfl⟩
theorem Zkc(f:Nat->Nat->List Int)(he:∀n pl,(f n pl).length%2=0)(l2:List Nat):∀(l1:List Nat) (pl:Nat),ZbL f (l1++l2) pl=ZbL f l1 pl++ZbL f l2 (pl+(ZbL f l1 pl).length/2)
 | [],pl=>by simp[ZbL]
 | n::l1,pl=>by
  have h1:=he n pl
  have h2:=ZcA f he l1 (pl+(f n pl).length/2)
  simp only[Uj,ZbL]
  rw[Zkc f he l2 l1,QE,Qe,show pl+(f n pl).length/2+(ZbL f l1 (pl+(f n pl).length/2)).length/2=pl+((f n pl).length+(ZbL f l1 (pl+(f n pl).length/2)).length)/2 from by omega]
theorem ZoB{i:Nat}(hi:i<l.length):als ex sm (l.take (i+1)) pl=als ex sm (l.take i) pl++one ex sm l[i] (pl+(als ex sm (l.take i) pl).length/2):=by
 unfold als
 rw[List.take_succ_eq_append_getElem hi]
 exact ZeS (one ex sm) l[i] (l.take i) pl (Zc0 ex sm)
theorem ZrH(i:Nat):(als ex sm (l.take i) pl).length<=(als ex sm l pl).length:=by
 have h:=Zkc (one ex sm) (Zc0 ex sm) (l.drop i) (l.take i) pl
 rw[List.take_append_drop]at h
 unfold als
 rw[h,Qe]
 omega
theorem Zfo(hE:Z7 ex)(hS:ZaQ ex sm){n:Nat}{x:Sm}(hx:sm[n]?=some x) :
  one ex sm n pl=(if x.k=61 then cod ex x.e++[2,x.v%256] else if x.k=62 then cod ex x.e++[11,x.v%256] else
   (if x.k=64 then cod ex x.e++[9,((pl+(cod ex x.e).length/2+1+(als ex sm x.bo (pl+(cod ex x.e).length/2+1)).length/2+1:Nat):Int)%256]++als ex sm x.bo (pl+(cod ex x.e).length/2+1)++[8,(pl:Int)%256]
   else if x.two=false then cod ex x.e++[9,((pl+(cod ex x.e).length/2+1+(als ex sm x.bo (pl+(cod ex x.e).length/2+1)).length/2:Nat):Int)%256]++als ex sm x.bo (pl+(cod ex x.e).length/2+1)
   else cod ex x.e++[9,((pl+(cod ex x.e).length/2+1+(als ex sm x.bo (pl+(cod ex x.e).length/2+1)).length/2+1:Nat):Int)%256]++als ex sm x.bo (pl+(cod ex x.e).length/2+1)++[8,((pl+(cod ex x.e).length/2+1+(als ex sm x.bo (pl+(cod ex x.e).length/2+1)).length/2+1+(als ex sm x.el (pl+(cod ex x.e).length/2+1+(als ex sm x.bo (pl+(cod ex x.e).length/2+1)).length/2+1)).length/2:Nat):Int)%256]++als ex sm x.el (pl+(cod ex x.e).length/2+1+(als ex sm x.bo (pl+(cod ex x.e).length/2+1)).length/2+1))):=by
 have hn:n<sm.length:=(Ql.1 hx).1
 obtain⟨h1,h2,h3⟩:=hS n x hx
 unfold one
 simp only[onF,hx]
 have e1:∀pl,ZbL (onF ex sm n) x.bo pl=als ex sm x.bo pl:=λpl=>Zjo hE hS λm hm=>⟨by have:=h2 m hm;omega,h2 m hm⟩
 have e2:∀pl,ZbL (onF ex sm n) x.el pl=als ex sm x.el pl:=λpl=>Zjo hE hS λm hm=>⟨by have:=h3 m hm;omega,h3 m hm⟩
 simp only[e1,e2]
theorem ZaB.step{w w':World}{B:Nat}{S:Nat->Value}{v:Value}(h:ZaB w B S v l)(hb:Below w.heap.size w w'):ZaB w' B S v l:=⟨Zq h.1 hb,h.2⟩
def OGo(rb sb B:Nat)(s tb:ZB)(tp:Value)(p:Rs)(S:Nat->Value)(sv:List (Value×Value))(k:Nat):Prop:=∀(n pl:Nat) (w:World),n<k->Zx w rb sb B s p tb tp S sv->n<p.sm.length->pl+(one p.ex p.sm n pl).length<=20000->
 Calls prog 107 #[.pointer (some ⟨sb,0,none⟩),.int .i64 n,.int .i64 pl] w λen w'=>en=.returned (.string (bs (one p.ex p.sm n pl)))∧Below w.heap.size w w'
theorem ZdK(rb sb B:Nat)(s tb:ZB)(tp:Value)(p:Rs)(S:Nat->Value)(sv:List (Value×Value))(k:Nat)(ih:Kp (OGo rb sb B s tb tp p S sv k))(l:List Nat)(v:Value)(pl:Nat)(w:World)(H:Zx w rb sb B s p tb tp S sv)(hI:ZaB w B S v l)(hn:∀n∈l,n<k∧n<p.sm.length)(hl:pl+(als p.ex p.sm l pl).length<=20000)(hll:l.length<=20000) :
  Calls prog 49 #[.pointer (some ⟨sb,0,none⟩),v,.int .i64 pl] w λen w'=>en=.returned (.string (bs (als p.ex p.sm l pl)))∧Below w.heap.size w w':=by
 have hlt:=H.lt
 rcases hI.1.2 with ⟨rfl,h0⟩|⟨g,cap,cur,rfl,_⟩
 ·have e1:l=[]:=Uk h0
  subst e1
  clear H hI hn hl hll ih
  go_enter func49,ntmps49
  go_wp2_with fail
  go_loopw [7,8] (λcv iv wr=>cv=.string ⟨#[]⟩∧iv=.int .i64 0∧Kp (wr=w)) (λ_ _ _=>0)
  case atStart=>exact⟨rfl,rfl,⟨rfl⟩⟩
  case round=>
   obtain⟨rfl,rfl,hw⟩:=hrel
   go_wp2
   go_ret
   exact⟨rfl,by rw[hw.out];exact Qh _ _⟩
 ·have hI':Kp (ZaB w B S (.slice (some ⟨g,0,none⟩) l.length cap) l):=⟨hI⟩
  have H':Kp _:=⟨H⟩
  replace hn:=Z_ hn
  replace hl:=Z_ hl
  obtain⟨m,hm⟩:∃m,l.length=m:=⟨_,rfl⟩
  rw[hm]at hll hI' ⊢
  clear H hI
  go_enter func49,ntmps49
  go_wp2_with fail
  go_loopw [7,8] (λcv iv wr=>∃i:Nat,i<=m∧cv=.string (bs (als p.ex p.sm (l.take i) pl))∧iv=.int .i64 i∧Kp (Below w.heap.size w wr)) (λ_ iv _=>m-(intOf iv).toNat)
  case atStart=>exact⟨0,by omega,rfl,rfl,⟨Qh _ _⟩⟩
  case round=>
   obtain⟨i,him,rfl,rfl,hb⟩:=hrel
   by_cases hi:i<m
   ·have hii:(i:Int)<(m:Int):=by omega
    have hil:i<l.length:=by omega
    have hmem:=hn.out l[i] (Ua hil)
    have hA:=H'.out.step hb.out
    have hI2:=hI'.out.step hb.out
    have hc:wr.cell? ⟨g,i,none⟩=some (.int .i64 (l[i]:Nat)):=by
     have h:=hI2.1
     rw[hm]at h
     rw[h.cellAt i (by omega)]
     unfold itV
     rw[Ui,Qn hil]
     rfl
    have hgl:g<wr.heap.size:=by have h:=hI2.1;rw[hm]at h;exact(h.lt g rfl).2
    have htk:=ZoB (ex:=p.ex) (sm:=p.sm) (pl:=pl) hil
    have hle1:=ZrH (ex:=p.ex) (sm:=p.sm) (l:=l) (pl:=pl) (i+1)
    rw[htk,Qe]at hle1
    obtain⟨q,hq⟩:∃q,pl+(als p.ex p.sm (l.take i) pl).length/2=q:=⟨_,rfl⟩
    rw[hq]at htk hle1
    have hll2:=hl.out
    have hq4:q<=40000:=by omega
    have hpl:pl<=20000:=by omega
    obtain⟨V,hV⟩:∃V,bs (als p.ex p.sm (l.take i) pl)=V:=⟨_,rfl⟩
    have hVs:V.size=(als p.ex p.sm (l.take i) pl).length:=by rw[<-hV,Zc]
    obtain⟨n,hnn⟩:∃n,l[i]=n:=⟨_,rfl⟩
    rw[hnn]at hmem hc htk hle1
    obtain⟨V2,hV2⟩:∃V2,bs (one p.ex p.sm n q)=V2:=⟨_,rfl⟩
    have hV2s:V2.size=(one p.ex p.sm n q).length:=by rw[<-hV2,Zc]
    have hOn:Kp (∀W,Below wr.heap.size wr W->Calls prog 107 #[.pointer (some ⟨sb,0,none⟩),.int .i64 (n:Nat),.int .i64 (q:Nat)] W λen w'=>en=.returned (.string V2)∧Below W.heap.size W w'):=⟨λW hW=>by
     rw[<-hV2]
     exact ih.out n q W hmem.1 (hA.step hW) hmem.2 (by omega)⟩
    obtain⟨hh,hhh⟩:∃hh,V.size/2=hh:=⟨_,rfl⟩
    have hLg:=λW=>Zbi V W (by omega)
    rw[hhh]at hLg
    have hcat:bs (als p.ex p.sm (l.take (i+1)) pl)=V++V2:=by rw[htk,Zg,hV,hV2]
    have hsum:(pl:Int)+(hh:Int)=(q:Int):=by rw[<-hhh,<-hq,hVs];omega
    rw[hV]
    have q1:¬(9223372036854775807:Int)<(V.size:Int)+V2.size:=by omega
    have q2:¬(9223372036854775807:Int)<((V.size+V2.size:Nat):Int):=by omega
    have q3:(V.size:Int)+V2.size<=9223372036854775807:=by omega
    have w1:=(i64w (x:=(q:Int)) (by omega) (by omega)).1
    have w2:=(i64w (x:=(q:Int)) (by omega) (by omega)).2
    replace hLg:=Z_ hLg
    replace hcat:=Z_ hcat
    replace w1:=Z_ w1
    replace w2:=Z_ w2
    have Ic:Kp (∀W,Below wr.heap.size wr W->W.cell? ⟨g,i,none⟩=some (.int .i64 (n:Nat))):=⟨λW hW=>by rw[hW.cell (p:=⟨g,i,none⟩) hgl];exact hc⟩
    clear hA hI2 htk hle1 hq hll2 hq4 hV hVs hV2 hV2s hhh hmem hnn
    go_wp2_with fail
    replace w1:=w1.out
    replace w2:=w2.out
    go_region_held (λw'=>w'.cell? ⟨g,i,none⟩=some (.int .i64 (n:Nat))) (go_keep) (first
     | (go_at_call 50;refine(hLg.out _).mono ?_;rintro en w4 ⟨rfl,hw4⟩;subst hw4)
     | (go_at_call 107;refine(hOn.out _ (by first|exact(Qh _ _).drew|assumption)).mono ?_;rintro en w5 ⟨rfl,bb⟩;have bn:Below wr.heap.size wr w5:=(Qh _ _).drew.trans bb;have oc:=Ic.out _ bn;clear bb))
    all_goals
     clear oc w1 w2 hsum
     go_wp2_with fail
     go_roundw
     case rel=>exact⟨i+1,by omega,by rw[<-hcat.out],by go_num,⟨hb.out.trans (bn.mono hb.out.size)⟩⟩
     case measure=>simp[intOf];omega
   ·have hii:¬(i:Int)<(m:Int):=by omega
    have e1:i=m:=by omega
    have e2:bs (als p.ex p.sm (l.take i) pl)=bs (als p.ex p.sm l pl):=by rw[e1,<-hm,List.take_length]
    rw[e2]
    obtain⟨V,hV⟩:∃V,bs (als p.ex p.sm l pl)=V:=⟨_,rfl⟩
    rw[hV]
    replace hV:=Z_ hV
    clear e2
    replace e1:=Z_ e1
    go_wp2
    go_ret
    exact⟨by rw[hV.out];rfl,hb.out⟩
theorem ZrI(rb sb B:Nat)(s tb:ZB)(tp:Value)(p:Rs)(S:Nat->Value)(sv:List (Value×Value))(hE:Z7 p.ex)(hS:ZaQ p.ex p.sm)(n pl:Nat)(ih:Kp (OGo rb sb B s tb tp p S sv n))(w:World)(H:Zx w rb sb B s p tb tp S sv)(x:Sm)(hx:p.sm[n]?=some x)(hl:pl+(one p.ex p.sm n pl).length<=20000)(hk:x.k=61) :
  Calls prog 107 #[.pointer (some ⟨sb,0,none⟩),.int .i64 n,.int .i64 pl] w λen w'=>en=.returned (.string (bs (one p.ex p.sm n pl)))∧Below w.heap.size w w':=by
 have hon:=Zfo (pl:=pl) hE hS hx
 rw[if_pos hk]at hon
 rw[hon]at hl ⊢
 obtain⟨g,c,yy,hS1,hg,hyy,hI1,hI2,hc⟩:=H.stat hx
 have hn:n<p.sm.length:=(Ql.1 hx).1
 have c5:w.cell? ⟨sb,5,none⟩=some (.slice (some ⟨g,0,none⟩) p.sm.length c):=by rw[<-hS1];exact H.c 1 (by omega)
 obtain⟨y1,y2⟩:=yy
 obtain⟨p1,q1,ey1⟩:=Zb hI1.1
 obtain⟨p2,q2,ey2⟩:=Zb hI2.1
 have ey1:y1=.slice p1 x.bo.length q1:=ey1
 have ey2:y2=.slice p2 x.el.length q2:=ey2
 subst ey1
 subst ey2
 have d0:w.cell? ⟨g,n*7,none⟩=some (.int .u8 x.k):=hc 0 _ rfl
 have d1:=hc 1 _ rfl
 have d2:=hc 2 _ rfl
 have d3:=hc 3 _ rfl
 have d4:=hc 4 _ rfl
 have d5:=hc 5 _ rfl
 have d6:=hc 6 _ rfl
 dsimp only at d0 d1 d2 d3 d4 d5 d6
 have hxe:=(hS n x hx).1
 have hlt:=H.lt
 obtain⟨VE,hVE⟩:∃V,bs (cod p.ex x.e)=V:=⟨_,rfl⟩
 have zE:VE.size=(cod p.ex x.e).length:=by rw[<-hVE,Zc]
 obtain⟨wx,hwx⟩:∃wx,w.alloc (.cells #[.int .u8 x.k,.int .i64 x.a,.int .i64 x.v,.int .i64 x.e,.slice p1 x.bo.length q1,.slice p2 x.el.length q2,.bool x.two] 123)=wx:=⟨_,rfl⟩
 have Ox:=own7 w (.int .u8 x.k) (.int .i64 x.a) (.int .i64 x.v) (.int .i64 x.e) (.slice p1 x.bo.length q1) (.slice p2 x.el.length q2) (.bool x.two) 123
 rw[hwx]at Ox
 have bx:Below w.heap.size w wx:=by rw[<-hwx];exact(Qh _ _).alloc (Qb _) _
 have hnm:(n:Int)<(p.sm.length:Int):=by omega
 have hC:Kp (∀W,Below w.heap.size w W->Calls prog 172 #[.pointer (some ⟨sb,0,none⟩),.int .i64 (x.e:Nat)] W λen w'=>en=.returned (.string VE)∧Below W.heap.size W w'):=⟨λW hW=>by
  rw[<-hVE]
  exact ZcY rb sb B s tb tp p S sv hE (x.e+1) x.e W (by omega) (H.step hW) hxe (by rw[Qe]at hl;omega)⟩
 obtain⟨V1,hV1⟩:∃V,bs [(2:Int)%256]=V:=⟨_,rfl⟩
 have zV1:V1.size=1:=by rw[<-hV1,Zc];rfl
 have hB1:=λW=>Zj (2) W
 rw[hV1]at hB1
 replace hB1:=Z_ hB1
 obtain⟨V2,hV2⟩:∃V,bs [(x.v:Int)%256]=V:=⟨_,rfl⟩
 have zV2:V2.size=1:=by rw[<-hV2,Zc];rfl
 have hB2:=λW=>Zj (x.v) W
 rw[hV2]at hB2
 replace hB2:=Z_ hB2
 have zE2:VE.size<=20000:=by rw[zE];rw[Qe]at hl;omega
 have hfin:bs (cod p.ex x.e++[2,x.v%256])=VE++V1++V2:=by
  rw[Zg,hVE,show ([2,x.v%256]:List Int)=[2%256]++[x.v%256] from rfl,Zg,hV1,hV2,<-QR]
 rw[hfin]
 clear hfin
 have qa2:¬(9223372036854775807:Int)<(VE.size:Int)+V1.size:=by omega
 have qb2:¬(9223372036854775807:Int)<((VE.size+V1.size:Nat):Int):=by omega
 have qc2:(VE.size:Int)+V1.size<=9223372036854775807:=by omega
 have qa3:¬(9223372036854775807:Int)<(VE.size:Int)+V1.size+V2.size:=by omega
 have qb3:¬(9223372036854775807:Int)<((VE.size+V1.size+V2.size:Nat):Int):=by omega
 have qc3:(VE.size:Int)+V1.size+V2.size<=9223372036854775807:=by omega
 rw[hk]at d0 hwx Ox
 generalize x.v=v at *
 generalize hm:p.sm.length=m at *
 clear zV1 zV2 zE2
 have x0:=Ox.c 0 _ rfl
 have x3:=Ox.c 3 _ rfl
 replace Ox:=Z_ Ox
 replace bx:=Z_ bx
 replace hwx:=Z_ hwx
 clear hm
 clear H hE hx hc hS1 hyy hI1 hI2 hVE zE hxe hS hon hl ih hV1 hV2
 go_enter func107,ntmps107
 go_wp2_with fail
 rw[hwx.out]
 clear d0 d1 d2 d3 d4 d5 d6 c5
 obtain⟨gx,hgx⟩:∃gx,w.heap.size=gx:=⟨_,rfl⟩
 rw[hgx]at x0 x3 Ox
 simp only[hgx]
 refine(hC.out _ bx.out).mono ?_
 rintro en w2 ⟨rfl,b2⟩
 have B2:Below wx.heap.size wx w2:=b2
 have x0:=(Ox.out.step B2).c 0 _ rfl
 clear b2
 have x2:=(Ox.out.step B2).c 2 _ rfl
 go_wp2_with fail
 go_region_held (λw'=>w'.cell? ⟨gx,2,none⟩=some (.int .i64 v)) (go_keep) ((go_at_call 51;(first|refine(hB1.out _).mono ?_|refine(hB2.out _).mono ?_);rintro en w5 ⟨rfl,bb⟩;have bn:Below w2.heap.size w2 w5:=(by first|exact((Qh _ _).drew).trans bb|exact Q9 (by assumption) (bb.mono (Below.size (w:=w2) (by assumption))));have o2:=((Ox.out.step B2).step bn).c 2 _ rfl;clear bb))
 all_goals
  have b9:Below w2.heap.size w2 w5:=by assumption
  go_wp2
  go_ret
  exact⟨rfl,(bx.out.trans (B2.mono bx.out.size)).trans (b9.mono (Qg bx.out.size B2.size))⟩
theorem ZrJ(rb sb B:Nat)(s tb:ZB)(tp:Value)(p:Rs)(S:Nat->Value)(sv:List (Value×Value))(hE:Z7 p.ex)(hS:ZaQ p.ex p.sm)(n pl:Nat)(ih:Kp (OGo rb sb B s tb tp p S sv n))(w:World)(H:Zx w rb sb B s p tb tp S sv)(x:Sm)(hx:p.sm[n]?=some x)(hl:pl+(one p.ex p.sm n pl).length<=20000)(hk:x.k=62) :
  Calls prog 107 #[.pointer (some ⟨sb,0,none⟩),.int .i64 n,.int .i64 pl] w λen w'=>en=.returned (.string (bs (one p.ex p.sm n pl)))∧Below w.heap.size w w':=by
 have hon:=Zfo (pl:=pl) hE hS hx
 rw[if_neg (by omega),if_pos hk]at hon
 rw[hon]at hl ⊢
 obtain⟨g,c,yy,hS1,hg,hyy,hI1,hI2,hc⟩:=H.stat hx
 have hn:n<p.sm.length:=(Ql.1 hx).1
 have c5:w.cell? ⟨sb,5,none⟩=some (.slice (some ⟨g,0,none⟩) p.sm.length c):=by rw[<-hS1];exact H.c 1 (by omega)
 obtain⟨y1,y2⟩:=yy
 obtain⟨p1,q1,ey1⟩:=Zb hI1.1
 obtain⟨p2,q2,ey2⟩:=Zb hI2.1
 have ey1:y1=.slice p1 x.bo.length q1:=ey1
 have ey2:y2=.slice p2 x.el.length q2:=ey2
 subst ey1
 subst ey2
 have d0:w.cell? ⟨g,n*7,none⟩=some (.int .u8 x.k):=hc 0 _ rfl
 have d1:=hc 1 _ rfl
 have d2:=hc 2 _ rfl
 have d3:=hc 3 _ rfl
 have d4:=hc 4 _ rfl
 have d5:=hc 5 _ rfl
 have d6:=hc 6 _ rfl
 dsimp only at d0 d1 d2 d3 d4 d5 d6
 have hxe:=(hS n x hx).1
 have hlt:=H.lt
 obtain⟨VE,hVE⟩:∃V,bs (cod p.ex x.e)=V:=⟨_,rfl⟩
 have zE:VE.size=(cod p.ex x.e).length:=by rw[<-hVE,Zc]
 obtain⟨wx,hwx⟩:∃wx,w.alloc (.cells #[.int .u8 x.k,.int .i64 x.a,.int .i64 x.v,.int .i64 x.e,.slice p1 x.bo.length q1,.slice p2 x.el.length q2,.bool x.two] 123)=wx:=⟨_,rfl⟩
 have Ox:=own7 w (.int .u8 x.k) (.int .i64 x.a) (.int .i64 x.v) (.int .i64 x.e) (.slice p1 x.bo.length q1) (.slice p2 x.el.length q2) (.bool x.two) 123
 rw[hwx]at Ox
 have bx:Below w.heap.size w wx:=by rw[<-hwx];exact(Qh _ _).alloc (Qb _) _
 have hnm:(n:Int)<(p.sm.length:Int):=by omega
 have hC:Kp (∀W,Below w.heap.size w W->Calls prog 172 #[.pointer (some ⟨sb,0,none⟩),.int .i64 (x.e:Nat)] W λen w'=>en=.returned (.string VE)∧Below W.heap.size W w'):=⟨λW hW=>by
  rw[<-hVE]
  exact ZcY rb sb B s tb tp p S sv hE (x.e+1) x.e W (by omega) (H.step hW) hxe (by rw[Qe]at hl;omega)⟩
 obtain⟨V1,hV1⟩:∃V,bs [(11:Int)%256]=V:=⟨_,rfl⟩
 have zV1:V1.size=1:=by rw[<-hV1,Zc];rfl
 have hB1:=λW=>Zj (11) W
 rw[hV1]at hB1
 replace hB1:=Z_ hB1
 obtain⟨V2,hV2⟩:∃V,bs [(x.v:Int)%256]=V:=⟨_,rfl⟩
 have zV2:V2.size=1:=by rw[<-hV2,Zc];rfl
 have hB2:=λW=>Zj (x.v) W
 rw[hV2]at hB2
 replace hB2:=Z_ hB2
 have zE2:VE.size<=20000:=by rw[zE];rw[Qe]at hl;omega
 have hfin:bs (cod p.ex x.e++[11,x.v%256])=VE++V1++V2:=by
  rw[Zg,hVE,show ([11,x.v%256]:List Int)=[11%256]++[x.v%256] from rfl,Zg,hV1,hV2,<-QR]
 rw[hfin]
 clear hfin
 have qa2:¬(9223372036854775807:Int)<(VE.size:Int)+V1.size:=by omega
 have qb2:¬(9223372036854775807:Int)<((VE.size+V1.size:Nat):Int):=by omega
 have qc2:(VE.size:Int)+V1.size<=9223372036854775807:=by omega
 have qa3:¬(9223372036854775807:Int)<(VE.size:Int)+V1.size+V2.size:=by omega
 have qb3:¬(9223372036854775807:Int)<((VE.size+V1.size+V2.size:Nat):Int):=by omega
 have qc3:(VE.size:Int)+V1.size+V2.size<=9223372036854775807:=by omega
 rw[hk]at d0 hwx Ox
 generalize x.v=v at *
 generalize hm:p.sm.length=m at *
 clear zV1 zV2 zE2
 have x0:=Ox.c 0 _ rfl
 have x3:=Ox.c 3 _ rfl
 replace Ox:=Z_ Ox
 replace bx:=Z_ bx
 replace hwx:=Z_ hwx
 clear hm
 clear H hE hx hc hS1 hyy hI1 hI2 hVE zE hxe hS hon hl ih hV1 hV2
 go_enter func107,ntmps107
 go_wp2_with fail
 rw[hwx.out]
 clear d0 d1 d2 d3 d4 d5 d6 c5
 obtain⟨gx,hgx⟩:∃gx,w.heap.size=gx:=⟨_,rfl⟩
 rw[hgx]at x0 x3 Ox
 simp only[hgx]
 refine(hC.out _ bx.out).mono ?_
 rintro en w2 ⟨rfl,b2⟩
 have B2:Below wx.heap.size wx w2:=b2
 have x0:=(Ox.out.step B2).c 0 _ rfl
 clear b2
 have x2:=(Ox.out.step B2).c 2 _ rfl
 go_wp2_with fail
 go_region_held (λw'=>w'.cell? ⟨gx,2,none⟩=some (.int .i64 v)) (go_keep) ((go_at_call 51;(first|refine(hB1.out _).mono ?_|refine(hB2.out _).mono ?_);rintro en w5 ⟨rfl,bb⟩;have bn:Below w2.heap.size w2 w5:=(by first|exact((Qh _ _).drew).trans bb|exact Q9 (by assumption) (bb.mono (Below.size (w:=w2) (by assumption))));have o2:=((Ox.out.step B2).step bn).c 2 _ rfl;clear bb))
 all_goals
  have b9:Below w2.heap.size w2 w5:=by assumption
  go_wp2
  go_ret
  exact⟨rfl,(bx.out.trans (B2.mono bx.out.size)).trans (b9.mono (Qg bx.out.size B2.size))⟩
theorem ZrK(rb sb B:Nat)(s tb:ZB)(tp:Value)(p:Rs)(S:Nat->Value)(sv:List (Value×Value))(hE:Z7 p.ex)(hS:ZaQ p.ex p.sm)(n pl:Nat)(ih:Kp (OGo rb sb B s tb tp p S sv n))(w:World)(H:Zx w rb sb B s p tb tp S sv)(x:Sm)(hx:p.sm[n]?=some x)(hlb:x.bo.length<=20000)(hl:pl+(one p.ex p.sm n pl).length<=20000)(hk:x.k=64) :
  Calls prog 107 #[.pointer (some ⟨sb,0,none⟩),.int .i64 n,.int .i64 pl] w λen w'=>en=.returned (.string (bs (one p.ex p.sm n pl)))∧Below w.heap.size w w':=by
 have hon:=Zfo (pl:=pl) hE hS hx
 rw[if_neg (by omega),if_neg (by omega),if_pos hk]at hon
 rw[hon]at hl ⊢
 obtain⟨g,c,yy,hS1,hg,hyy,hI1,hI2,hc⟩:=H.stat hx
 have hn:n<p.sm.length:=(Ql.1 hx).1
 have c5:w.cell? ⟨sb,5,none⟩=some (.slice (some ⟨g,0,none⟩) p.sm.length c):=by rw[<-hS1];exact H.c 1 (by omega)
 obtain⟨y1,y2⟩:=yy
 obtain⟨p1,q1,ey1⟩:=Zb hI1.1
 obtain⟨p2,q2,ey2⟩:=Zb hI2.1
 have ey1:y1=.slice p1 x.bo.length q1:=ey1
 have ey2:y2=.slice p2 x.el.length q2:=ey2
 subst ey1
 subst ey2
 have d0:w.cell? ⟨g,n*7,none⟩=some (.int .u8 x.k):=hc 0 _ rfl
 have d1:=hc 1 _ rfl
 have d2:=hc 2 _ rfl
 have d3:=hc 3 _ rfl
 have d4:=hc 4 _ rfl
 have d5:=hc 5 _ rfl
 have d6:=hc 6 _ rfl
 dsimp only at d0 d1 d2 d3 d4 d5 d6
 have hxe:=(hS n x hx).1
 have hlt:=H.lt
 obtain⟨VE,hVE⟩:∃V,bs (cod p.ex x.e)=V:=⟨_,rfl⟩
 have zE:VE.size=(cod p.ex x.e).length:=by rw[<-hVE,Zc]
 obtain⟨wx,hwx⟩:∃wx,w.alloc (.cells #[.int .u8 x.k,.int .i64 x.a,.int .i64 x.v,.int .i64 x.e,.slice p1 x.bo.length q1,.slice p2 x.el.length q2,.bool x.two] 123)=wx:=⟨_,rfl⟩
 have Ox:=own7 w (.int .u8 x.k) (.int .i64 x.a) (.int .i64 x.v) (.int .i64 x.e) (.slice p1 x.bo.length q1) (.slice p2 x.el.length q2) (.bool x.two) 123
 rw[hwx]at Ox
 have bx:Below w.heap.size w wx:=by rw[<-hwx];exact(Qh _ _).alloc (Qb _) _
 have hnm:(n:Int)<(p.sm.length:Int):=by omega
 have hl2:pl+(cod p.ex x.e).length+2+(als p.ex p.sm x.bo (pl+(cod p.ex x.e).length/2+1)).length<=20000:=by
  simp only[Qe,Qt,Qy]at hl
  omega
 have hC:Kp (∀W,Below w.heap.size w W->Calls prog 172 #[.pointer (some ⟨sb,0,none⟩),.int .i64 (x.e:Nat)] W λen w'=>en=.returned (.string VE)∧Below W.heap.size W w'):=⟨λW hW=>by
  rw[<-hVE]
  exact ZcY rb sb B s tb tp p S sv hE (x.e+1) x.e W (by omega) (H.step hW) hxe (by omega)⟩
 have hI1':=hI1
 have hI2':=hI2
 have hbo:=(hS n x hx).2.1
 have hel:=(hS n x hx).2.2
 obtain⟨fr,hfr⟩:∃fr:Nat,pl+(cod p.ex x.e).length/2+1=fr:=⟨_,rfl⟩
 rw[hfr]at hl hl2 ⊢
 obtain⟨VB,hVB⟩:∃V,bs (als p.ex p.sm x.bo fr)=V:=⟨_,rfl⟩
 have zB:VB.size=(als p.ex p.sm x.bo fr).length:=by rw[<-hVB,Zc]
 have hAl:Kp (∀W,Below w.heap.size w W->Calls prog 49 #[.pointer (some ⟨sb,0,none⟩),.slice p1 x.bo.length q1,.int .i64 (fr:Nat)] W λen w'=>en=.returned (.string VB)∧Below W.heap.size W w'):=⟨λW hW=>by
  rw[<-hVB]
  exact ZdK rb sb B s tb tp p S sv n ih x.bo _ fr W (H.step hW) (hI1'.step hW) (λm hm=>⟨hbo m hm,by have:=hbo m hm;omega⟩) (by omega) hlb⟩
 obtain⟨th,hth⟩:∃th:Nat,fr+(als p.ex p.sm x.bo fr).length/2=th:=⟨_,rfl⟩
 rw[hth]at hl ⊢
 obtain⟨th1,hth1⟩:∃th1:Nat,th+1=th1:=⟨_,rfl⟩
 obtain⟨eh,heh⟩:∃eh:Nat,VE.size/2=eh:=⟨_,rfl⟩
 obtain⟨bh,hbh⟩:∃bh:Nat,VB.size/2=bh:=⟨_,rfl⟩
 have hLe:=λW=>Zbi VE W (by omega)
 rw[heh]at hLe
 replace hLe:=Z_ hLe
 have hLb:=λW=>Zbi VB W (by omega)
 rw[hbh]at hLb
 replace hLb:=Z_ hLb
 have s1:(pl:Int)+(eh:Int)+1=(fr:Int):=by rw[<-heh,<-hfr,zE];omega
 have s2:(fr:Int)+(bh:Int)=(th:Int):=by rw[<-hbh,<-hth,zB];omega
 have s3:(th:Int)+1=(th1:Int):=by omega
 have t0:(pl:Int)<=20000:=by omega
 have t1:(eh:Int)<=20000:=by omega
 have t2:(bh:Int)<=20000:=by omega
 have t3:(fr:Int)<=40000:=by omega
 have t4:(th:Int)<=60000:=by omega
 have t5:(th1:Int)<=60001:=by omega
 have s0:(pl:Int)+(eh:Int)<=40000:=by omega
 obtain⟨V9,hV9⟩:∃V,bs [(9:Int)%256]=V:=⟨_,rfl⟩
 have zV9:V9.size=1:=by rw[<-hV9,Zc];rfl
 have hB9:=λW=>Zj (9) W
 rw[hV9]at hB9
 replace hB9:=Z_ hB9
 obtain⟨Vt,hVt⟩:∃V,bs [((th1:Nat):Int)%256]=V:=⟨_,rfl⟩
 have zVt:Vt.size=1:=by rw[<-hVt,Zc];rfl
 have hBt:=λW=>Zj ((th1:Nat)) W
 rw[hVt]at hBt
 replace hBt:=Z_ hBt
 obtain⟨V8,hV8⟩:∃V,bs [(8:Int)%256]=V:=⟨_,rfl⟩
 have zV8:V8.size=1:=by rw[<-hV8,Zc];rfl
 have hB8:=λW=>Zj (8) W
 rw[hV8]at hB8
 replace hB8:=Z_ hB8
 obtain⟨Vp,hVp⟩:∃V,bs [((pl:Nat):Int)%256]=V:=⟨_,rfl⟩
 have zVp:Vp.size=1:=by rw[<-hVp,Zc];rfl
 have hBp:=λW=>Zj ((pl:Nat)) W
 rw[hVp]at hBp
 replace hBp:=Z_ hBp
 rw[hth1]at hl ⊢
 have hfin:bs (cod p.ex x.e++[9,(th1:Int)%256]++als p.ex p.sm x.bo fr++[8,(pl:Int)%256])=VE++V9++Vt++VB++V8++Vp:=by
  rw[Zg,Zg,Zg,hVE,hVB,show ([9,(th1:Int)%256]:List Int)=[9%256]++[(th1:Int)%256] from rfl,show ([8,(pl:Int)%256]:List Int)=[8%256]++[(pl:Int)%256] from rfl,Zg,Zg,hV9,hVt,hV8,hVp]
  simp only[QR]
 rw[hfin]
 clear hfin
 have qa2:¬(9223372036854775807:Int)<(VE.size:Int)+V9.size:=by omega
 have qb2:¬(9223372036854775807:Int)<((VE.size+V9.size:Nat):Int):=by omega
 have qc2:(VE.size:Int)+V9.size<=9223372036854775807:=by omega
 have qa3:¬(9223372036854775807:Int)<(VE.size:Int)+V9.size+Vt.size:=by omega
 have qb3:¬(9223372036854775807:Int)<((VE.size+V9.size+Vt.size:Nat):Int):=by omega
 have qc3:(VE.size:Int)+V9.size+Vt.size<=9223372036854775807:=by omega
 have qa4:¬(9223372036854775807:Int)<(VE.size:Int)+V9.size+Vt.size+VB.size:=by omega
 have qb4:¬(9223372036854775807:Int)<((VE.size+V9.size+Vt.size+VB.size:Nat):Int):=by omega
 have qc4:(VE.size:Int)+V9.size+Vt.size+VB.size<=9223372036854775807:=by omega
 have qa5:¬(9223372036854775807:Int)<(VE.size:Int)+V9.size+Vt.size+VB.size+V8.size:=by omega
 have qb5:¬(9223372036854775807:Int)<((VE.size+V9.size+Vt.size+VB.size+V8.size:Nat):Int):=by omega
 have qc5:(VE.size:Int)+V9.size+Vt.size+VB.size+V8.size<=9223372036854775807:=by omega
 have qa6:¬(9223372036854775807:Int)<(VE.size:Int)+V9.size+Vt.size+VB.size+V8.size+Vp.size:=by omega
 have qb6:¬(9223372036854775807:Int)<((VE.size+V9.size+Vt.size+VB.size+V8.size+Vp.size:Nat):Int):=by omega
 have qc6:(VE.size:Int)+V9.size+Vt.size+VB.size+V8.size+Vp.size<=9223372036854775807:=by omega
 generalize x.bo.length=lb at *
 generalize x.el.length=le at *
 generalize hm:p.sm.length=m at *
 rw[hk]at d0 hwx Ox
 have x0:=Ox.c 0 _ rfl
 have x3:=Ox.c 3 _ rfl
 replace Ox:=Z_ Ox
 replace bx:=Z_ bx
 replace hwx:=Z_ hwx
 clear hm
 clear H hE hx hc hS1 hyy hI1 hI2 hVE zE hxe hS hon hl ih hV9 hVt hV8 hVp zV9 zVt zV8 zVp hl2 hbo hel hI1' hI2' hfr hth hth1 heh hbh hVB zB hlb
 go_enter func107,ntmps107
 go_wp2_with fail
 rw[hwx.out]
 clear d0 d1 d2 d3 d4 d5 d6 c5
 obtain⟨gx,hgx⟩:∃gx,w.heap.size=gx:=⟨_,rfl⟩
 rw[hgx]at x0 x3 Ox
 simp only[hgx]
 refine(hC.out _ bx.out).mono ?_
 rintro en w2 ⟨rfl,b2⟩
 have B2:Below wx.heap.size wx w2:=b2
 have x0:=(Ox.out.step B2).c 0 _ rfl
 clear b2
 have bw:Below w.heap.size w w2:=bx.out.trans (B2.mono bx.out.size)
 have x4:=(Ox.out.step B2).c 4 _ rfl
 have x5:=(Ox.out.step B2).c 5 _ rfl
 have x6:=(Ox.out.step B2).c 6 _ rfl
 go_wp2_with fail
 refine(hLe.out _).mono ?_
 rintro en w3 ⟨rfl,hw3⟩
 have hw4:=hw3.symm
 clear hw3
 subst hw4
 go_wp2_with fail
 refine(hAl.out _ bw).mono ?_
 rintro en w5 ⟨rfl,bb⟩
 have bw5:Below w2.heap.size w2 w5:=bb
 clear bb
 have o0w5:=((Ox.out.step B2).step bw5).c 0 _ rfl
 have o5w5:=((Ox.out.step B2).step bw5).c 5 _ rfl
 have o6w5:=((Ox.out.step B2).step bw5).c 6 _ rfl
 clear x4 x5 x6
 go_wp2_with fail
 refine(hLb.out _).mono ?_
 rintro en w6 ⟨rfl,hw6⟩
 have hw7:=hw6.symm
 clear hw6
 subst hw7
 go_wp2_with fail
 refine(hB9.out _).mono ?_
 rintro en w10 ⟨rfl,bb⟩
 have bw10:Below w2.heap.size w2 w10:=bw5.trans (bb.mono bw5.size)
 clear bb
 go_wp2_with fail
 refine(hBt.out _).mono ?_
 rintro en w11 ⟨rfl,bb⟩
 have bw11:Below w2.heap.size w2 w11:=bw10.trans (bb.mono bw10.size)
 clear bb
 go_wp2_with fail
 refine(hB8.out _).mono ?_
 rintro en w12 ⟨rfl,bb⟩
 have bw12:Below w2.heap.size w2 w12:=bw11.trans (bb.mono bw11.size)
 clear bb
 go_wp2_with fail
 refine(hBp.out _).mono ?_
 rintro en w13 ⟨rfl,bb⟩
 have bw13:Below w2.heap.size w2 w13:=bw12.trans (bb.mono bw12.size)
 clear bb
 go_wp2
 go_ret
 exact⟨rfl,bw.trans (bw13.mono bw.size)⟩
theorem ZrL(rb sb B:Nat)(s tb:ZB)(tp:Value)(p:Rs)(S:Nat->Value)(sv:List (Value×Value))(hE:Z7 p.ex)(hS:ZaQ p.ex p.sm)(n pl:Nat)(ih:Kp (OGo rb sb B s tb tp p S sv n))(w:World)(H:Zx w rb sb B s p tb tp S sv)(x:Sm)(hx:p.sm[n]?=some x)(hlb:x.bo.length<=20000)(hl:pl+(one p.ex p.sm n pl).length<=20000)(h61:¬x.k=61)(h62:¬x.k=62)(h64:¬x.k=64)(h2:x.two=false) :
  Calls prog 107 #[.pointer (some ⟨sb,0,none⟩),.int .i64 n,.int .i64 pl] w λen w'=>en=.returned (.string (bs (one p.ex p.sm n pl)))∧Below w.heap.size w w':=by
 have hon:=Zfo (pl:=pl) hE hS hx
 rw[if_neg h61,if_neg h62,if_neg h64,if_pos h2]at hon
 rw[hon]at hl ⊢
 obtain⟨g,c,yy,hS1,hg,hyy,hI1,hI2,hc⟩:=H.stat hx
 have hn:n<p.sm.length:=(Ql.1 hx).1
 have c5:w.cell? ⟨sb,5,none⟩=some (.slice (some ⟨g,0,none⟩) p.sm.length c):=by rw[<-hS1];exact H.c 1 (by omega)
 obtain⟨y1,y2⟩:=yy
 obtain⟨p1,q1,ey1⟩:=Zb hI1.1
 obtain⟨p2,q2,ey2⟩:=Zb hI2.1
 have ey1:y1=.slice p1 x.bo.length q1:=ey1
 have ey2:y2=.slice p2 x.el.length q2:=ey2
 subst ey1
 subst ey2
 have d0:w.cell? ⟨g,n*7,none⟩=some (.int .u8 x.k):=hc 0 _ rfl
 have d1:=hc 1 _ rfl
 have d2:=hc 2 _ rfl
 have d3:=hc 3 _ rfl
 have d4:=hc 4 _ rfl
 have d5:=hc 5 _ rfl
 have d6:=hc 6 _ rfl
 dsimp only at d0 d1 d2 d3 d4 d5 d6
 have hxe:=(hS n x hx).1
 have hlt:=H.lt
 obtain⟨VE,hVE⟩:∃V,bs (cod p.ex x.e)=V:=⟨_,rfl⟩
 have zE:VE.size=(cod p.ex x.e).length:=by rw[<-hVE,Zc]
 obtain⟨wx,hwx⟩:∃wx,w.alloc (.cells #[.int .u8 x.k,.int .i64 x.a,.int .i64 x.v,.int .i64 x.e,.slice p1 x.bo.length q1,.slice p2 x.el.length q2,.bool x.two] 123)=wx:=⟨_,rfl⟩
 have Ox:=own7 w (.int .u8 x.k) (.int .i64 x.a) (.int .i64 x.v) (.int .i64 x.e) (.slice p1 x.bo.length q1) (.slice p2 x.el.length q2) (.bool x.two) 123
 rw[hwx]at Ox
 have bx:Below w.heap.size w wx:=by rw[<-hwx];exact(Qh _ _).alloc (Qb _) _
 have hnm:(n:Int)<(p.sm.length:Int):=by omega
 have hl2:pl+(cod p.ex x.e).length+2+(als p.ex p.sm x.bo (pl+(cod p.ex x.e).length/2+1)).length<=20000:=by
  simp only[Qe,Qt,Qy]at hl
  omega
 have hC:Kp (∀W,Below w.heap.size w W->Calls prog 172 #[.pointer (some ⟨sb,0,none⟩),.int .i64 (x.e:Nat)] W λen w'=>en=.returned (.string VE)∧Below W.heap.size W w'):=⟨λW hW=>by
  rw[<-hVE]
  exact ZcY rb sb B s tb tp p S sv hE (x.e+1) x.e W (by omega) (H.step hW) hxe (by omega)⟩
 have hI1':=hI1
 have hI2':=hI2
 have hbo:=(hS n x hx).2.1
 have hel:=(hS n x hx).2.2
 obtain⟨fr,hfr⟩:∃fr:Nat,pl+(cod p.ex x.e).length/2+1=fr:=⟨_,rfl⟩
 rw[hfr]at hl hl2 ⊢
 obtain⟨VB,hVB⟩:∃V,bs (als p.ex p.sm x.bo fr)=V:=⟨_,rfl⟩
 have zB:VB.size=(als p.ex p.sm x.bo fr).length:=by rw[<-hVB,Zc]
 have hAl:Kp (∀W,Below w.heap.size w W->Calls prog 49 #[.pointer (some ⟨sb,0,none⟩),.slice p1 x.bo.length q1,.int .i64 (fr:Nat)] W λen w'=>en=.returned (.string VB)∧Below W.heap.size W w'):=⟨λW hW=>by
  rw[<-hVB]
  exact ZdK rb sb B s tb tp p S sv n ih x.bo _ fr W (H.step hW) (hI1'.step hW) (λm hm=>⟨hbo m hm,by have:=hbo m hm;omega⟩) (by omega) hlb⟩
 obtain⟨th,hth⟩:∃th:Nat,fr+(als p.ex p.sm x.bo fr).length/2=th:=⟨_,rfl⟩
 rw[hth]at hl ⊢
 obtain⟨th1,hth1⟩:∃th1:Nat,th+1=th1:=⟨_,rfl⟩
 obtain⟨eh,heh⟩:∃eh:Nat,VE.size/2=eh:=⟨_,rfl⟩
 obtain⟨bh,hbh⟩:∃bh:Nat,VB.size/2=bh:=⟨_,rfl⟩
 have hLe:=λW=>Zbi VE W (by omega)
 rw[heh]at hLe
 replace hLe:=Z_ hLe
 have hLb:=λW=>Zbi VB W (by omega)
 rw[hbh]at hLb
 replace hLb:=Z_ hLb
 have s1:(pl:Int)+(eh:Int)+1=(fr:Int):=by rw[<-heh,<-hfr,zE];omega
 have s2:(fr:Int)+(bh:Int)=(th:Int):=by rw[<-hbh,<-hth,zB];omega
 have s3:(th:Int)+1=(th1:Int):=by omega
 have t0:(pl:Int)<=20000:=by omega
 have t1:(eh:Int)<=20000:=by omega
 have t2:(bh:Int)<=20000:=by omega
 have t3:(fr:Int)<=40000:=by omega
 have t4:(th:Int)<=60000:=by omega
 have t5:(th1:Int)<=60001:=by omega
 have s0:(pl:Int)+(eh:Int)<=40000:=by omega
 obtain⟨V9,hV9⟩:∃V,bs [(9:Int)%256]=V:=⟨_,rfl⟩
 have zV9:V9.size=1:=by rw[<-hV9,Zc];rfl
 have hB9:=λW=>Zj (9) W
 rw[hV9]at hB9
 replace hB9:=Z_ hB9
 obtain⟨Vt,hVt⟩:∃V,bs [(th:Int)%256]=V:=⟨_,rfl⟩
 have zVt:Vt.size=1:=by rw[<-hVt,Zc];rfl
 have hBt:=λW=>Zj (th) W
 rw[hVt]at hBt
 replace hBt:=Z_ hBt
 have hfin:bs (cod p.ex x.e++[9,(th:Int)%256]++als p.ex p.sm x.bo fr)=VE++V9++Vt++VB:=by
  rw[Zg,Zg,hVE,hVB,show ([9,(th:Int)%256]:List Int)=[9%256]++[(th:Int)%256] from rfl,Zg,hV9,hVt,<-QR]
 rw[hfin]
 clear hfin
 have qa2:¬(9223372036854775807:Int)<(VE.size:Int)+V9.size:=by omega
 have qb2:¬(9223372036854775807:Int)<((VE.size+V9.size:Nat):Int):=by omega
 have qc2:(VE.size:Int)+V9.size<=9223372036854775807:=by omega
 have qa3:¬(9223372036854775807:Int)<(VE.size:Int)+V9.size+Vt.size:=by omega
 have qb3:¬(9223372036854775807:Int)<((VE.size+V9.size+Vt.size:Nat):Int):=by omega
 have qc3:(VE.size:Int)+V9.size+Vt.size<=9223372036854775807:=by omega
 have qa4:¬(9223372036854775807:Int)<(VE.size:Int)+V9.size+Vt.size+VB.size:=by omega
 have qb4:¬(9223372036854775807:Int)<((VE.size+V9.size+Vt.size+VB.size:Nat):Int):=by omega
 have qc4:(VE.size:Int)+V9.size+Vt.size+VB.size<=9223372036854775807:=by omega
 generalize x.bo.length=lb at *
 generalize x.el.length=le at *
 generalize hm:p.sm.length=m at *
 rw[h2]at d6 hwx Ox
 have k61:(x.k==61)=false:=Qf.2 h61
 have k62:(x.k==62)=false:=Qf.2 h62
 have k64:(x.k==64)=false:=Qf.2 h64
 generalize x.k=kk at *
 have x0:=Ox.c 0 _ rfl
 have x3:=Ox.c 3 _ rfl
 replace Ox:=Z_ Ox
 replace bx:=Z_ bx
 replace hwx:=Z_ hwx
 clear hm
 clear H hE hx hc hS1 hyy hI1 hI2 hVE zE hxe hS hon hl ih hV9 hVt zV9 zVt hl2 hbo hel hI1' hI2' hfr hth hth1 heh hbh hVB zB hlb
 go_enter func107,ntmps107
 go_wp2_with fail
 rw[hwx.out]
 clear d0 d1 d2 d3 d4 d5 d6 c5
 obtain⟨gx,hgx⟩:∃gx,w.heap.size=gx:=⟨_,rfl⟩
 rw[hgx]at x0 x3 Ox
 simp only[hgx]
 refine(hC.out _ bx.out).mono ?_
 rintro en w2 ⟨rfl,b2⟩
 have B2:Below wx.heap.size wx w2:=b2
 have x0:=(Ox.out.step B2).c 0 _ rfl
 clear b2
 have bw:Below w.heap.size w w2:=bx.out.trans (B2.mono bx.out.size)
 have x4:=(Ox.out.step B2).c 4 _ rfl
 have x5:=(Ox.out.step B2).c 5 _ rfl
 have x6:=(Ox.out.step B2).c 6 _ rfl
 go_wp2_with fail
 refine(hLe.out _).mono ?_
 rintro en w3 ⟨rfl,hw3⟩
 have hw4:=hw3.symm
 clear hw3
 subst hw4
 go_wp2_with fail
 refine(hAl.out _ bw).mono ?_
 rintro en w5 ⟨rfl,bb⟩
 have bw5:Below w2.heap.size w2 w5:=bb
 clear bb
 have o0w5:=((Ox.out.step B2).step bw5).c 0 _ rfl
 have o5w5:=((Ox.out.step B2).step bw5).c 5 _ rfl
 have o6w5:=((Ox.out.step B2).step bw5).c 6 _ rfl
 clear x4 x5 x6
 go_wp2_with fail
 refine(hLb.out _).mono ?_
 rintro en w6 ⟨rfl,hw6⟩
 have hw7:=hw6.symm
 clear hw6
 subst hw7
 go_wp2_with fail
 refine(hB9.out _).mono ?_
 rintro en w10 ⟨rfl,bb⟩
 have bw10:Below w2.heap.size w2 w10:=bw5.trans (bb.mono bw5.size)
 clear bb
 go_wp2_with fail
 refine(hBt.out _).mono ?_
 rintro en w11 ⟨rfl,bb⟩
 have bw11:Below w2.heap.size w2 w11:=bw10.trans (bb.mono bw10.size)
 clear bb
 go_wp2
 go_ret
 exact⟨rfl,bw.trans (bw11.mono bw.size)⟩
theorem ZrM(rb sb B:Nat)(s tb:ZB)(tp:Value)(p:Rs)(S:Nat->Value)(sv:List (Value×Value))(hE:Z7 p.ex)(hS:ZaQ p.ex p.sm)(n pl:Nat)(ih:Kp (OGo rb sb B s tb tp p S sv n))(w:World)(H:Zx w rb sb B s p tb tp S sv)(x:Sm)(hx:p.sm[n]?=some x)(hlb:x.bo.length<=20000)(hle:x.el.length<=20000)(hl:pl+(one p.ex p.sm n pl).length<=20000)(h61:¬x.k=61)(h62:¬x.k=62)(h64:¬x.k=64)(h2:x.two=true) :
  Calls prog 107 #[.pointer (some ⟨sb,0,none⟩),.int .i64 n,.int .i64 pl] w λen w'=>en=.returned (.string (bs (one p.ex p.sm n pl)))∧Below w.heap.size w w':=by
 have hon:=Zfo (pl:=pl) hE hS hx
 rw[if_neg h61,if_neg h62,if_neg h64,if_neg (by rw[h2];simp)]at hon
 rw[hon]at hl ⊢
 obtain⟨g,c,yy,hS1,hg,hyy,hI1,hI2,hc⟩:=H.stat hx
 have hn:n<p.sm.length:=(Ql.1 hx).1
 have c5:w.cell? ⟨sb,5,none⟩=some (.slice (some ⟨g,0,none⟩) p.sm.length c):=by rw[<-hS1];exact H.c 1 (by omega)
 obtain⟨y1,y2⟩:=yy
 obtain⟨p1,q1,ey1⟩:=Zb hI1.1
 obtain⟨p2,q2,ey2⟩:=Zb hI2.1
 have ey1:y1=.slice p1 x.bo.length q1:=ey1
 have ey2:y2=.slice p2 x.el.length q2:=ey2
 subst ey1
 subst ey2
 have d0:w.cell? ⟨g,n*7,none⟩=some (.int .u8 x.k):=hc 0 _ rfl
 have d1:=hc 1 _ rfl
 have d2:=hc 2 _ rfl
 have d3:=hc 3 _ rfl
 have d4:=hc 4 _ rfl
 have d5:=hc 5 _ rfl
 have d6:=hc 6 _ rfl
 dsimp only at d0 d1 d2 d3 d4 d5 d6
 have hxe:=(hS n x hx).1
 have hlt:=H.lt
 obtain⟨VE,hVE⟩:∃V,bs (cod p.ex x.e)=V:=⟨_,rfl⟩
 have zE:VE.size=(cod p.ex x.e).length:=by rw[<-hVE,Zc]
 obtain⟨wx,hwx⟩:∃wx,w.alloc (.cells #[.int .u8 x.k,.int .i64 x.a,.int .i64 x.v,.int .i64 x.e,.slice p1 x.bo.length q1,.slice p2 x.el.length q2,.bool x.two] 123)=wx:=⟨_,rfl⟩
 have Ox:=own7 w (.int .u8 x.k) (.int .i64 x.a) (.int .i64 x.v) (.int .i64 x.e) (.slice p1 x.bo.length q1) (.slice p2 x.el.length q2) (.bool x.two) 123
 rw[hwx]at Ox
 have bx:Below w.heap.size w wx:=by rw[<-hwx];exact(Qh _ _).alloc (Qb _) _
 have hnm:(n:Int)<(p.sm.length:Int):=by omega
 have hl2:pl+(cod p.ex x.e).length+2+(als p.ex p.sm x.bo (pl+(cod p.ex x.e).length/2+1)).length<=20000:=by
  simp only[Qe,Qt,Qy]at hl
  omega
 have hC:Kp (∀W,Below w.heap.size w W->Calls prog 172 #[.pointer (some ⟨sb,0,none⟩),.int .i64 (x.e:Nat)] W λen w'=>en=.returned (.string VE)∧Below W.heap.size W w'):=⟨λW hW=>by
  rw[<-hVE]
  exact ZcY rb sb B s tb tp p S sv hE (x.e+1) x.e W (by omega) (H.step hW) hxe (by omega)⟩
 have hI1':=hI1
 have hI2':=hI2
 have hbo:=(hS n x hx).2.1
 have hel:=(hS n x hx).2.2
 obtain⟨fr,hfr⟩:∃fr:Nat,pl+(cod p.ex x.e).length/2+1=fr:=⟨_,rfl⟩
 rw[hfr]at hl hl2 ⊢
 obtain⟨VB,hVB⟩:∃V,bs (als p.ex p.sm x.bo fr)=V:=⟨_,rfl⟩
 have zB:VB.size=(als p.ex p.sm x.bo fr).length:=by rw[<-hVB,Zc]
 have hAl:Kp (∀W,Below w.heap.size w W->Calls prog 49 #[.pointer (some ⟨sb,0,none⟩),.slice p1 x.bo.length q1,.int .i64 (fr:Nat)] W λen w'=>en=.returned (.string VB)∧Below W.heap.size W w'):=⟨λW hW=>by
  rw[<-hVB]
  exact ZdK rb sb B s tb tp p S sv n ih x.bo _ fr W (H.step hW) (hI1'.step hW) (λm hm=>⟨hbo m hm,by have:=hbo m hm;omega⟩) (by omega) hlb⟩
 obtain⟨th,hth⟩:∃th:Nat,fr+(als p.ex p.sm x.bo fr).length/2=th:=⟨_,rfl⟩
 rw[hth]at hl ⊢
 obtain⟨th1,hth1⟩:∃th1:Nat,th+1=th1:=⟨_,rfl⟩
 obtain⟨eh,heh⟩:∃eh:Nat,VE.size/2=eh:=⟨_,rfl⟩
 obtain⟨bh,hbh⟩:∃bh:Nat,VB.size/2=bh:=⟨_,rfl⟩
 have hLe:=λW=>Zbi VE W (by omega)
 rw[heh]at hLe
 replace hLe:=Z_ hLe
 have hLb:=λW=>Zbi VB W (by omega)
 rw[hbh]at hLb
 replace hLb:=Z_ hLb
 have s1:(pl:Int)+(eh:Int)+1=(fr:Int):=by rw[<-heh,<-hfr,zE];omega
 have s2:(fr:Int)+(bh:Int)=(th:Int):=by rw[<-hbh,<-hth,zB];omega
 have s3:(th:Int)+1=(th1:Int):=by omega
 have t0:(pl:Int)<=20000:=by omega
 have t1:(eh:Int)<=20000:=by omega
 have t2:(bh:Int)<=20000:=by omega
 have t3:(fr:Int)<=40000:=by omega
 have t4:(th:Int)<=60000:=by omega
 have t5:(th1:Int)<=60001:=by omega
 have s0:(pl:Int)+(eh:Int)<=40000:=by omega
 have hl3:th1+(als p.ex p.sm x.el th1).length<=20000:=by
  rw[<-hth1]
  simp only[Qe,Qt,Qy]at hl
  omega
 rw[hth1]at hl ⊢
 obtain⟨VO,hVO⟩:∃V,bs (als p.ex p.sm x.el th1)=V:=⟨_,rfl⟩
 have zO:VO.size=(als p.ex p.sm x.el th1).length:=by rw[<-hVO,Zc]
 have hAo:Kp (∀W,Below w.heap.size w W->Calls prog 49 #[.pointer (some ⟨sb,0,none⟩),.slice p2 x.el.length q2,.int .i64 (th1:Nat)] W λen w'=>en=.returned (.string VO)∧Below W.heap.size W w'):=⟨λW hW=>by
  rw[<-hVO]
  exact ZdK rb sb B s tb tp p S sv n ih x.el _ th1 W (H.step hW) (hI2'.step hW) (λm hm=>⟨hel m hm,by have:=hel m hm;omega⟩) (by omega) hle⟩
 obtain⟨oh,hoh⟩:∃oh:Nat,VO.size/2=oh:=⟨_,rfl⟩
 have hLo:=λW=>Zbi VO W (by omega)
 rw[hoh]at hLo
 replace hLo:=Z_ hLo
 obtain⟨en2,hen2⟩:∃en2:Nat,th1+(als p.ex p.sm x.el th1).length/2=en2:=⟨_,rfl⟩
 rw[hen2]at hl ⊢
 have s4:(th1:Int)+(oh:Int)=(en2:Int):=by rw[<-hoh,<-hen2,zO];omega
 have t6:(oh:Int)<=20000:=by omega
 have t7:(en2:Int)<=90000:=by omega
 obtain⟨V9,hV9⟩:∃V,bs [(9:Int)%256]=V:=⟨_,rfl⟩
 have zV9:V9.size=1:=by rw[<-hV9,Zc];rfl
 have hB9:=λW=>Zj (9) W
 rw[hV9]at hB9
 replace hB9:=Z_ hB9
 obtain⟨Vt,hVt⟩:∃V,bs [((th1:Nat):Int)%256]=V:=⟨_,rfl⟩
 have zVt:Vt.size=1:=by rw[<-hVt,Zc];rfl
 have hBt:=λW=>Zj ((th1:Nat)) W
 rw[hVt]at hBt
 replace hBt:=Z_ hBt
 obtain⟨V8,hV8⟩:∃V,bs [(8:Int)%256]=V:=⟨_,rfl⟩
 have zV8:V8.size=1:=by rw[<-hV8,Zc];rfl
 have hB8:=λW=>Zj (8) W
 rw[hV8]at hB8
 replace hB8:=Z_ hB8
 obtain⟨Vp,hVp⟩:∃V,bs [((en2:Nat):Int)%256]=V:=⟨_,rfl⟩
 have zVp:Vp.size=1:=by rw[<-hVp,Zc];rfl
 have hBp:=λW=>Zj ((en2:Nat)) W
 rw[hVp]at hBp
 replace hBp:=Z_ hBp
 have hfin:bs (cod p.ex x.e++[9,(th1:Int)%256]++als p.ex p.sm x.bo fr++[8,(en2:Int)%256]++als p.ex p.sm x.el th1)=VE++V9++Vt++VB++V8++Vp++VO:=by
  rw[Zg,Zg,Zg,Zg,hVE,hVB,hVO,show ([9,(th1:Int)%256]:List Int)=[9%256]++[(th1:Int)%256] from rfl,show ([8,(en2:Int)%256]:List Int)=[8%256]++[(en2:Int)%256] from rfl,Zg,Zg,hV9,hVt,hV8,hVp]
  simp only[QR]
 rw[hfin]
 clear hfin
 have qa2:¬(9223372036854775807:Int)<(VE.size:Int)+V9.size:=by omega
 have qb2:¬(9223372036854775807:Int)<((VE.size+V9.size:Nat):Int):=by omega
 have qc2:(VE.size:Int)+V9.size<=9223372036854775807:=by omega
 have qa3:¬(9223372036854775807:Int)<(VE.size:Int)+V9.size+Vt.size:=by omega
 have qb3:¬(9223372036854775807:Int)<((VE.size+V9.size+Vt.size:Nat):Int):=by omega
 have qc3:(VE.size:Int)+V9.size+Vt.size<=9223372036854775807:=by omega
 have qa4:¬(9223372036854775807:Int)<(VE.size:Int)+V9.size+Vt.size+VB.size:=by omega
 have qb4:¬(9223372036854775807:Int)<((VE.size+V9.size+Vt.size+VB.size:Nat):Int):=by omega
 have qc4:(VE.size:Int)+V9.size+Vt.size+VB.size<=9223372036854775807:=by omega
 have qa5:¬(9223372036854775807:Int)<(VE.size:Int)+V9.size+Vt.size+VB.size+V8.size:=by omega
 have qb5:¬(9223372036854775807:Int)<((VE.size+V9.size+Vt.size+VB.size+V8.size:Nat):Int):=by omega
 have qc5:(VE.size:Int)+V9.size+Vt.size+VB.size+V8.size<=9223372036854775807:=by omega
 have qa6:¬(9223372036854775807:Int)<(VE.size:Int)+V9.size+Vt.size+VB.size+V8.size+Vp.size:=by omega
 have qb6:¬(9223372036854775807:Int)<((VE.size+V9.size+Vt.size+VB.size+V8.size+Vp.size:Nat):Int):=by omega
 have qc6:(VE.size:Int)+V9.size+Vt.size+VB.size+V8.size+Vp.size<=9223372036854775807:=by omega
 have qa7:¬(9223372036854775807:Int)<(VE.size:Int)+V9.size+Vt.size+VB.size+V8.size+Vp.size+VO.size:=by omega
 have qb7:¬(9223372036854775807:Int)<((VE.size+V9.size+Vt.size+VB.size+V8.size+Vp.size+VO.size:Nat):Int):=by omega
 have qc7:(VE.size:Int)+V9.size+Vt.size+VB.size+V8.size+Vp.size+VO.size<=9223372036854775807:=by omega
 generalize x.bo.length=lb at *
 generalize x.el.length=le at *
 generalize hm:p.sm.length=m at *
 rw[h2]at d6 hwx Ox
 have k61:(x.k==61)=false:=Qf.2 h61
 have k62:(x.k==62)=false:=Qf.2 h62
 have k64:(x.k==64)=false:=Qf.2 h64
 generalize x.k=kk at *
 have x0:=Ox.c 0 _ rfl
 have x3:=Ox.c 3 _ rfl
 replace Ox:=Z_ Ox
 replace bx:=Z_ bx
 replace hwx:=Z_ hwx
 clear hm
 clear H hE hx hc hS1 hyy hI1 hI2 hVE zE hxe hS hon hl ih hV9 hVt hV8 hVp zV9 zVt zV8 zVp hVO zO hl3 hoh hen2 hl2 hbo hel hI1' hI2' hfr hth hth1 heh hbh hVB zB hlb hle
 go_enter func107,ntmps107
 go_wp2_with fail
 rw[hwx.out]
 clear d0 d1 d2 d3 d4 d5 d6 c5
 obtain⟨gx,hgx⟩:∃gx,w.heap.size=gx:=⟨_,rfl⟩
 rw[hgx]at x0 x3 Ox
 simp only[hgx]
 refine(hC.out _ bx.out).mono ?_
 rintro en w2 ⟨rfl,b2⟩
 have B2:Below wx.heap.size wx w2:=b2
 have x0:=(Ox.out.step B2).c 0 _ rfl
 clear b2
 have bw:Below w.heap.size w w2:=bx.out.trans (B2.mono bx.out.size)
 have x4:=(Ox.out.step B2).c 4 _ rfl
 have x5:=(Ox.out.step B2).c 5 _ rfl
 have x6:=(Ox.out.step B2).c 6 _ rfl
 go_wp2_with fail
 refine(hLe.out _).mono ?_
 rintro en w3 ⟨rfl,hw3⟩
 have hw4:=hw3.symm
 clear hw3
 subst hw4
 go_wp2_with fail
 refine(hAl.out _ bw).mono ?_
 rintro en w5 ⟨rfl,bb⟩
 have bw5:Below w2.heap.size w2 w5:=bb
 clear bb
 have o0w5:=((Ox.out.step B2).step bw5).c 0 _ rfl
 have o5w5:=((Ox.out.step B2).step bw5).c 5 _ rfl
 have o6w5:=((Ox.out.step B2).step bw5).c 6 _ rfl
 clear x4 x5 x6
 go_wp2_with fail
 refine(hLb.out _).mono ?_
 rintro en w6 ⟨rfl,hw6⟩
 have hw7:=hw6.symm
 clear hw6
 subst hw7
 have bz5:Below w.heap.size w w5:=bw.trans (bw5.mono bw.size)
 go_wp2_with fail
 refine(hAo.out _ bz5).mono ?_
 rintro en w8 ⟨rfl,bb⟩
 have bw8:Below w2.heap.size w2 w8:=bw5.trans (bb.mono bw5.size)
 clear bb
 clear o0w5 o5w5 o6w5
 go_wp2_with fail
 refine(hB9.out _).mono ?_
 rintro en w10 ⟨rfl,bb⟩
 have bw10:Below w2.heap.size w2 w10:=bw8.trans (bb.mono bw8.size)
 clear bb
 go_wp2_with fail
 refine(hBt.out _).mono ?_
 rintro en w11 ⟨rfl,bb⟩
 have bw11:Below w2.heap.size w2 w11:=bw10.trans (bb.mono bw10.size)
 clear bb
 go_wp2_with fail
 refine(hB8.out _).mono ?_
 rintro en w12 ⟨rfl,bb⟩
 have bw12:Below w2.heap.size w2 w12:=bw11.trans (bb.mono bw11.size)
 clear bb
 go_wp2_with fail
 refine(hLo.out _).mono ?_
 rintro en w13 ⟨rfl,hwxw13⟩
 have hwyw13:=hwxw13.symm
 clear hwxw13
 subst hwyw13
 go_wp2_with fail
 refine(hBp.out _).mono ?_
 rintro en w14 ⟨rfl,bb⟩
 have bw14:Below w2.heap.size w2 w14:=bw12.trans (bb.mono bw12.size)
 clear bb
 go_wp2
 go_ret
 exact⟨rfl,bw.trans (bw14.mono bw.size)⟩
theorem Zqu(hE:Z7 ex)(hS:ZaQ ex sm){n:Nat}(pl:Nat)(hn:n<sm.length):1<=(one ex sm n pl).length:=by
 rw[Zfo hE hS (Qn hn)]
 split
 ·simp only[Qe,Qt];omega
 ·split
  ·simp only[Qe,Qt];omega
  ·split
   ·simp only[Qe,Qt];omega
   ·split<;>simp only[Qe,Qt]<;>omega
theorem Zg3(hE:Z7 ex)(hS:ZaQ ex sm):∀(l:List Nat) (pl:Nat),(∀n∈l,n<sm.length)->l.length<=(als ex sm l pl).length
 | [],pl,h=>Q8 _
 | n::l,pl,h=>by
  have h1:=Zqu hE hS pl (h n (by simp))
  have h2:=Zg3 hE hS l (pl+(one ex sm n pl).length/2) (λm hm=>h m (by simp[hm]))
  unfold als at h2 ⊢
  simp only[ZbL,Qe,Qt]
  omega
theorem Zkd(rb sb B:Nat)(s tb:ZB)(tp:Value)(p:Rs)(S:Nat->Value)(sv:List (Value×Value))(hE:Z7 p.ex)(hS:ZaQ p.ex p.sm):∀k,OGo rb sb B s tb tp p S sv k
 | 0=>λn pl w hk=>by omega
 | k+1=>λn pl w hk H hn hl=>by
  have ih:=Zkd rb sb B s tb tp p S sv hE hS k
  have ih2:Kp (OGo rb sb B s tb tp p S sv n):=⟨λm pl w hm=>ih m pl w (by omega)⟩
  have hx:p.sm[n]?=some p.sm[n]:=Qn hn
  obtain⟨he,hbo,hel⟩:=hS n _ hx
  have hon:=Zfo (pl:=pl) hE hS hx
  by_cases h61:p.sm[n].k=61
  ·exact ZrI rb sb B s tb tp p S sv hE hS n pl ih2 w H _ hx hl h61
  ·by_cases h62:p.sm[n].k=62
   ·exact ZrJ rb sb B s tb tp p S sv hE hS n pl ih2 w H _ hx hl h62
   ·rw[if_neg h61,if_neg h62]at hon
    have hb1:=Zg3 hE hS p.sm[n].bo (pl+(cod p.ex p.sm[n].e).length/2+1) (λm hm=>by have:=hbo m hm;omega)
    by_cases h64:p.sm[n].k=64
    ·rw[if_pos h64]at hon
     have hlen:=congrArg List.length hon
     simp only[Qe,Qt,Qy]at hlen
     exact ZrK rb sb B s tb tp p S sv hE hS n pl ih2 w H _ hx (by omega) hl h64
    ·rw[if_neg h64]at hon
     cases h2:p.sm[n].two with
     | false=>
      rw[if_pos h2]at hon
      have hlen:=congrArg List.length hon
      simp only[Qe,Qt,Qy]at hlen
      exact ZrL rb sb B s tb tp p S sv hE hS n pl ih2 w H _ hx (by omega) hl h61 h62 h64 h2
     | true=>
      rw[if_neg (by rw[h2];simp)]at hon
      have hlen:=congrArg List.length hon
      simp only[Qe,Qt,Qy]at hlen
      have hb2:=Zg3 hE hS p.sm[n].el (pl+(cod p.ex p.sm[n].e).length/2+1+(als p.ex p.sm p.sm[n].bo (pl+(cod p.ex p.sm[n].e).length/2+1)).length/2+1) (λm hm=>by have:=hel m hm;omega)
      exact ZrM rb sb B s tb tp p S sv hE hS n pl ih2 w H _ hx (by omega) (by omega) hl h61 h62 h64 h2
end Go.Proofs.YtcnbifdlkalimabGreat
