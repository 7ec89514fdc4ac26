import Derived.Test.YtcnbifdlkalimabGreatRdrM
import Derived.Test.YtcnbifdlkalimabGreatRdrC
/- Lemmas for the statement Means; their conditions stand in each. -/
namespace Go.Proofs.YtcnbifdlkalimabGreat
open Go.RowKit Go.Proofs.Tryz
set_option linter.unusedVariables false
set_option maxRecDepth 100000
variable{B:Nat}{S:Nat->Value}{w:World}
theorem Zg4{α:Type}(f:α->List Value)(z:Nat)(hf:∀x,(f x).length=z):∀(l:List α) (e i:Nat) (x:α),l[e]?=some x->i<z->(l.flatMap f)[e*z+i]?=(f x)[i]?
 | [],e,i,x,h,hi=>by simp at h
 | y::l,0,i,x,h,hi=>by
  have e1:y=x:=by simpa using h
  subst e1
  rw[Uu,QD (by rw[hf];omega)]
  simp
 | y::l,e+1,i,x,h,hi=>by
  have h1:l[e]?=some x:=by simpa using h
  have h2:=Zg4 f z hf l e i x h1 hi
  have e1:(e+1)*z=e*z+z:=by rw[Nat.add_mul,Nat.one_mul]
  rw[Uu,QF (by rw[hf,e1];omega),hf,e1,show e*z+z+i-z=e*z+i from by omega]
  exact h2
theorem Zx.node{rb sb:Nat}{s:ZB}{p:Rs}{tb:ZB}{tp:Value}{sv:List (Value×Value)}(H:Zx w rb sb B s p tb tp S sv){e:Nat}{x:Ex}(hx:p.ex[e]?=some x) :
  ∃g c,S 0=.slice (some ⟨g,0,none⟩) p.ex.length c∧g<w.heap.size∧∀i v,(exV x)[i]?=some v->w.cell? ⟨g,e*4+i,none⟩=some v:=by
 have ho:w.ownsRow B 121 4 (S 0) p.ex.length (p.ex.flatMap exV):=H.o 0 (by omega)
 have he:e<p.ex.length:=(Ql.1 hx).1
 obtain⟨g,c,hS⟩:∃g c,S 0=.slice (some ⟨g,0,none⟩) p.ex.length c:=by
  rcases ho.2 with h|⟨g,cap,cur,h,_⟩
  ·omega
  ·exact⟨g,cap,h⟩
 rw[hS]at ho
 refine⟨g,c,hS,(ho.lt g rfl).2,λi v hv=>?_⟩
 have hi:i<4:=by have:=(List.getElem?_eq_some_iff.1 hv).1;simpa [exV] using this
 rw[ho.cellAt (e*4+i) (by omega),Zg4 exV 4 (λ_=>rfl) p.ex e i x hx hi]
 exact hv
theorem Zx.stat{rb sb:Nat}{s:ZB}{p:Rs}{tb:ZB}{tp:Value}{sv:List (Value×Value)}(H:Zx w rb sb B s p tb tp S sv){n:Nat}{x:Sm}(hx:p.sm[n]?=some x) :
  ∃g c y,S 1=.slice (some ⟨g,0,none⟩) p.sm.length c∧g<w.heap.size∧sv[n]?=some y∧ZaB w B S y.1 x.bo∧ZaB w B S y.2 x.el∧∀i v,(smV (x,y))[i]?=some v->w.cell? ⟨g,n*7+i,none⟩=some v:=by
 have ho:w.ownsRow B 123 7 (S 1) p.sm.length ((List.zip p.sm sv).flatMap smV):=H.o 1 (by omega)
 have he:n<p.sm.length:=(Ql.1 hx).1
 obtain⟨g,c,hS⟩:∃g c,S 1=.slice (some ⟨g,0,none⟩) p.sm.length c:=by
  rcases ho.2 with h|⟨g,cap,cur,h,_⟩
  ·omega
  ·exact⟨g,cap,h⟩
 rw[hS]at ho
 have hn:n<sv.length:=by rw[H.k];exact he
 have hy:sv[n]?=some sv[n]:=Qn hn
 have hz:(List.zip p.sm sv)[n]?=some (x,sv[n]):=by
  rw[List.getElem?_zip_eq_some]
  exact⟨hx,hy⟩
 obtain⟨h1,h2⟩:=H.i n x _ hx hy
 refine⟨g,c,sv[n],hS,(ho.lt g rfl).2,hy,h1,h2,λi v hv=>?_⟩
 have hi:i<7:=by have:=(List.getElem?_eq_some_iff.1 hv).1;simpa [smV] using this
 rw[ho.cellAt (n*7+i) (by omega),Zg4 smV 7 (λ_=>rfl) _ n i _ hz hi]
 exact hv
theorem ZaB.at{v:Value}{l:List Nat}(h:ZaB w B S v l){i x:Nat}(hx:l[i]?=some x):∃g c,v=.slice (some ⟨g,0,none⟩) l.length c∧g<w.heap.size∧w.cell? ⟨g,i,none⟩=some (.int .i64 x):=by
 have hi:i<l.length:=(Ql.1 hx).1
 have ho:=h.1
 obtain⟨g,c,hS⟩:∃g c,v=.slice (some ⟨g,0,none⟩) l.length c:=by
  rcases ho.2 with h|⟨g,cap,cur,h,_⟩
  ·omega
  ·exact⟨g,cap,h⟩
 rw[hS]at ho
 refine⟨g,c,hS,(ho.lt g rfl).2,?_⟩
 rw[ho.cellAt i (by omega)]
 unfold itV
 rw[Ui,hx]
 rfl
theorem Zpo{ex:List Ex}(hE:Z7 ex){e:Nat}{x:Ex}(hx:ex[e]?=some x):(x.op=0∨x.op=1∨x.op=10->cod ex e=[x.op%256,x.v%256])∧(¬(x.op=0∨x.op=1∨x.op=10)->x.l<e∧x.r<e∧cod ex e=cod ex x.l++cod ex x.r++[x.op%256,0]):=by
 have he:e<ex.length:=(Ql.1 hx).1
 have h1:cod ex e=if x.op=0∨x.op=1∨x.op=10 then [x.op%256,x.v%256] else Zhx ex e x.l++Zhx ex e x.r++[x.op%256,0]:=by
  unfold cod
  simp only[Zhx,hx]
 constructor
 ·intro h
  rw[h1,if_pos h]
 ·intro h
  obtain⟨hl,hr⟩:=(hE e x hx).resolve_left h
  refine⟨hl,hr,?_⟩
  rw[h1,if_neg h,ZeR hE (by omega) hl,ZeR hE (by omega) hr]
theorem own4x(w:World)(v0 v1 v2 v3:Value)(t:TypeId):Own (w.alloc (.cells #[v0,v1,v2,v3] t)) w.heap.size [v0,v1,v2,v3]:=by
 refine⟨by simp,?_,?_⟩
 ·intro i v hv
  have hi:i<4:=by have:=(List.getElem?_eq_some_iff.1 hv).1;simpa using this
  have e:(w.alloc (.cells #[v0,v1,v2,v3] t)).cell? ⟨w.heap.size,i,none⟩=([v0,v1,v2,v3]:List Value)[i]?:=by
   match i,hi with
   | 0,_=>simp[go_sem]
   | 1,_=>simp[go_sem]
   | 2,_=>simp[go_sem]
   | 3,_=>simp[go_sem]
  rw[e]
  exact hv
 ·intro i v hv
  have hi:i<4:=by have:=(List.getElem?_eq_some_iff.1 hv).1;simpa using this
  match i,hi with
  | 0,_=>simp[go_sem]
  | 1,_=>simp[go_sem]
  | 2,_=>simp[go_sem]
  | 3,_=>simp[go_sem]
def CGo(rb sb B:Nat)(s tb:ZB)(tp:Value)(p:Rs)(S:Nat->Value)(sv:List (Value×Value))(k:Nat):Prop:=∀(e:Nat) (w:World),e<k->Zx w rb sb B s p tb tp S sv->e<p.ex.length->(cod p.ex e).length<=20000->
 Calls prog 172 #[.pointer (some ⟨sb,0,none⟩),.int .i64 e] w λen w'=>en=.returned (.string (bs (cod p.ex e)))∧Below w.heap.size w w'
set_option maxHeartbeats 6400000
theorem Zm0(rb sb B:Nat)(s tb:ZB)(tp:Value)(p:Rs)(S:Nat->Value)(sv:List (Value×Value))(hE:Z7 p.ex)(e:Nat)(w:World)(H:Zx w rb sb B s p tb tp S sv)(x:Ex)(hx:p.ex[e]?=some x)(hp:x.op=0∨x.op=1∨x.op=10) :
  Calls prog 172 #[.pointer (some ⟨sb,0,none⟩),.int .i64 e] w λen w'=>en=.returned (.string (bs (cod p.ex e)))∧Below w.heap.size w w':=by
 rw[(Zpo hE hx).1 hp]
 obtain⟨g,c,hS,hg,hc⟩:=H.node hx
 have he:e<p.ex.length:=(Ql.1 hx).1
 have c4:w.cell? ⟨sb,4,none⟩=some (.slice (some ⟨g,0,none⟩) p.ex.length c):=by rw[<-hS];exact H.c 0 (by omega)
 have d0:w.cell? ⟨g,e*4,none⟩=some (.int .i64 x.op):=hc 0 _ rfl
 have d1:=hc 1 _ rfl
 have d2:=hc 2 _ rfl
 have d3:=hc 3 _ rfl
 have hB1:=λW=>Zj x.op W
 have hB2:=λW=>Zj x.v W
 obtain⟨V1,hV1⟩:∃V,bs [x.op%256]=V:=⟨_,rfl⟩
 obtain⟨V2,hV2⟩:∃V,bs [x.v%256]=V:=⟨_,rfl⟩
 have z1:V1.size=1:=by rw[<-hV1,Zc];rfl
 have z2:V2.size=1:=by rw[<-hV2,Zc];rfl
 have hcat:bs [x.op%256,x.v%256]=V1++V2:=by rw[<-hV1,<-hV2,<-Zg];rfl
 rw[hcat]
 rw[hV1]at hB1
 rw[hV2]at hB2
 obtain⟨op,hop⟩:∃op,x.op=op:=⟨_,rfl⟩
 rw[hop]at d0 hp hB1
 generalize x.v=v at *
 generalize x.l=l at *
 generalize x.r=r at *
 generalize hnn:p.ex.length=m at *
 have hei:(e:Int)<(m:Int):=by omega
 have hlt:=H.lt
 have q1:¬(9223372036854775807:Int)<(V1.size:Int)+V2.size:=by omega
 have q2:¬(9223372036854775807:Int)<((V1.size+V2.size:Nat):Int):=by omega
 have q3:(V1.size:Int)+V2.size<=9223372036854775807:=by omega
 obtain⟨wx,hwx⟩:∃wx,w.alloc (.cells #[.int .i64 op,.int .i64 v,.int .i64 (l:Nat),.int .i64 (r:Nat)] 121)=wx:=⟨_,rfl⟩
 have Ox:=own4x w (.int .i64 op) (.int .i64 v) (.int .i64 (l:Nat)) (.int .i64 (r:Nat)) 121
 rw[hwx]at Ox
 have bx:Below w.heap.size w wx:=by rw[<-hwx];exact(Qh _ _).alloc (Qb _) _
 have x0:=Ox.c 0 _ rfl
 have x1:=Ox.c 1 _ rfl
 replace Ox:=Z_ Ox
 replace bx:=Z_ bx
 replace hwx:=Z_ hwx
 replace hB1:=Z_ hB1
 replace hB2:=Z_ hB2
 clear H hE hx hc hS hV1 hV2 hcat hop hnn z1 z2
 have hcs:op=0∨op=1∨op=10:=hp
 clear hp
 rcases hcs with rfl|rfl|rfl
 ·go_enter func172,ntmps172
  go_wp2_with fail
  rw[hwx.out]
  clear d0 d1 d2 d3 c4
  obtain⟨gx,hgx⟩:∃gx,w.heap.size=gx:=⟨_,rfl⟩
  rw[hgx]at x0 x1 Ox
  simp only[hgx]
  go_region_held (λw'=>w'.cell? ⟨gx,0,none⟩=some (.int .i64 0)∧w'.cell? ⟨gx,1,none⟩=some (.int .i64 v)) (go_keep) ((go_at_call 51;(first|refine(hB1.out _).mono ?_|refine(hB2.out _).mono ?_);rintro en w5 ⟨rfl,bb⟩;have bn:Below wx.heap.size wx w5:=(by first|exact((Qh _ _).drew).trans bb|exact Q9 (by assumption) (bb.mono (Below.size (w:=wx) (by assumption))));have o0:=(Ox.out.step bn).c 0 _ rfl;have o1:=(Ox.out.step bn).c 1 _ rfl;clear bb))
  all_goals
   have b9:Below wx.heap.size wx w5:=by assumption
   go_wp2
   go_ret
   exact⟨rfl,bx.out.trans (b9.mono bx.out.size)⟩
 ·go_enter func172,ntmps172
  go_wp2_with fail
  rw[hwx.out]
  clear d0 d1 d2 d3 c4
  obtain⟨gx,hgx⟩:∃gx,w.heap.size=gx:=⟨_,rfl⟩
  rw[hgx]at x0 x1 Ox
  simp only[hgx]
  go_region_held (λw'=>w'.cell? ⟨gx,0,none⟩=some (.int .i64 1)∧w'.cell? ⟨gx,1,none⟩=some (.int .i64 v)) (go_keep) ((go_at_call 51;(first|refine(hB1.out _).mono ?_|refine(hB2.out _).mono ?_);rintro en w5 ⟨rfl,bb⟩;have bn:Below wx.heap.size wx w5:=(by first|exact((Qh _ _).drew).trans bb|exact Q9 (by assumption) (bb.mono (Below.size (w:=wx) (by assumption))));have o0:=(Ox.out.step bn).c 0 _ rfl;have o1:=(Ox.out.step bn).c 1 _ rfl;clear bb))
  all_goals
   have b9:Below wx.heap.size wx w5:=by assumption
   go_wp2
   go_ret
   exact⟨rfl,bx.out.trans (b9.mono bx.out.size)⟩
 ·go_enter func172,ntmps172
  go_wp2_with fail
  rw[hwx.out]
  clear d0 d1 d2 d3 c4
  obtain⟨gx,hgx⟩:∃gx,w.heap.size=gx:=⟨_,rfl⟩
  rw[hgx]at x0 x1 Ox
  simp only[hgx]
  go_region_held (λw'=>w'.cell? ⟨gx,0,none⟩=some (.int .i64 10)∧w'.cell? ⟨gx,1,none⟩=some (.int .i64 v)) (go_keep) ((go_at_call 51;(first|refine(hB1.out _).mono ?_|refine(hB2.out _).mono ?_);rintro en w5 ⟨rfl,bb⟩;have bn:Below wx.heap.size wx w5:=(by first|exact((Qh _ _).drew).trans bb|exact Q9 (by assumption) (bb.mono (Below.size (w:=wx) (by assumption))));have o0:=(Ox.out.step bn).c 0 _ rfl;have o1:=(Ox.out.step bn).c 1 _ rfl;clear bb))
  all_goals
   have b9:Below wx.heap.size wx w5:=by assumption
   go_wp2
   go_ret
   exact⟨rfl,bx.out.trans (b9.mono bx.out.size)⟩
theorem Zm1(rb sb B:Nat)(s tb:ZB)(tp:Value)(p:Rs)(S:Nat->Value)(sv:List (Value×Value))(hE:Z7 p.ex)(e:Nat)(ih:Kp (CGo rb sb B s tb tp p S sv e))(w:World)(H:Zx w rb sb B s p tb tp S sv)(x:Ex)(hx:p.ex[e]?=some x)(hp:¬(x.op=0∨x.op=1∨x.op=10))(hl:(cod p.ex e).length<=20000) :
  Calls prog 172 #[.pointer (some ⟨sb,0,none⟩),.int .i64 e] w λen w'=>en=.returned (.string (bs (cod p.ex e)))∧Below w.heap.size w w':=by
 obtain⟨hxl,hxr,hco⟩:=(Zpo hE hx).2 hp
 rw[hco]at hl ⊢
 obtain⟨g,c,hS,hg,hc⟩:=H.node hx
 have he:e<p.ex.length:=(Ql.1 hx).1
 have c4:w.cell? ⟨sb,4,none⟩=some (.slice (some ⟨g,0,none⟩) p.ex.length c):=by rw[<-hS];exact H.c 0 (by omega)
 have d0:w.cell? ⟨g,e*4,none⟩=some (.int .i64 x.op):=hc 0 _ rfl
 have d1:=hc 1 _ rfl
 have d2:=hc 2 _ rfl
 have d3:=hc 3 _ rfl
 have hB1:=λW=>Zj x.op W
 have hB2:=λW=>Zj 0 W
 rw[Qe,Qe]at hl
 obtain⟨VL,hVL⟩:∃V,bs (cod p.ex x.l)=V:=⟨_,rfl⟩
 obtain⟨VR,hVR⟩:∃V,bs (cod p.ex x.r)=V:=⟨_,rfl⟩
 obtain⟨V1,hV1⟩:∃V,bs [x.op%256]=V:=⟨_,rfl⟩
 obtain⟨V2,hV2⟩:∃V,bs [(0:Int)%256]=V:=⟨_,rfl⟩
 have z1:V1.size=1:=by rw[<-hV1,Zc];rfl
 have z2:V2.size=1:=by rw[<-hV2,Zc];rfl
 have zL:VL.size<=20000:=by rw[<-hVL,Zc];omega
 have zR:VR.size<=20000:=by rw[<-hVR,Zc];omega
 have hcat:bs (cod p.ex x.l++cod p.ex x.r++[x.op%256,0])=VL++VR++V1++V2:=by
  rw[Zg,Zg,hVL,hVR,show ([x.op%256,0]:List Int)=[x.op%256]++[0%256] from rfl,Zg,hV1,hV2,<-QR]
 rw[hcat]
 rw[hV1]at hB1
 rw[hV2]at hB2
 have hlt:=H.lt
 obtain⟨wx,hwx⟩:∃wx,w.alloc (.cells #[.int .i64 x.op,.int .i64 x.v,.int .i64 (x.l:Nat),.int .i64 (x.r:Nat)] 121)=wx:=⟨_,rfl⟩
 have Ox:=own4x w (.int .i64 x.op) (.int .i64 x.v) (.int .i64 (x.l:Nat)) (.int .i64 (x.r:Nat)) 121
 rw[hwx]at Ox
 have bx:Below w.heap.size w wx:=by rw[<-hwx];exact(Qh _ _).alloc (Qb _) _
 have hC1:Kp (∀W,Below wx.heap.size wx W->Calls prog 172 #[.pointer (some ⟨sb,0,none⟩),.int .i64 (x.l:Nat)] W λen w'=>en=.returned (.string VL)∧Below W.heap.size W w'):=⟨λW hW=>by
  rw[<-hVL]
  exact ih.out x.l W hxl (H.step (bx.trans (hW.mono bx.size))) (by omega) (by omega)⟩
 have hC2:Kp (∀W,Below wx.heap.size wx W->Calls prog 172 #[.pointer (some ⟨sb,0,none⟩),.int .i64 (x.r:Nat)] W λen w'=>en=.returned (.string VR)∧Below W.heap.size W w'):=⟨λW hW=>by
  rw[<-hVR]
  exact ih.out x.r W hxr (H.step (bx.trans (hW.mono bx.size))) (by omega) (by omega)⟩
 have x0:=Ox.c 0 _ rfl
 have x2:=Ox.c 2 _ rfl
 have x3:=Ox.c 3 _ rfl
 have k0:(x.op==0)=false:=Qf.2 λh=>hp (.inl h)
 have k1:(x.op==1)=false:=Qf.2 λh=>hp (.inr (.inl h))
 have k2:(x.op==10)=false:=Qf.2 λh=>hp (.inr (.inr h))
 generalize x.op=op at *
 generalize x.v=v at *
 generalize x.l=l at *
 generalize x.r=r at *
 generalize hnn:p.ex.length=m at *
 have hei:(e:Int)<(m:Int):=by omega
 have q1:¬(9223372036854775807:Int)<(VL.size:Int)+VR.size:=by omega
 have q2:¬(9223372036854775807:Int)<((VL.size+VR.size:Nat):Int):=by omega
 have q3:(VL.size:Int)+VR.size<=9223372036854775807:=by omega
 have q4:¬(9223372036854775807:Int)<(VL.size:Int)+VR.size+V1.size:=by omega
 have q5:¬(9223372036854775807:Int)<((VL.size+VR.size+V1.size:Nat):Int):=by omega
 have q6:(VL.size:Int)+VR.size+V1.size<=9223372036854775807:=by omega
 have q7:¬(9223372036854775807:Int)<(VL.size:Int)+VR.size+V1.size+V2.size:=by omega
 have q8:¬(9223372036854775807:Int)<((VL.size+VR.size+V1.size+V2.size:Nat):Int):=by omega
 have q9:(VL.size:Int)+VR.size+V1.size+V2.size<=9223372036854775807:=by omega
 replace Ox:=Z_ Ox
 replace bx:=Z_ bx
 replace hwx:=Z_ hwx
 replace hB1:=Z_ hB1
 replace hB2:=Z_ hB2
 clear H hE hx hc hS hV1 hV2 hcat hnn z1 z2 zL zR hp hl hco hxl hxr hVL hVR ih
 go_enter func172,ntmps172
 go_wp2_with fail
 rw[hwx.out]
 clear d0 d1 d2 d3 c4
 obtain⟨gx,hgx⟩:∃gx,w.heap.size=gx:=⟨_,rfl⟩
 rw[hgx]at x0 x2 x3 Ox
 simp only[hgx]
 go_region_held (λw'=>w'.cell? ⟨gx,0,none⟩=some (.int .i64 op)∧w'.cell? ⟨gx,2,none⟩=some (.int .i64 (l:Nat))∧w'.cell? ⟨gx,3,none⟩=some (.int .i64 (r:Nat))) (go_keep) (first
  | (go_at_call_of 172 l;refine(hC1.out _ (by first|exact(Qh _ _).drew|assumption)).mono ?_;rintro en w5 ⟨rfl,bb⟩;have bn:Below wx.heap.size wx w5:=(by first|exact((Qh _ _).drew).trans bb|exact Q9 (by assumption) (bb.mono (Below.size (w:=wx) (by assumption))));have o0:=(Ox.out.step bn).c 0 _ rfl;have o2:=(Ox.out.step bn).c 2 _ rfl;have o3:=(Ox.out.step bn).c 3 _ rfl;clear bb)
  | (go_at_call_of 172 r;refine(hC2.out _ (by first|exact(Qh _ _).drew|assumption)).mono ?_;rintro en w5 ⟨rfl,bb⟩;have bn:Below wx.heap.size wx w5:=(by first|exact((Qh _ _).drew).trans bb|exact Q9 (by assumption) (bb.mono (Below.size (w:=wx) (by assumption))));have o0:=(Ox.out.step bn).c 0 _ rfl;have o2:=(Ox.out.step bn).c 2 _ rfl;have o3:=(Ox.out.step bn).c 3 _ rfl;clear bb)
  | (go_at_call_of 51 op;refine(hB1.out _).mono ?_;rintro en w5 ⟨rfl,bb⟩;have bn:Below wx.heap.size wx w5:=(by first|exact((Qh _ _).drew).trans bb|exact Q9 (by assumption) (bb.mono (Below.size (w:=wx) (by assumption))));have o0:=(Ox.out.step bn).c 0 _ rfl;have o2:=(Ox.out.step bn).c 2 _ rfl;have o3:=(Ox.out.step bn).c 3 _ rfl;clear bb)
  | (go_at_call 51;refine(hB2.out _).mono ?_;rintro en w5 ⟨rfl,bb⟩;have bn:Below wx.heap.size wx w5:=(by first|exact((Qh _ _).drew).trans bb|exact Q9 (by assumption) (bb.mono (Below.size (w:=wx) (by assumption))));have o0:=(Ox.out.step bn).c 0 _ rfl;have o2:=(Ox.out.step bn).c 2 _ rfl;have o3:=(Ox.out.step bn).c 3 _ rfl;clear bb))
 all_goals
  have b9:Below wx.heap.size wx w5:=by assumption
  go_wp2
  go_ret
  exact⟨rfl,bx.out.trans (b9.mono bx.out.size)⟩
theorem ZcY(rb sb B:Nat)(s tb:ZB)(tp:Value)(p:Rs)(S:Nat->Value)(sv:List (Value×Value))(hE:Z7 p.ex):∀k,CGo rb sb B s tb tp p S sv k
 | 0=>λe w hk=>by omega
 | k+1=>λe w hk H he hl=>by
  have ih:=ZcY rb sb B s tb tp p S sv hE k
  have hx:p.ex[e]?=some p.ex[e]:=Qn he
  by_cases hp:p.ex[e].op=0∨p.ex[e].op=1∨p.ex[e].op=10
  ·exact Zm0 rb sb B s tb tp p S sv hE e w H _ hx hp
  ·exact Zm1 rb sb B s tb tp p S sv hE e ⟨λf w hf=>ih f w (by omega)⟩ w H _ hx hp hl
end Go.Proofs.YtcnbifdlkalimabGreat
