import Derived.Test.YtcnbifdlkalimabGreatRdr10
/- Lemmas for the statement Means; their conditions stand in each. -/
namespace Go.Proofs.YtcnbifdlkalimabGreat
open Go.RowKit Go.Proofs.Tryz
set_option linter.unusedVariables false
set_option maxRecDepth 100000
variable{sv sv0:List (Value×Value)}{vs:List Value}{B g rb sb:Nat}{S S0:Nat->Value}{p:Rs}{tp:Value}{w w0:World}{s tb:ZB}
def XGo(rb sb B:Nat)(s tb:ZB)(tp:Value)(k:Nat):Prop:=∀(p:Rs) (S:Nat->Value) (sv:List (Value×Value)) (w:World),Zx w rb sb B s p tb tp S sv->Gp s p->rem s p.r<k->potP s p<=7000->
 Calls prog 193 #[.pointer (some ⟨rb,0,none⟩)] w (Zcs rb sb B s tb tp S sv w (exprP s k p))
theorem Gp.ok(G:Gp s p)(hs:s.size<=300):ZbV s p.r:=⟨hs,G.le⟩
theorem ZcW{m:Nat}(h:potP s p<=m):p.ex.length<=m:=by unfold potP at h;omega
theorem Zb6{m:Nat}(h:potP s p<=m):p.sm.length<=m:=by unfold potP at h;omega
set_option maxHeartbeats 6400000
theorem Zqn(rb sb B:Nat)(s tb:ZB)(tp:Value)(hs:s.size<=300)(k:Nat)(p:Rs)(S:Nat->Value)(sv:List (Value×Value))(w:World)(H:Zx w rb sb B s p tb tp S sv)(G:Gp s p)(hp:potP s p<=7001)(h1:48<=tok s p.r∧tok s p.r<=57) :
  Calls prog 224 #[.pointer (some ⟨rb,0,none⟩)] w (Zcs rb sb B s tb tp S sv w (termP s (exprP s k) p)):=by
 have hP:=Zay rb s ⟨#[48,49,50,51,52,53,54,55,56,57]⟩ p.r w H.rd (G.ok hs) Zsg (by decide)
 rw[ZfH,Qv h1]at hP
 obtain⟨y,hy⟩:∃y,termP s (exprP s k) p=y:=⟨_,rfl⟩
 rw[hy]
 unfold termP at hy
 rw[if_pos h1]at hy
 have he:(adv s p.r).er=0:=by rw[Zk];exact(Z5 (s:=s) (r:=p.r) (by omega)).1
 obtain⟨nv,hnv⟩:∃nv,num s (adv s p.r)=nv:=⟨_,rfl⟩
 have hN:Kp (∀w1,Zi w w1 rb (adv s p.r)->Calls prog 235 #[.pointer (some ⟨rb,0,none⟩)] w1 λe w'=>e=.returned (.int .i64 nv.1)∧Zi w1 w' rb nv.2):=⟨λw1 T=>by rw[<-hnv];exact Zju rb s (adv s p.r) w1 (H.rd.to T) ⟨hs,Ze G.le⟩ he⟩
 have hE:Kp (∀w1,Zi w w1 rb nv.2->Calls prog 225 #[.pointer (some ⟨rb,0,none⟩),.agg #[.int .i64 0,.int .i64 nv.1,.int .i64 0,.int .i64 0]] w1 (Zcs rb sb B s tb tp S sv w1 y)):=⟨λw1 T=>by
  rw[<-hy,hnv]
  exact ZdF rb sb B s tb tp {p with r:=nv.2} S sv ⟨0,nv.1,0,0⟩ w1 (H.rdto T) (by have:=ZcW hp;show p.ex.length<=10000;omega)⟩
 replace hP:=Z_ hP
 clear hy hnv H G hp h1 he
 go_enter func224,ntmps224
 go_wp2_with fail
 refine hP.out.mono ?_
 rintro e w1 ⟨rfl,T1⟩
 replace T1:=Z_ T1
 go_wp2_with fail
 refine(hN.out _ T1.out).mono ?_
 rintro e w2 ⟨rfl,T2⟩
 have T12:Kp _:=⟨T1.out.trans T2⟩
 clear T2 T1
 go_wp2_with fail
 refine(hE.out _ T12.out).mono ?_
 rintro e w3 ⟨rfl,S',A3,T3⟩
 replace A3:=Z_ A3
 replace T3:=Z_ T3
 go_wp2
 go_ret
 exact⟨rfl,S',A3.out,(ZW.rd T12.out).trans T3.out⟩
theorem Zqo(rb sb B:Nat)(s tb:ZB)(tp:Value)(hs:s.size<=300)(k:Nat)(p:Rs)(S:Nat->Value)(sv:List (Value×Value))(w:World)(H:Zx w rb sb B s p tb tp S sv)(G:Gp s p)(hp:potP s p<=7001)(h2:tok s p.r=36) :
  Calls prog 224 #[.pointer (some ⟨rb,0,none⟩)] w (Zcs rb sb B s tb tp S sv w (termP s (exprP s k) p)):=by
 have hP:=Zay rb s ⟨#[48,49,50,51,52,53,54,55,56,57]⟩ p.r w H.rd (G.ok hs) Zsg (by decide)
 rw[ZfH,Qx (by omega)]at hP
 obtain⟨y,hy⟩:∃y,termP s (exprP s k) p=y:=⟨_,rfl⟩
 rw[hy]
 unfold termP at hy
 rw[if_neg (by omega),if_pos h2]at hy
 have ea:tk s (adv s p.r) 36=nx (adv s p.r):=by have:=Z8 (s:=s) (r:=p.r) (by omega);rw[h2]at this;exact this
 obtain⟨n,hn⟩:∃n:Nat,p.n=n:=⟨p.n.toNat,by have:=G.n1;omega⟩
 have hn1:1<=n:=by have:=G.n1;omega
 have hn6:n<=6:=by have:=G.n6;omega
 have Oa:ZbV s (adv s p.r):=⟨hs,Ze G.le⟩
 have hS:Kp (∀w1,Zi w w1 rb (adv s p.r)->Calls prog 138 #[.pointer (some ⟨rb,0,none⟩),.string ⟨#[36]⟩] w1 λe w'=>e=.returned (.bool true)∧Zi w1 w' rb (adv s p.r)):=⟨λw1 T=>by
  have h:=Zbw rb s ⟨#[36]⟩ 36 (adv s p.r) w1 (H.rd.to T) Oa (by decide) (by omega)
  rw[Zp,ZY,h2]at h
  exact h⟩
 have hT:Kp (∀w1,Zi w w1 rb (adv s p.r)->Calls prog 137 #[.pointer (some ⟨rb,0,none⟩),.string ⟨#[36]⟩] w1 λe w'=>e=.returned (.int .i64 0)∧Zi w1 w' rb (nx (adv s p.r))):=⟨λw1 T=>by
  have h:=ZH rb s ⟨#[36]⟩ 36 (adv s p.r) w1 (H.rd.to T) Oa (by decide) (by omega)
  rw[ea]at h
  exact h⟩
 obtain⟨d,hd⟩:∃d,dig s (nx (adv s p.r)) 0 ((n:Int)-1)=d:=⟨_,rfl⟩
 obtain⟨rr,hrr⟩:∃rr,digR s (nx (adv s p.r)) 0 ((n:Int)-1)=rr:=⟨_,rfl⟩
 have hL:Kp (∀w1,Zi w w1 rb (nx (adv s p.r))->Calls prog 139 #[.pointer (some ⟨rb,0,none⟩)] w1 λe w'=>e=.returned (.int .i64 d)∧Zi w1 w' rb rr):=⟨λw1 T=>by
  rw[<-hd,<-hrr]
  have H1:=H.rdto T
  have cN:w1.cell? ⟨sb,0,none⟩=some (.int .i64 n):=by rw[<-hn];exact H1.cn
  exact Zej rb sb s (nx (adv s p.r)) n w1 H1.rd ⟨hs,Zak (by omega)⟩ H1.c3 cN hn1 hn6⟩
 have hE:Kp (∀w1,Zi w w1 rb rr->Calls prog 225 #[.pointer (some ⟨rb,0,none⟩),.agg #[.int .i64 10,.int .i64 d,.int .i64 0,.int .i64 0]] w1 (Zcs rb sb B s tb tp S sv w1 y)):=⟨λw1 T=>by
  rw[<-hy,hn,hd,hrr]
  exact ZdF rb sb B s tb tp {p with r:=rr} S sv ⟨10,d,0,0⟩ w1 (H.rdto T) (by have:=ZcW hp;show p.ex.length<=10000;omega)⟩
 replace hP:=Z_ hP
 clear hy H G hp h2 ea hn hn1 hn6 Oa hd hrr
 go_enter func224,ntmps224
 go_wp2_with fail
 refine hP.out.mono ?_
 rintro e w1 ⟨rfl,T1⟩
 replace T1:=Z_ T1
 go_wp2_with fail
 refine(hS.out _ T1.out).mono ?_
 rintro e w2 ⟨rfl,T2⟩
 have T12:Kp _:=⟨T1.out.trans T2⟩
 clear T2 T1
 go_wp2_with fail
 refine(hT.out _ T12.out).mono ?_
 rintro e w3 ⟨rfl,T2⟩
 have T13:Kp _:=⟨T12.out.trans T2⟩
 clear T2 T12
 go_wp2_with fail
 refine(hL.out _ T13.out).mono ?_
 rintro e w4 ⟨rfl,T2⟩
 have T14:Kp _:=⟨T13.out.trans T2⟩
 clear T2 T13
 go_wp2_with fail
 refine(hE.out _ T14.out).mono ?_
 rintro e w5 ⟨rfl,S',A3,T3⟩
 replace A3:=Z_ A3
 replace T3:=Z_ T3
 go_wp2
 go_ret
 exact⟨rfl,S',A3.out,(ZW.rd T14.out).trans T3.out⟩
theorem Zqp(rb sb B:Nat)(s tb:ZB)(tp:Value)(hs:s.size<=300)(k:Nat)(ih:Kp (XGo rb sb B s tb tp k))(p:Rs)(S:Nat->Value)(sv:List (Value×Value))(w:World)(H:Zx w rb sb B s p tb tp S sv)(G:Gp s p)(hk:rem s p.r<=k)(hp:potP s p<=7001)(h3:tok s p.r=40) :
  Calls prog 224 #[.pointer (some ⟨rb,0,none⟩)] w (Zcs rb sb B s tb tp S sv w (termP s (exprP s k) p)):=by
 have hP:=Zay rb s ⟨#[48,49,50,51,52,53,54,55,56,57]⟩ p.r w H.rd (G.ok hs) Zsg (by decide)
 rw[ZfH,Qx (by omega)]at hP
 obtain⟨y,hy⟩:∃y,termP s (exprP s k) p=y:=⟨_,rfl⟩
 rw[hy]
 unfold termP at hy
 rw[if_neg (by omega),if_neg (by omega),if_pos h3]at hy
 have ea:tk s (adv s p.r) 40=nx (adv s p.r):=by have:=Z8 (s:=s) (r:=p.r) (by omega);rw[h3]at this;exact this
 have Oa:ZbV s (adv s p.r):=⟨hs,Ze G.le⟩
 have hS1:Kp (∀w1,Zi w w1 rb (adv s p.r)->Calls prog 138 #[.pointer (some ⟨rb,0,none⟩),.string ⟨#[36]⟩] w1 λe w'=>e=.returned (.bool false)∧Zi w1 w' rb (adv s p.r)):=⟨λw1 T=>by
  have h:=Zbw rb s ⟨#[36]⟩ 36 (adv s p.r) w1 (H.rd.to T) Oa (by decide) (by omega)
  rw[Zp,ZY,h3]at h
  exact h⟩
 have hS2:Kp (∀w1,Zi w w1 rb (adv s p.r)->Calls prog 138 #[.pointer (some ⟨rb,0,none⟩),.string ⟨#[40]⟩] w1 λe w'=>e=.returned (.bool true)∧Zi w1 w' rb (adv s p.r)):=⟨λw1 T=>by
  have h:=Zbw rb s ⟨#[40]⟩ 40 (adv s p.r) w1 (H.rd.to T) Oa (by decide) (by omega)
  rw[Zp,ZY,h3]at h
  exact h⟩
 have hT:Kp (∀w1,Zi w w1 rb (adv s p.r)->Calls prog 137 #[.pointer (some ⟨rb,0,none⟩),.string ⟨#[40]⟩] w1 λe w'=>e=.returned (.int .i64 0)∧Zi w1 w' rb (nx (adv s p.r))):=⟨λw1 T=>by
  have h:=ZH rb s ⟨#[40]⟩ 40 (adv s p.r) w1 (H.rd.to T) Oa (by decide) (by omega)
  rw[ea]at h
  exact h⟩
 have hlt:=ZK (s:=s) (r:=p.r) (by omega)
 have hpt:=Zs (s:=s) (r:=p.r) (by omega)
 have Gn:Gp s {p with r:=nx (adv s p.r)}:=G.r (Zak (by omega))
 have pn:potP s {p with r:=nx (adv s p.r)}<=7000:=by
  rw[ZU s p (nx (adv s p.r))]
  unfold potP at hp
  omega
 obtain⟨u,hu⟩:∃u,exprP s k {p with r:=nx (adv s p.r)}=u:=⟨_,rfl⟩
 rw[hu]at hy
 have hX:Kp (∀w1,Zi w w1 rb (nx (adv s p.r))->Calls prog 193 #[.pointer (some ⟨rb,0,none⟩)] w1 (Zcs rb sb B s tb tp S sv w1 u)):=⟨λw1 T=>by
  rw[<-hu]
  exact ih.out {p with r:=nx (adv s p.r)} S sv w1 (H.rdto T) Gn (by show rem s (nx (adv s p.r))<k;omega) pn⟩
 have Gu:Gp s u.1:=by rw[<-hu];exact Zeh k _ Gn
 have hK:Kp (∀w1 S1,Zx w1 rb sb B s u.1 tb tp S1 sv->Calls prog 137 #[.pointer (some ⟨rb,0,none⟩),.string ⟨#[41]⟩] w1 λe w'=>e=.returned (.int .i64 0)∧Zi w1 w' rb (tk s u.1.r 41)):=⟨λw1 S1 A=>ZH rb s ⟨#[41]⟩ 41 u.1.r w1 A.rd (Gu.ok hs) (by decide) (by omega)⟩
 replace hP:=Z_ hP
 replace hy:=Z_ hy
 clear H G hk hp h3 ea Oa Gn pn hu Gu hlt hpt
 go_enter func224,ntmps224
 go_wp2_with fail
 refine hP.out.mono ?_
 rintro e w1 ⟨rfl,T1⟩
 replace T1:=Z_ T1
 go_wp2_with fail
 refine(hS1.out _ T1.out).mono ?_
 rintro e w2 ⟨rfl,T2⟩
 have T12:Kp _:=⟨T1.out.trans T2⟩
 clear T2 T1
 go_wp2_with fail
 refine(hS2.out _ T12.out).mono ?_
 rintro e w3 ⟨rfl,T2⟩
 have T13:Kp _:=⟨T12.out.trans T2⟩
 clear T2 T12
 go_wp2_with fail
 refine(hT.out _ T13.out).mono ?_
 rintro e w4 ⟨rfl,T2⟩
 have T14:Kp _:=⟨T13.out.trans T2⟩
 clear T2 T13
 go_wp2_with fail
 refine(hX.out _ T14.out).mono ?_
 rintro e w5 ⟨rfl,S',A3,T3⟩
 replace A3:=Z_ A3
 replace T3:=Z_ T3
 go_wp2_with fail
 refine(hK.out _ _ A3.out).mono ?_
 rintro e w6 ⟨rfl,T4⟩
 have A4:=A3.out.rdto T4
 replace A4:=Z_ A4
 replace T4:=Z_ T4
 go_wp2
 go_ret
 exact⟨by rw[<-hy.out];rfl,S',by rw[<-hy.out];exact A4.out,((ZW.rd T14.out).trans T3.out).trans (ZW.rd T4.out)⟩
theorem Zqq(rb sb B:Nat)(s tb:ZB)(tp:Value)(hs:s.size<=300)(k:Nat)(p:Rs)(S:Nat->Value)(sv:List (Value×Value))(w:World)(H:Zx w rb sb B s p tb tp S sv)(G:Gp s p)(hp:potP s p<=7001)(h1:¬(48<=tok s p.r∧tok s p.r<=57))(h2:¬tok s p.r=36)(h3:¬tok s p.r=40) :
  Calls prog 224 #[.pointer (some ⟨rb,0,none⟩)] w (Zcs rb sb B s tb tp S sv w (termP s (exprP s k) p)):=by
 have hP:=Zay rb s ⟨#[48,49,50,51,52,53,54,55,56,57]⟩ p.r w H.rd (G.ok hs) Zsg (by decide)
 rw[ZfH,Qx h1]at hP
 obtain⟨y,hy⟩:∃y,termP s (exprP s k) p=y:=⟨_,rfl⟩
 rw[hy]
 unfold termP at hy
 rw[if_neg h1,if_neg h2,if_neg h3]at hy
 have Oa:ZbV s (adv s p.r):=⟨hs,Ze G.le⟩
 have hS1:Kp (∀w1,Zi w w1 rb (adv s p.r)->Calls prog 138 #[.pointer (some ⟨rb,0,none⟩),.string ⟨#[36]⟩] w1 λe w'=>e=.returned (.bool false)∧Zi w1 w' rb (adv s p.r)):=⟨λw1 T=>by
  have h:=Zbw rb s ⟨#[36]⟩ 36 (adv s p.r) w1 (H.rd.to T) Oa (by decide) (by omega)
  rw[Zp,ZY,Qf.2 h2]at h
  exact h⟩
 have hS2:Kp (∀w1,Zi w w1 rb (adv s p.r)->Calls prog 138 #[.pointer (some ⟨rb,0,none⟩),.string ⟨#[40]⟩] w1 λe w'=>e=.returned (.bool false)∧Zi w1 w' rb (adv s p.r)):=⟨λw1 T=>by
  have h:=Zbw rb s ⟨#[40]⟩ 40 (adv s p.r) w1 (H.rd.to T) Oa (by decide) (by omega)
  rw[Zp,ZY,Qf.2 h3]at h
  exact h⟩
 obtain⟨vi,hvi⟩:∃vi,varI s p.r p.ls=vi:=⟨_,rfl⟩
 obtain⟨rr,hrr⟩:∃rr,varR s p.r p.ls=rr:=⟨_,rfl⟩
 have hL:Kp (∀w1,Zi w w1 rb (adv s p.r)->Calls prog 195 #[.pointer (some ⟨rb,0,none⟩)] w1 λe w'=>e=.returned (.int .i64 (vi:Nat))∧Zi w1 w' rb rr):=⟨λw1 T=>by
  rw[<-hvi,<-hrr]
  have H1:=H.rdto T
  have h:=ZdU rb sb s (adv s p.r) p.ls w1 H1.rd Oa H1.c3 H1.ne H1.cl ⟨G.ll,G.lb⟩
  rw[ZdN,Za5]at h
  exact h⟩
 have hE:Kp (∀w1,Zi w w1 rb rr->Calls prog 225 #[.pointer (some ⟨rb,0,none⟩),.agg #[.int .i64 1,.int .i64 (vi:Nat),.int .i64 0,.int .i64 0]] w1 (Zcs rb sb B s tb tp S sv w1 y)):=⟨λw1 T=>by
  rw[<-hy,hvi,hrr]
  exact ZdF rb sb B s tb tp {p with r:=rr} S sv ⟨1,vi,0,0⟩ w1 (H.rdto T) (by have:=ZcW hp;show p.ex.length<=10000;omega)⟩
 replace hP:=Z_ hP
 clear hy H G hp h1 h2 h3 Oa hvi hrr
 go_enter func224,ntmps224
 go_wp2_with fail
 refine hP.out.mono ?_
 rintro e w1 ⟨rfl,T1⟩
 replace T1:=Z_ T1
 go_wp2_with fail
 refine(hS1.out _ T1.out).mono ?_
 rintro e w2 ⟨rfl,T2⟩
 have T12:Kp _:=⟨T1.out.trans T2⟩
 clear T2 T1
 go_wp2_with fail
 refine(hS2.out _ T12.out).mono ?_
 rintro e w3 ⟨rfl,T2⟩
 have T13:Kp _:=⟨T12.out.trans T2⟩
 clear T2 T12
 go_wp2_with fail
 refine(hL.out _ T13.out).mono ?_
 rintro e w4 ⟨rfl,T2⟩
 have T14:Kp _:=⟨T13.out.trans T2⟩
 clear T2 T13
 go_wp2_with fail
 refine(hE.out _ T14.out).mono ?_
 rintro e w5 ⟨rfl,S',A3,T3⟩
 replace A3:=Z_ A3
 replace T3:=Z_ T3
 go_wp2
 go_ret
 exact⟨rfl,S',A3.out,(ZW.rd T14.out).trans T3.out⟩
theorem Zh9(rb sb B:Nat)(s tb:ZB)(tp:Value)(hs:s.size<=300)(k:Nat)(ih:Kp (XGo rb sb B s tb tp k))(p:Rs)(S:Nat->Value)(sv:List (Value×Value))(w:World)(H:Zx w rb sb B s p tb tp S sv)(G:Gp s p)(hk:rem s p.r<=k)(hp:potP s p<=7001) :
  Calls prog 224 #[.pointer (some ⟨rb,0,none⟩)] w (Zcs rb sb B s tb tp S sv w (termP s (exprP s k) p)):=by
 by_cases h1:48<=tok s p.r∧tok s p.r<=57
 ·exact Zqn rb sb B s tb tp hs k p S sv w H G hp h1
 ·by_cases h2:tok s p.r=36
  ·exact Zqo rb sb B s tb tp hs k p S sv w H G hp h2
  ·by_cases h3:tok s p.r=40
   ·exact Zqp rb sb B s tb tp hs k ih p S sv w H G hk hp h3
   ·exact Zqq rb sb B s tb tp hs k p S sv w H G hp h1 h2 h3
theorem Zab(rb sb B:Nat)(s tb:ZB)(tp:Value)(hs:s.size<=300):∀k,XGo rb sb B s tb tp k
 | 0=>λp S sv w H G hk hp=>by omega
 | k+1=>by
  have ih:Kp (XGo rb sb B s tb tp k):=⟨Zab rb sb B s tb tp hs k⟩
  intro p S sv w H G hk hp
  obtain⟨y0,hy0⟩:∃y0,termP s (exprP s k) p=y0:=⟨_,rfl⟩
  have hT:=Zh9 rb sb B s tb tp hs k ih p S sv w H G (by omega) (by omega)
  rw[hy0]at hT
  have hQ:exprP s (k+1) p=moreP s (termP s (exprP s k)) k y0:=by simp only[exprP];rw[hy0]
  rw[hQ]
  have G0:Kp (Gp s y0.1):=⟨by rw[<-hy0];exact Zhg (Zeh k) G⟩
  have p0:Kp (potP s y0.1<=7001):=⟨by rw[<-hy0];exact Qg (ZdT s _ (ZcE s k) p) (by omega)⟩
  have r0:Kp (rem s y0.1.r<=k):=⟨by rw[<-hy0];exact Qg (Zih s k p (by omega)) (by omega)⟩
  have hO:Kp (∀(x:Rs) w1 S1,Zx w1 rb sb B s x tb tp S1 sv->Gp s x->Calls prog 138 #[.pointer (some ⟨rb,0,none⟩),.string ⟨#[43,45,42,60,126]⟩] w1 λe w'=>e=.returned (.bool (opOf (tok s x.r) != 0))∧Zi w1 w' rb (adv s x.r)):=⟨λx w1 S1 A Gx=>by
   have h:=Zay rb s ⟨#[43,45,42,60,126]⟩ x.r w1 A.rd (Gx.ok hs) ZsR (by decide)
   rw[(Zjy s x.r).1]at h
   exact h⟩
  obtain⟨fin,hfin⟩:∃fin,moreP s (termP s (exprP s k)) k y0=fin:=⟨_,rfl⟩
  rw[hfin]
  replace hT:=Z_ hT
  replace hfin:=Z_ hfin
  clear H G hk hp hy0 hQ
  go_enter func193,ntmps193
  go_wp2_with fail
  refine hT.out.mono ?_
  rintro e w1 ⟨rfl,S1,A1,T1⟩
  replace A1:=Z_ A1
  replace T1:=Z_ T1
  clear hT
  go_wp2_with fail
  refine(hO.out y0.1 _ _ A1.out G0.out).mono ?_
  rintro e w2 ⟨rfl,T2⟩
  replace T2:=Z_ T2
  go_wp2_with fail
  go_loopg [3,4] (rem s y0.1.r) (λgm ev mv wr=>∃(j:Nat) (x:Rs×Nat) (S':Nat->Value),ev=.int .i64 (x.2:Nat)∧mv=.bool (opOf (tok s x.1.r) != 0)∧Kp (Zx wr rb sb B s {x.1 with r:=adv s x.1.r} tb tp S' sv)∧Kp (Gp s x.1)∧Kp (potP s x.1<=7001)∧Kp (rem s x.1.r<=j∧rem s x.1.r<=k)∧Kp (moreP s (termP s (exprP s k)) j x=fin)∧Kp (ZW rb sb S S' w wr)∧Kp (gm=rem s x.1.r))
  case atStart=>exact⟨k,y0,S1,rfl,rfl,⟨A1.out.rdto T2.out⟩,G0,p0,⟨r0.out,r0.out⟩,hfin,⟨T1.out.trans (ZW.rd T2.out)⟩,⟨rfl⟩⟩
  case round=>
   clear A1 T1 T2 G0 p0 r0 hfin
   obtain⟨j,⟨q1,n1⟩,S',rfl,rfl,hA,hG,hP,hR,hM,hT,hm⟩:=hrel
   have hA:Kp (Zx wr rb sb B s {q1 with r:=adv s q1.r} tb tp S' sv):=hA
   have hG:Kp (Gp s q1):=hG
   have hP:Kp (potP s q1<=7001):=hP
   have hR:Kp (rem s q1.r<=j∧rem s q1.r<=k):=hR
   have hm:Kp (gk=rem s q1.r):=hm
   show Code.wp _ _ _ _ _
   by_cases h0:opOf (tok s q1.r)=0
   ·have e1:Kp (fin=({q1 with r:=adv s q1.r},n1)):=⟨by
     rw[<-hM.out]
     cases j with
     | zero=>rfl
     | succ j=>simp only[moreP];rw[if_pos h0]⟩
    have hq:(opOf (tok s (q1,n1).1.r) != 0)=false:=by show (opOf (tok s q1.r) != 0)=false;rw[h0];rfl
    rw[hq]
    clear hG hP hR hM hm h0 hq
    go_wp2
    go_ret
    exact⟨by rw[e1.out];rfl,S',by rw[e1.out];exact hA.out,hT.out⟩
   ·have hpos:=ZbG h0
    have hlt:=ZK (s:=s) (r:=q1.r) hpos.1
    have hpt:=Zs (s:=s) (r:=q1.r) hpos.1
    have hj:=hR.out
    obtain⟨j,rfl⟩:∃i,j=i+1:=⟨j-1,by omega⟩
    have Gn:Gp s {q1 with r:=nx (adv s q1.r)}:=hG.out.r (Zak hpos.1)
    have pn:potP s {q1 with r:=nx (adv s q1.r)}<=6994:=by
     rw[ZU s q1 (nx (adv s q1.r))]
     have:=hP.out
     unfold potP at this
     omega
    have Oa:ZbV s (adv s q1.r):=⟨hs,Ze hG.out.le⟩
    obtain⟨op,hop⟩:∃op,opOf (tok s q1.r)=op:=⟨_,rfl⟩
    have hK:Kp (Calls prog 137 #[.pointer (some ⟨rb,0,none⟩),.string ⟨#[43,45,42,60,126]⟩] wr λe w'=>e=.returned (.int .i64 (op-3))∧Zi wr w' rb (nx (adv s q1.r))):=⟨by
     have h:=Za2 rb s ⟨#[43,45,42,60,126]⟩ (adv s q1.r) wr hA.out.rd Oa ZsR (by decide)
     have e1:Zd0 s ⟨#[43,45,42,60,126]⟩ (adv s q1.r)=true:=by
      have:=(Zjy s (adv s q1.r)).1
      rw[Zp]at this
      rw[this]
      exact QO.2 h0
     rw[e1,Zp,(Zjy s q1.r).2 h0,ZeP,hop]at h
     exact h⟩
    obtain⟨u,hu⟩:∃u,termP s (exprP s k) {q1 with r:=nx (adv s q1.r)}=u:=⟨_,rfl⟩
    have hT1:Kp (∀w1,Zi wr w1 rb (nx (adv s q1.r))->Calls prog 224 #[.pointer (some ⟨rb,0,none⟩)] w1 (Zcs rb sb B s tb tp S' sv w1 u)):=⟨λw1 T=>by
     rw[<-hu]
     exact Zh9 rb sb B s tb tp hs k ih {q1 with r:=nx (adv s q1.r)} S' sv w1 (hA.out.rdto T) Gn (by show rem s (nx (adv s q1.r))<=k;omega) (by omega)⟩
    have Gu:Gp s u.1:=by rw[<-hu];exact Zhg (Zeh k) Gn
    have pu:potP s u.1<=6995:=by rw[<-hu];exact Qg (ZdT s _ (ZcE s k) _) (by omega)
    have ru:rem s u.1.r<=rem s (nx (adv s q1.r)):=by
     rw[<-hu]
     exact Zih s k {q1 with r:=nx (adv s q1.r)} (by show rem s (nx (adv s q1.r))<=k;omega)
    obtain⟨v,hv⟩:∃v,nodP u.1 u.1.r ⟨op,0,n1,u.2⟩=v:=⟨_,rfl⟩
    have hM2:moreP s (termP s (exprP s k)) j v=fin:=by
     rw[<-hM.out,<-hv,<-hop]
     simp only[moreP]
     rw[if_neg h0,hu]
    have hv2:v.1.r=u.1.r:=by rw[<-hv];rfl
    have Gv:Kp (Gp s v.1):=⟨by rw[<-hv];exact Gu.nod Gu.le _⟩
    have pv:Kp (potP s v.1<=7001):=⟨by rw[<-hv,ZdR];unfold potP at pu;omega⟩
    have rv:Kp (rem s v.1.r<=j∧rem s v.1.r<=k∧rem s v.1.r<rem s q1.r):=⟨by rw[hv2];omega⟩
    have hE:Kp (∀w1 S1,Zx w1 rb sb B s u.1 tb tp S1 sv->Calls prog 225 #[.pointer (some ⟨rb,0,none⟩),.agg #[.int .i64 op,.int .i64 0,.int .i64 (n1:Nat),.int .i64 (u.2:Nat)]] w1 (Zcs rb sb B s tb tp S1 sv w1 v)):=⟨λw1 S1 A=>by
     rw[<-hv]
     exact ZdF rb sb B s tb tp u.1 S1 sv ⟨op,0,n1,u.2⟩ w1 A (by have:=ZcW pu;omega)⟩
    have hb1:3<=op:=by rw[<-hop];exact hpos.2.1
    have hb2:op<=7:=by rw[<-hop];exact hpos.2.2
    have hq:(opOf (tok s (q1,n1).1.r) != 0)=true:=QO.2 h0
    rw[hq]
    replace hM2:=Z_ hM2
    clear hq h0 hpos hlt hpt hj Gn pn Gu pu ru hM hG hP hR hu hv hv2 hop Oa
    go_wp2_with fail
    refine hK.out.mono ?_
    rintro e w3 ⟨rfl,T3⟩
    replace T3:=Z_ T3
    go_wp2_with fail
    refine(hT1.out _ T3.out).mono ?_
    rintro e w4 ⟨rfl,S4,A4,T4⟩
    replace A4:=Z_ A4
    replace T4:=Z_ T4
    have hb3:(3:Int)+(op-3)=op:=by omega
    go_wp2_with fail
    refine(hE.out _ _ A4.out).mono ?_
    rintro e w5 ⟨rfl,S5,A5,T5⟩
    replace A5:=Z_ A5
    replace T5:=Z_ T5
    go_wp2_with fail
    refine(hO.out _ _ _ A5.out Gv.out).mono ?_
    rintro e w6 ⟨rfl,T6⟩
    replace T6:=Z_ T6
    go_wp2_with fail
    go_roundg (rem s v.1.r)
    case measure=>have h1:=hm.out;have h2:=rv.out;omega
    case rel=>exact⟨j,v,S5,rfl,rfl,⟨A5.out.rdto T6.out⟩,Gv,pv,⟨rv.out.1,rv.out.2.1⟩,hM2,⟨(hT.out.trans (ZW.rd T3.out)).trans (T4.out.trans (T5.out.trans (ZW.rd T6.out)))⟩,⟨rfl⟩⟩
def ZjI(rb sb B:Nat)(s tb:ZB)(tp:Value)(S:Nat->Value)(sv:List (Value×Value))(w:World)(z:Rs×Nat)(e:Ending)(w':World):Prop:=
 e=.returned (.int .i64 (z.2:Nat))∧∃S' sv',Zx w' rb sb B s z.1 tb tp S' sv'∧ZW rb sb S S' w w'∧ZbE w sv sv'
def Zix(rb sb B:Nat)(s tb:ZB)(tp:Value)(S:Nat->Value)(sv:List (Value×Value))(w:World)(z:Rs×List Nat)(e:Ending)(w':World):Prop:=
 ∃v,e=.returned v∧∃S' sv',Zx w' rb sb B s z.1 tb tp S' sv'∧ZW rb sb S S' w w'∧ZbE w sv sv'∧ZaB w' B S' v z.2∧∀k,v.ownBlock=some k->w.heap.size<=k∧¬Zhw sv' k
def SGo(rb sb B:Nat)(s tb:ZB)(tp:Value)(k:Nat):Prop:=∀(p:Rs) (S:Nat->Value) (sv:List (Value×Value)) (w:World),Zx w rb sb B s p tb tp S sv->Gp s p->isS (tok s p.r)=true->rem s p.r<k->potP s p<=6000->
 Calls prog 141 #[.pointer (some ⟨rb,0,none⟩)] w (ZjI rb sb B s tb tp S sv w (stmP s k p))
theorem Zqr:(prog.info? 3).map (λi=>(i.zero,i.size,i.bytes))=some (some (.int .i64 0),1,8):=by kernel_rfl
theorem Zoy{w2 wa w3:World}{lv v':Value}{L:List Nat}{n:Nat}(A:Zx w2 rb sb B s p tb tp S sv)(T:ZW rb sb S0 S w w2)(hI:ZaB w2 B S lv L)(hF:∀k,lv.ownBlock=some k->w.heap.size<=k∧¬Zhw sv k)
  (ha:Below w2.heap.size w2 wa) (hg:wa.grownBy w3 lv.ownBlock) (hown:w3.ownsRow B 3 1 v' (L.length+1) (itV L++[.int .i64 (n:Nat)])) (hat:v'.ownBlock=lv.ownBlock∨v'.ownBlock=some wa.heap.size) :
  Zx w3 rb sb B s p tb tp S sv∧ZW rb sb S0 S w w3∧ZaB w3 B S v' (L++[n])∧∀k,v'.ownBlock=some k->w.heap.size<=k∧¬Zhw sv k:=by
 have hsz:=ha.size
 have b0:=A.b0
 have b1:=A.b1
 have hts:=T.size
 refine⟨(A.step ha).grow hg λg e=>?_,(T.trans (ZW.below ha)).grow hg λg e=>(hF g e).1,⟨?_,λk hk j hj e=>?_⟩,λk hk=>?_⟩
 ·have:=(hI.1.lt g e).1
  exact⟨by omega,by omega,λj hj=>hI.2 g e j hj,(hF g e).2⟩
 ·have e1:(L++[n]).length=L.length+1:=by rw[Qe];rfl
  have e2:itV (L++[n])=itV L++[.int .i64 (n:Nat)]:=by unfold itV;rw[QK];rfl
  rw[e1,e2]
  exact hown
 ·rcases hat with c|c
  ·exact hI.2 k (by rw[<-c];exact hk) j hj e
  ·rw[c]at hk
   have h1:=Option.some.inj hk
   have h2:=((A.o j hj).lt k e).2
   omega
 ·rcases hat with c|c
  ·exact hF k (by rw[<-c];exact hk)
  ·rw[c]at hk
   have h1:=Option.some.inj hk
   refine⟨by omega,λe=>?_⟩
   have h2:=(A.fin e).2
   omega
theorem Zia(rb sb B:Nat)(s tb:ZB)(tp:Value)(hs:s.size<=300)(k j0:Nat)(ih:Kp (SGo rb sb B s tb tp k))(p:Rs)(S:Nat->Value)(sv:List (Value×Value))(w:World)(H:Zx w rb sb B s p tb tp S sv)(G:Gp s p)(hj:rem s p.r<=j0)(hk:rem s p.r<k)(hp:potP s p<=6000) :
  Calls prog 73 #[.pointer (some ⟨rb,0,none⟩)] w (Zix rb sb B s tb tp S sv w (loopP s (stmP s k) j0 p [])):=by
 obtain⟨i0,hi0,hz0,hz1,hz2⟩:=infoParts Zqr
 have hO:Kp (∀(x:Rs) w1 S1 sv1,Zx w1 rb sb B s x tb tp S1 sv1->Gp s x->Calls prog 138 #[.pointer (some ⟨rb,0,none⟩),.string ⟨#[97,98,99,100,101,102,103,104,62,63,64]⟩] w1 λe w'=>e=.returned (.bool (isS (tok s x.r)))∧Zi w1 w' rb (adv s x.r)):=⟨λx w1 S1 sv1 A Gx=>by
  have h:=Zay rb s ⟨#[97,98,99,100,101,102,103,104,62,63,64]⟩ x.r w1 A.rd (Gx.ok hs) ZsU (by decide)
  rw[ZqH]at h
  exact h⟩
 obtain⟨fin,hfin⟩:∃fin,loopP s (stmP s k) j0 p []=fin:=⟨_,rfl⟩
 rw[hfin]
 have hrs:rem s p.r<=300:=Qg (Z1 s p.r) hs
 have H0:Kp _:=⟨H⟩
 have G0:Kp _:=⟨G⟩
 have R0:Kp (rem s p.r<=j0∧rem s p.r<k):=⟨hj,hk⟩
 replace hp:=Z_ hp
 replace hfin:=Z_ hfin
 replace hrs:=Z_ hrs
 clear H G hj hk
 go_enter func73,ntmps73
 go_wp2_with fail
 refine(hO.out p _ _ _ H0.out G0.out).mono ?_
 rintro e w1 ⟨rfl,T1⟩
 replace T1:=Z_ T1
 go_wp2_with fail
 go_loopg [3,4] (rem s p.r) (λgm lw mv wr=>∃(lv:Value) (j:Nat) (x:Rs) (L:List Nat) (S':Nat->Value) (sv':List (Value×Value)),lv=lw∧mv=.bool (isS (tok s x.r))∧Kp (Zx wr rb sb B s {x with r:=adv s x.r} tb tp S' sv')∧Kp (Gp s x)∧Kp (potP s x<=6000)∧Kp (rem s x.r<=j∧rem s x.r<k∧L.length+rem s x.r<=rem s p.r)∧Kp (loopP s (stmP s k) j x L=fin)∧Kp (ZW rb sb S S' w wr)∧Kp (ZbE w sv sv')∧Kp (ZaB wr B S' lv L∧∀k,lv.ownBlock=some k->w.heap.size<=k∧¬Zhw sv' k)∧Kp (gm=rem s x.r))
 case atStart=>exact⟨_,j0,p,[],S,sv,rfl,rfl,⟨H0.out.rdto T1.out⟩,G0,hp,⟨R0.out.1,R0.out.2,by simp⟩,hfin,⟨ZW.rd T1.out⟩,⟨ZbE.refl _ _⟩,⟨ZaB.nil _ _ _,λk hk=>by cases hk⟩,⟨rfl⟩⟩
 case round=>
  clear H0 G0 hp R0 hfin T1
  obtain⟨lv,j,x,L,S',sv',hlv,rfl,hA,hG,hP,hR,hM,hT,hN,hI,hm⟩:=hrel
  subst hlv
  by_cases h0:isS (tok s x.r)=true
  ·have ht:=Zjq h0
   have hlt:rem s (stmP s k {x with r:=adv s x.r}).1.r<rem s x.r:=by
    have h1:=Znc s k {x with r:=adv s x.r} (by show rem s (adv s x.r)<k;have:=Zt s x.r;have:=hR.out;omega) (by show tok s (adv s x.r)≠0;rw[Zp];exact ht)
    have h2:rem s ({x with r:=adv s x.r}:Rs).r=rem s (adv s x.r):=rfl
    have:=Zt s x.r
    omega
   have hj:=hR.out
   obtain⟨j,rfl⟩:∃i,j=i+1:=⟨j-1,by omega⟩
   have Ga:Gp s {x with r:=adv s x.r}:=hG.out.r (Ze hG.out.le)
   have pa:potP s {x with r:=adv s x.r}<=6000:=Qg (ZbQ (Zh _ _)) hP.out
   have hM2:loopP s (stmP s k) j (stmP s k {x with r:=adv s x.r}).1 (L++[(stmP s k {x with r:=adv s x.r}).2])=fin:=by
    rw[<-hM.out]
    simp only[loopP]
    rw[if_pos h0]
   have hS:Kp (Calls prog 141 #[.pointer (some ⟨rb,0,none⟩)] wr (ZjI rb sb B s tb tp S' sv' wr (stmP s k {x with r:=adv s x.r}))):=⟨ih.out {x with r:=adv s x.r} S' sv' wr hA.out Ga (by show isS (tok s (adv s x.r))=true;rw[Zp];exact h0) (by show rem s (adv s x.r)<k;have:=Zt s x.r;omega) pa⟩
   have Gn:Kp (Gp s (stmP s k {x with r:=adv s x.r}).1):=⟨Zb8 k _ Ga⟩
   have pn:Kp (potP s (stmP s k {x with r:=adv s x.r}).1<=6000):=⟨Qg (Zbl s k _ (by show (adv s x.r).er=0;rw[Zk];exact(Z5 ht).1)) pa⟩
   have hl3:L.length<=300:=by have:=hrs.out;omega
   have rn:Kp (rem s (stmP s k {x with r:=adv s x.r}).1.r<=j∧rem s (stmP s k {x with r:=adv s x.r}).1.r<k∧(L++[(stmP s k {x with r:=adv s x.r}).2]).length+rem s (stmP s k {x with r:=adv s x.r}).1.r<=rem s p.r∧rem s (stmP s k {x with r:=adv s x.r}).1.r<rem s x.r):=⟨by
    rw[Qe]
    simp only[Qt,Qy]
    omega⟩
   generalize stmP s k {x with r:=adv s x.r}=z at *
   rw[h0]
   replace hM2:=Z_ hM2
   clear h0 ht hlt hj Ga pa hM hG hP hR
   go_wp2_with fail
   refine hS.out.mono ?_
   rintro e w2 ⟨rfl,S2,sv2,A2,T2,N2⟩
   have I2:=hI.out.1.to T2 A2.b0 A2.b1
   have F2:∀k,lv.ownBlock=some k->w.heap.size<=k∧¬Zhw sv2 k:=λk hk=>⟨(hI.out.2 k hk).1,λe=>by
    rcases N2 k e with c|c
    ·exact(hI.out.2 k hk).2 c
    ·have:=(hI.out.1.1.lt k hk).2;omega⟩
   have T3:=hT.out.trans T2
   have N3:Kp (ZbE w sv sv2):=⟨hN.out.trans N2 hT.out.size⟩
   have hB2:=A2.hB
   replace A2:=Z_ A2
   replace T3:=Z_ T3
   replace I2:=Z_ I2
   replace F2:=Z_ F2
   clear T2 N2 hS hA hT hN hI
   obtain⟨pp,cc,rfl⟩:=Zb I2.out.1
   go_wp2_with (at_builtin;refine wpList_append_own_at _ rfl _ _ 69 rfl B 3 i0 (.int .i64 0) 1 8 Tryz.underlying69 hi0 hz0 hz1 hz2 rfl (by decide) _ L.length (itV L) rfl (I2.out.1.alloc _) ⟨w2.heap.size,0,none⟩ 1 1 [.int .i64 (z.2:Nat)] rfl rfl ?a1 ?a2 ?a3 ?a4 ?a5 ?_)
   case a1=>
    intro j u hj
    match j,hj with
    | 0,hj=>simp at hj;subst hj;simp[Addr.add]
   case a2=>intro u hu;simp at hu;subst hu;rfl
   case a3=>unfold maxLen;omega
   case a4=>omega
   case a5=>simp;omega
   intro v' w3 hown hgrow _ hat
   have hh:=Zoy A2.out T3.out I2.out F2.out ((Below.refl _ _).alloc (Nat.le_refl _) _) hgrow hown (by simpa using hat)
   obtain⟨pp',cc',rfl⟩:=Zb hown
   replace hh:=Z_ hh
   clear hown hgrow hat A2 T3 I2 F2
   go_wp2_with fail
   refine(hO.out _ _ _ _ hh.out.1 Gn.out).mono ?_
   rintro e w4 ⟨rfl,T4⟩
   replace T4:=Z_ T4
   go_wp2_with fail
   go_roundg (rem s z.1.r)
   case measure=>have h1:=hm.out;have h2:=rn.out;omega
   case rel=>
    have A3:=hh.out.1
    exact⟨_,j,z.1,L++[z.2],S2,sv2,rfl,rfl,⟨A3.rdto T4.out⟩,Gn,pn,⟨rn.out.1,rn.out.2.1,rn.out.2.2.1⟩,hM2,⟨hh.out.2.1.trans (ZW.rd T4.out)⟩,N3,⟨hh.out.2.2.1.to (ZW.rd T4.out) A3.b0 A3.b1,hh.out.2.2.2⟩,⟨rfl⟩⟩
  ·have h0:isS (tok s x.r)=false:=by simpa using h0
   have e1:Kp (fin=({x with r:=adv s x.r},L)):=⟨by
    rw[<-hM.out]
    cases j with
    | zero=>rfl
    | succ j=>simp only[loopP];rw[if_neg (by rw[h0];simp)]⟩
   rw[h0]
   clear hG hP hR hM hm h0
   obtain⟨pp,cc,rfl⟩:=Zb hI.out.1.1
   go_wp2
   go_ret
   exact⟨_,rfl,S',sv',by rw[e1.out];exact hA.out,hT.out,hN.out,by rw[e1.out];exact hI.out.1,hI.out.2⟩
theorem ZcX(rb sb B:Nat)(s tb:ZB)(tp:Value)(hs:s.size<=300)(k:Nat)(ih:Kp (SGo rb sb B s tb tp k))(p:Rs)(S:Nat->Value)(sv:List (Value×Value))(w:World)(H:Zx w rb sb B s p tb tp S sv)(G:Gp s p)(hk:rem s p.r<k)(hp:potP s p<=6000) :
  Calls prog 194 #[.pointer (some ⟨rb,0,none⟩)] w (Zix rb sb B s tb tp S sv w (blkP s (stmP s k) k p)):=by
 have hT:=ZH rb s ⟨#[123]⟩ 123 p.r w H.rd (G.ok hs) (by decide) (by omega)
 have G1:Gp s {p with r:=tk s p.r 123}:=G.r (Z0 G.le (by omega))
 have p1:potP s {p with r:=tk s p.r 123}<=6000:=Qg (ZbQ (ZM _ _ _)) hp
 have k1:rem s (tk s p.r 123)<k:=by have:=ZaD s p.r 123;omega
 obtain⟨fin,hfin⟩:∃fin,loopP s (stmP s k) k {p with r:=tk s p.r 123} []=fin:=⟨_,rfl⟩
 have hL:Kp (∀w1,Zi w w1 rb (tk s p.r 123)->Calls prog 73 #[.pointer (some ⟨rb,0,none⟩)] w1 (Zix rb sb B s tb tp S sv w1 fin)):=⟨λw1 T=>by
  rw[<-hfin]
  exact Zia rb sb B s tb tp hs k k ih {p with r:=tk s p.r 123} S sv w1 (H.rdto T) G1 (by show rem s (tk s p.r 123)<=k;omega) k1 p1⟩
 have hQ:blkP s (stmP s k) k p=({fin.1 with r:=tk s fin.1.r 125},fin.2):=by unfold blkP;rw[hfin]
 rw[hQ]
 have Gf:Gp s fin.1:=by rw[<-hfin];exact Zfz (Zb8 k) k _ _ G1
 have hE:Kp (∀w1 S1 sv1,Zx w1 rb sb B s fin.1 tb tp S1 sv1->Calls prog 137 #[.pointer (some ⟨rb,0,none⟩),.string ⟨#[125]⟩] w1 λe w'=>e=.returned (.int .i64 0)∧Zi w1 w' rb (tk s fin.1.r 125)):=⟨λw1 S1 sv1 A=>ZH rb s ⟨#[125]⟩ 125 fin.1.r w1 A.rd (Gf.ok hs) (by decide) (by omega)⟩
 replace hT:=Z_ hT
 clear H G hk hp hQ Gf hfin G1 p1 k1
 go_enter func194,ntmps194
 go_wp2_with fail
 refine hT.out.mono ?_
 rintro e w1 ⟨rfl,R1⟩
 replace R1:=Z_ R1
 go_wp2_with fail
 refine(hL.out _ R1.out).mono ?_
 rintro e w2 ⟨v,rfl,S2,sv2,A2,T2,N2,I2,F2⟩
 replace A2:=Z_ A2
 replace T2:=Z_ T2
 replace N2:=Z_ N2
 replace F2:=Z_ F2
 replace I2:=Z_ I2
 obtain⟨pp,cc,rfl⟩:=Zb I2.out.1
 go_wp2_with fail
 refine(hE.out _ _ _ A2.out).mono ?_
 rintro e w3 ⟨rfl,R3⟩
 replace R3:=Z_ R3
 go_wp2
 go_ret
 exact⟨_,rfl,S2,sv2,A2.out.rdto R3.out,((ZW.rd R1.out).trans T2.out).trans (ZW.rd R3.out),λk hk=>by rw[<-R1.out.size];exact N2.out k hk,I2.out.to (ZW.rd R3.out) A2.out.b0 A2.out.b1,λk hk=>by rw[<-R1.out.size];exact F2.out k hk⟩
theorem Ziy{P Q:Prop}(h:Kp P->Q)(p:P):Q:=h ⟨p⟩
theorem Zfl:(prog.info? 123).map (λi=>(i.zero,i.size,i.bytes))=some (some (.agg #[.int .u8 0,.int .i64 0,.int .i64 0,.int .i64 0,.slice none 0 0,.slice none 0 0,.bool false]),7,88):=by kernel_rfl
theorem own7(w:World)(v0 v1 v2 v3 v4 v5 v6:Value)(t:TypeId):Own (w.alloc (.cells #[v0,v1,v2,v3,v4,v5,v6] t)) w.heap.size [v0,v1,v2,v3,v4,v5,v6]:=by
 refine⟨by simp,?_,?_⟩
 ·intro i v hv
  have hi:i<7:=by have:=(List.getElem?_eq_some_iff.1 hv).1;simpa using this
  have e:(w.alloc (.cells #[v0,v1,v2,v3,v4,v5,v6] t)).cell? ⟨w.heap.size,i,none⟩=([v0,v1,v2,v3,v4,v5,v6]:List Value)[i]?:=by
   match i,hi with
   | 0,_=>simp[go_sem]
   | 1,_=>simp[go_sem]
   | 2,_=>simp[go_sem]
   | 3,_=>simp[go_sem]
   | 4,_=>simp[go_sem]
   | 5,_=>simp[go_sem]
   | 6,_=>simp[go_sem]
  rw[e]
  exact hv
 ·intro i v hv
  have hi:i<7:=by have:=(List.getElem?_eq_some_iff.1 hv).1;simpa using this
  match i,hi with
  | 0,_=>simp[go_sem]
  | 1,_=>simp[go_sem]
  | 2,_=>simp[go_sem]
  | 3,_=>simp[go_sem]
  | 4,_=>simp[go_sem]
  | 5,_=>simp[go_sem]
  | 6,_=>simp[go_sem]
structure Zf3(w:World)(rb sb B:Nat)(s:ZB)(p:Rs)(tb:ZB)(tp:Value)(S:Nat->Value)(sv:List (Value×Value))(g:Nat)(vs:List Value)(w0:World)(S0:Nat->Value)(sv0:List (Value×Value)):Prop where
 H:Zx w rb sb B s p tb tp S sv
 F:Fr rb sb S sv g
 W:Own w g vs
 T:ZW rb sb S0 S w0 w
 N:ZbE w0 sv0 sv
 g0:w0.heap.size<=g
theorem Zf3.new{w1:World}(H:Zx w rb sb B s p tb tp S sv)(T:ZW rb sb S S w0 w)(v0 v1 v2 v3 v4 v5 v6:Value)(t:TypeId) :
  Zf3 (w.alloc (.cells #[v0,v1,v2,v3,v4,v5,v6] t)).drew rb sb B s p tb tp S sv w.heap.size [v0,v1,v2,v3,v4,v5,v6] w0 S sv:=by
 have hb:Below w.heap.size w (w.alloc (.cells #[v0,v1,v2,v3,v4,v5,v6] t)).drew:=((Qh _ _).alloc (Qb _) _).drew
 exact⟨H.step hb,H.new (Qb _),(own7 w v0 v1 v2 v3 v4 v5 v6 t).step ((Qh _ _).drew),T.trans (ZW.below hb),ZbE.refl _ _,T.size⟩
theorem Zf3.rd{w':World}{r:Rd}(E:Zf3 w rb sb B s p tb tp S sv g vs w0 S0 sv0)(h:Zi w w' rb r):Zf3 w' rb sb B s {p with r:=r} tb tp S sv g vs w0 S0 sv0:=
 ⟨E.H.rdto h,E.F,E.W.same (h.block g E.F.r) (by rw[h.size];exact Qb _),E.T.trans (ZW.rd h),E.N,E.g0⟩
theorem Zf3.ps{w':World}{z:Rs}{S':Nat->Value}{sv':List (Value×Value)}(E:Zf3 w rb sb B s p tb tp S sv g vs w0 S0 sv0)(H:Zx w' rb sb B s z tb tp S' sv')(T:ZW rb sb S S' w w')(N:ZbE w sv sv'):Zf3 w' rb sb B s z tb tp S' sv' g vs w0 S0 sv0:=
 ⟨H,E.F.to E.W.lt T N,E.W.same (E.F.same E.W.lt T) T.size,E.T.trans T,E.N.trans N E.T.size,E.g0⟩
theorem Zf3.set(E:Zf3 w rb sb B s p tb tp S sv g vs w0 S0 sv0)(i:Nat)(x:Value)(hi:i<vs.length):Zf3 (w.setCell ⟨g,i,none⟩ x) rb sb B s p tb tp S sv g (vs.set i x) w0 S0 sv0:=
 ⟨E.H.grow (ZaV w g i x) (λk hk=>by rw[<-Option.some.inj hk];exact E.F),E.F,E.W.setv hi x,E.T.grow (ZaV w g i x) (λk hk=>by rw[<-Option.some.inj hk];exact E.g0),E.N,E.g0⟩
theorem ZaF{wa w3:World}{z:Rs}{x:Sm}{y:Value×Value}{v':Value}(H:Zx w rb sb B s z tb tp S sv)(h1:ZaB w B S y.1 x.bo)(h2:ZaB w B S y.2 x.el)(ha:Below w.heap.size w wa)(hg:wa.grownBy w3 (S 1).ownBlock)
  (hown:w3.ownsRow B 123 7 v' (z.sm.length+1) ((List.zip z.sm sv).flatMap smV++smV (x,y))) (hat:v'.ownBlock=(S 1).ownBlock∨v'.ownBlock=some wa.heap.size) :
  Zx (w3.setCell ⟨sb,5,none⟩ v') rb sb B s (ZeC z z.r x).1 tb tp (λj=>if j=1 then v' else S j) (sv++[y])∧ZW rb sb S (λj=>if j=1 then v' else S j) w (w3.setCell ⟨sb,5,none⟩ v'):=by
 refine Zx.told (l:=1) (p':=(ZeC z z.r x).1) (sv':=sv++[y]) H (by omega) ha hg ?_ hat rfl rfl rfl rfl (λj hj hne=>?_) (λj hj hne=>?_) ?_ (λi u v hu hv=>?_)
 ·have e1:pN (ZeC z z.r x).1 1=z.sm.length+1:=by show (z.sm++[x]).length=_;rw[Qe];rfl
  have e2:pV (ZeC z z.r x).1 (sv++[y]) 1=(List.zip z.sm sv).flatMap smV++smV (x,y):=by
   show (List.zip (z.sm++[x]) (sv++[y])).flatMap smV=_
   rw[List.zip_append H.k.symm,List.flatMap_append]
   simp
  rw[e1,e2]
  exact hown
 ·match j,hj with
  | 0,_=>rfl
  | 1,_=>exact absurd rfl hne
 ·match j,hj with
  | 0,_=>rfl
  | 1,_=>exact absurd rfl hne
 ·show (sv++[y]).length=(z.sm++[x]).length
  rw[Qe,Qe,H.k]
  rfl
 ·have hu:(z.sm++[x])[i]?=some u:=hu
  by_cases hi:i<z.sm.length
  ·rw[QD hi]at hu
   rw[QD (by rw[H.k];exact hi)]at hv
   exact H.i i u v hu hv
  ·rw[QF (by omega)]at hu
   rw[QF (by rw[H.k];omega),H.k]at hv
   by_cases h0:i-z.sm.length=0
   ·rw[h0]at hu hv
    have e1:=Option.some.inj hu
    have e2:=Option.some.inj hv
    subst e1
    subst e2
    exact⟨h1,h2⟩
   ·rw[Uh (by simp;omega)]at hu
    cases hu
theorem Zfm{sv':List (Value×Value)}{y:Value×Value}(h:ZbE w sv sv')(h1:∀k,y.1.ownBlock=some k->w.heap.size<=k)(h2:∀k,y.2.ownBlock=some k->w.heap.size<=k):ZbE w sv (sv'++[y]):=by
 rintro k ⟨u,hu,hk⟩
 rcases QI.1 hu with c|c
 ·exact h k ⟨u,c,hk⟩
 ·rw[QA.1 c]at hk
  rcases hk with e|e
  ·exact .inr (h1 k e)
  ·exact .inr (h2 k e)
end Go.Proofs.YtcnbifdlkalimabGreat
