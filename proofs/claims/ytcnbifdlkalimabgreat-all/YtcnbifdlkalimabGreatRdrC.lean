/- Lemmas; their conditions stand in each. -/
import Derived.Test.YtcnbifdlkalimabGreatRdr10
namespace Go.Proofs.YtcnbifdlkalimabGreat
open Go.RowKit Go.Proofs.Tryz
set_option linter.all false
set_option maxRecDepth 100000
variable{sv sv0:List (Value×Value)}{vs:List Value}{B g rb sb:Nat}{S S0:Nat->Value}{p:Rs}{tp:Value}{w w0:World}{s tb:ZB}
def Mq(rb sb B:Nat)(s tb:ZB)(tp:Value)(k:Nat):Prop:=∀(p:Rs) (S:Nat->Value) (sv:List (Value×Value)) (w:World),YB w rb sb B s p tb tp S sv->Gp s p->Ah s p.r<k->Au s p<=7000->
 Calls prog 193 #[.pointer (some ⟨rb,0,none⟩)] w (Ef rb sb B s tb tp S sv w (AR s k p))
theorem Gp.ok(G:Gp s p)(a:s.size<=300):Ci s p.r:=⟨a,G.le⟩
theorem My{m:Nat}(h:Au s p<=m):p.ex.length<=m:=by unfold Au at h;omega
theorem KZ{m:Nat}(h:Au s p<=m):p.sm.length<=m:=by unfold Au at h;omega
set_option maxHeartbeats 6400000
theorem Zq6(rb sb B:Nat)(s tb:ZB)(tp:Value)(u:s.size<=300)(k:Nat)(p:Rs)(S:Nat->Value)(sv:List (Value×Value))(w:World)(H:YB w rb sb B s p tb tp S sv)(G:Gp s p)(t:Au s p<=7001)(m:48<=Ae s p.r∧Ae s p.r<=57) :
  Calls prog 224 #[.pointer (some ⟨rb,0,none⟩)] w (Ef rb sb B s tb tp S sv w (Ba s (AR s k) p)):=by
 have i:=Fo rb s ⟨#[48,49,50,51,52,53,54,55,56,57]⟩ p.r w H.rd (G.ok u) Md (by decide);rw[Lu,Qv m]at i;obtain⟨y,h⟩:∃y,Ba s (AR s k) p=y:=⟨_,rfl⟩
 rw[h];unfold Ba at h;rw[if_pos m]at h;have q:(Aa s p.r).er=0:=by rw[Zl];exact(Z8 (s:=s) (r:=p.r) (by omega)).1
 obtain⟨b,c⟩:∃b,num s (Aa s p.r)=b:=⟨_,rfl⟩
 have z:Kp (∀a,Zi w a rb (Aa s p.r)->Calls prog 235 #[.pointer (some ⟨rb,0,none⟩)] a λe A=>e=.returned (.int .i64 b.1)∧Zi a A rb b.2):=⟨λa T=>by rw[<-c];exact WK rb s (Aa s p.r) a (H.rd.to T) ⟨u,Ze G.le⟩ q⟩
 have x:Kp (∀a,Zi w a rb b.2->Calls prog 225 #[.pointer (some ⟨rb,0,none⟩),.agg #[.int .i64 0,.int .i64 b.1,.int .i64 0,.int .i64 0]] a (Ef rb sb B s tb tp S sv a y)):=⟨λa T=>by
  rw[<-h,c];exact MJ rb sb B s tb tp {p with r:=b.2} S sv ⟨0,b.1,0,0⟩ a (H.rdto T) (by have:=My t;show p.ex.length<=10000;omega)⟩
 replace i:=Z_ i;clear h c H G t m q;go_in;go_wp2_with fail;refine i.o.mono ?_;rintro e a ⟨rfl,d⟩;replace d:=Z_ d;go_wp2_with fail;refine(z.o _ d.o).mono ?_;rintro e C ⟨rfl,n⟩;have f:Kp _:=⟨d.o.trans n⟩
 clear n d;go_wp2_with fail;refine(x.o _ f.o).mono ?_;rintro e D ⟨rfl,v,j,l⟩;replace j:=Z_ j;replace l:=Z_ l;go_wp2;go_ret;exact⟨rfl,v,j.o,(ZW.rd f.o).trans l.o⟩
theorem Zq7(rb sb B:Nat)(s tb:ZB)(tp:Value)(I:s.size<=300)(k:Nat)(p:Rs)(S:Nat->Value)(sv:List (Value×Value))(w:World)(H:YB w rb sb B s p tb tp S sv)(G:Gp s p)(K:Au s p<=7001)(x:Ae s p.r=36) :
  Calls prog 224 #[.pointer (some ⟨rb,0,none⟩)] w (Ef rb sb B s tb tp S sv w (Ba s (AR s k) p)):=by
 have z:=Fo rb s ⟨#[48,49,50,51,52,53,54,55,56,57]⟩ p.r w H.rd (G.ok I) Md (by decide);rw[Lu,Qx (by omega)]at z;obtain⟨y,t⟩:∃y,Ba s (AR s k) p=y:=⟨_,rfl⟩
 rw[t];unfold Ba at t;rw[if_neg (by omega),if_pos x]at t;have J:tk s (Aa s p.r) 36=nx (Aa s p.r):=by have:=Ew (s:=s) (r:=p.r) (by omega);rw[x]at this;exact this
 obtain⟨n,F⟩:∃n:Nat,p.n=n:=⟨p.n.toNat,by have:=G.n1;omega⟩
 have m:1<=n:=by have:=G.n1;omega
 have q:n<=6:=by have:=G.n6;omega
 have D:Ci s (Aa s p.r):=⟨I,Ze G.le⟩
 have P:Kp (∀a,Zi w a rb (Aa s p.r)->Calls prog 138 #[.pointer (some ⟨rb,0,none⟩),.string ⟨#[36]⟩] a λe v=>e=.returned (.bool true)∧Zi a v rb (Aa s p.r)):=⟨λa T=>by
  have h:=IQ rb s ⟨#[36]⟩ 36 (Aa s p.r) a (H.rd.to T) D (by decide) (by omega);rw[Zs,Z3,x]at h;exact h⟩
 have Q:Kp (∀a,Zi w a rb (Aa s p.r)->Calls prog 137 #[.pointer (some ⟨rb,0,none⟩),.string ⟨#[36]⟩] a λe v=>e=.returned (.int .i64 0)∧Zi a v rb (nx (Aa s p.r))):=⟨λa T=>by
  have h:=ZP rb s ⟨#[36]⟩ 36 (Aa s p.r) a (H.rd.to T) D (by decide) (by omega);rw[J]at h;exact h⟩
 obtain⟨d,hd⟩:∃d,AW s (nx (Aa s p.r)) 0 ((n:Int)-1)=d:=⟨_,rfl⟩
 obtain⟨u,i⟩:∃u,An s (nx (Aa s p.r)) 0 ((n:Int)-1)=u:=⟨_,rfl⟩
 have O:Kp (∀a,Zi w a rb (nx (Aa s p.r))->Calls prog 139 #[.pointer (some ⟨rb,0,none⟩)] a λe v=>e=.returned (.int .i64 d)∧Zi a v rb u):=⟨λa T=>by
  rw[<-hd,<-i];have C:=H.rdto T;have M:a.cell? ⟨sb,0,none⟩=some (.int .i64 n):=by rw[<-F];exact C.cn
  exact NP rb sb s (nx (Aa s p.r)) n a C.rd ⟨I,Dk (by omega)⟩ C.c3 M m q⟩
 have N:Kp (∀a,Zi w a rb u->Calls prog 225 #[.pointer (some ⟨rb,0,none⟩),.agg #[.int .i64 10,.int .i64 d,.int .i64 0,.int .i64 0]] a (Ef rb sb B s tb tp S sv a y)):=⟨λa T=>by
  rw[<-t,F,hd,i];exact MJ rb sb B s tb tp {p with r:=u} S sv ⟨10,d,0,0⟩ a (H.rdto T) (by have:=My K;show p.ex.length<=10000;omega)⟩
 replace z:=Z_ z;clear t H G K x J F m q D hd i;go_in;go_wp2_with fail;refine z.o.mono ?_;rintro e a ⟨rfl,j⟩;replace j:=Z_ j;go_wp2_with fail;refine(P.o _ j.o).mono ?_;rintro e R ⟨rfl,b⟩;have c:Kp _:=⟨j.o.trans b⟩
 clear b j;go_wp2_with fail;refine(Q.o _ c.o).mono ?_;rintro e U ⟨rfl,b⟩;have f:Kp _:=⟨c.o.trans b⟩
 clear b c;go_wp2_with fail;refine(O.o _ f.o).mono ?_;rintro e V ⟨rfl,b⟩;have l:Kp _:=⟨f.o.trans b⟩
 clear b f;go_wp2_with fail;refine(N.o _ l.o).mono ?_;rintro e W ⟨rfl,L,A,E⟩;replace A:=Z_ A;replace E:=Z_ E;go_wp2;go_ret;exact⟨rfl,L,A.o,(ZW.rd l.o).trans E.o⟩
theorem Zq8(rb sb B:Nat)(s tb:ZB)(tp:Value)(K:s.size<=300)(k:Nat)(X:Kp (Mq rb sb B s tb tp k))(p:Rs)(S:Nat->Value)(sv:List (Value×Value))(w:World)(H:YB w rb sb B s p tb tp S sv)(G:Gp s p)(W:Ah s p.r<=k)(O:Au s p<=7001)(m:Ae s p.r=40) :
  Calls prog 224 #[.pointer (some ⟨rb,0,none⟩)] w (Ef rb sb B s tb tp S sv w (Ba s (AR s k) p)):=by
 have v:=Fo rb s ⟨#[48,49,50,51,52,53,54,55,56,57]⟩ p.r w H.rd (G.ok K) Md (by decide);rw[Lu,Qx (by omega)]at v;obtain⟨y,c⟩:∃y,Ba s (AR s k) p=y:=⟨_,rfl⟩
 rw[c];unfold Ba at c;rw[if_neg (by omega),if_neg (by omega),if_pos m]at c;have N:tk s (Aa s p.r) 40=nx (Aa s p.r):=by have:=Ew (s:=s) (r:=p.r) (by omega);rw[m]at this;exact this
 have q:Ci s (Aa s p.r):=⟨K,Ze G.le⟩
 have E:Kp (∀a,Zi w a rb (Aa s p.r)->Calls prog 138 #[.pointer (some ⟨rb,0,none⟩),.string ⟨#[36]⟩] a λe i=>e=.returned (.bool false)∧Zi a i rb (Aa s p.r)):=⟨λa T=>by
  have h:=IQ rb s ⟨#[36]⟩ 36 (Aa s p.r) a (H.rd.to T) q (by decide) (by omega);rw[Zs,Z3,m]at h;exact h⟩
 have F:Kp (∀a,Zi w a rb (Aa s p.r)->Calls prog 138 #[.pointer (some ⟨rb,0,none⟩),.string ⟨#[40]⟩] a λe i=>e=.returned (.bool true)∧Zi a i rb (Aa s p.r)):=⟨λa T=>by
  have h:=IQ rb s ⟨#[40]⟩ 40 (Aa s p.r) a (H.rd.to T) q (by decide) (by omega);rw[Zs,Z3,m]at h;exact h⟩
 have U:Kp (∀a,Zi w a rb (Aa s p.r)->Calls prog 137 #[.pointer (some ⟨rb,0,none⟩),.string ⟨#[40]⟩] a λe i=>e=.returned (.int .i64 0)∧Zi a i rb (nx (Aa s p.r))):=⟨λa T=>by
  have h:=ZP rb s ⟨#[40]⟩ 40 (Aa s p.r) a (H.rd.to T) q (by decide) (by omega);rw[N]at h;exact h⟩
 have I:=ZR (s:=s) (r:=p.r) (by omega);have J:=Zt (s:=s) (r:=p.r) (by omega);have C:Gp s {p with r:=nx (Aa s p.r)}:=G.r (Dk (by omega));have P:Au s {p with r:=nx (Aa s p.r)}<=7000:=by rw[Z0 s p (nx (Aa s p.r))];unfold Au at O;omega
 obtain⟨u,x⟩:∃u,AR s k {p with r:=nx (Aa s p.r)}=u:=⟨_,rfl⟩
 rw[x]at c;have V:Kp (∀a,Zi w a rb (nx (Aa s p.r))->Calls prog 193 #[.pointer (some ⟨rb,0,none⟩)] a (Ef rb sb B s tb tp S sv a u)):=⟨λa T=>by
  rw[<-x];exact X.o {p with r:=nx (Aa s p.r)} S sv a (H.rdto T) C (by show Ah s (nx (Aa s p.r))<k;omega) P⟩
 have L:Gp s u.1:=by rw[<-x];exact Kd k _ C
 have R:Kp (∀a M,YB a rb sb B s u.1 tb tp M sv->Calls prog 137 #[.pointer (some ⟨rb,0,none⟩),.string ⟨#[41]⟩] a λe i=>e=.returned (.int .i64 0)∧Zi a i rb (tk s u.1.r 41)):=⟨λa M A=>ZP rb s ⟨#[41]⟩ 41 u.1.r a A.rd (L.ok K) (by decide) (by omega)⟩
 replace v:=Z_ v;replace c:=Z_ c;clear H G W O m N q C P x L I J;go_in;go_wp2_with fail;refine v.o.mono ?_;rintro e a ⟨rfl,j⟩;replace j:=Z_ j;go_wp2_with fail;refine(E.o _ j.o).mono ?_;rintro e Y ⟨rfl,b⟩;have d:Kp _:=⟨j.o.trans b⟩
 clear b j;go_wp2_with fail;refine(F.o _ d.o).mono ?_;rintro e Z ⟨rfl,b⟩;have f:Kp _:=⟨d.o.trans b⟩
 clear b d;go_wp2_with fail;refine(U.o _ f.o).mono ?_;rintro e w4 ⟨rfl,b⟩;have l:Kp _:=⟨f.o.trans b⟩
 clear b f;go_wp2_with fail;refine(V.o _ l.o).mono ?_;rintro e w5 ⟨rfl,Q,n,D⟩;replace n:=Z_ n;replace D:=Z_ D;go_wp2_with fail;refine(R.o _ _ n.o).mono ?_;rintro e w6 ⟨rfl,t⟩;have z:=n.o.rdto t;replace z:=Z_ z;replace t:=Z_ t;go_wp2;go_ret;exact⟨by rw[<-c.o];rfl,Q,by rw[<-c.o];exact z.o,((ZW.rd l.o).trans D.o).trans (ZW.rd t.o)⟩
theorem Zq9(rb sb B:Nat)(s tb:ZB)(tp:Value)(K:s.size<=300)(k:Nat)(p:Rs)(S:Nat->Value)(sv:List (Value×Value))(w:World)(H:YB w rb sb B s p tb tp S sv)(G:Gp s p)(J:Au s p<=7001)(C:¬(48<=Ae s p.r∧Ae s p.r<=57))(D:¬Ae s p.r=36)(E:¬Ae s p.r=40) :
  Calls prog 224 #[.pointer (some ⟨rb,0,none⟩)] w (Ef rb sb B s tb tp S sv w (Ba s (AR s k) p)):=by
 have x:=Fo rb s ⟨#[48,49,50,51,52,53,54,55,56,57]⟩ p.r w H.rd (G.ok K) Md (by decide);rw[Lu,Qx C]at x;obtain⟨y,m⟩:∃y,Ba s (AR s k) p=y:=⟨_,rfl⟩
 rw[m];unfold Ba at m;rw[if_neg C,if_neg D,if_neg E]at m;have v:Ci s (Aa s p.r):=⟨K,Ze G.le⟩
 have F:Kp (∀a,Zi w a rb (Aa s p.r)->Calls prog 138 #[.pointer (some ⟨rb,0,none⟩),.string ⟨#[36]⟩] a λe t=>e=.returned (.bool false)∧Zi a t rb (Aa s p.r)):=⟨λa T=>by
  have h:=IQ rb s ⟨#[36]⟩ 36 (Aa s p.r) a (H.rd.to T) v (by decide) (by omega);rw[Zs,Z3,Qf.2 D]at h;exact h⟩
 have I:Kp (∀a,Zi w a rb (Aa s p.r)->Calls prog 138 #[.pointer (some ⟨rb,0,none⟩),.string ⟨#[40]⟩] a λe t=>e=.returned (.bool false)∧Zi a t rb (Aa s p.r)):=⟨λa T=>by
  have h:=IQ rb s ⟨#[40]⟩ 40 (Aa s p.r) a (H.rd.to T) v (by decide) (by omega);rw[Zs,Z3,Qf.2 E]at h;exact h⟩
 obtain⟨q,i⟩:∃q,varI s p.r p.ls=q:=⟨_,rfl⟩
 obtain⟨n,f⟩:∃n,AD s p.r p.ls=n:=⟨_,rfl⟩
 have N:Kp (∀a,Zi w a rb (Aa s p.r)->Calls prog 195 #[.pointer (some ⟨rb,0,none⟩)] a λe t=>e=.returned (.int .i64 (q:Nat))∧Zi a t rb n):=⟨λa T=>by
  rw[<-i,<-f];have u:=H.rdto T;have h:=P9 rb sb s (Aa s p.r) p.ls a u.rd v u.c3 u.ne u.cl ⟨G.ll,G.lb⟩;rw[Lm,GN]at h;exact h⟩
 have M:Kp (∀a,Zi w a rb n->Calls prog 225 #[.pointer (some ⟨rb,0,none⟩),.agg #[.int .i64 1,.int .i64 (q:Nat),.int .i64 0,.int .i64 0]] a (Ef rb sb B s tb tp S sv a y)):=⟨λa T=>by
  rw[<-m,i,f];exact MJ rb sb B s tb tp {p with r:=n} S sv ⟨1,q,0,0⟩ a (H.rdto T) (by have:=My J;show p.ex.length<=10000;omega)⟩
 replace x:=Z_ x;clear m H G J C D E v i f;go_in;go_wp2_with fail;refine x.o.mono ?_;rintro e a ⟨rfl,j⟩;replace j:=Z_ j;go_wp2_with fail;refine(F.o _ j.o).mono ?_;rintro e O ⟨rfl,b⟩;have c:Kp _:=⟨j.o.trans b⟩
 clear b j;go_wp2_with fail;refine(I.o _ c.o).mono ?_;rintro e P ⟨rfl,b⟩;have d:Kp _:=⟨c.o.trans b⟩
 clear b c;go_wp2_with fail;refine(N.o _ d.o).mono ?_;rintro e Q ⟨rfl,b⟩;have l:Kp _:=⟨d.o.trans b⟩
 clear b d;go_wp2_with fail;refine(M.o _ l.o).mono ?_;rintro e R ⟨rfl,L,z,A⟩;replace z:=Z_ z;replace A:=Z_ A;go_wp2;go_ret;exact⟨rfl,L,z.o,(ZW.rd l.o).trans A.o⟩
theorem Sa(rb sb B:Nat)(s tb:ZB)(tp:Value)(b:s.size<=300)(k:Nat)(h:Kp (Mq rb sb B s tb tp k))(p:Rs)(S:Nat->Value)(sv:List (Value×Value))(w:World)(H:YB w rb sb B s p tb tp S sv)(G:Gp s p)(f:Ah s p.r<=k)(a:Au s p<=7001) :
  Calls prog 224 #[.pointer (some ⟨rb,0,none⟩)] w (Ef rb sb B s tb tp S sv w (Ba s (AR s k) p)):=by
 by_cases c:48<=Ae s p.r∧Ae s p.r<=57
 ·exact Zq6 rb sb B s tb tp b k p S sv w H G a c
 ·by_cases d:Ae s p.r=36
  ·exact Zq7 rb sb B s tb tp b k p S sv w H G a d
  ·by_cases e:Ae s p.r=40
   ·exact Zq8 rb sb B s tb tp b k h p S sv w H G f a e
   ·exact Zq9 rb sb B s tb tp b k p S sv w H G a c d e
theorem JH(rb sb B:Nat)(s tb:ZB)(tp:Value)(Q:s.size<=300):∀k,Mq rb sb B s tb tp k
 | 0=>λp S sv w H G hk hp=>by omega
 | k+1=>by
  have ih:Kp (Mq rb sb B s tb tp k):=⟨JH rb sb B s tb tp Q k⟩
  intro p S sv w H G hk hp;obtain⟨q,f⟩:∃q,Ba s (AR s k) p=q:=⟨_,rfl⟩
  have z:=Sa rb sb B s tb tp Q k ih p S sv w H G (by omega) (by omega);rw[f]at z;have hQ:AR s (k+1) p=BV s (Ba s (AR s k)) k q:=by simp only[AR];rw[f]
  rw[hQ];have G0:Kp (Gp s q.1):=⟨by rw[<-f];exact Nf (Kd k) G⟩
  have p0:Kp (Au s q.1<=7001):=⟨by rw[<-f];exact Qg (MC s _ (KY s k) p) (by omega)⟩
  have r0:Kp (Ah s q.1.r<=k):=⟨by rw[<-f];exact Qg (Sk s k p (by omega)) (by omega)⟩
  have hO:Kp (∀(x:Rs) c t,YB c rb sb B s x tb tp t sv->Gp s x->Calls prog 138 #[.pointer (some ⟨rb,0,none⟩),.string ⟨#[43,45,42,60,126]⟩] c λe w'=>e=.returned (.bool (AK (Ae s x.r) != 0))∧Zi c w' rb (Aa s x.r)):=⟨λx c t A Gx=>by
   have h:=Fo rb s ⟨#[43,45,42,60,126]⟩ x.r c A.rd (Gx.ok Q) VP (by decide);rw[(OY s x.r).1]at h;exact h⟩
  obtain⟨l,d⟩:∃l,BV s (Ba s (AR s k)) k q=l:=⟨_,rfl⟩
  rw[d];replace z:=Z_ z;replace d:=Z_ d;clear H G hk hp f hQ;go_in;go_wp2_with fail;refine z.o.mono ?_;rintro e c ⟨rfl,t,K,V⟩;replace K:=Z_ K;replace V:=Z_ V;clear z;go_wp2_with fail;refine(hO.o q.1 _ _ K.o G0.o).mono ?_;rintro e w2 ⟨rfl,L⟩;replace L:=Z_ L;go_wp2_with fail;go_loopg [3,4] (Ah s q.1.r) (λgm ev mv wr=>∃(j:Nat) (x:Rs×Nat) (C:Nat->Value),ev=.int .i64 (x.2:Nat)∧mv=.bool (AK (Ae s x.1.r) != 0)∧Kp (YB wr rb sb B s {x.1 with r:=Aa s x.1.r} tb tp C sv)∧Kp (Gp s x.1)∧Kp (Au s x.1<=7001)∧Kp (Ah s x.1.r<=j∧Ah s x.1.r<=k)∧Kp (BV s (Ba s (AR s k)) j x=l)∧Kp (ZW rb sb S C w wr)∧Kp (gm=Ah s x.1.r));case atStart=>exact⟨k,q,t,rfl,rfl,⟨K.o.rdto L.o⟩,G0,p0,⟨r0.o,r0.o⟩,d,⟨V.o.trans (ZW.rd L.o)⟩,⟨rfl⟩⟩
  case round=>
   clear K V L G0 p0 r0 d;obtain⟨j,⟨a,J⟩,C,rfl,rfl,M,E,N,O,Z,z,hm⟩:=hrel;have M:Kp (YB wr rb sb B s {a with r:=Aa s a.r} tb tp C sv):=M;have E:Kp (Gp s a):=E;have N:Kp (Au s a<=7001):=N;have O:Kp (Ah s a.r<=j∧Ah s a.r<=k):=O;have hm:Kp (gk=Ah s a.r):=hm;show Code.wp _ _ _ _ _;by_cases y:AK (Ae s a.r)=0
   ·have Y:Kp (l=({a with r:=Aa s a.r},J)):=⟨by
     rw[<-Z.o];cases j with
     | zero=>rfl
     | succ j=>simp only[BV];rw[if_pos y]⟩
    have P:(AK (Ae s (a,J).1.r) != 0)=false:=by show (AK (Ae s a.r) != 0)=false;rw[y];rfl
    rw[P];clear E N O Z hm y P;go_wp2;go_ret;exact⟨by rw[Y.o];rfl,C,by rw[Y.o];exact M.o,z.o⟩
   ·have b:=Ib y;have ab:=ZR (s:=s) (r:=a.r) b.1;have ad:=Zt (s:=s) (r:=a.r) b.1;have hj:=O.o;obtain⟨j,rfl⟩:∃i,j=i+1:=⟨j-1,by omega⟩
    have Gn:Gp s {a with r:=nx (Aa s a.r)}:=E.o.r (Dk b.1);have pn:Au s {a with r:=nx (Aa s a.r)}<=6994:=by rw[Z0 s a (nx (Aa s a.r))];have:=N.o;unfold Au at this;omega
    have Oa:Ci s (Aa s a.r):=⟨Q,Ze E.o.le⟩
    obtain⟨n,m⟩:∃n,AK (Ae s a.r)=n:=⟨_,rfl⟩
    have hK:Kp (Calls prog 137 #[.pointer (some ⟨rb,0,none⟩),.string ⟨#[43,45,42,60,126]⟩] wr λe w'=>e=.returned (.int .i64 (n-3))∧Zi wr w' rb (nx (Aa s a.r))):=⟨by
     have h:=IL rb s ⟨#[43,45,42,60,126]⟩ (Aa s a.r) wr M.o.rd Oa VP (by decide);have Y:C6 s ⟨#[43,45,42,60,126]⟩ (Aa s a.r)=true:=by have:=(OY s (Aa s a.r)).1;rw[Zs]at this;rw[this];exact QO.2 y
     rw[Y,Zs,(OY s a.r).2 y,MT,m]at h;exact h⟩
    obtain⟨u,F⟩:∃u,Ba s (AR s k) {a with r:=nx (Aa s a.r)}=u:=⟨_,rfl⟩
    have aa:Kp (∀c,Zi wr c rb (nx (Aa s a.r))->Calls prog 224 #[.pointer (some ⟨rb,0,none⟩)] c (Ef rb sb B s tb tp C sv c u)):=⟨λc T=>by
     rw[<-F];exact Sa rb sb B s tb tp Q k ih {a with r:=nx (Aa s a.r)} C sv c (M.o.rdto T) Gn (by show Ah s (nx (Aa s a.r))<=k;omega) (by omega)⟩
    have Gu:Gp s u.1:=by rw[<-F];exact Nf (Kd k) Gn
    have pu:Au s u.1<=6995:=by rw[<-F];exact Qg (MC s _ (KY s k) _) (by omega)
    have ru:Ah s u.1.r<=Ah s (nx (Aa s a.r)):=by rw[<-F];exact Sk s k {a with r:=nx (Aa s a.r)} (by show Ah s (nx (Aa s a.r))<=k;omega)
    obtain⟨v,I⟩:∃v,Cl u.1 u.1.r ⟨n,0,J,u.2⟩=v:=⟨_,rfl⟩
    have D:BV s (Ba s (AR s k)) j v=l:=by rw[<-Z.o,<-I,<-m];simp only[BV];rw[if_neg y,F]
    have R:v.1.r=u.1.r:=by rw[<-I];rfl
    have Gv:Kp (Gp s v.1):=⟨by rw[<-I];exact Gu.nod Gu.le _⟩
    have pv:Kp (Au s v.1<=7001):=⟨by rw[<-I,K9];unfold Au at pu;omega⟩
    have rv:Kp (Ah s v.1.r<=j∧Ah s v.1.r<=k∧Ah s v.1.r<Ah s a.r):=⟨by rw[R];omega⟩
    have hE:Kp (∀c t,YB c rb sb B s u.1 tb tp t sv->Calls prog 225 #[.pointer (some ⟨rb,0,none⟩),.agg #[.int .i64 n,.int .i64 0,.int .i64 (J:Nat),.int .i64 (u.2:Nat)]] c (Ef rb sb B s tb tp t sv c v)):=⟨λc t A=>by
     rw[<-I];exact MJ rb sb B s tb tp u.1 t sv ⟨n,0,J,u.2⟩ c A (by have:=My pu;omega)⟩
    have ae:3<=n:=by rw[<-m];exact b.2.1
    have af:n<=7:=by rw[<-m];exact b.2.2
    have P:(AK (Ae s (a,J).1.r) != 0)=true:=QO.2 y;rw[P];replace D:=Z_ D;clear P y b ab ad hj Gn pn Gu pu ru Z E N O F I R m Oa;go_wp2_with fail;refine hK.o.mono ?_;rintro e w3 ⟨rfl,W⟩;replace W:=Z_ W;go_wp2_with fail;refine(aa.o _ W.o).mono ?_;rintro e w4 ⟨rfl,S4,A4,T4⟩;replace A4:=Z_ A4;replace T4:=Z_ T4;have ag:(3:Int)+(n-3)=n:=by omega
    go_wp2_with fail;refine(hE.o _ _ A4.o).mono ?_;rintro e w5 ⟨rfl,S5,U,T5⟩;replace U:=Z_ U;replace T5:=Z_ T5;go_wp2_with fail;refine(hO.o _ _ _ U.o Gv.o).mono ?_;rintro e w6 ⟨rfl,X⟩;replace X:=Z_ X;go_wp2_with fail;go_roundg (Ah s v.1.r);case measure=>have h1:=hm.o;have h2:=rv.o;omega
    case rel=>exact⟨j,v,S5,rfl,rfl,⟨U.o.rdto X.o⟩,Gv,pv,⟨rv.o.1,rv.o.2.1⟩,D,⟨(z.o.trans (ZW.rd W.o)).trans (T4.o.trans (T5.o.trans (ZW.rd X.o)))⟩,⟨rfl⟩⟩
def Js(rb sb B:Nat)(s tb:ZB)(tp:Value)(S:Nat->Value)(sv:List (Value×Value))(w:World)(z:Rs×Nat)(e:Ending)(w':World):Prop:=
 e=.returned (.int .i64 (z.2:Nat))∧∃S' sv',YB w' rb sb B s z.1 tb tp S' sv'∧ZW rb sb S S' w w'∧DM w sv sv'
def IA(rb sb B:Nat)(s tb:ZB)(tp:Value)(S:Nat->Value)(sv:List (Value×Value))(w:World)(z:Rs×List Nat)(e:Ending)(w':World):Prop:=
 ∃v,e=.returned v∧∃S' sv',YB w' rb sb B s z.1 tb tp S' sv'∧ZW rb sb S S' w w'∧DM w sv sv'∧BD w' B S' v z.2∧∀k,v.ownBlock=some k->w.heap.size<=k∧¬HI sv' k
def Ho(rb sb B:Nat)(s tb:ZB)(tp:Value)(k:Nat):Prop:=∀(p:Rs) (S:Nat->Value) (sv:List (Value×Value)) (w:World),YB w rb sb B s p tb tp S sv->Gp s p->CU (Ae s p.r)=true->Ah s p.r<k->Au s p<=6000->
 Calls prog 141 #[.pointer (some ⟨rb,0,none⟩)] w (Js rb sb B s tb tp S sv w (Al s k p))
theorem Zra:(prog.info? 3).map (λi=>(i.zero,i.size,i.bytes))=some (some (.int .i64 0),1,8):=by kernel_rfl
theorem Zpb{h t i:World}{m f:Value}{L:List Nat}{n:Nat}(A:YB h rb sb B s p tb tp S sv)(T:ZW rb sb S0 S w h)(q:BD h B S m L)(hF:∀k,m.ownBlock=some k->w.heap.size<=k∧¬HI sv k)
  (r:Below h.heap.size h t) (u:t.grownBy i m.ownBlock) (d:i.ownsRow B 3 1 f (L.length+1) (IE L++[.int .i64 (n:Nat)])) (b:f.ownBlock=m.ownBlock∨f.ownBlock=some t.heap.size) :
  YB i rb sb B s p tb tp S sv∧ZW rb sb S0 S w i∧BD i B S f (L++[n])∧∀k,f.ownBlock=some k->w.heap.size<=k∧¬HI sv k:=by
 have C:=r.size;have E:=A.b0;have F:=A.b1;have D:=T.size;refine⟨(A.step r).grow u λg e=>?_,(T.trans (ZW.below r)).grow u λg e=>(hF g e).1,⟨?_,λk a j l e=>?_⟩,λk a=>?_⟩
 ·have:=(q.1.lt g e).1;exact⟨by omega,by omega,λj l=>q.2 g e j l,(hF g e).2⟩
 ·have v:(L++[n]).length=L.length+1:=by rw[Qe];rfl
  have x:IE (L++[n])=IE L++[.int .i64 (n:Nat)]:=by unfold IE;rw[QK];rfl
  rw[v,x];exact d
 ·rcases b with c|c
  ·exact q.2 k (by rw[<-c];exact a) j l e
  ·rw[c]at a;have y:=Option.some.inj a;have z:=((A.o j l).lt k e).2;omega
 ·rcases b with c|c
  ·exact hF k (by rw[<-c];exact a)
  ·rw[c]at a;have y:=Option.some.inj a;refine⟨by omega,λe=>?_⟩;have z:=(A.fin e).2;omega
theorem Sb(rb sb B:Nat)(s tb:ZB)(tp:Value)(hs:s.size<=300)(k O:Nat)(ih:Kp (Ho rb sb B s tb tp k))(p:Rs)(S:Nat->Value)(sv:List (Value×Value))(w:World)(H:YB w rb sb B s p tb tp S sv)(G:Gp s p)(n:Ah s p.r<=O)(t:Ah s p.r<k)(Y:Au s p<=6000) :
  Calls prog 73 #[.pointer (some ⟨rb,0,none⟩)] w (IA rb sb B s tb tp S sv w (AV s (Al s k) O p [])):=by
 obtain⟨i0,aa,ae,af,ag⟩:=AX Zra;have hO:Kp (∀(x:Rs) J S1 Q,YB J rb sb B s x tb tp S1 Q->Gp s x->Calls prog 138 #[.pointer (some ⟨rb,0,none⟩),.string ⟨#[97,98,99,100,101,102,103,104,62,63,64]⟩] J λe w'=>e=.returned (.bool (CU (Ae s x.r)))∧Zi J w' rb (Aa s x.r)):=⟨λx J S1 Q A Gx=>by
  have h:=Fo rb s ⟨#[97,98,99,100,101,102,103,104,62,63,64]⟩ x.r J A.rd (Gx.ok hs) ZtC (by decide);rw[Zrm]at h;exact h⟩
 obtain⟨d,a⟩:∃d,AV s (Al s k) O p []=d:=⟨_,rfl⟩
 rw[a];have E:Ah s p.r<=300:=Qg (Z5 s p.r) hs;have H0:Kp _:=⟨H⟩
 have G0:Kp _:=⟨G⟩
 have R0:Kp (Ah s p.r<=O∧Ah s p.r<k):=⟨n,t⟩
 replace Y:=Z_ Y;replace a:=Z_ a;replace E:=Z_ E;clear H G n t;go_in;go_wp2_with fail;refine(hO.o p _ _ _ H0.o G0.o).mono ?_;rintro e J ⟨rfl,K⟩;replace K:=Z_ K;go_wp2_with fail;go_loopg [3,4] (Ah s p.r) (λgm lw mv wr=>∃(P:Value) (j:Nat) (x:Rs) (L:List Nat) (y:Nat->Value) (b:List (Value×Value)),P=lw∧mv=.bool (CU (Ae s x.r))∧Kp (YB wr rb sb B s {x with r:=Aa s x.r} tb tp y b)∧Kp (Gp s x)∧Kp (Au s x<=6000)∧Kp (Ah s x.r<=j∧Ah s x.r<k∧L.length+Ah s x.r<=Ah s p.r)∧Kp (AV s (Al s k) j x L=d)∧Kp (ZW rb sb S y w wr)∧Kp (DM w sv b)∧Kp (BD wr B y P L∧∀k,P.ownBlock=some k->w.heap.size<=k∧¬HI b k)∧Kp (gm=Ah s x.r));case atStart=>exact⟨_,O,p,[],S,sv,rfl,rfl,⟨H0.o.rdto K.o⟩,G0,Y,⟨R0.o.1,R0.o.2,by simp⟩,a,⟨ZW.rd K.o⟩,⟨DM.refl _ _⟩,⟨BD.nil _ _ _,λk t=>by cases t⟩,⟨rfl⟩⟩
 case round=>
  clear H0 G0 Y R0 a K;obtain⟨P,j,x,L,y,b,ad,rfl,hA,U,hP,W,V,X,hN,q,hm⟩:=hrel;subst ad;by_cases m:CU (Ae s x.r)=true
  ·have ht:=Pf m;have ab:Ah s (Al s k {x with r:=Aa s x.r}).1.r<Ah s x.r:=by have h1:=UF s k {x with r:=Aa s x.r} (by show Ah s (Aa s x.r)<k;have:=Zu s x.r;have:=W.o;omega) (by show Ae s (Aa s x.r)≠0;rw[Zs];exact ht);have h2:Ah s ({x with r:=Aa s x.r}:Rs).r=Ah s (Aa s x.r):=rfl;have:=Zu s x.r;omega
   have n:=W.o;obtain⟨j,rfl⟩:∃i,j=i+1:=⟨j-1,by omega⟩
   have Ga:Gp s {x with r:=Aa s x.r}:=U.o.r (Ze U.o.le);have pa:Au s {x with r:=Aa s x.r}<=6000:=Qg (GW (Zh _ _)) hP.o;have C:AV s (Al s k) j (Al s k {x with r:=Aa s x.r}).1 (L++[(Al s k {x with r:=Aa s x.r}).2])=d:=by rw[<-V.o];simp only[AV];rw[if_pos m]
   have hS:Kp (Calls prog 141 #[.pointer (some ⟨rb,0,none⟩)] wr (Js rb sb B s tb tp y b wr (Al s k {x with r:=Aa s x.r}))):=⟨ih.o {x with r:=Aa s x.r} y b wr hA.o Ga (by show CU (Ae s (Aa s x.r))=true;rw[Zs];exact m) (by show Ah s (Aa s x.r)<k;have:=Zu s x.r;omega) pa⟩
   have Gn:Kp (Gp s (Al s k {x with r:=Aa s x.r}).1):=⟨Fs k _ Ga⟩
   have pn:Kp (Au s (Al s k {x with r:=Aa s x.r}).1<=6000):=⟨Qg (Hy s k _ (by show (Aa s x.r).er=0;rw[Zl];exact(Z8 ht).1)) pa⟩
   have aj:L.length<=300:=by have:=E.o;omega
   have Z:Kp (Ah s (Al s k {x with r:=Aa s x.r}).1.r<=j∧Ah s (Al s k {x with r:=Aa s x.r}).1.r<k∧(L++[(Al s k {x with r:=Aa s x.r}).2]).length+Ah s (Al s k {x with r:=Aa s x.r}).1.r<=Ah s p.r∧Ah s (Al s k {x with r:=Aa s x.r}).1.r<Ah s x.r):=⟨by
    rw[Qe];simp only[Qt,Qy];omega⟩
   generalize Al s k {x with r:=Aa s x.r}=z at *;rw[m];replace C:=Z_ C;clear m ht ab n Ga pa V U hP W;go_wp2_with fail;refine hS.o.mono ?_;rintro e w2 ⟨rfl,S2,F,v,T2,N2⟩;have I:=q.o.1.to T2 v.b0 v.b1;have R:∀k,P.ownBlock=some k->w.heap.size<=k∧¬HI F k:=λk t=>⟨(q.o.2 k t).1,λe=>by
    rcases N2 k e with c|c
    ·exact(q.o.2 k t).2 c
    ·have:=(q.o.1.1.lt k t).2;omega⟩
   have T:=X.o.trans T2;have N3:Kp (DM w sv F):=⟨hN.o.trans N2 X.o.size⟩
   have ai:=v.hB;replace v:=Z_ v;replace T:=Z_ T;replace I:=Z_ I;replace R:=Z_ R;clear T2 N2 hS hA X hN q;obtain⟨pp,cc,rfl⟩:=Zc I.o.1;go_wp2_with (at_builtin;refine wpList_append_own_at _ rfl _ _ 69 rfl B 3 i0 (.int .i64 0) 1 8 Tryz.underlying69 aa ae af ag rfl (by decide) _ L.length (IE L) rfl (I.o.1.alloc _) ⟨w2.heap.size,0,none⟩ 1 1 [.int .i64 (z.2:Nat)] rfl rfl ?a1 ?a2 ?a3 ?a4 ?a5 ?_)
   case a1=>
    intro j u n;match j,n with
    | 0,n=>simp at n;subst n;simp[Addr.add]
   case a2=>intro u hu;simp at hu;subst hu;rfl
   case a3=>unfold maxLen;omega
   case a4=>omega
   case a5=>simp;omega
   intro v' w3 l f _ N;have D:=Zpb v.o T.o I.o R.o ((Below.refl _ _).alloc (Nat.le_refl _) _) f l (by simpa using N);obtain⟨ak,ah,rfl⟩:=Zc l;replace D:=Z_ D;clear l f N v T I R;go_wp2_with fail;refine(hO.o _ _ _ _ D.o.1 Gn.o).mono ?_;rintro e w4 ⟨rfl,M⟩;replace M:=Z_ M;go_wp2_with fail;go_roundg (Ah s z.1.r);case measure=>have h1:=hm.o;have h2:=Z.o;omega
   case rel=>have A3:=D.o.1;exact⟨_,j,z.1,L++[z.2],S2,F,rfl,rfl,⟨A3.rdto M.o⟩,Gn,pn,⟨Z.o.1,Z.o.2.1,Z.o.2.2.1⟩,C,⟨D.o.2.1.trans (ZW.rd M.o)⟩,N3,⟨D.o.2.2.1.to (ZW.rd M.o) A3.b0 A3.b1,D.o.2.2.2⟩,⟨rfl⟩⟩
  ·have m:CU (Ae s x.r)=false:=by simpa using m
   have e1:Kp (d=({x with r:=Aa s x.r},L)):=⟨by
    rw[<-V.o];cases j with
    | zero=>rfl
    | succ j=>simp only[AV];rw[if_neg (by rw[m];simp)]⟩
   rw[m];clear U hP W V hm m;obtain⟨pp,cc,rfl⟩:=Zc q.o.1.1;go_wp2;go_ret;exact⟨_,rfl,y,b,by rw[e1.o];exact hA.o,X.o,hN.o,by rw[e1.o];exact q.o.1,q.o.2⟩
theorem Mz(rb sb B:Nat)(s tb:ZB)(tp:Value)(x:s.size<=300)(k:Nat)(M:Kp (Ho rb sb B s tb tp k))(p:Rs)(S:Nat->Value)(sv:List (Value×Value))(w:World)(H:YB w rb sb B s p tb tp S sv)(G:Gp s p)(i:Ah s p.r<k)(E:Au s p<=6000) :
  Calls prog 194 #[.pointer (some ⟨rb,0,none⟩)] w (IA rb sb B s tb tp S sv w (AO s (Al s k) k p)):=by
 have u:=ZP rb s ⟨#[123]⟩ 123 p.r w H.rd (G.ok x) (by decide) (by omega);have n:Gp s {p with r:=tk s p.r 123}:=G.r (Z4 G.le (by omega));have I:Au s {p with r:=tk s p.r 123}<=6000:=Qg (GW (ZT _ _ _)) E;have F:Ah s (tk s p.r 123)<k:=by have:=DS s p.r 123;omega
 obtain⟨a,b⟩:∃a,AV s (Al s k) k {p with r:=tk s p.r 123} []=a:=⟨_,rfl⟩
 have L:Kp (∀c,Zi w c rb (tk s p.r 123)->Calls prog 73 #[.pointer (some ⟨rb,0,none⟩)] c (IA rb sb B s tb tp S sv c a)):=⟨λc T=>by
  rw[<-b];exact Sb rb sb B s tb tp x k k M {p with r:=tk s p.r 123} S sv c (H.rdto T) n (by show Ah s (tk s p.r 123)<=k;omega) F I⟩
 have D:AO s (Al s k) k p=({a.1 with r:=tk s a.1.r 125},a.2):=by unfold AO;rw[b]
 rw[D];have z:Gp s a.1:=by rw[<-b];exact LF (Fs k) k _ _ n
 have K:Kp (∀c C j,YB c rb sb B s a.1 tb tp C j->Calls prog 137 #[.pointer (some ⟨rb,0,none⟩),.string ⟨#[125]⟩] c λe N=>e=.returned (.int .i64 0)∧Zi c N rb (tk s a.1.r 125)):=⟨λc C j A=>ZP rb s ⟨#[125]⟩ 125 a.1.r c A.rd (z.ok x) (by decide) (by omega)⟩
 replace u:=Z_ u;clear H G i E D z b n I F;go_in;go_wp2_with fail;refine u.o.mono ?_;rintro e c ⟨rfl,f⟩;replace f:=Z_ f;go_wp2_with fail;refine(L.o _ f.o).mono ?_;rintro e Q ⟨v,rfl,J,y,d,t,q,l,m⟩;replace d:=Z_ d;replace t:=Z_ t;replace q:=Z_ q;replace m:=Z_ m;replace l:=Z_ l;obtain⟨P,O,rfl⟩:=Zc l.o.1;go_wp2_with fail;refine(K.o _ _ _ d.o).mono ?_;rintro e R ⟨rfl,h⟩;replace h:=Z_ h;go_wp2;go_ret;exact⟨_,rfl,J,y,d.o.rdto h.o,((ZW.rd f.o).trans t.o).trans (ZW.rd h.o),λk i=>by rw[<-f.o.size];exact q.o k i,l.o.to (ZW.rd h.o) d.o.b0 d.o.b1,λk i=>by rw[<-f.o.size];exact m.o k i⟩
theorem LP{P Q:Prop}(h:Kp P->Q)(p:P):Q:=h ⟨p⟩
theorem Ly:(prog.info? 123).map (λi=>(i.zero,i.size,i.bytes))=some (some (.agg #[.int .u8 0,.int .i64 0,.int .i64 0,.int .i64 0,.slice none 0 0,.slice none 0 0,.bool false]),7,88):=by kernel_rfl
theorem Dd(w:World)(b c d f h j k:Value)(t:TypeId):AF (w.alloc (.cells #[b,c,d,f,h,j,k] t)) w.heap.size [b,c,d,f,h,j,k]:=by
 refine⟨by simp,?_,?_⟩
 ·intro i v a;have l:i<7:=by have:=(List.getElem?_eq_some_iff.1 a).1;simpa using this
  have e:(w.alloc (.cells #[b,c,d,f,h,j,k] t)).cell? ⟨w.heap.size,i,none⟩=([b,c,d,f,h,j,k]:List Value)[i]?:=by
   match i,l with
   | 0,_=>simp[go_sem]
   | 1,_=>simp[go_sem]
   | 2,_=>simp[go_sem]
   | 3,_=>simp[go_sem]
   | 4,_=>simp[go_sem]
   | 5,_=>simp[go_sem]
   | 6,_=>simp[go_sem]
  rw[e];exact a
 ·intro i v a;have l:i<7:=by have:=(List.getElem?_eq_some_iff.1 a).1;simpa using this
  match i,l with
  | 0,_=>simp[go_sem]
  | 1,_=>simp[go_sem]
  | 2,_=>simp[go_sem]
  | 3,_=>simp[go_sem]
  | 4,_=>simp[go_sem]
  | 5,_=>simp[go_sem]
  | 6,_=>simp[go_sem]
structure DU(w:World)(rb sb B:Nat)(s:ZB)(p:Rs)(tb:ZB)(tp:Value)(S:Nat->Value)(sv:List (Value×Value))(g:Nat)(vs:List Value)(w0:World)(S0:Nat->Value)(sv0:List (Value×Value)):Prop where
 H:YB w rb sb B s p tb tp S sv
 F:Fr rb sb S sv g
 W:AF w g vs
 T:ZW rb sb S0 S w0 w
 N:DM w0 sv0 sv
 g0:w0.heap.size<=g
theorem DU.new{w1:World}(H:YB w rb sb B s p tb tp S sv)(T:ZW rb sb S S w0 w)(a b c d e f h:Value)(t:TypeId) :
  DU (w.alloc (.cells #[a,b,c,d,e,f,h] t)).drew rb sb B s p tb tp S sv w.heap.size [a,b,c,d,e,f,h] w0 S sv:=by
 have i:Below w.heap.size w (w.alloc (.cells #[a,b,c,d,e,f,h] t)).drew:=((Qh _ _).alloc (Qb _) _).drew;exact⟨H.step i,H.new (Qb _),(Dd w a b c d e f h t).step ((Qh _ _).drew),T.trans (ZW.below i),DM.refl _ _,T.size⟩
theorem DU.rd{w':World}{r:Rd}(E:DU w rb sb B s p tb tp S sv g vs w0 S0 sv0)(h:Zi w w' rb r):DU w' rb sb B s {p with r:=r} tb tp S sv g vs w0 S0 sv0:=
 ⟨E.H.rdto h,E.F,E.W.same (h.block g E.F.r) (by rw[h.size];exact Qb _),E.T.trans (ZW.rd h),E.N,E.g0⟩
theorem DU.ps{w':World}{z:Rs}{a:Nat->Value}{sv':List (Value×Value)}(E:DU w rb sb B s p tb tp S sv g vs w0 S0 sv0)(H:YB w' rb sb B s z tb tp a sv')(T:ZW rb sb S a w w')(N:DM w sv sv'):DU w' rb sb B s z tb tp a sv' g vs w0 S0 sv0:=
 ⟨H,E.F.to E.W.lt T N,E.W.same (E.F.same E.W.lt T) T.size,E.T.trans T,E.N.trans N E.T.size,E.g0⟩
theorem DU.set(E:DU w rb sb B s p tb tp S sv g vs w0 S0 sv0)(i:Nat)(x:Value)(b:i<vs.length):DU (w.setCell ⟨g,i,none⟩ x) rb sb B s p tb tp S sv g (vs.set i x) w0 S0 sv0:=
 ⟨E.H.grow (Hq w g i x) (λk a=>by rw[<-Option.some.inj a];exact E.F),E.F,E.W.setv b x,E.T.grow (Hq w g i x) (λk a=>by rw[<-Option.some.inj a];exact E.g0),E.N,E.g0⟩
theorem GP{q f:World}{z:Rs}{x:Sm}{y:Value×Value}{c:Value}(H:YB w rb sb B s z tb tp S sv)(C:BD w B S y.1 x.bo)(D:BD w B S y.2 x.el)(E:Below w.heap.size w q)(F:q.grownBy f (S 1).ownBlock)
  (d:f.ownsRow B 123 7 c (z.sm.length+1) ((List.zip z.sm sv).flatMap BK++BK (x,y))) (n:c.ownBlock=(S 1).ownBlock∨c.ownBlock=some q.heap.size) :
  YB (f.setCell ⟨sb,5,none⟩ c) rb sb B s (Dl z z.r x).1 tb tp (λj=>if j=1 then c else S j) (sv++[y])∧ZW rb sb S (λj=>if j=1 then c else S j) w (f.setCell ⟨sb,5,none⟩ c):=by
 refine YB.told (l:=1) (p':=(Dl z z.r x).1) (sv':=sv++[y]) H (by omega) E F ?_ n rfl rfl rfl rfl (λj o b=>?_) (λj o b=>?_) ?_ (λi u v a e=>?_)
 ·have h:pN (Dl z z.r x).1 1=z.sm.length+1:=by show (z.sm++[x]).length=_;rw[Qe];rfl
  have m:pV (Dl z z.r x).1 (sv++[y]) 1=(List.zip z.sm sv).flatMap BK++BK (x,y):=by show (List.zip (z.sm++[x]) (sv++[y])).flatMap BK=_;rw[List.zip_append H.k.symm,List.flatMap_append];simp
  rw[h,m];exact d
 ·match j,o with
  | 0,_=>rfl
  | 1,_=>exact absurd rfl b
 ·match j,o with
  | 0,_=>rfl
  | 1,_=>exact absurd rfl b
 ·show (sv++[y]).length=(z.sm++[x]).length;rw[Qe,Qe,H.k];rfl
 ·have a:(z.sm++[x])[i]?=some u:=a;by_cases t:i<z.sm.length
  ·rw[QD t]at a;rw[QD (by rw[H.k];exact t)]at e;exact H.i i u v a e
  ·rw[QF (by omega)]at a;rw[QF (by rw[H.k];omega),H.k]at e;by_cases A:i-z.sm.length=0
   ·rw[A]at a e;have h:=Option.some.inj a;have m:=Option.some.inj e;subst h;subst m;exact⟨C,D⟩
   ·rw[Uh (by simp;omega)]at a;cases a
theorem Lz{sv':List (Value×Value)}{y:Value×Value}(h:DM w sv sv')(b:∀k,y.1.ownBlock=some k->w.heap.size<=k)(d:∀k,y.2.ownBlock=some k->w.heap.size<=k):DM w sv (sv'++[y]):=by
 rintro k ⟨u,f,a⟩;rcases QI.1 f with c|c
 ·exact h k ⟨u,c,a⟩
 ·rw[QA.1 c]at a;rcases a with e|e
  ·exact .inr (b k e)
  ·exact .inr (d k e)
end Go.Proofs.YtcnbifdlkalimabGreat
