/- Lemmas; their conditions stand in each. -/
import Derived.Test.YtcnbifdlkalimabGreatTrnD
namespace Go.Proofs.YtcnbifdlkalimabGreat
open Go.RowKit Go.Proofs.Tryz
set_option linter.all false
set_option maxRecDepth 100000
variable{t:Int}{sv:List (Value×Value)}{l ls:List Int}{B g i k m n rb sb:Nat}{S S':Nat->Value}{row:Option Nat}{r:Rd}{p:Rs}{tp v:Value}{w w':World}{P s set tb:ZB}
theorem Kg(h:i<s.size):(bl s)[i]?=some (bv s i):=by unfold bl;rw[Ui,Array.getElem?_toList];have a:i<s.data.size:=h;rw[Array.getElem?_eq_getElem a];show some ((s.data[i].toNat:Nat):Int)=some (bv s i);rw[<-ZJ s i h];rfl
set_option maxHeartbeats 6400000
theorem IR(b:Nat)(s:ZB)(r:Rd)(w:World)(H:Cr w b s r)(O:Ci s r) :
  Calls prog 74 #[.pointer (some ⟨b,0,none⟩)] w λe w'=>e=.returned (.tuple #[])∧Zi w w' b ⟨PT s r.a,r.er⟩:=by
 have V:=O.sz;have C:Kp (Zi w w b r):=⟨Zi.refl H⟩
 have G:Kp _:=⟨H⟩
 have j:Kp (r.a<=s.size):=⟨O.le⟩
 clear H O;go_in;go_wp2_with fail;go_loopg [2] (s.size-r.a) (λg U wr=>∃a:Nat,Kp (PT s a=PT s r.a)∧Kp (a<=s.size)∧Kp (Zi w wr b ⟨a,r.er⟩)∧Kp (g=s.size-a));case atStart=>exact⟨r.a,⟨rfl⟩,j,C,⟨rfl⟩⟩
 case round=>
  clear C j;obtain⟨a,A,j,q,F⟩:=hrel;have f:=G.o.to q.o;have M:=f.c0;have N:wr.cell? ⟨b,1,none⟩=some (.int .i64 a):=f.c1;have Q:=f.f1;by_cases z:a<s.size
  ·have I:decide ((a:Int)<(s.size:Int))=true:=Qv (by omega);have K:(a:Int)<(s.size:Int):=by omega
   have L:=ZJ s a z;obtain⟨x,y⟩:∃x,bv s a=x:=⟨_,rfl⟩
   rw[y]at L;by_cases d:x=32∨x=10
   ·have u:blk (bv s a)=true:=by rw[y];unfold blk;rcases d with h|h<;>rw[h]<;>rfl
    have l:Kp (PT s (a+1)=PT s r.a):=⟨by rw[<-A.o,PE z u]⟩
    have D:=Zi.setA f (a+1);have E:Kp (Zi w (wr.setCell ⟨b,1,none⟩ (.int .i64 ((a:Int)+1))) b ⟨a+1,r.er⟩):=⟨q.o.trans D⟩
    clear f D q u y;rcases d with rfl|rfl
    ·go_wp2_with fail;go_quiet (fail);go_wp2_with fail;go_roundg (s.size-(a+1));case measure=>have:=F.o;omega
     case rel=>exact⟨a+1,l,⟨by omega⟩,⟨E.o.drewN _⟩,⟨rfl⟩⟩
    ·go_wp2_with fail;go_quiet (fail);go_wp2_with fail;go_roundg (s.size-(a+1));case measure=>have:=F.o;omega
     case rel=>exact⟨a+1,l,⟨by omega⟩,⟨E.o.drewN _⟩,⟨rfl⟩⟩
   ·have u:¬(a<s.size∧blk (bv s a)=true):=λc=>by have:=c.2;rw[y]at this;unfold blk at this;simp at this;exact d this
    have l:Kp (PT s r.a=a):=⟨by rw[<-A.o,Kj u]⟩
    have R:(x==32)=false:=Qf.2 λc=>d (.inl c);have T:(x==10)=false:=Qf.2 λc=>d (.inr c)
    clear f u d y;go_wp2_with fail;go_quiet (fail);go_wp2_with fail;first|go_end0|refine Qi (Qp rfl _ _ _) rfl ?_
    exact⟨rfl,by rw[l.o];exact q.o.drewN _⟩
  ·have I:decide ((a:Int)<(s.size:Int))=false:=Qx (by omega);have J:decide (a<s.size)=false:=Qx (by omega);have d:s.size<=a:=by omega
   have l:Kp (PT s r.a=a):=⟨by rw[<-A.o,Kj (λc=>z c.1)]⟩
   clear f z;go_wp2_with fail;go_quiet (fail);go_wp2_with fail;first|go_end0|refine Qi (Qp rfl _ _ _) rfl ?_
   exact⟨rfl,by rw[l.o];exact q.o.drewN _⟩
def C6(s set:ZB)(r:Rd):Bool:=FD (Ae s r) (bl set)
def Fj(set:ZB):Prop:=∀x,x∈bl set->x≠0
theorem Ou(h:Fj set):FD 0 (bl set)=false:=by refine Qx λc=>?_;exact h 0 (Qw (Kl c)) rfl
theorem Fo(b:Nat)(s set:ZB)(r:Rd)(w:World)(H:Cr w b s r)(O:Ci s r)(Y:Fj set)(hl:set.size<=300) :
  Calls prog 138 #[.pointer (some ⟨b,0,none⟩),.string set] w λe w'=>e=.returned (.bool (C6 s set r))∧Zi w w' b (Aa s r):=by
 unfold C6;by_cases d:r.er=0
 ·have z:=IR b s r w H O;have V:Aa s r=⟨PT s r.a,r.er⟩:=by rw[Fp d,d]
  have C:=λ(Z:World) (T:Zi w Z b ⟨PT s r.a,r.er⟩)=>H.to T;have X:Ae s r=here s (Aa s r):=rfl
  have Q:=Vc O.le;have sz:=O.sz;have L:=H.c2;rw[d]at L;rw[X,V];obtain⟨a,W⟩:∃a,PT s r.a=a:=⟨_,rfl⟩
  rw[W]at z C Q ⊢;rw[d]at z C ⊢;clear X V H O W d;obtain⟨x,q⟩:∃x,here s ⟨a,0⟩=x:=⟨_,rfl⟩
  rw[q];replace z:=Z_ z;replace C:=Z_ C;go_in;go_wp2_with fail;refine z.o.mono ?_;rintro e Z ⟨rfl,F⟩;replace F:=Z_ F;clear z L;go_wp2_with fail;go_loopw [5] (λU wr=>∃i:Nat,i<=set.size∧U=.int .i64 i∧Kp (∀j,j<i->(bl set)[j]?≠some x)∧Kp (Zi w wr b ⟨a,0⟩)) (λU _=>set.size-(intOf U).toNat);case atStart=>exact⟨0,by omega,rfl,⟨λj N=>by omega⟩,F⟩
  case round=>
   clear F;obtain⟨i,hi,rfl,l,A⟩:=hrel;have K:=C.o wr A.o;have c0:wr.cell? ⟨b,0,none⟩=some (.string s):=K.c0;have c1:wr.cell? ⟨b,1,none⟩=some (.int .i64 a):=K.c1;clear K;have ah:(set.size:Int)<=300:=by omega
   by_cases G:i<set.size
   ·have d1:decide ((i:Int)<(set.size:Int))=true:=Qv (by omega);have ag:(i:Int)<(set.size:Int):=by omega
    by_cases I:a<s.size
    ·have d2:decide ((a:Int)<(s.size:Int))=true:=Qv (by omega);have af:(a:Int)<(s.size:Int):=by omega
     have hv:=ZJ s a I;have u:bv s a=x:=by rw[<-q];exact(if_pos ⟨rfl,I⟩).symm
     rw[u]at hv;have hu:=ZJ set i G;have D:=Kg G;obtain⟨y,R⟩:∃y,bv set i=y:=⟨_,rfl⟩
     rw[R]at hu D;replace D:=Z_ D;by_cases J:x=y
     ·subst J;have f:Kp (FD x (bl set)=true):=⟨(Is (Nq D.o l.o) (by rw[EK];exact G)).2⟩
      clear l R u q;go_wp2_with fail;go_quiet (fail);go_wp2_with fail;go_quiet (fail);go_wp2;go_ret;exact⟨by rw[f.o];rfl,(A.o.drewN _).drewN _⟩
     ·have k3:(x==y)=false:=Qf.2 J;have M:Kp (∀j,j<i+1->(bl set)[j]?≠some x):=⟨λj N=>by
       by_cases e:j=i
       ·rw[e,D.o];intro h;exact J (Option.some.inj h).symm
       ·exact l.o j (by omega)⟩
      clear l R u q J;go_wp2_with fail;go_quiet (fail);go_wp2_with fail;go_quiet (fail);go_wp2_with fail;go_roundw;case rel=>exact⟨i+1,by omega,by go_num,M,⟨by first|exact(A.o.drewN _).drewN _|exact A.o.drewN _⟩⟩
      case measure=>simp[intOf];omega
    ·have d2:decide ((a:Int)<(s.size:Int))=false:=Qx (by omega);have ab:decide (a<s.size)=false:=Qx (by omega);have ae:s.size<=a:=by omega
     have E:x=0:=by rw[<-q];exact if_neg λc=>I c.2
     have f:Kp (FD x (bl set)=false):=⟨by rw[E];exact Ou Y⟩
     clear l q I E;go_wp2_with fail;go_quiet (fail);go_wp2;go_ret;exact⟨by rw[f.o];rfl,A.o.drewN _⟩
   ·have d1:decide ((i:Int)<(set.size:Int))=false:=Qx (by omega);have aa:decide (i<set.size)=false:=Qx (by omega);have ad:set.size<=i:=by omega
    have f:Kp (FD x (bl set)=false):=⟨(FR (Ia λj N=>l.o j (by rw[EK]at N;omega))).2⟩
    clear l G q;go_wp2_with fail;go_quiet (fail);go_wp2;go_ret;exact⟨by rw[f.o];rfl,A.o.drewN _⟩
 ·have L:=H.c2;have f:FD (Ae s r) (bl set)=false:=by rw[JZ d];exact Ou Y
  have T:Kp (Zi w w b (Aa s r)):=⟨by rw[ZD d];exact Zi.refl H⟩
  rw[f];have hk:(r.er != 0)=true:=QO.2 d;generalize r.er=er at *;clear H O f d;go_in;go_wp2;go_ret;exact⟨rfl,T.o⟩
theorem IL(b:Nat)(s set:ZB)(r:Rd)(w:World)(H:Cr w b s r)(O:Ci s r)(hz:Fj set)(hl:set.size<=300) :
  Calls prog 137 #[.pointer (some ⟨b,0,none⟩),.string set] w λe w'=>e=.returned (.int .i64 (DW (Ae s r) (bl set):Nat))∧Zi w w' b (BW s r (C6 s set r) 11):=by
 have f:=Fo b s set r w H O hz hl;have sz:=O.sz;have ae:(set.size:Int)<=300:=by omega
 cases F:C6 s set r with
 | true=>
  rw[F]at f;have z:fnd (Ae s r) (bl set)<(bl set).length:=QB F;have V:Ae s r≠0:=λc=>by have h1:=Ou hz;unfold C6 at F;rw[c,h1]at F;simp at F
  have d:=Z8 V;have M:BW s r true 11=nx (Aa s r):=if_pos rfl;rw[M];have l:=λ(D:World) (T:Zi w D b (Aa s r))=>H.to T;have C:bv s (Aa s r).a=Ae s r:=(if_pos ⟨by rw[Zl];exact d.1,d.2⟩:here s (Aa s r)=_).symm
  have Q:DW (Ae s r) (bl set)=fnd (Ae s r) (bl set):=if_pos z;rw[Q];have I:=Kl z;have u:∀j,j<fnd (Ae s r) (bl set)->(bl set)[j]?≠some (Ae s r):=λj hj=>KI hj;rw[EK]at z;have E:=d.2
  have G:(Aa s r).er=0:=by rw[Zl];exact d.1
  obtain⟨K,A⟩:∃K,Aa s r=K:=⟨_,rfl⟩
  rw[A]at f l C E G ⊢;obtain⟨a,J⟩:=K;have G:J=0:=G;subst G;have E:a<s.size:=E;have C:bv s a=Ae s r:=C;have hv:=ZJ s a E;rw[C]at hv;obtain⟨i,R⟩:∃i,fnd (Ae s r) (bl set)=i:=⟨_,rfl⟩
  rw[R]at I u z ⊢;have N:=Kg z;obtain⟨x,hx⟩:∃x,Ae s r=x:=⟨_,rfl⟩
  rw[hx]at hv I u;have aa:bv set i=x:=Option.some.inj (N.symm.trans I);have ab:(a:Int)<(s.size:Int):=by omega
  replace f:=Z_ f;replace l:=Z_ l;replace u:=Z_ u;clear F V d M C Q A R hx H O I N;go_in;go_wp2_with fail;refine f.o.mono ?_;rintro e D ⟨rfl,q⟩;have h:=l.o _ q;have c0:=h.c0;have c1:D.cell? ⟨b,1,none⟩=some (.int .i64 a):=h.c1;have f1:=h.f1;have L:=Zi.setA h (a+1);have Y:Kp (Zi w (D.setCell ⟨b,1,none⟩ (.int .i64 ((a:Int)+1))) b (nx ⟨a,0⟩)):=⟨q.trans L⟩
  clear f l h q L;go_wp2_with fail;go_quiet (fail);go_wp2_with fail;go_loop [7] (λiv=>∃j:Nat,j<=i∧iv=.int .i64 j) (λiv=>set.size-(intOf iv).toNat);case atStart=>exact⟨0,by omega,rfl⟩
  case round=>
   obtain⟨j,hj,rfl⟩:=hrel;have U:j<set.size:=by omega
   have ad:(j:Int)<(set.size:Int):=by omega
   have hu:=ZJ set j U;by_cases Z:j=i
   ·subst Z;rw[aa]at hu;go_wp2;go_ret;exact⟨rfl,Y.o.drewN _⟩
   ·have X:=u.o j (by omega);rw[Kg U]at X;obtain⟨y,hy⟩:∃y,bv set j=y:=⟨_,rfl⟩
    rw[hy]at hu X;have k3:(y==x)=false:=Qf.2 λc=>X (by rw[c]);clear X hy;go_wp2_with fail;go_round;case rel=>exact⟨j+1,by omega,by go_num⟩
    case measure=>simp[intOf];omega
 | false=>
  rw[F]at f;have M:BW s r false 11=Bi (Aa s r) 11:=if_neg (by simp);rw[M];have Q:DW (Ae s r) (bl set)=0:=if_neg (Ul F);rw[Q];have l:=λ(D:World) (T:Zi w D b (Aa s r))=>H.to T;obtain⟨K,A⟩:∃K,Aa s r=K:=⟨_,rfl⟩
  rw[A]at f l ⊢;obtain⟨a,J⟩:=K;replace f:=Z_ f;replace l:=Z_ l;clear F M Q A H O;by_cases W:J=0
  ·subst W;go_in;go_wp2_with fail;refine f.o.mono ?_;rintro e D ⟨rfl,q⟩;have h:=l.o _ q;have c2:D.cell? ⟨b,2,none⟩=some (.int .i64 0):=h.c2;have f2:=h.f2;have L:=Zi.setE h 11;have Y:Kp (Zi w (D.setCell ⟨b,2,none⟩ (.int .i64 11)) b (Bi ⟨a,0⟩ 11)):=⟨q.trans L⟩
   clear f l h q L;go_wp2;go_ret;exact⟨rfl,Y.o⟩
  ·have hk:(J==0)=false:=Qf.2 W;have e2:Kp (Bi ⟨a,J⟩ 11=⟨a,J⟩):=⟨Pk W⟩
   clear W;go_in;go_wp2_with fail;refine f.o.mono ?_;rintro e D ⟨rfl,q⟩;have h:=l.o _ q;have c2:D.cell? ⟨b,2,none⟩=some (.int .i64 J):=h.c2;replace q:=Z_ q;clear f l h;go_wp2;go_ret;exact⟨rfl,by rw[e2.o];exact q.o⟩
theorem WK(b:Nat)(s:ZB)(r:Rd)(w:World)(H:Cr w b s r)(O:Ci s r)(I:r.er=0) :
  Calls prog 235 #[.pointer (some ⟨b,0,none⟩)] w λe w'=>e=.returned (.int .i64 (num s r).1)∧Zi w w' b (num s r).2:=by
 have sz:=O.sz;have M:Kp (Zi w w b r):=⟨Zi.refl H⟩
 have E:Kp _:=⟨H⟩
 have q:Kp (r.a<=s.size):=⟨O.le⟩
 obtain⟨h,U⟩:=r;have I:U=0:=I;subst I;have A:Kp (Ah s ⟨h,0⟩=s.size-h):=⟨if_pos rfl⟩
 clear H O;go_in;go_wp2_with fail;go_loopg [3] (s.size-h) (λg Y wr=>∃(a:Nat) (v:Int),Y=.int .i64 v∧0<=v∧v<=255∧Kp (num s ⟨h,0⟩=DD s g ⟨a,0⟩ v)∧Kp (a<=s.size)∧Kp (Zi w wr b ⟨a,0⟩)∧Kp (g=s.size-a));case atStart=>exact⟨h,0,rfl,by omega,by omega,⟨by unfold num;rw[A.o]⟩,q,M,⟨rfl⟩⟩
 case round=>
  clear M q A;obtain⟨a,v,rfl,v0,v9,u,q,f,C⟩:=hrel;have j:=E.o.to f.o;have c0:=j.c0;have c1:wr.cell? ⟨b,1,none⟩=some (.int .i64 a):=j.c1;have c2:wr.cell? ⟨b,2,none⟩=some (.int .i64 0):=j.c2;have f1:=j.f1;have f2:=j.f2;by_cases G:a<s.size
  ·have Q:decide ((a:Int)<(s.size:Int))=true:=Qv (by omega);have W:(a:Int)<(s.size:Int):=by omega
   have X:=ZJ s a G;have l:here s ⟨a,0⟩=bv s a:=if_pos ⟨rfl,G⟩;obtain⟨x0,x9⟩:=Zx s a;obtain⟨x,D⟩:∃x,bv s a=x:=⟨_,rfl⟩
   rw[D]at X l x0 x9;have J:=C.o;obtain⟨g,rfl⟩:∃g,gk=g+1:=⟨gk-1,by omega⟩
   by_cases y:48<=x∧x<=57
   ·obtain⟨K,L⟩:=y;have N:decide (48<=x)=true:=Qv K;have T:decide (x<=57)=true:=Qv L;obtain⟨ab,ad⟩:=CY (x:=v*10) (by omega) (by omega);obtain⟨Z,aa⟩:=CY (x:=v*10+x) (by omega) (by omega);obtain⟨ae,af⟩:=CY (x:=v*10+x-48) (by omega) (by omega);by_cases z:255<v*10+x-48
    ·have d:Kp (num s ⟨h,0⟩=(0,⟨a,11⟩)):=⟨by
      rw[u.o];simp only[DD];rw[l,if_pos ⟨K,L⟩,if_pos (by omega)];rfl⟩
     have F:Kp (∀k,Zi w ((wr.drewN k).setCell ⟨b,2,none⟩ (.int .i64 11)) b ⟨a,11⟩):=⟨λk=>(f.o.drewN k).trans (Zi.setE (E.o.to (f.o.drewN k)) 11)⟩
     clear j f D l u C J;go_wp2_with fail;go_quiet (fail);go_wp2_with fail;go_quiet (fail);go_wp2;go_ret;exact⟨by rw[d.o];rfl,by rw[d.o];exact F.o _⟩
    ·have d:Kp (num s ⟨h,0⟩=DD s g ⟨a+1,0⟩ (v*10+x-48)):=⟨by
      rw[u.o];simp only[DD];rw[l,if_pos ⟨K,L⟩,if_neg (by omega),show 10*v+x-48=v*10+x-48 from by omega];rfl⟩
     have F:Kp (∀k,Zi w ((wr.drewN k).setCell ⟨b,1,none⟩ (.int .i64 ((a:Int)+1))) b ⟨a+1,0⟩):=⟨λk=>(f.o.drewN k).trans (Zi.setA (E.o.to (f.o.drewN k)) (a+1))⟩
     clear j f D l u C;go_wp2_with fail;go_quiet (fail);go_wp2_with fail;go_quiet (fail);go_wp2_with fail;go_roundg g;case measure=>omega
     case rel=>exact⟨a+1,v*10+x-48,rfl,by omega,by omega,d,⟨by omega⟩,⟨F.o _⟩,⟨by omega⟩⟩
   ·have d:Kp (num s ⟨h,0⟩=(v,⟨a,0⟩)):=⟨by
     rw[u.o];simp only[DD];rw[l,if_neg y]⟩
    clear j D l u C;by_cases z:48<=x
    ·have N:decide (48<=x)=true:=Qv z;have T:decide (x<=57)=false:=Qx (λc=>y ⟨z,c⟩);clear y;go_wp2_with fail;go_quiet (fail);go_wp2;go_ret;exact⟨by rw[d.o];rfl,by rw[d.o];exact f.o.drewN _⟩
    ·have N:decide (48<=x)=false:=Qx z;clear y z;go_wp2_with fail;go_quiet (fail);go_wp2;go_ret;exact⟨by rw[d.o];rfl,by rw[d.o];exact f.o.drewN _⟩
  ·have Q:decide ((a:Int)<(s.size:Int))=false:=Qx (by omega);have R:decide (a<s.size)=false:=Qx (by omega);have V:s.size<=a:=by omega
   have d:Kp (num s ⟨h,0⟩=(v,⟨a,0⟩)):=⟨by
    rw[u.o];exact XY s _ _ _ (by unfold Ah;rw[if_pos rfl];show s.size-a=0;omega)⟩
   clear j G;go_wp2_with fail;go_quiet (fail);go_wp2;go_ret;exact⟨by rw[d.o];rfl,by rw[d.o];exact f.o.drewN _⟩
def HQ(n:Nat):List Int:=(List.range n).map λi=>((48+i:Nat):Int)
theorem OV(h:i<n):(HQ n)[i]?=some ((48+i:Nat):Int):=by simp[HQ,h]
theorem OW(n:Nat):(HQ n).length=n:=by simp[HQ]
theorem Zrk(a:48<=t)(b:t<48+n):fnd t (HQ n)=(t-48).toNat:=by
 refine Nq ?_ λj c=>?_
 ·rw[OV (by omega)];congr 1;omega
 ·rw[OV (by omega)];intro e;have:=Option.some.inj e;omega
theorem Zsy(h:¬(48<=t∧t<48+n)):fnd t (HQ n)=(HQ n).length:=by
 refine Ia λj a=>?_;rw[OW]at a;rw[OV a];intro e;have:=Option.some.inj e
 omega
theorem Zsz(b:1<=n)(c:n<=6):bl ((ByteArray.mk #[48,49,50,51,52,53,54,55,56,57]).extract 0 n)=HQ n:=by
 have a:n=1∨n=2∨n=3∨n=4∨n=5∨n=6:=by omega
 rcases a with rfl|rfl|rfl|rfl|rfl|rfl<;>decide
theorem Zrl(c:bl set=HQ n):C6 s set r=Eo s r 0 ((n:Int)-1)∧((DW (Ae s r) (bl set):Nat):Int)=AW s r 0 ((n:Int)-1):=by
 unfold C6;rw[c];by_cases h:48<=Ae s r∧Ae s r<48+n
 ·have e:=Zrk h.1 h.2;have b:=Is e (by rw[OW];omega);have hd:Eo s r 0 ((n:Int)-1)=true:=Qv ⟨by omega,by omega⟩;refine⟨by rw[b.2,hd],?_⟩;rw[b.1];unfold AW;rw[if_pos hd];omega
 ·have e:=Zsy h;have a:=FR e;have hd:Eo s r 0 ((n:Int)-1)=false:=Qx (λk=>h ⟨by omega,by omega⟩);refine⟨by rw[a.2,hd],?_⟩;rw[a.1];unfold AW;rw[if_neg (by rw[hd];simp)];rfl
theorem NP(b sb:Nat)(s:ZB)(r:Rd)(n:Nat)(w:World)(H:Cr w b s r)(O:Ci s r)(A:w.cell? ⟨b,3,none⟩=some (.pointer (some ⟨sb,0,none⟩)))(C:w.cell? ⟨sb,0,none⟩=some (.int .i64 n))(j:1<=n)(l:n<=6) :
  Calls prog 139 #[.pointer (some ⟨b,0,none⟩)] w λe w'=>e=.returned (.int .i64 (AW s r 0 ((n:Int)-1)))∧Zi w w' b (An s r 0 ((n:Int)-1)):=by
 have f:=Zsz j l;have y:Fj ((ByteArray.mk #[48,49,50,51,52,53,54,55,56,57]).extract 0 n):=λx u=>by rw[f]at u;obtain⟨i,_,rfl⟩:=List.mem_map.1 u;omega
 have c:((ByteArray.mk #[48,49,50,51,52,53,54,55,56,57]).extract 0 n).size<=300:=by rw[<-EK,f,OW];omega
 have a:=IL b s _ r w H O y c;have h:=Zrl (s:=s) (r:=r) f;rw[h.2,h.1]at a;have a:Calls prog 137 #[.pointer (some ⟨b,0,none⟩),.string ((ByteArray.mk #[48,49,50,51,52,53,54,55,56,57]).extract 0 n)] w λe w'=>e=.returned (.int .i64 (AW s r 0 ((n:Int)-1)))∧Zi w w' b (An s r 0 ((n:Int)-1)):=a;generalize AW s r 0 ((n:Int)-1)=d at *;generalize An s r 0 ((n:Int)-1)=D at *;replace a:=Z_ a;have z:(n:Int)<=10:=by omega
 have q:n<=10:=by omega
 clear f y c h H O j l;go_in;go_wp2_with fail;refine a.o.mono ?_;rintro e E ⟨rfl,T⟩;go_wp2;go_ret;exact⟨rfl,T⟩
theorem Vr(h:∀x∈l,0<=x∧x<=255):bl (bs l)=l:=by
 apply List.ext_getElem?;intro i;by_cases a:i<l.length
 ·have e:l[i]?=some l[i]:=Qn a;obtain⟨b,c⟩:=h l[i] (Ua a);rw[Kg (by rw[Zd];exact a),Nt e b c,e]
 ·rw[Uh (by rw[EK,Zd];omega),Uh (by omega)]
theorem EI.bl(h:EI ls):bl (bs ls)=ls:=Vr λx a=>by have:=h.2 x a;omega
theorem EI.noz(h:EI ls):Fj (bs ls):=λx a=>by rw[h.bl]at a;have:=h.2 x a;omega
theorem Ov:bl ⟨#[97,98,99,100,101,102,103,104]⟩=[97,98,99,100,101,102,103,104]:=by decide
theorem OX(s:ZB)(r:Rd):C6 s ⟨#[97,98,99,100,101,102,103,104]⟩ r=Ct (Ae s r):=by
 unfold C6;rw[Ov];generalize Ae s r=t;by_cases h:97<=t∧t<=104
 ·have b:t=97∨t=98∨t=99∨t=100∨t=101∨t=102∨t=103∨t=104:=by omega
  rcases b with rfl|rfl|rfl|rfl|rfl|rfl|rfl|rfl<;>decide
 ·have a:Ct t=false:=Qx h;rw[a];refine(FR (Ia λj c e=>?_)).2;have:=Qw e;simp at this;omega
theorem U1(h:EI ls):C6 s (bs ls) r=CW s r ls∧DW (Ae s r) (bl (bs ls))=varI s r ls:=by
 unfold C6 varI;rw[h.bl];by_cases a:fnd (Ae s r) ls<ls.length
 ·have c:=h.2 _ (Qw (Kl a));have d:Ct (Ae s r)=true:=Qv c;have b:CW s r ls=true:=by unfold CW;rw[d];simpa using a
  rw[b];exact⟨Qv a,by unfold DW;rw[if_pos a];rfl⟩
 ·have b:CW s r ls=false:=by unfold CW;simp[a]
  rw[b];exact⟨Qx a,by unfold DW;rw[if_neg a];rfl⟩
theorem PM:Fj ⟨#[97,98,99,100,101,102,103,104]⟩:=λx a=>by rw[Ov]at a;simp at a;omega
theorem ZsW:Fj ⟨#[]⟩:=λx a=>by simp[bl]at a
theorem P9(b sb:Nat)(s:ZB)(r:Rd)(ls:List Int)(w:World)(H:Cr w b s r)(O:Ci s r)(Z:w.cell? ⟨b,3,none⟩=some (.pointer (some ⟨sb,0,none⟩)))(W:sb≠b)(U:w.cell? ⟨sb,2,none⟩=some (.string (bs ls)))(Q:EI ls) :
  Calls prog 195 #[.pointer (some ⟨b,0,none⟩)] w λe w'=>e=.returned (.int .i64 (varI s r ls:Nat))∧Zi w w' b (AD s r ls):=by
 have X:=U1 (s:=s) (r:=r) Q;have G:(bs ls).size<=300:=by rw[Zd];have:=Q.1;omega
 have K:=Fo b s (bs ls) r w H O Q.noz G;rw[X.1]at K;replace K:=Z_ K;have j:Kp (∀C,Zi w C b (Aa s r)->Cr C b s (Aa s r)∧C.cell? ⟨b,3,none⟩=some (.pointer (some ⟨sb,0,none⟩))∧C.cell? ⟨sb,2,none⟩=some (.string (bs ls))):=⟨λC T=>⟨H.to T,(T.cell 3 (by omega) (by omega)).trans Z,by rw[Qo (w:=w) (T.block sb W)];exact U⟩⟩
 have hZ:Kp (Fj (bs ls)):=⟨Q.noz⟩
 have A:Kp _:=⟨G⟩
 have R:Kp (Ci s (Aa s r)):=⟨O.adv⟩
 have y:Kp _:=⟨X⟩
 clear X G;obtain⟨V,hV⟩:∃V,bs ls=V:=⟨_,rfl⟩
 rw[hV]at U K j hZ A y;clear hV;go_in;go_wp2_with fail;refine K.o.mono ?_;rintro e C ⟨rfl,J⟩;obtain⟨Y,E,F⟩:=j.o C J;have d:=Fo b s ⟨#[97,98,99,100,101,102,103,104]⟩ (Aa s r) C Y R.o PM (by decide);rw[OX,Zs,Z3]at d;replace d:=Z_ d;replace J:=Z_ J;clear Y K Z U;by_cases x:CW s r ls=true
 ·rw[x];go_wp2_with fail;refine d.o.mono ?_;rintro e I ⟨rfl,z⟩;have c:=J.o.trans z;obtain⟨f,l,q⟩:=j.o I c;have u:=IL b s V (Aa s r) I f R.o hZ.o A.o;have L:C6 s V (Aa s r)=CW s r ls:=by unfold C6;rw[Zs];exact y.o.1
  rw[L,Zs,y.o.2,x,MT]at u;have h:AD s r ls=BW s r true 11:=by unfold AD;rw[x];rfl
  replace h:=Z_ h;replace u:=Z_ u;replace c:=Z_ c;clear f z E F L y;generalize Ct (Ae s r)=il at *;go_wp2_with fail;refine u.o.mono ?_;rintro e w3 ⟨rfl,D⟩;go_wp2;go_ret;exact⟨rfl,by rw[h.o];exact c.o.trans D⟩
 ·have x:CW s r ls=false:=by simpa using x
  rw[x];have N:varI s r ls=0:=by unfold varI;rw[x];rfl
  replace N:=Z_ N;cases M:Ct (Ae s r) with
  | true=>
   rw[M]at d;have he:r.er=0:=(Z8 (s:=s) (r:=r) (by have:=QB M;omega)).1;have h:AD s r ls=⟨(Aa s r).a,12⟩:=by unfold AD BW;rw[x,M,if_neg (by simp),if_pos rfl];unfold Bi;rw[if_pos (by rw[Zl];exact he)]
   replace h:=Z_ h;go_wp2_with fail;refine d.o.mono ?_;rintro e I ⟨rfl,z⟩;have c:=J.o.trans z;obtain⟨f,l,q⟩:=j.o I c;have c2:=f.c2;have f2:=f.f2;have aa:=f.lt;have D:=Zi.setE f 12;clear z E F l q;replace f:=Z_ f;replace D:=Z_ D;replace c:=Z_ c;go_wp2;go_ret;exact⟨by rw[N.o];rfl,by rw[h.o];exact c.o.trans D.o⟩
  | false=>
   rw[M]at d;have h:AD s r ls=BW s r false 11:=by unfold AD;rw[x,M];rfl
   replace h:=Z_ h;go_wp2_with fail;refine d.o.mono ?_;rintro e I ⟨rfl,z⟩;have c:=J.o.trans z;obtain⟨f,l,q⟩:=j.o I c;have u:=IL b s ⟨#[]⟩ (Aa s r) I f R.o ZsW (by decide);have L:C6 s ⟨#[]⟩ (Aa s r)=false:=rfl;have e3:DW (Ae s (Aa s r)) (bl ⟨#[]⟩)=0:=rfl;rw[L,e3,MT]at u;replace u:=Z_ u;replace c:=Z_ c;clear f z E F L e3 l q;go_wp2_with fail;refine u.o.mono ?_;rintro e w3 ⟨rfl,D⟩;go_wp2;go_ret;exact⟨by rw[N.o];rfl,by rw[h.o];exact c.o.trans D⟩
def Do(x:Ex):List Value:=[.int .i64 x.op,.int .i64 x.v,.int .i64 x.l,.int .i64 x.r]
def BK(x:Sm×(Value×Value)):List Value:=[.int .u8 x.1.k,.int .i64 x.1.a,.int .i64 x.1.v,.int .i64 x.1.e,x.2.1,x.2.2,.bool x.1.two]
def IE(l:List Nat):List Value:=l.map λn=>Value.int .i64 (n:Nat)
def pT(j:Nat):TypeId:=if j=0 then 121 else 123
def pZ(j:Nat):Nat:=if j=0 then 4 else 7
def pN(p:Rs)(j:Nat):Nat:=if j=0 then p.ex.length else p.sm.length
def pV(p:Rs)(sv:List (Value×Value))(j:Nat):List Value:=if j=0 then p.ex.flatMap Do else (List.zip p.sm sv).flatMap BK
def BD(w:World)(B:Nat)(S:Nat->Value)(v:Value)(l:List Nat):Prop:=w.ownsRow B 3 1 v l.length (IE l)∧∀k,v.ownBlock=some k->∀j,j<2->(S j).ownBlock≠some k
structure YB(w:World)(rb sb B:Nat)(s:ZB)(p:Rs)(tb:ZB)(tp:Value)(S:Nat->Value)(sv:List (Value×Value)):Prop where
 rd:Cr w rb s p.r
 c3:w.cell? ⟨rb,3,none⟩=some (.pointer (some ⟨sb,0,none⟩))
 lt:sb<w.heap.size
 ne:sb≠rb
 b0:rb<B
 b1:sb<B
 cn:w.cell? ⟨sb,0,none⟩=some (.int .i64 p.n)
 ct:w.cell? ⟨sb,1,none⟩=some (.string tb)
 cl:w.cell? ⟨sb,2,none⟩=some (.string (bs p.ls))
 cv:w.cell? ⟨sb,3,none⟩=some (.string (bs p.vs))
 c:∀j:Nat,j<2->w.cell? ⟨sb,4+j,none⟩=some (S j)
 cp:w.cell? ⟨sb,6,none⟩=some tp
 f:∀j:Nat,j<7->w.frozen? ⟨sb,j,none⟩=false
 o:∀j:Nat,j<2->w.ownsRow B (pT j) (pZ j) (S j) (pN p j) (pV p sv j)
 d:∀i j:Nat,i<2->j<2->i≠j->(S i).ownBlock=none∨(S i).ownBlock≠(S j).ownBlock
 k:sv.length=p.sm.length
 i:∀(i:Nat) (x:Sm) (y:Value×Value),p.sm[i]?=some x->sv[i]?=some y->BD w B S y.1 x.bo∧BD w B S y.2 x.el
 hB:B<=w.heap.size
structure ZW(rb sb:Nat)(S S':Nat->Value)(w w':World):Prop where
 os:w'.os=w.os
 tape:w'.tape=w.tape
 output:w'.output=w.output
 size:w.heap.size<=w'.heap.size
 block:∀k,k<w.heap.size->k≠rb->k≠sb->(∀j,j<2->(S j).ownBlock≠some k)->w'.heap[k]?=w.heap[k]?
 rows:∀j,j<2->(S' j).ownBlock=(S j).ownBlock∨∀k,(S' j).ownBlock=some k->w.heap.size<=k
theorem ZW.refl(rb sb:Nat)(S:Nat->Value)(w:World):ZW rb sb S S w w:=⟨rfl,rfl,rfl,Qb _,λ_ _ _ _ _=>rfl,λ_ _=>.inl rfl⟩
theorem ZW.trans{a:Nat->Value}{x y z:World}(h:ZW rb sb S S' x y)(k:ZW rb sb S' a y z):ZW rb sb S a x z:=by
 refine⟨k.os.trans h.os,k.tape.trans h.tape,k.output.trans h.output,Qg h.size k.size,λi q f l o=>?_,λj b=>?_⟩
 ·rw[k.block i (Qq q h.size) f l ?_,h.block i q f l o];intro j b e;rcases h.rows j b with c|c
  ·exact o j b (by rw[<-c];exact e)
  ·have:=c i e;omega
 ·rcases k.rows j b with c|c
  ·rcases h.rows j b with d|d
   ·exact .inl (c.trans d)
   ·exact .inr λi e=>d i (by rw[<-c];exact e)
  ·exact .inr λi e=>Qg h.size (c i e)
theorem ZW.below(h:Below w.heap.size w w'):ZW rb sb S S w w':=⟨h.os,h.tape,h.output,h.size,λk a _ _ _=>h.block k a,λ_ _=>.inl rfl⟩
theorem ZW.rd(h:Zi w w' rb r):ZW rb sb S S w w':=⟨h.os,h.tape,h.output,by rw[h.size];exact Qb _,λk _ a _ _=>h.block k a,λ_ _=>.inl rfl⟩
theorem ZW.drewN(h:ZW rb sb S S' w w')(k:Nat):ZW rb sb S S' w (w'.drewN k):=⟨h.os,h.tape,h.output,h.size,h.block,h.rows⟩
theorem BD.to{l:List Nat}(h:BD w B S v l)(T:ZW rb sb S S' w w')(d:rb<B)(f:sb<B):BD w' B S' v l:=by
 refine⟨ZQ h.1 λk a=>?_,λk a j b e=>?_⟩
 ·have:=h.1.lt k a;exact T.block k this.2 (by omega) (by omega) (h.2 k a)
 ·have:=h.1.lt k a;rcases T.rows j b with c|c
  ·exact h.2 k a j b (by rw[<-c];exact e)
  ·have:=c k e;omega
theorem BD.nil(w:World)(B:Nat)(S:Nat->Value):BD w B S (.slice none 0 0) []:=⟨⟨rfl,.inl ⟨rfl,rfl⟩⟩,λk a=>by cases a⟩
theorem YB.to(H:YB w rb sb B s p tb tp S sv)(T:ZW rb sb S S' w w')(i:Nat)(x:Sm)(y:Value×Value)(a:p.sm[i]?=some x)(b:sv[i]?=some y):BD w' B S' y.1 x.bo∧BD w' B S' y.2 x.el:=
 ⟨(H.i i x y a b).1.to T H.b0 H.b1,(H.i i x y a b).2.to T H.b0 H.b1⟩
theorem YB.rdto(H:YB w rb sb B s p tb tp S sv)(h:Zi w w' rb r):YB w' rb sb B s {p with r:=r} tb tp S sv:=by have b:∀k:Nat,w'.cell? ⟨sb,k,none⟩=w.cell? ⟨sb,k,none⟩:=λk=>Qo (w:=w) (a:=⟨sb,k,none⟩) (h.block sb H.ne);exact⟨H.rd.to h,(h.cell 3 (by omega) (by omega)).trans H.c3,by rw[h.size];exact H.lt,H.ne,H.b0,H.b1,(b _).trans H.cn,(b _).trans H.ct,(b _).trans H.cl,(b _).trans H.cv,λj e=>(b _).trans (H.c j e),(b _).trans H.cp,λj e=>by rw[Qz (w:=w) (a:=⟨sb,j,none⟩) (h.block sb H.ne)];exact H.f j e,λj e=>ZQ (H.o j e) λg l=>h.block g (by have:=((H.o j e).lt g l).1;have:=H.b0;omega),H.d,H.k,H.to (ZW.rd h),by rw[h.size];exact H.hB⟩
theorem YB.step(H:YB w rb sb B s p tb tp S sv)(h:Below w.heap.size w w'):YB w' rb sb B s p tb tp S sv:=by
 have b:∀k:Nat,w'.cell? ⟨sb,k,none⟩=w.cell? ⟨sb,k,none⟩:=λk=>h.cell (p:=⟨sb,k,none⟩) H.lt;have a:∀k:Nat,w'.cell? ⟨rb,k,none⟩=w.cell? ⟨rb,k,none⟩:=λk=>h.cell (p:=⟨rb,k,none⟩) H.rd.lt
 exact⟨⟨Qq H.rd.lt h.size,(a _).trans H.rd.c0,(a _).trans H.rd.c1,(a _).trans H.rd.c2,by rw[h.frozen (p:=⟨rb,1,none⟩) H.rd.lt];exact H.rd.f1,by rw[h.frozen (p:=⟨rb,2,none⟩) H.rd.lt];exact H.rd.f2⟩,(a _).trans H.c3,Qq H.lt h.size,H.ne,H.b0,H.b1,(b _).trans H.cn,(b _).trans H.ct,(b _).trans H.cl,(b _).trans H.cv,λj e=>(b _).trans (H.c j e),(b _).trans H.cp,λj e=>by rw[h.frozen (p:=⟨sb,j,none⟩) H.lt];exact H.f j e,λj e=>Zo (H.o j e) h,H.d,H.k,H.to (ZW.below h),Qg H.hB h.size⟩
theorem YB.setC{p':Rs}{l:ZB}{q:Value}{x:Value}(H:YB w rb sb B s p tb tp S sv)(L:k≠4∧k≠5)
  (K:p'.r=p.r) (C:p'.ex=p.ex) (u:p'.sm=p.sm) (F:(w.setCell ⟨sb,k,none⟩ x).cell? ⟨sb,0,none⟩=some (.int .i64 p'.n)) (y:(w.setCell ⟨sb,k,none⟩ x).cell? ⟨sb,1,none⟩=some (.string l)) (G:(w.setCell ⟨sb,k,none⟩ x).cell? ⟨sb,2,none⟩=some (.string (bs p'.ls))) (I:(w.setCell ⟨sb,k,none⟩ x).cell? ⟨sb,3,none⟩=some (.string (bs p'.vs))) (J:(w.setCell ⟨sb,k,none⟩ x).cell? ⟨sb,6,none⟩=some q) :
  YB (w.setCell ⟨sb,k,none⟩ x) rb sb B s p' l q S sv∧ZW rb sb S S w (w.setCell ⟨sb,k,none⟩ x):=by
 have z:∀g,g≠sb->(w.setCell ⟨sb,k,none⟩ x).heap[g]?=w.heap[g]?:=λg A=>QH w ⟨sb,k,none⟩ x g A;have b:∀i:Nat,(w.setCell ⟨sb,k,none⟩ x).cell? ⟨rb,i,none⟩=w.cell? ⟨rb,i,none⟩:=λi=>Qo (w:=w) (a:=⟨rb,i,none⟩) (z rb (λe=>H.ne e.symm))
 have T:ZW rb sb S S w (w.setCell ⟨sb,k,none⟩ x):=⟨rfl,rfl,rfl,by simp,λi _ _ y _=>z i y,λ_ _=>.inl rfl⟩
 have D:∀j,pN p' j=pN p j:=λj=>by unfold pN;rw[C,u]
 have E:∀j,pV p' sv j=pV p sv j:=λj=>by unfold pV;rw[C,u]
 refine⟨⟨?_,(b _).trans H.c3,by simpa using H.lt,H.ne,H.b0,H.b1,F,y,G,I,λj h=>(Bc _ _ _ _ _ (by omega)).trans (H.c j h),J,λj h=>by rw[World.frozen?_setCell];exact H.f j h,λj h=>?_,H.d,by rw[u];exact H.k,by rw[u];exact H.to T,by simpa using H.hB⟩,T⟩
 ·rw[K];exact⟨by simpa using H.rd.lt,(b _).trans H.rd.c0,(b _).trans H.rd.c1,(b _).trans H.rd.c2,by rw[World.frozen?_setCell];exact H.rd.f1,by rw[World.frozen?_setCell];exact H.rd.f2⟩
 ·rw[D,E];exact ZQ (H.o j h) λg A=>z g (by have:=((H.o j h).lt g A).1;have:=H.b1;omega)
theorem YB.told{Z u:World}{l:Nat}{p':Rs}{sv':List (Value×Value)}{h:Value}(H:YB w rb sb B s p tb tp S sv)(Y:l<2)(J:Below w.heap.size w Z)(z:Z.grownBy u (S l).ownBlock)(L:u.ownsRow B (pT l) (pZ l) h (pN p' l) (pV p' sv' l))(b:h.ownBlock=(S l).ownBlock∨h.ownBlock=some Z.heap.size)
  (h0:p'.r=p.r) (hn:p'.n=p.n) (aa:p'.ls=p.ls) (ad:p'.vs=p.vs) (hN:∀j,j<2->j≠l->pN p' j=pN p j) (hV:∀j,j<2->j≠l->pV p' sv' j=pV p sv j) (G:sv'.length=p'.sm.length)
  (R:∀(i:Nat) (x:Sm) (y:Value×Value),p'.sm[i]?=some x->sv'[i]?=some y->BD w B S y.1 x.bo∧BD w B S y.2 x.el) :
  YB (u.setCell ⟨sb,4+l,none⟩ h) rb sb B s p' tb tp (λj=>if j=l then h else S j) sv'∧ZW rb sb S (λj=>if j=l then h else S j) w (u.setCell ⟨sb,4+l,none⟩ h):=by
 have ae:=J.size;have V:=H.lt;have K:=H.rd.lt;have O:=H.b0;have Q:=H.b1;have ab:some sb≠(S l).ownBlock:=λe=>by have:=((H.o l Y).lt _ e.symm).1;omega
 have W:some rb≠(S l).ownBlock:=λe=>by have:=((H.o l Y).lt _ e.symm).1;omega
 have blk:u.heap[sb]?=w.heap[sb]?:=by rw[z.block sb (by omega) ab,J.block sb V]
 have U:u.heap[rb]?=w.heap[rb]?:=by rw[z.block rb (by omega) W,J.block rb K]
 have M:∀k:Nat,u.cell? ⟨sb,k,none⟩=w.cell? ⟨sb,k,none⟩:=λk=>Qo (w:=w) (a:=⟨sb,k,none⟩) blk;have D:∀k:Nat,k≠4+l->(u.setCell ⟨sb,4+l,none⟩ h).cell? ⟨sb,k,none⟩=w.cell? ⟨sb,k,none⟩:=λk G=>(Bc _ _ _ _ _ (by omega)).trans (M k)
 have I:∀g,g≠sb->(u.setCell ⟨sb,4+l,none⟩ h).heap[g]?=u.heap[g]?:=λg z=>QH u ⟨sb,4+l,none⟩ h g z;have E:(u.setCell ⟨sb,4+l,none⟩ h).heap[rb]?=w.heap[rb]?:=(I rb (λe=>H.ne e.symm)).trans U
 have C:∀k:Nat,(u.setCell ⟨sb,4+l,none⟩ h).cell? ⟨rb,k,none⟩=w.cell? ⟨rb,k,none⟩:=λk=>Qo (w:=w) (a:=⟨rb,k,none⟩) E;have N:∀k:Nat,(u.setCell ⟨sb,4+l,none⟩ h).frozen? ⟨rb,k,none⟩=w.frozen? ⟨rb,k,none⟩:=λk=>Qz (w:=w) (a:=⟨rb,k,none⟩) E
 have X:∀k:Nat,k<2->(S k).ownBlock≠some Z.heap.size:=λk G e=>by have:=(H.o k G).lt _ e;omega
 have A:w.heap.size<=(u.setCell ⟨sb,4+l,none⟩ h).heap.size:=by have:=z.size;simp;omega
 have T:ZW rb sb S (λj=>if j=l then h else S j) w (u.setCell ⟨sb,4+l,none⟩ h):=by
  refine⟨z.os.trans J.os,z.tape.trans J.tape,z.output.trans J.output,A,λk G _ h1 h3=>?_,λj q=>?_⟩
  ·rw[I k h1,z.block k (by omega) (λe=>h3 l Y e.symm),J.block k G]
  ·by_cases e:j=l
   ·subst e;show (if j=j then h else S j).ownBlock=_∨_;rw[if_pos rfl];rcases b with b|b
    ·exact .inl b
    ·refine .inr λk G=>?_;rw[b]at G;have:=Option.some.inj G
     omega
   ·show (if j=l then h else S j).ownBlock=_∨_;rw[if_neg e];exact .inl rfl
 refine⟨⟨?_,(C _).trans H.c3,Qq V A,H.ne,O,Q,?_,(D _ (by omega)).trans H.ct,?_,?_,λj q=>?_,(D _ (by omega)).trans H.cp,λj q=>?_,λj q=>?_,λi j R q F=>?_,G,λi x y hx hy=>⟨(R i x y hx hy).1.to T O Q,(R i x y hx hy).2.to T O Q⟩,Qg H.hB A⟩,T⟩
 ·rw[h0];exact⟨Qq K A,(C _).trans H.rd.c0,(C _).trans H.rd.c1,(C _).trans H.rd.c2,(N _).trans H.rd.f1,(N _).trans H.rd.f2⟩
 ·rw[hn];exact(D _ (by omega)).trans H.cn
 ·rw[aa];exact(D _ (by omega)).trans H.cl
 ·rw[ad];exact(D _ (by omega)).trans H.cv
 ·by_cases e:j=l
  ·subst e;rw[if_pos rfl];exact Qk _ _ _ ((M _).trans (H.c j q))
  ·rw[if_neg e,D _ (by omega)];exact H.c j q
 ·rw[Qu,Qz (w:=w) (a:=⟨sb,j,none⟩) blk];exact H.f j q
 ·by_cases e:j=l
  ·subst e;rw[if_pos rfl];exact ZQ L λg z=>I g (by have:=(L.lt g z).1;omega)
  ·rw[if_neg e,hN j q e,hV j q e];exact ZQ ((Zo (H.o j q) J).kept z (H.d j l q Y e)) λg z=>I g (by have:=((H.o j q).lt g z).1;omega)
 ·show (if i=l then h else S i).ownBlock=none∨(if i=l then h else S i).ownBlock≠(if j=l then h else S j).ownBlock;by_cases e:i=l
  ·subst e;rw[if_pos rfl,if_neg (λk=>F k.symm)];rcases b with b|b
   ·rw[b];exact H.d i j R q F
   ·rw[b];exact .inr (λk=>X j q k.symm)
  ·rw[if_neg e];by_cases e2:j=l
   ·subst e2;rw[if_pos rfl];rcases b with b|b
    ·rw[b];exact H.d i j R q F
    ·rw[b];exact .inr (X i R)
   ·rw[if_neg e2];exact H.d i j R q F
def HI(sv:List (Value×Value))(k:Nat):Prop:=∃y,y∈sv∧(y.1.ownBlock=some k∨y.2.ownBlock=some k)
def DM(w:World)(sv sv':List (Value×Value)):Prop:=∀k,HI sv' k->HI sv k∨w.heap.size<=k
theorem DM.refl(w:World)(sv:List (Value×Value)):DM w sv sv:=λ_ h=>.inl h
theorem DM.trans{a b c:List (Value×Value)}(h:DM w a b)(k:DM w' b c)(f:w.heap.size<=w'.heap.size):DM w a c:=λi d=>by
 rcases k i d with e|e
 ·exact h i e
 ·exact .inr (by omega)
theorem YB.fin(H:YB w rb sb B s p tb tp S sv)(h:HI sv k):B<=k∧k<w.heap.size:=by
 obtain⟨y,c,e⟩:=h;obtain⟨i,b,rfl⟩:=List.mem_iff_getElem.1 c;have a:i<p.sm.length:=by rw[<-H.k];exact b
 have:=H.i i _ _ (Qn a) (Qn b);rcases e with e|e
 ·exact this.1.1.lt k e
 ·exact this.2.1.lt k e
structure Fr(rb sb:Nat)(S:Nat->Value)(sv:List (Value×Value))(g:Nat):Prop where
 r:g≠rb
 s:g≠sb
 o:∀j,j<2->(S j).ownBlock≠some g
 f:¬HI sv g
theorem Fr.to{sv':List (Value×Value)}(F:Fr rb sb S sv g)(b:g<w.heap.size)(T:ZW rb sb S S' w w')(N:DM w sv sv'):Fr rb sb S' sv' g:=
 ⟨F.r,F.s,λj a e=>by
  rcases T.rows j a with c|c
  ·exact F.o j a (by rw[<-c];exact e)
  ·have:=c g e;omega,λe=>by
  rcases N g e with c|c
  ·exact F.f c
  ·omega⟩
theorem Fr.same(F:Fr rb sb S sv g)(a:g<w.heap.size)(T:ZW rb sb S S' w w'):w'.heap[g]?=w.heap[g]?:=T.block g a F.r F.s F.o
theorem YB.new(H:YB w rb sb B s p tb tp S sv)(b:w.heap.size<=g):Fr rb sb S sv g:=
 ⟨by have:=H.rd.lt;omega,by have:=H.lt;omega,λj a e=>by have:=((H.o j a).lt g e).2;omega,λe=>by have:=(H.fin e).2;omega⟩
theorem YB.grow(H:YB w rb sb B s p tb tp S sv)(h:w.grownBy w' row)(F:∀g,row=some g->Fr rb sb S sv g):YB w' rb sb B s p tb tp S sv:=by
 have C:some rb≠row:=λe=>(F rb e.symm).r rfl;have D:some sb≠row:=λe=>(F sb e.symm).s rfl
 have l:∀k:Nat,w'.cell? ⟨sb,k,none⟩=w.cell? ⟨sb,k,none⟩:=λk=>Qo (w:=w) (a:=⟨sb,k,none⟩) (h.block sb H.lt D);have b:∀k:Nat,w'.cell? ⟨rb,k,none⟩=w.cell? ⟨rb,k,none⟩:=λk=>Qo (w:=w) (a:=⟨rb,k,none⟩) (h.block rb H.rd.lt C)
 have q:∀k:Nat,w'.frozen? ⟨rb,k,none⟩=w.frozen? ⟨rb,k,none⟩:=λk=>Qz (w:=w) (a:=⟨rb,k,none⟩) (h.block rb H.rd.lt C);refine⟨⟨Qq H.rd.lt h.size,(b _).trans H.rd.c0,(b _).trans H.rd.c1,(b _).trans H.rd.c2,(q _).trans H.rd.f1,(q _).trans H.rd.f2⟩,(b _).trans H.c3,Qq H.lt h.size,H.ne,H.b0,H.b1,(l _).trans H.cn,(l _).trans H.ct,(l _).trans H.cl,(l _).trans H.cv,λj u=>(l _).trans (H.c j u),(l _).trans H.cp,λj u=>by rw[Qz (w:=w) (a:=⟨sb,j,none⟩) (h.block sb H.lt D)];exact H.f j u,λj u=>(H.o j u).kept h ?_,H.d,H.k,λi x y A z=>⟨⟨(H.i i x y A z).1.1.kept h ?_,(H.i i x y A z).1.2⟩,⟨(H.i i x y A z).2.1.kept h ?_,(H.i i x y A z).2.2⟩⟩,Qg H.hB h.size⟩
 ·cases e:(S j).ownBlock with
  | none=>exact .inl rfl
  | some k=>exact .inr λc=>(F k c.symm).o j u e
 ·cases e:y.1.ownBlock with
  | none=>exact .inl rfl
  | some k=>exact .inr λc=>(F k c.symm).f ⟨y,Qw z,.inl e⟩
 ·cases e:y.2.ownBlock with
  | none=>exact .inl rfl
  | some k=>exact .inr λc=>(F k c.symm).f ⟨y,Qw z,.inr e⟩
theorem ZW.grow{w1 b:World}(T:ZW rb sb S S' w w1)(h:w1.grownBy b row)(j:∀g,row=some g->w.heap.size<=g):ZW rb sb S S' w b:=
 ⟨h.os.trans T.os,h.tape.trans T.tape,h.output.trans T.output,Qg T.size h.size,λk a c d f=>by
  rw[h.block k (Qq a T.size) (λe=>by have:=j k e.symm;omega)];exact T.block k a c d f,T.rows⟩
theorem BD.grow{l:List Nat}(h:BD w B S v l)(a:w.grownBy w' row)(b:∀g,row=some g->v.ownBlock≠some g):BD w' B S v l:=by
 refine⟨h.1.kept a ?_,h.2⟩;cases e:v.ownBlock with
 | none=>exact .inl rfl
 | some k=>exact .inr λc=>b k c.symm e
theorem Hq(w:World)(g k:Nat)(x:Value):w.grownBy (w.setCell ⟨g,k,none⟩ x) (some g):=⟨rfl,rfl,rfl,by simp,λi _ h=>QH w ⟨g,k,none⟩ x i (λe=>h (by rw[e]))⟩
theorem U2{b:Bool}(f:b=true->Ae s r∈bl set)(d:Ae s r∈bl set->b=true):C6 s set r=b:=by
 unfold C6;cases a:b with
 | true=>
  obtain⟨i,h,e⟩:=List.mem_iff_getElem.1 (f a);refine Qv ?_;have:=Kk (Ae s r) (bl set);by_cases c:fnd (Ae s r) (bl set)<(bl set).length
  ·exact c
  ·exact absurd (by rw[Qn h,e]) (KI (c:=Ae s r) (l:=bl set) (j:=i) (by omega))
 | false=>refine(FR (Ia λj o e=>?_)).2;have:=d (Qw e);rw[a]at this;cases this
theorem Lu(s:ZB)(r:Rd):C6 s ⟨#[48,49,50,51,52,53,54,55,56,57]⟩ r=decide (48<=Ae s r∧Ae s r<=57):=by
 have a:bl ⟨#[48,49,50,51,52,53,54,55,56,57]⟩=[48,49,50,51,52,53,54,55,56,57]:=by decide
 refine U2 (λh=>?_) (λh=>?_)
 ·rw[a];have:=QB h;simp;omega
 ·rw[a]at h;simp at h;exact Qv (by omega)
theorem Md:Fj ⟨#[48,49,50,51,52,53,54,55,56,57]⟩:=λx a=>by
 have b:bl ⟨#[48,49,50,51,52,53,54,55,56,57]⟩=[48,49,50,51,52,53,54,55,56,57]:=by decide
 rw[b]at a;simp at a;omega
theorem Zrm(s:ZB)(r:Rd):C6 s ⟨#[97,98,99,100,101,102,103,104,62,63,64]⟩ r=CU (Ae s r):=by
 have a:bl ⟨#[97,98,99,100,101,102,103,104,62,63,64]⟩=[97,98,99,100,101,102,103,104,62,63,64]:=by decide
 refine U2 (λh=>?_) (λh=>?_)
 ·rw[a];unfold CU Ct at h;simp at h;simp;omega
 ·rw[a]at h;unfold CU Ct;simp at h;simp;omega
theorem ZtC:Fj ⟨#[97,98,99,100,101,102,103,104,62,63,64]⟩:=λx a=>by
 have b:bl ⟨#[97,98,99,100,101,102,103,104,62,63,64]⟩=[97,98,99,100,101,102,103,104,62,63,64]:=by decide
 rw[b]at a;simp at a;omega
theorem U3:bl ⟨#[43,45,42,60,126]⟩=[43,45,42,60,126]:=by decide
theorem VP:Fj ⟨#[43,45,42,60,126]⟩:=λx a=>by rw[U3]at a;simp at a;omega
theorem OY(s:ZB)(r:Rd):C6 s ⟨#[43,45,42,60,126]⟩ r=(AK (Ae s r) != 0)∧(AK (Ae s r)≠0->((DW (Ae s r) (bl ⟨#[43,45,42,60,126]⟩):Nat):Int)=AK (Ae s r)-3):=by
 unfold C6;rw[U3];generalize Ae s r=t;by_cases h:t=43∨t=45∨t=42∨t=60∨t=126
 ·rcases h with rfl|rfl|rfl|rfl|rfl<;>decide
 ·have e:AK t=0:=by unfold AK;rw[if_neg (by omega),if_neg (by omega),if_neg (by omega),if_neg (by omega),if_neg (by omega)]
  rw[e];refine⟨(FR (Ia λj a e=>?_)).2,λk=>absurd rfl k⟩;have:=Qw e;simp at this;omega
theorem OZ{c:Int}(d:bl set=[c]):C6 s set r=(Ae s r==c)∧DW (Ae s r) (bl set)=0:=by
 unfold C6;rw[d];by_cases h:Ae s r=c
 ·have e:fnd (Ae s r) [c]=0:=Nq (by rw[h];rfl) λj f=>by omega
  have b:=Is e (by simp);exact⟨by rw[b.2,h];simp,b.1⟩
 ·have a:=FR (c:=Ae s r) (l:=[c]) (Ia λj f e=>by
   have:=Qw e;simp at this;exact h this)
  exact⟨by rw[a.2];exact(Qf.2 h).symm,a.1⟩
theorem VQ{c:Int}(b:bl set=[c])(d:c≠0):Fj set:=λx a=>by
 rw[b]at a;have:=QA.1 a;omega
theorem IQ(b:Nat)(s set:ZB)(c:Int)(r:Rd)(w:World)(H:Cr w b s r)(O:Ci s r)(a:bl set=[c])(d:c≠0) :
  Calls prog 138 #[.pointer (some ⟨b,0,none⟩),.string set] w λe w'=>e=.returned (.bool (Ae s r==c))∧Zi w w' b (Aa s r):=by
 have h:=Fo b s set r w H O (VQ a d) (by rw[<-EK,a];simp);rw[(OZ a).1]at h;exact h
theorem ZP(b:Nat)(s set:ZB)(c:Int)(r:Rd)(w:World)(H:Cr w b s r)(O:Ci s r)(a:bl set=[c])(d:c≠0) :
  Calls prog 137 #[.pointer (some ⟨b,0,none⟩),.string set] w λe w'=>e=.returned (.int .i64 0)∧Zi w w' b (tk s r c):=by
 have h:=IL b s set r w H O (VQ a d) (by rw[<-EK,a];simp);rw[(OZ a).1,(OZ a).2]at h;exact h
theorem GX(h:i<s.size):(bl s).getD i 0=bv s i:=by rw[Qs,Kg h];rfl
def Nz(l:List Int)(k:Nat)(a b:Int)(j:Nat):Prop:=∃i,i<j∧l.getD (2*i) 0=a∧AZ l k (l.getD (2*i+1) 0) b=true
theorem Zps{a b:Int}(d:a≠b):AZ l (k+1) a b=true↔Nz l k a b (l.length/2):=by
 rw[AZ,QJ,QL,List.any_eq_true];constructor
 ·rintro(h|⟨i,c,h⟩)
  ·exact absurd h d
  ·rw[Qr,QL]at h;exact⟨i,Ut.1 c,h.1,h.2⟩
 ·rintro⟨i,c,e,f⟩;exact .inr ⟨i,Ut.2 c,by rw[Qr,QL];exact⟨e,f⟩⟩
theorem UJ(P:ZB)(hP:P.size<=100000):∀(k:Nat) (a b:Int) (w:World),k<=100->
  Calls prog 192 #[.string P,.int .i64 a,.int .i64 b,.int .i64 k] w λe w'=>e=.returned (.bool (AZ (bl P) k a b))∧w'=w
 | 0,a,b,w,hk=>by
  by_cases c:a=b
  ·subst c;rw[Lq];go_in;go_wp2;go_ret;exact⟨rfl,rfl⟩
  ·have F:AZ (bl P) 0 a b=false:=by simp only[AZ];exact Qf.2 c
   rw[F];have k1:(a==b)=false:=Qf.2 c;clear F c;go_in;go_wp2;go_ret;exact⟨rfl,rfl⟩
 | k+1,a,b,w,hk=>by
  obtain⟨N,Z⟩:∃N,k+1=N:=⟨_,rfl⟩
  have C:(N:Int)-1=k:=by omega
  have ad:(N:Int)<=100:=by omega
  have ab:1<=(N:Int):=by omega
  have J:Kp (∀O T,Calls prog 192 #[.string P,.int .i64 O,.int .i64 b,.int .i64 ((N:Int)-1)] T λe w'=>e=.returned (.bool (AZ (bl P) k O b))∧w'=T):=⟨λO T=>by rw[C];exact UJ P hP k O b T (by omega)⟩
  replace C:=Z_ C;by_cases c:a=b
  ·subst c;rw[Lq];clear J;go_in;go_wp2;go_ret;exact⟨rfl,rfl⟩
  ·have k1:(a==b)=false:=Qf.2 c;have d:=Zps (l:=bl P) (k:=k) c;rw[EK]at d;obtain⟨f,z⟩:∃f,AZ (bl P) (k+1) a b=f:=⟨_,rfl⟩
   rw[z]at d ⊢;rw[Z];replace d:=Z_ d;have k2:((N:Int)==0)=false:=Qf.2 (by omega);clear c z Z hk;go_in;go_wp2_with fail;go_loopw [9] (λX wr=>∃j:Nat,2*j<=P.size∧X=.int .i64 (2*j:Nat)∧Kp (¬Nz (bl P) k a b j)∧Kp (wr=w)) (λX _=>P.size+2-(intOf X).toNat);case atStart=>exact⟨0,by omega,rfl,⟨λ⟨i,I,_⟩=>by omega⟩,⟨rfl⟩⟩
   case round=>
    obtain⟨j,hj,rfl,D,h⟩:=hrel;obtain⟨m,L⟩:∃m,2*j=m:=⟨_,rfl⟩
    rw[L]at hj ⊢;by_cases U:m+1<P.size
    ·have V:(m:Int)+1<(P.size:Int):=by omega
     have aa:(m:Int)<(P.size:Int):=by omega
     have u0:=ZJ P m (by omega);have u1:=ZJ P (m+1) U;have G:=GX (s:=P) (i:=m) (by omega);have H:=GX U;obtain⟨x0,x9⟩:=Zx P m;obtain⟨y0,y9⟩:=Zx P (m+1:Nat);obtain⟨x,Q⟩:∃x,bv P m=x:=⟨_,rfl⟩
     obtain⟨y,R⟩:∃y,bv P (m+1:Nat)=y:=⟨_,rfl⟩
     rw[Q]at u0 G x0 x9;rw[R]at u1 H y0 y9;by_cases u:x=a
     ·subst u;have I:=J.o y wr;obtain⟨q,M⟩:∃q,AZ (bl P) k y b=q:=⟨_,rfl⟩
      rw[M]at I;replace I:=Z_ I;cases q with
      | true=>
       have F:Kp (f=true):=⟨d.o.2 ⟨j,by omega,by rw[L];exact G,by rw[L,H];exact M⟩⟩
       clear D Q R G H M J;go_wp2_with fail;refine I.o.mono ?_;rintro e w2 ⟨rfl,W⟩;subst W;go_wp2;go_ret;exact⟨by rw[F.o];rfl,h.o⟩
      | false=>
       have E:Kp (¬Nz (bl P) k x b (j+1)):=⟨λ⟨i,Y,A,K⟩=>by
        by_cases e:i=j
        ·rw[e,L,H,M]at K;simp at K
        ·exact D.o ⟨i,by omega,A,K⟩⟩
       clear D Q R G H M J;go_wp2_with fail;refine I.o.mono ?_;rintro e w2 ⟨rfl,W⟩;subst W;go_wp2_with fail;go_roundw;case rel=>exact⟨j+1,by omega,by go_num,E,h⟩
       case measure=>simp[intOf];omega
     ·have k3:(x==a)=false:=Qf.2 u;have E:Kp (¬Nz (bl P) k a b (j+1)):=⟨λ⟨i,Y,A,K⟩=>by
       by_cases e:i=j
       ·rw[e,L,G]at A;exact u A
       ·exact D.o ⟨i,by omega,A,K⟩⟩
      clear D Q R G H u J;go_wp2_with fail;go_roundw;case rel=>exact⟨j+1,by omega,by go_num,E,h⟩
      case measure=>simp[intOf];omega
    ·have V:¬(m:Int)+1<(P.size:Int):=by omega
     have F:Kp (f=false):=⟨by
      cases f with
      | false=>rfl
      | true=>
       obtain⟨i,Y,A⟩:=d.o.1 rfl;exact absurd ⟨i,by omega,A⟩ D.o⟩
     clear D J U;go_wp2;go_ret;exact⟨by rw[F.o];rfl,h.o⟩
theorem Yr(a b:ZB):bl (a++b)=bl a++bl b:=by unfold bl;rw[QU,Array.toList_append,QK]
theorem ZsB{a b:ZB}(h:bl a=bl b):a=b:=by rw[<-PP a,<-PP b,h]
theorem NS(h:m+1<s.size):(s.extract m (m+2)).size=2:=by rw[QX];omega
theorem O6(h:m+1<s.size):bl (s.extract m (m+2))=[bv s m,bv s (m+1:Nat)]:=by
 have e:=NS h;have a:∀i,i<2->(bl (s.extract m (m+2)))[i]?=some (bv s (m+i:Nat)):=λi f=>by rw[Kg (by omega)];unfold bv;rw[M8 s m (m+2) i (by omega) (by omega)]
 have d:(bl (s.extract m (m+2))).length=2:=by rw[EK,e]
 match hb:bl (s.extract m (m+2)),d with
 | [x,y],_=>have b:=a 0 (by omega);have c:=a 1 (by omega);rw[hb]at b c;simp at b c;rw[b,c,show ((m+1:Nat):Int)=(m:Int)+1 from by omega]
theorem ZsC(a b:ZB):(a.toList==b.toList)=true↔bl a=bl b:=by
 rw[QL,Ur,Ur];constructor
 ·intro h;unfold bl;rw[h]
 ·intro h;rw[ZsB h]
theorem Zrn{S:ZB}{d:Nat}(e:d+1<S.size)(c:m+1<P.size):((S.extract d (d+2)).toList==(P.extract m (m+2)).toList)=true↔(bv S d=bv P m∧bv S (d+1:Nat)=bv P (m+1:Nat)):=by
 rw[ZsC,O6 e,O6 c];constructor
 ·intro h;exact⟨(List.cons.inj h).1,(List.cons.inj (List.cons.inj h).2).1⟩
 ·rintro⟨a,b⟩;rw[a,b]
structure Eu(P S:ZB)(j:Nat):Prop where
 ev:S.size%2=0
 le:S.size<=2*j
 pr:∀x y,Pr (bl S) x y↔∃i,i<j∧(bl P).getD (2*i) 0=x∧(bl P).getD (2*i+1) 0=y
theorem Eu.zero(P:ZB):Eu P {data:=#[]} 0:=⟨rfl,Nat.le_refl _,λx y=>⟨λ⟨i,a,_⟩=>by simp[bl]at a,λ⟨i,a,_⟩=>by omega⟩⟩
theorem Eu.old{S:ZB}{j:Nat}(h:Eu P S j)(d:2*j+1<P.size)(f:Pr (bl S) (bv P (2*j:Nat)) (bv P (2*j+1:Nat))):Eu P S (j+1):=by
 refine⟨h.ev,by have:=h.le;omega,λx y=>?_⟩;rw[h.pr];constructor
 ·rintro⟨i,c,a,b⟩;exact⟨i,by omega,a,b⟩
 ·rintro⟨i,c,a,b⟩;by_cases e:i=j
  ·subst e;rw[GX (by omega)]at a;rw[GX d]at b;rw[<-a,<-b];exact(h.pr _ _).1 f
  ·exact⟨i,by omega,a,b⟩
theorem Eu.new{S:ZB}{j:Nat}(h:Eu P S j)(c:2*j+1<P.size):Eu P (S++P.extract (2*j) (2*j+2)) (j+1):=by
 have o:(S++P.extract (2*j) (2*j+2)).size=S.size+2:=by rw[ByteArray.size_append,NS c]
 have d:=h.ev;have l:=h.le;refine⟨by omega,by omega,λx y=>?_⟩;rw[Yr,O6 c,Nn (by rw[EK];exact d),h.pr];constructor
 ·rintro(⟨i,f,a,b⟩|⟨a,b⟩)
  ·exact⟨i,by omega,a,b⟩
  ·exact⟨j,by omega,by rw[GX (by omega),a],by rw[GX c,b]⟩
 ·rintro⟨i,f,a,b⟩;by_cases e:i=j
  ·subst e;rw[GX (by omega)]at a;rw[GX c]at b;exact .inr ⟨a.symm,b.symm⟩
  ·exact .inl ⟨i,by omega,a,b⟩
def Ky(S:ZB)(x y:Int)(k:Nat):Prop:=∃i,i<k∧(bl S).getD (2*i) 0=x∧(bl S).getD (2*i+1) 0=y
theorem Zro{S:ZB}{x y:Int}(d:S.size=2*k):Ky S x y k↔Pr (bl S) x y:=by
 constructor
 ·rintro⟨i,c,a,b⟩;exact⟨i,by rw[EK];omega,a,b⟩
 ·rintro⟨i,c,a,b⟩;rw[EK]at c;exact⟨i,by omega,a,b⟩
theorem Sn{S:ZB}{x y:Int}:Ky S x y (k+1)↔Ky S x y k∨((bl S).getD (2*k) 0=x∧(bl S).getD (2*k+1) 0=y):=by
 constructor
 ·rintro⟨i,c,a,b⟩;by_cases e:i=k
  ·subst e;exact .inr ⟨a,b⟩
  ·exact .inl ⟨i,by omega,a,b⟩
 ·rintro(⟨i,c,a,b⟩|⟨a,b⟩)
  ·exact⟨i,by omega,a,b⟩
  ·exact⟨k,by omega,a,b⟩
theorem Zpt(P:ZB)(w:World)(hP:P.size<=1000)(ar:P.size%2=0) :
  Calls prog 191 #[.string P] w λe w'=>∃S,e=.returned (.string S)∧Kp (Eu P S (P.size/2))∧Below w.heap.size w w':=by
 obtain⟨K,M⟩:∃K,P.size=2*K:=⟨P.size/2,by omega⟩
 have ao:(P.size:Int)<=1000:=by omega
 replace M:=Z_ M;go_in;go_wp2_with fail;go_loopw [3,4] (λsv iv wr=>∃(j m:Nat) (S:ZB),sv=.string S∧m=2*j∧j<=K∧iv=.int .i64 m∧S.size<=1000∧Kp (Eu P S j)∧Kp (Below w.heap.size w wr)) (λ_ iv _=>P.size+2-(intOf iv).toNat);case atStart=>exact⟨0,0,_,rfl,rfl,by omega,rfl,by show 0<=1000;omega,⟨Eu.zero P⟩,⟨Qh _ _⟩⟩
 case round=>
  obtain⟨j,m,S,rfl,y,hj,rfl,hS,N,D⟩:=hrel;have au:(m:Int)<=1000:=by have:=M.o;omega
  replace y:=Z_ y;have ap:(S.size:Int)<=1000:=by omega
  by_cases L:m+1<P.size
  ·have aa:(m:Int)+1<(P.size:Int):=by omega
   obtain⟨G,a⟩:∃G,m+2=G:=⟨_,rfl⟩
   have f:(m:Int)+2=G:=by omega
   have u:=CY (x:=(m:Int)+2) (by omega) (by omega);rw[f]at u;replace u:=Z_ u;have am:G<=P.size:=by omega
   have an:m<=G:=by omega
   have ah:(G:Int)<=(P.size:Int):=by omega
   have T:(P.extract m G).size=2:=by rw[<-a];exact NS L
   replace a:=Z_ a;replace f:=Z_ f;obtain⟨Y,R⟩:∃Y,P.extract m G=Y:=⟨_,rfl⟩
   rw[R]at T;obtain⟨k,O⟩:∃k,S.size=2*k:=⟨S.size/2,by have:=N.o.ev;omega⟩
   replace O:=Z_ O;obtain⟨wq,aj⟩:∃x,x=wr:=⟨_,rfl⟩
   have Q:Kp (Below w.heap.size w wr):=D;go_wp2_with fail;go_loopw [5,6] (λnv V wr=>∃(c d:Nat) (q:Bool),nv=.bool q∧d=2*c∧c<=k∧V=.int .i64 d∧Kp (q=true↔Ky S (bv P m) (bv P (m+1:Nat)) c)∧Kp (Below w.heap.size w wr)) (λ_ V _=>S.size+2-(intOf V).toNat);case atStart=>exact⟨0,0,false,rfl,rfl,by omega,rfl,⟨⟨λh=>by simp at h,λ⟨i,hi,_⟩=>by omega⟩⟩,Q⟩
   case round=>
    clear D Q aj;obtain⟨c,d,q,rfl,hd,hc,rfl,F,D⟩:=hrel;have aq:(d:Int)<=1000:=by have:=O.o;omega
    replace hd:=Z_ hd;by_cases U:d+1<S.size
    ·have ab:(d:Int)+1<(S.size:Int):=by omega
     have E:c+1<=k:=by have:=hd.o;have:=O.o;omega
     have W:(bl S).getD (2*c) 0=bv S d:=by rw[<-hd.o];exact GX (by omega)
     have Z:(bl S).getD (2*c+1) 0=bv S (d+1:Nat):=by rw[<-hd.o];exact GX U
     cases q with
     | true=>
      have J:Kp (true=true↔Ky S (bv P m) (bv P (m+1:Nat)) (c+1)):=⟨⟨λ_=>Sn.2 (.inl (F.o.1 rfl)),λ_=>rfl⟩⟩
      clear F W Z;go_wp2_with fail;go_quiet (fail);go_wp2_with fail;go_roundw;case rel=>exact⟨c+1,d+2,true,rfl,by have:=hd.o;omega,E,by go_num,⟨by simpa using J.o⟩,⟨below_drewN D.o _⟩⟩
      case measure=>simp[intOf];omega
     | false=>
      obtain⟨H,A⟩:∃H,d+2=H:=⟨_,rfl⟩
      have b:(d:Int)+2=H:=by omega
      have C:=CY (x:=(d:Int)+2) (by omega) (by omega);rw[b]at C;replace C:=Z_ C;have ak:H<=S.size:=by omega
      have al:d<=H:=by omega
      have af:(H:Int)<=(S.size:Int):=by omega
      replace A:=Z_ A;replace b:=Z_ b;have l:=Zrn U L;rw[A.o,a.o,R]at l;obtain⟨X,hX⟩:∃X,S.extract d H=X:=⟨_,rfl⟩
      rw[hX]at l;obtain⟨z,hz⟩:∃z,(X.toList==Y.toList)=z:=⟨_,rfl⟩
      rw[hz]at l;have J:Kp (z=true↔Ky S (bv P m) (bv P (m+1:Nat)) (c+1)):=⟨by
       rw[Sn,l,W,Z];constructor
       ·exact λh=>.inr h
       ·rintro(h|h)
        ·have:=F.o.2 h;simp at this
        ·exact h⟩
      clear F W Z l;obtain⟨ka,kb⟩:=u.o;obtain⟨la,lb⟩:=C.o;go_wp2_with fail;go_quiet (fail);clear ka kb la lb;go_wp2_with fail;go_roundw;case rel=>exact⟨c+1,d+2,z,by rw[A.o,a.o,hX,R,hz],by have:=hd.o;omega,E,by go_num,⟨by simpa using J.o⟩,⟨below_drewN D.o _⟩⟩
      case measure=>simp[intOf];omega
    ·have ab:¬(d:Int)+1<(S.size:Int):=by omega
     have ae:c=k:=by have:=hd.o;have:=O.o;omega
     rw[ae]at F;cases q with
     | true=>
      have I:Kp (Eu P S (j+1)):=⟨by
       have h:=(Zro O.o).1 (F.o.1 rfl);rw[y.o]at h L;exact N.o.old L h⟩
      clear F U;go_wp2_with fail;go_roundw;case rel=>exact⟨j+1,m+2,S,rfl,by have:=y.o;omega,by have:=y.o;have:=M.o;omega,by go_num,hS,I,D⟩
      case measure=>simp[intOf];omega
     | false=>
      have I:Kp (Eu P (S++Y) (j+1)):=⟨by
       rw[<-R,<-a.o];have ai:=y.o;subst ai;exact N.o.new L⟩
      have ad:(S++Y).size<=1000:=by rw[ByteArray.size_append,T];have:=N.o.le;have:=y.o;omega
      have s1:¬(9223372036854775807:Int)<(S.size:Int)+(Y.size:Int):=by omega
      have s2:¬(9223372036854775807:Int)<((S.size+Y.size:Nat):Int):=by omega
      clear F U;obtain⟨ka,kb⟩:=u.o;go_wp2_with fail;clear ka kb;go_roundw;case rel=>exact⟨j+1,m+2,S++Y,by rw[a.o,R],by have:=y.o;omega,by have:=y.o;have:=M.o;omega,by go_num,ad,I,D⟩
      case measure=>simp[intOf];omega
  ·have aa:¬(m:Int)+1<(P.size:Int):=by omega
   have ag:Kp (Eu P S (P.size/2)):=⟨by rw[show P.size/2=j from by have:=y.o;have:=M.o;omega];exact N.o⟩
   clear L N;go_wp2_with fail;refine bodyPost_ret (v:=.string S) (by simp[results,Tryz.results191,go_sem]) rfl ⟨S,rfl,ag,D.o⟩
theorem Ow{j:List Int}(h:∀x y,Pr l x y↔Pr j x y):∀(k:Nat) (a b:Int),AZ l k a b=AZ j k a b
 | 0,a,b=>rfl
 | k+1,a,b=>by
  rw[QM,JW,JW];constructor
  ·rintro(e|⟨c,f,d⟩)
   ·exact .inl e
   ·exact .inr ⟨c,(h _ _).1 f,by rw[<-Ow h k];exact d⟩
  ·rintro(e|⟨c,f,d⟩)
   ·exact .inl e
   ·exact .inr ⟨c,(h _ _).2 f,by rw[Ow h k];exact d⟩
theorem Eu.all{S:ZB}(h:Eu P S (P.size/2))(x y:Int):Pr (bl S) x y↔Pr (bl P) x y:=by
 rw[h.pr];constructor
 ·rintro⟨i,c,a,b⟩;exact⟨i,by rw[EK];omega,a,b⟩
 ·rintro⟨i,c,a,b⟩;rw[EK]at c;exact⟨i,by omega,a,b⟩
theorem Yd(P:ZB)(n:Nat)(w:World)(X:P.size<=1000)(M:P.size%2=0)(h1:1<=n)(U:n<=6) :
  Calls prog 140 #[.string P,.int .i64 n] w λe w'=>e=.returned (.string (bs (cells (λi j=>AZ (bl P) (n-1) i j) n)))∧Below w.heap.size w w':=by
 have E:=Zpt P w X M;obtain⟨f,C⟩:∃f:Nat->Nat->Bool,(λi j:Nat=>AZ (bl P) (n-1) i j)=f:=⟨_,rfl⟩
 rw[C];replace E:=Z_ E;replace C:=Z_ C;have ad:(n:Int)<=6:=by omega
 have ab:1<=(n:Int):=by omega
 go_in;go_wp2_with fail;refine E.o.mono ?_;rintro e T ⟨S,rfl,I,G⟩;have R:Kp (∀(a b:Nat) W,Calls prog 192 #[.string S,.int .i64 a,.int .i64 b,.int .i64 ((n:Int)-1)] W λe w'=>e=.returned (.bool (f a b))∧w'=W):=⟨λa b W=>by
  have:=UJ S (by have:=I.o.le;omega) (n-1) a b W (by omega);rw[Ow I.o.all,show ((n-1:Nat):Int)=(n:Int)-1 from by omega]at this;rw[<-C.o];exact this⟩
 replace G:=Z_ G;clear I E C;go_wp2_with fail;go_loopw [6,7] (λQ F wr=>∃a:Nat,a<=n∧Q=.string (bs (Z9 f n (a*n)))∧F=.int .i64 a∧Kp (wr=T)) (λ_ F _=>n-(intOf F).toNat);case atStart=>exact⟨0,by omega,by rw[Nat.zero_mul];rfl,rfl,⟨rfl⟩⟩
 case round=>
  obtain⟨a,Z,rfl,rfl,q⟩:=hrel;by_cases aa:a<n
  ·have J:(a:Int)<(n:Int):=by omega
   obtain⟨V0,z⟩:∃V,bs (Z9 f n (a*n))=V:=⟨_,rfl⟩
   rw[z];replace z:=Z_ z;obtain⟨wq,O⟩:∃x,x=wr:=⟨_,rfl⟩
   go_wp2_with fail;go_loopw [6,8] (λQ H wr=>∃c:Nat,c<=n∧Q=.string (bs (Z9 f n (a*n+c)))∧H=.int .i64 c∧Kp (wr=T)) (λ_ H _=>n-(intOf H).toNat);case atStart=>exact⟨0,by omega,by rw[Nat.add_zero,z.o],rfl,q⟩
   case round=>
    clear O q;obtain⟨c,hc,rfl,rfl,q⟩:=hrel;obtain⟨V,l⟩:∃V,bs (Z9 f n (a*n+c))=V:=⟨_,rfl⟩
    rw[l];by_cases L:c<n
    ·have K:(c:Int)<(n:Int):=by omega
     have u:=Rb f (a:=a) L;have D:=Vz U Z hc;have Y:(V.size:Int)<=42:=by rw[<-l,Zd,Rk];omega
     have s1:¬(9223372036854775807:Int)<(V.size:Int)+1:=by omega
     have s2:¬(9223372036854775807:Int)<((V.size+1:Nat):Int):=by omega
     cases h:f a c with
     | false=>
      have A:Kp (V++⟨#[48]⟩=bs (Z9 f n (a*n+(c+1)))):=⟨by
       rw[<-Uv,u,Zg,l,h];rfl⟩
      have d:=λW=>R.o a c W;rw[h]at d;replace d:=Z_ d;replace h:=Z_ h;replace u:=Z_ u;replace l:=Z_ l;clear D;go_wp2_with fail;refine(d.o _).mono ?_;rintro e w2 ⟨rfl,N⟩;subst N;go_wp2_with fail;go_roundw;case rel=>exact⟨c+1,by omega,by rw[<-A.o],by go_num,q⟩
      case measure=>simp[intOf];omega
     | true=>
      have A:Kp (V++⟨#[49]⟩=bs (Z9 f n (a*n+(c+1)))):=⟨by
       rw[<-Uv,u,Zg,l,h];rfl⟩
      have d:=λW=>R.o a c W;rw[h]at d;replace d:=Z_ d;replace h:=Z_ h;replace u:=Z_ u;replace l:=Z_ l;clear D;go_wp2_with fail;refine(d.o _).mono ?_;rintro e w2 ⟨rfl,N⟩;subst N;go_wp2_with fail;go_roundw;case rel=>exact⟨c+1,by omega,by rw[<-A.o],by go_num,q⟩
      case measure=>simp[intOf];omega
    ·have K:¬(c:Int)<(n:Int):=by omega
     have y:c=n:=by omega
     have A:Kp (V=bs (Z9 f n ((a+1)*n))):=⟨by rw[<-l,y,Nat.add_mul,Nat.one_mul]⟩
     replace l:=Z_ l;replace y:=Z_ y;go_wp2_with fail;go_roundw;case rel=>exact⟨a+1,by omega,by rw[<-A.o],by go_num,q⟩
     case measure=>simp[intOf];omega
  ·have J:¬(a:Int)<(n:Int):=by omega
   have e:a=n:=by omega
   have A:bs (Z9 f n (a*n))=bs (cells f n):=by rw[e,Rl]
   rw[A];obtain⟨V,l⟩:∃V,bs (cells f n)=V:=⟨_,rfl⟩
   rw[l];replace l:=Z_ l;clear A;replace e:=Z_ e;go_wp2;go_ret;exact⟨by rw[l.o];rfl,by rw[q.o];exact G.o⟩
theorem Ye(W:World)(g:Nat)(x:Int)(d:0<=x)(f:x<=255)(b:W.cell? ⟨g,0,none⟩=some (.int .u8 x)):(convert 56 9 (.slice (some ⟨g,0,none⟩) 1 1)).run prog W=.ok (.string (bs [x])) W:=by
 have h:=run_convert_bytes_back (P:=prog) W 56 9 5 ⟨g,0,none⟩ 1 [UInt8.ofNat x.toNat] Tryz.underlying56 Tryz.underlying5 Tryz.underlying9 (λj c=>by
  have e:j=0:=by simp at c;omega
  subst e;have a:(⟨g,0,none⟩:Addr).add 0=⟨g,0,none⟩:=by unfold Addr.add;split<;>simp_all
  rw[a,b];simp;omega)
 exact h
theorem Zk(x:Int)(w:World):Calls prog 51 #[.int .i64 x] w λe w'=>e=.returned (.string (bs [x%256]))∧Below w.heap.size w w':=by
 have c:IntKind.u8.wrap x=x%256:=Dg x;have a:0<=x%256:=by omega
 have b:x%256<=255:=by omega
 generalize x%256=y at *;go_in;go_wp2_with fail;rw[Ye _ _ y a b (by simp[go_sem])];go_wp2;go_ret;exact⟨rfl,(Qh _ _).alloc (Qb _) _⟩
theorem Vj:bl ⟨#[49,50,51,52,53,54]⟩=[49,50,51,52,53,54]:=by decide
theorem Zto:Fj ⟨#[49,50,51,52,53,54]⟩:=λx a=>by rw[Vj]at a;simp at a;omega
theorem UK(s:ZB)(r:Rd):C6 s ⟨#[49,50,51,52,53,54]⟩ r=Eo s r 1 6∧(1:Int)+(DW (Ae s r) (bl ⟨#[49,50,51,52,53,54]⟩):Nat)=(if Eo s r 1 6=true then AW s r 1 6 else 1):=by
 unfold C6 AW Eo;rw[Vj];generalize Ae s r=t;by_cases h:49<=t∧t<=54
 ·have b:t=49∨t=50∨t=51∨t=52∨t=53∨t=54:=by omega
  rcases b with rfl|rfl|rfl|rfl|rfl|rfl<;>decide
 ·have a:=FR (c:=t) (l:=[49,50,51,52,53,54]) (Ia λj d e=>by
   have:=Qw e;simp at this;omega)
  have hd:decide (1<=t-48∧t-48<=6)=false:=Qx (by omega);rw[a.1,a.2,hd];exact⟨rfl,rfl⟩
theorem Vk(s:ZB)(n:Int)(b:1<=n)(d:n<=6):∀(k:Nat) (r:Rd) (l:List Int),(∀x∈l,0<=x∧x<=5)->∀x∈(EF s n k r l).2,0<=x∧x<=5
 | 0,r,l,a=>a
 | k+1,r,l,a=>by
  simp only[EF];split
  ·refine Vk s n b d k _ _ λx e=>?_;rcases QI.1 e with c|c
   ·exact a x c
   ·have f:=Gm (s:=s) (r:=Aa s r) b;have h:=Gm (s:=s) (r:=An s (Aa s r) 0 (n-1)) b;simp at c;rcases c with rfl|rfl<;>omega
  ·exact a
theorem Zpu{n:Int}(c:r.er=0):AJ s (An s r 0 (n-1))<AJ s r:=by
 have d:AJ s r=Ah s r+1:=by unfold AJ;rw[if_pos c]
 by_cases h:Eo s r 0 (n-1)=true
 ·have a:=NF (s:=s) (r:=r) (e:=11) h (Pn (by omega) h);have b:Ah s (An s r 0 (n-1))<Ah s r:=a;unfold AJ at d ⊢;rw[if_pos c];split<;>omega
 ·have a:An s r 0 (n-1)=Bi (Aa s r) 11:=by unfold An BW;rw[if_neg h]
  have b:(An s r 0 (n-1)).er≠0:=by rw[a];exact Dr (by omega)
  unfold AJ at d ⊢;rw[IY b,if_neg b];omega
theorem Vs{r':Rd}(h:Ah s r'<=Ah s r)(b:r'.er=0->r.er=0):AJ s r'<=AJ s r:=by
 unfold AJ;by_cases a:r'.er=0
 ·rw[if_pos a,if_pos (b a)];omega
 ·rw[if_neg a];split<;>omega
theorem RH(s:ZB)(r:Rd)(a b:Int):AJ s (An s r a b)<=AJ s r:=Vs (IU s r a b) J6
theorem Zrp(s:ZB)(r:Rd):AJ s (Aa s r)<=AJ s r:=Vs (Zu s r) (λh=>by rw[Zl]at h;exact h)
theorem YB.setN(H:YB w rb sb B s p tb tp S sv)(n:Int):YB (w.setCell ⟨sb,0,none⟩ (.int .i64 n)) rb sb B s {p with n:=n} tb tp S sv∧ZW rb sb S S w (w.setCell ⟨sb,0,none⟩ (.int .i64 n)):=
 H.setC (p':={p with n:=n}) (by omega) rfl rfl rfl (Qk _ _ _ H.cn) ((Bc _ _ _ _ _ (by omega)).trans H.ct) ((Bc _ _ _ _ _ (by omega)).trans H.cl) ((Bc _ _ _ _ _ (by omega)).trans H.cv) ((Bc _ _ _ _ _ (by omega)).trans H.cp)
theorem YB.setT(H:YB w rb sb B s p tb tp S sv)(t:ZB):YB (w.setCell ⟨sb,1,none⟩ (.string t)) rb sb B s p t tp S sv∧ZW rb sb S S w (w.setCell ⟨sb,1,none⟩ (.string t)):=
 H.setC (p':=p) (by omega) rfl rfl rfl ((Bc _ _ _ _ _ (by omega)).trans H.cn) (Qk _ _ _ H.ct) ((Bc _ _ _ _ _ (by omega)).trans H.cl) ((Bc _ _ _ _ _ (by omega)).trans H.cv) ((Bc _ _ _ _ _ (by omega)).trans H.cp)
theorem YB.setL(H:YB w rb sb B s p tb tp S sv)(l:List Int):YB (w.setCell ⟨sb,2,none⟩ (.string (bs l))) rb sb B s {p with ls:=l} tb tp S sv∧ZW rb sb S S w (w.setCell ⟨sb,2,none⟩ (.string (bs l))):=
 H.setC (p':={p with ls:=l}) (by omega) rfl rfl rfl ((Bc _ _ _ _ _ (by omega)).trans H.cn) ((Bc _ _ _ _ _ (by omega)).trans H.ct) (Qk _ _ _ H.cl) ((Bc _ _ _ _ _ (by omega)).trans H.cv) ((Bc _ _ _ _ _ (by omega)).trans H.cp)
theorem YB.setV(H:YB w rb sb B s p tb tp S sv)(l:List Int):YB (w.setCell ⟨sb,3,none⟩ (.string (bs l))) rb sb B s {p with vs:=l} tb tp S sv∧ZW rb sb S S w (w.setCell ⟨sb,3,none⟩ (.string (bs l))):=
 H.setC (p':={p with vs:=l}) (by omega) rfl rfl rfl ((Bc _ _ _ _ _ (by omega)).trans H.cn) ((Bc _ _ _ _ _ (by omega)).trans H.ct) ((Bc _ _ _ _ _ (by omega)).trans H.cl) (Qk _ _ _ H.cv) ((Bc _ _ _ _ _ (by omega)).trans H.cp)
theorem YB.setP(H:YB w rb sb B s p tb tp S sv)(t:Value):YB (w.setCell ⟨sb,6,none⟩ t) rb sb B s p tb t S sv∧ZW rb sb S S w (w.setCell ⟨sb,6,none⟩ t):=
 H.setC (p':=p) (by omega) rfl rfl rfl ((Bc _ _ _ _ _ (by omega)).trans H.cn) ((Bc _ _ _ _ _ (by omega)).trans H.ct) ((Bc _ _ _ _ _ (by omega)).trans H.cl) ((Bc _ _ _ _ _ (by omega)).trans H.cv) (Qk _ _ _ H.cp)
def NC(t:Int):Bool:=decide (48<=t∧t<=57)
theorem Zrq{v:Nat}(h:v<8):(ByteArray.mk #[97,98,99,100,101,102,103,104]).extract v (v+1)=bs [((97+v:Nat):Int)]:=by
 match v,h with
 | 0,_=>decide
 | 1,_=>decide
 | 2,_=>decide
 | 3,_=>decide
 | 4,_=>decide
 | 5,_=>decide
 | 6,_=>decide
 | 7,_=>decide
theorem Zrr(b:97<=t)(c:t<=104):DW t (bl ⟨#[97,98,99,100,101,102,103,104]⟩)=(t-97).toNat:=by
 rw[Ov];have a:t=97∨t=98∨t=99∨t=100∨t=101∨t=102∨t=103∨t=104:=by omega
 rcases a with rfl|rfl|rfl|rfl|rfl|rfl|rfl|rfl<;>decide
theorem AS{P:Program}{d:Array Oper}{Q:Exit->Act->World->Prop}{f:Region.Mode}{S:World->Prop}{j:Oper}{e:Nat}{b:Array Bool}{a:Act}(u:d[i]?=some j)(z:YieldsIf P d S j v a)(o:S w)(h:wpAnyH P f d Q S e (b.setIfInBounds i true) (a.put j.dst v) w)
  (y:Region.noSelect d=true:=by kernel_rfl) (q:Region.free f d b i=true:=by kernel_rfl) (x:(Region.ready f d b).contains i=true:=by kernel_rfl) (l:∀c a w,Q (.panic c) (a.put j.dst v) w->Q (.panic c) a w:=by exact λ_ _ _ h=>h):wpAnyH P f d Q S (e+1) b a w:=
 wpAnyH_take u y q x l z o h
end Go.Proofs.YtcnbifdlkalimabGreat
