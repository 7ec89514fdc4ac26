/- Lemmas; their conditions stand in each. -/
import Derived.Test.YtcnbifdlkalimabGreatTrnB
namespace Go.Proofs.YtcnbifdlkalimabGreat
open Go.RowKit Go.Proofs.Tryz
set_option linter.all false
set_option maxRecDepth 100000
set_option maxHeartbeats 6400000
theorem Wz(b:Nat)(s:ZB)(t:s.size<=300)(k:Nat)(D:Kp (Hh b s k))(ou:Int)(q:Tq)(S:Nat->Value)(w:World)(H:Zw w b s q S)(G:Gd s q)(A:Ah s q.r+2<=k+1)(z:q.r.er=0)(p:AA s q<=6000)(m:Ae s q.r=62) :
  Calls prog 95 #[.pointer (some ⟨b,0,none⟩),.int .i64 ou] w (Dz b s S w (Am s (k+1) ou q)):=by
 have g:=Fn b s q.r w H.rdAt (G.ok t);have j:=λ(c:World) (T:Zi w c b (Aa s q.r))=>H.rd T;have l:Gd s {q with r:=Aa s q.r}:=G.r (Ze G.le)
 have B:AA s {q with r:=Aa s q.r}<=6000:=CF (Zh _ _) p;have E:Ah s (Aa s q.r)+1<=k:=by have:=Zu s q.r;omega
 obtain⟨y,f⟩:∃y,Am s (k+1) ou q=y:=⟨_,rfl⟩
 obtain⟨a,n⟩:∃a,(Aa s q.r).a=a:=⟨_,rfl⟩
 rw[f];simp only[Am]at f;rw[if_pos m]at f;rw[m]at g;have v:Kp (∀c,Zi w c b (Aa s q.r)->Calls prog 163 #[.pointer (some ⟨b,0,none⟩),.agg #[.int .i64 0,.int .i64 a,.int .i64 ou,.int .i64 0,.bool false,.bool false,.bool false,.bool false,.bool false,.bool false,.bool false,.bool false,.bool false,.bool false,.bool false,.bool false]] (c.alloc (.cells #[.int .i64 0,.int .i64 a,.int .i64 ou,.int .i64 0,.bool false,.bool false,.bool false,.bool false,.bool false,.bool false,.bool false,.bool false,.bool false,.bool false,.bool false,.bool false] 109)) (Dz b s S (c.alloc (.cells #[.int .i64 0,.int .i64 a,.int .i64 ou,.int .i64 0,.bool false,.bool false,.bool false,.bool false,.bool false,.bool false,.bool false,.bool false,.bool false,.bool false,.bool false,.bool false] 109)) y)):=⟨λc T=>by
  rw[<-f,<-n];exact YI b s t {q with r:=Aa s q.r} ⟨0,((Aa s q.r).a:Int),ou,0,none6,none6⟩ S _ (H.rd T |>.step ((Qh _ _).alloc (Qb _) _)) l (by omega)⟩
 replace g:=Z_ g;replace j:=Z_ j;clear H G A z p l B f;go_in;go_wp2_with fail;refine g.o.mono ?_;rintro e c ⟨rfl,d⟩;have C:c.cell? ⟨b,1,none⟩=some (.int .i64 a):=by rw[<-n];exact d.c1
 have x:=(j.o c d).lt;replace d:=Z_ d;go_wp2_with (first|(refine ws16 rfl rfl rfl rfl rfl rfl (by simp[Value.oneCell']) ?_;simp only[Act.put,List.setIfInBounds_toArray,List.set_cons_zero,List.set_cons_succ])|(refine wa16 rfl rfl rfl rfl ?_;simp only[Act.put,List.setIfInBounds_toArray,List.set_cons_zero,List.set_cons_succ]))
 refine(v.o _ d.o).mono ?_;rintro e F ⟨rfl,u,h,i⟩;replace h:=Z_ h;replace i:=Z_ i;go_wp2_with fail;first|go_end0|refine Qi (Qp rfl _ _ _) rfl ?_
 exact⟨rfl,u,h.o,((Zq.rd d.o).trans (Zq.below ((Qh _ _).alloc (Qb _) _))).trans i.o⟩
theorem WA(b:Nat)(s:ZB)(u:s.size<=300)(k:Nat)(D:Kp (Hh b s k))(ou:Int)(q:Tq)(S:Nat->Value)(w:World)(H:Zw w b s q S)(G:Gd s q)(C:Ah s q.r+2<=k+1)(B:q.r.er=0)(t:AA s q<=6000)(n:¬Ae s q.r=62)(j:Ae s q.r=63) :
  Calls prog 95 #[.pointer (some ⟨b,0,none⟩),.int .i64 ou] w (Dz b s S w (Am s (k+1) ou q)):=by
 have g:=Fn b s q.r w H.rdAt (G.ok u);have l:=λ(c:World) (T:Zi w c b (Aa s q.r))=>H.rd T;have m:Gd s {q with r:=Aa s q.r}:=G.r (Ze G.le)
 have v:AA s {q with r:=Aa s q.r}<=6000:=CF (Zh _ _) t;have E:Ah s (Aa s q.r)+1<=k:=by have:=Zu s q.r;omega
 obtain⟨y,f⟩:∃y,Am s (k+1) ou q=y:=⟨_,rfl⟩
 obtain⟨a,p⟩:∃a,(Aa s q.r).a=a:=⟨_,rfl⟩
 rw[f];simp only[Am]at f;rw[if_neg n,if_pos j]at f;rw[j]at g;have z:Kp (∀c,Zi w c b (Aa s q.r)->Calls prog 164 #[.pointer (some ⟨b,0,none⟩),.agg #[.int .i64 0,.int .i64 a,.int .i64 ou,.int .i64 0,.bool false,.bool false,.bool false,.bool false,.bool false,.bool false,.bool false,.bool false,.bool false,.bool false,.bool false,.bool false]] (c.alloc (.cells #[.int .i64 0,.int .i64 a,.int .i64 ou,.int .i64 0,.bool false,.bool false,.bool false,.bool false,.bool false,.bool false,.bool false,.bool false,.bool false,.bool false,.bool false,.bool false] 109)) (Dz b s S (c.alloc (.cells #[.int .i64 0,.int .i64 a,.int .i64 ou,.int .i64 0,.bool false,.bool false,.bool false,.bool false,.bool false,.bool false,.bool false,.bool false,.bool false,.bool false,.bool false,.bool false] 109)) y)):=⟨λc T=>by
  rw[<-f,<-p];exact WZ b s u k D {q with r:=Aa s q.r} ⟨0,((Aa s q.r).a:Int),ou,0,none6,none6⟩ S _ (H.rd T |>.step ((Qh _ _).alloc (Qb _) _)) m (by show Ae s (Aa s q.r)=63;rw[Zs];exact j) E v⟩
 replace g:=Z_ g;replace l:=Z_ l;clear H G C B t m v f n;go_in;go_wp2_with fail;refine g.o.mono ?_;rintro e c ⟨rfl,d⟩;have F:c.cell? ⟨b,1,none⟩=some (.int .i64 a):=by rw[<-p];exact d.c1
 have A:=(l.o c d).lt;replace d:=Z_ d;go_wp2_with (first|(refine ws16 rfl rfl rfl rfl rfl rfl (by simp[Value.oneCell']) ?_;simp only[Act.put,List.setIfInBounds_toArray,List.set_cons_zero,List.set_cons_succ])|(refine wa16 rfl rfl rfl rfl ?_;simp only[Act.put,List.setIfInBounds_toArray,List.set_cons_zero,List.set_cons_succ]))
 refine(z.o _ d.o).mono ?_;rintro e I ⟨rfl,x,h,i⟩;replace h:=Z_ h;replace i:=Z_ i;go_wp2_with fail;first|go_end0|refine Qi (Qp rfl _ _ _) rfl ?_
 exact⟨rfl,x,h.o,((Zq.rd d.o).trans (Zq.below ((Qh _ _).alloc (Qb _) _))).trans i.o⟩
theorem WB(b:Nat)(s:ZB)(v:s.size<=300)(k:Nat)(E:Kp (Hh b s k))(ou:Int)(q:Tq)(S:Nat->Value)(w:World)(H:Zw w b s q S)(G:Gd s q)(D:Ah s q.r+2<=k+1)(C:q.r.er=0)(u:AA s q<=6000)(n:¬Ae s q.r=62)(p:¬Ae s q.r=63)(j:Ae s q.r=64) :
  Calls prog 95 #[.pointer (some ⟨b,0,none⟩),.int .i64 ou] w (Dz b s S w (Am s (k+1) ou q)):=by
 have g:=Fn b s q.r w H.rdAt (G.ok v);have l:=λ(c:World) (T:Zi w c b (Aa s q.r))=>H.rd T;have m:Gd s {q with r:=Aa s q.r}:=G.r (Ze G.le)
 have x:AA s {q with r:=Aa s q.r}<=6000:=CF (Zh _ _) u;have F:Ah s (Aa s q.r)+1<=k:=by have:=Zu s q.r;omega
 obtain⟨y,f⟩:∃y,Am s (k+1) ou q=y:=⟨_,rfl⟩
 obtain⟨a,t⟩:∃a,(Aa s q.r).a=a:=⟨_,rfl⟩
 rw[f];simp only[Am]at f;rw[if_neg n,if_neg p,if_pos j]at f;rw[j]at g;have A:Kp (∀c,Zi w c b (Aa s q.r)->Calls prog 165 #[.pointer (some ⟨b,0,none⟩),.agg #[.int .i64 0,.int .i64 a,.int .i64 ou,.int .i64 0,.bool false,.bool false,.bool false,.bool false,.bool false,.bool false,.bool false,.bool false,.bool false,.bool false,.bool false,.bool false]] (c.alloc (.cells #[.int .i64 0,.int .i64 a,.int .i64 ou,.int .i64 0,.bool false,.bool false,.bool false,.bool false,.bool false,.bool false,.bool false,.bool false,.bool false,.bool false,.bool false,.bool false] 109)) (Dz b s S (c.alloc (.cells #[.int .i64 0,.int .i64 a,.int .i64 ou,.int .i64 0,.bool false,.bool false,.bool false,.bool false,.bool false,.bool false,.bool false,.bool false,.bool false,.bool false,.bool false,.bool false] 109)) y)):=⟨λc T=>by
  rw[<-f,<-t];exact WY b s v k E {q with r:=Aa s q.r} ⟨0,((Aa s q.r).a:Int),ou,0,none6,none6⟩ S _ (H.rd T |>.step ((Qh _ _).alloc (Qb _) _)) m (by show Ae s (Aa s q.r)=64;rw[Zs];exact j) F x⟩
 replace g:=Z_ g;replace l:=Z_ l;clear H G D C u m x f n p;go_in;go_wp2_with fail;refine g.o.mono ?_;rintro e c ⟨rfl,d⟩;have I:c.cell? ⟨b,1,none⟩=some (.int .i64 a):=by rw[<-t];exact d.c1
 have B:=(l.o c d).lt;replace d:=Z_ d;go_wp2_with (first|(refine ws16 rfl rfl rfl rfl rfl rfl (by simp[Value.oneCell']) ?_;simp only[Act.put,List.setIfInBounds_toArray,List.set_cons_zero,List.set_cons_succ])|(refine wa16 rfl rfl rfl rfl ?_;simp only[Act.put,List.setIfInBounds_toArray,List.set_cons_zero,List.set_cons_succ]))
 refine(A.o _ d.o).mono ?_;rintro e J ⟨rfl,z,h,i⟩;replace h:=Z_ h;replace i:=Z_ i;go_wp2_with fail;first|go_end0|refine Qi (Qp rfl _ _ _) rfl ?_
 exact⟨rfl,z,h.o,((Zq.rd d.o).trans (Zq.below ((Qh _ _).alloc (Qb _) _))).trans i.o⟩
theorem WC(b:Nat)(s:ZB)(x:s.size<=300)(k:Nat)(I:Kp (Hh b s k))(ou:Int)(q:Tq)(S:Nat->Value)(w:World)(H:Zw w b s q S)(G:Gd s q)(D:Ah s q.r+2<=k+1)(C:q.r.er=0)(v:AA s q<=6000)(i:¬Ae s q.r=62)(j:¬Ae s q.r=63)(l:¬Ae s q.r=64) :
  Calls prog 95 #[.pointer (some ⟨b,0,none⟩),.int .i64 ou] w (Dz b s S w (Am s (k+1) ou q)):=by
 have n:=Fn b s q.r w H.rdAt (G.ok x);have m:=λ(c:World) (T:Zi w c b (Aa s q.r))=>H.rd T;have p:Gd s {q with r:=Aa s q.r}:=G.r (Ze G.le)
 have E:AA s {q with r:=Aa s q.r}<=6000:=CF (Zh _ _) v;have M:Ah s (Aa s q.r)+1<=k:=by have:=Zu s q.r;omega
 obtain⟨y,f⟩:∃y,Am s (k+1) ou q=y:=⟨_,rfl⟩
 obtain⟨a,u⟩:∃a,(Aa s q.r).a=a:=⟨_,rfl⟩
 rw[f];simp only[Am]at f;rw[if_neg i,if_neg j,if_neg l]at f;have J:(Ae s q.r==62)=false:=Qf.2 i;have K:(Ae s q.r==63)=false:=Qf.2 j;have L:(Ae s q.r==64)=false:=Qf.2 l;have A:Kp (∀c,Zi w c b (Aa s q.r)->Calls prog 166 #[.pointer (some ⟨b,0,none⟩),.agg #[.int .i64 0,.int .i64 a,.int .i64 ou,.int .i64 0,.bool false,.bool false,.bool false,.bool false,.bool false,.bool false,.bool false,.bool false,.bool false,.bool false,.bool false,.bool false]] (c.alloc (.cells #[.int .i64 0,.int .i64 a,.int .i64 ou,.int .i64 0,.bool false,.bool false,.bool false,.bool false,.bool false,.bool false,.bool false,.bool false,.bool false,.bool false,.bool false,.bool false] 109)) (Dz b s S (c.alloc (.cells #[.int .i64 0,.int .i64 a,.int .i64 ou,.int .i64 0,.bool false,.bool false,.bool false,.bool false,.bool false,.bool false,.bool false,.bool false,.bool false,.bool false,.bool false,.bool false] 109)) y)):=⟨λc T=>by
  rw[<-f,<-u];exact WX b s x {q with r:=Aa s q.r} ⟨0,((Aa s q.r).a:Int),ou,0,none6,none6⟩ S _ (H.rd T |>.step ((Qh _ _).alloc (Qb _) _)) p (by omega)⟩
 generalize Ae s q.r=t at *;clear i j l;replace n:=Z_ n;replace m:=Z_ m;clear H G D C v p E f;go_in;go_wp2_with fail;refine n.o.mono ?_;rintro e c ⟨rfl,d⟩;have F:c.cell? ⟨b,1,none⟩=some (.int .i64 a):=by rw[<-u];exact d.c1
 have B:=(m.o c d).lt;replace d:=Z_ d;go_wp2_with (first|(refine ws16 rfl rfl rfl rfl rfl rfl (by simp[Value.oneCell']) ?_;simp only[Act.put,List.setIfInBounds_toArray,List.set_cons_zero,List.set_cons_succ])|(refine wa16 rfl rfl rfl rfl ?_;simp only[Act.put,List.setIfInBounds_toArray,List.set_cons_zero,List.set_cons_succ]))
 refine(A.o _ d.o).mono ?_;rintro e N ⟨rfl,z,g,h⟩;replace g:=Z_ g;replace h:=Z_ h;go_wp2_with fail;first|go_end0|refine Qi (Qp rfl _ _ _) rfl ?_
 exact⟨rfl,z,g.o,((Zq.rd d.o).trans (Zq.below ((Qh _ _).alloc (Qb _) _))).trans h.o⟩
theorem VX(b:Nat)(s:ZB)(f:s.size<=300)(k:Nat)(g:Kp (Hh b s k)):Hh b s (k+1):=by
 intro h q S w H G d c e;by_cases a:Ae s q.r=62
 ·exact Wz b s f k g h q S w H G d c e a
 ·by_cases i:Ae s q.r=63
  ·exact WA b s f k g h q S w H G d c e a i
  ·by_cases j:Ae s q.r=64
   ·exact WB b s f k g h q S w H G d c e a i j
   ·exact WC b s f k g h q S w H G d c e a i j
theorem QG(b:Nat)(s:ZB)(a:s.size<=300):∀k,Hh b s k
 | 0=>λf q S w H G d c e=>by omega
 | k+1=>VX b s a k ⟨QG b s a k⟩
theorem YT(b:Nat)(s:ZB)(P:s.size<=300)(q:Tq)(S:Nat->Value)(w:World)(H:Zw w b s q S)(G:Gd s q)(n:AA s q<=6000) :
  Calls prog 39 #[.pointer (some ⟨b,0,none⟩)] w (Dz b s S w (Bp s (s.size+1) q)):=by
 obtain⟨f,c⟩:∃f,Bp s (s.size+1) q=f:=⟨_,rfl⟩
 rw[c];have Y:Kp (∀(z:Tq) d K,Zw d b s z K->Gd s z->Calls prog 94 #[.pointer (some ⟨b,0,none⟩)] d λe w'=>e=.returned (.bool (decide (z.r.er=0∧(Aa s z.r).a<s.size)))∧Zi d w' b (Aa s z.r)):=⟨λz d K A V=>VT b s z.r d A.rdAt (V.ok P)⟩
 have mk:AJ s q.r<=s.size+1:=by have:=Z5 s q.r;unfold AJ;split<;>omega
 have J:Kp _:=⟨H⟩
 have I:Kp _:=⟨G⟩
 replace n:=Z_ n;replace mk:=Z_ mk;replace c:=Z_ c;clear H G;go_in;go_wp2_with fail;go_loopg [2] (AJ s q.r) (λX pv wr=>∃(j:Nat) (z:Tq) (l:Nat->Value),Kp (Zw wr b s z l)∧Kp (Gd s z)∧Kp (AA s z<=6000)∧Kp (AJ s z.r<=j)∧Kp (Bp s j z=f)∧Kp (Zq b b S l w wr)∧Kp (X=AJ s z.r));case atStart=>exact⟨s.size+1,q,S,J,I,n,mk,c,⟨Zq.refl _ _ _ _⟩,⟨rfl⟩⟩
 case round=>
  clear J I n mk c;obtain⟨j,z,l,u,p,n,C,v,N,hm⟩:=hrel;have m:=Y.o z wr l u.o p.o;by_cases h:z.r.er=0∧(Aa s z.r).a<s.size
  ·rw[Qv h]at m;have E:AJ s z.r=Ah s z.r+1:=by unfold AJ;rw[if_pos h.1]
   have D:=C.o;obtain⟨j,rfl⟩:∃i,j=i+1:=⟨j-1,by omega⟩
   have B:Gd s {z with r:=Aa s z.r}:=p.o.r (Ze p.o.le);have F:AA s {z with r:=Aa s z.r}<=6000:=CF (Zh _ _) n.o;have O:Ah s z.r+2<=s.size+2:=by have:=Z5 s z.r;omega
   have Q:Ah s (Aa s z.r)+2<=s.size+2:=by have:=Z5 s (Aa s z.r);omega
   have t:=UX (s:=s) (ou:=-1) O h.1;have g:Bp s j (Am s (s.size+2) (-1) {z with r:=Aa s z.r})=f:=by rw[<-v.o];simp only[Bp];rw[if_pos h]
   have Z:Kp (∀d,Zi wr d b (Aa s z.r)->Calls prog 95 #[.pointer (some ⟨b,0,none⟩),.int .i64 (-1)] d (Dz b s l d (Am s (s.size+2) (-1) {z with r:=Aa s z.r}))):=⟨λd T=>QG b s P (s.size+2) (-1) {z with r:=Aa s z.r} l d (u.o.rd T) B Q (by show (Aa s z.r).er=0;rw[Zl];exact h.1) F⟩
   have U:Kp (Gd s (Am s (s.size+2) (-1) {z with r:=Aa s z.r})):=⟨Ha _ _ _ B⟩
   have pn:Kp (AA s (Am s (s.size+2) (-1) {z with r:=Aa s z.r})<=6000):=⟨Qg (GV s _ _ _ (by show (Aa s z.r).er=0;rw[Zl];exact h.1)) F⟩
   have jn:Kp (AJ s (Am s (s.size+2) (-1) {z with r:=Aa s z.r}).r<=j∧AJ s (Am s (s.size+2) (-1) {z with r:=Aa s z.r}).r<AJ s z.r):=⟨by have:=t.1;omega⟩
   generalize Am s (s.size+2) (-1) {z with r:=Aa s z.r}=R at *;replace m:=Z_ m;replace g:=Z_ g;clear h E D B F Q t v p n C O;go_wp2_with fail;refine m.o.mono ?_;rintro e w2 ⟨rfl,k⟩;replace k:=Z_ k;go_wp2_with fail;refine(Z.o _ k.o).mono ?_;rintro e w3 ⟨rfl,L,y,M⟩;replace y:=Z_ y;have W:Kp (Zq b b S L w w3):=⟨N.o.trans ((Zq.rd k.o).trans M)⟩
   clear M;go_wp2_with fail;go_roundg (AJ s R.r);case measure=>have h1:=hm.o;have h2:=jn.o;omega
   case rel=>exact⟨j,R,L,y,U,pn,⟨jn.o.1⟩,g,W,⟨rfl⟩⟩
  ·rw[Qx h]at m;have g:{z with r:=Aa s z.r}=f:=by
    rw[<-v.o];cases j with
    | zero=>rfl
    | succ j=>simp only[Bp];rw[if_neg h]
   have hA2:Kp (∀d,Zi wr d b (Aa s z.r)->Zw d b s f l):=⟨λd T=>by rw[<-g];exact u.o.rd T⟩
   replace m:=Z_ m;clear h g v p n C u;go_wp2_with fail;refine m.o.mono ?_;rintro e w2 ⟨rfl,k⟩;have x:=hA2.o _ k;replace k:=Z_ k;replace x:=Z_ x;go_wp2_with fail;first|go_end0|refine Qi (Qp rfl _ _ _) rfl ?_
   exact⟨rfl,l,x.o,N.o.trans (Zq.rd k.o)⟩
end Go.Proofs.YtcnbifdlkalimabGreat
