/- Lemmas; their conditions stand in each. -/
import Derived.Test.YtcnbifdlkalimabGreatRdr15
import Derived.Test.YtcnbifdlkalimabGreatRdr16
import Derived.Test.YtcnbifdlkalimabGreatRdr17
import Derived.Test.YtcnbifdlkalimabGreatRdr18
import Derived.Test.YtcnbifdlkalimabGreatRdr19
import Derived.Test.YtcnbifdlkalimabGreatRdr22
namespace Go.Proofs.YtcnbifdlkalimabGreat
open Go.RowKit Go.Proofs.Tryz
set_option linter.all false
theorem So(rb sb B:Nat)(s a:ZB)(tp:Value)(d:s.size<=300):∀k,Ho rb sb B s a tp k
 | 0=>λp S e w H G i b c=>by omega
 | k+1=>by
  have g:Kp (Ho rb sb B s a tp k):=⟨So rb sb B s a tp d k⟩
  intro p S e w H G i b c;by_cases j:Ae s p.r=62
  ·exact Zq5 rb sb B s a tp d k g p S e w H G b c j
  ·by_cases h:Ae s p.r=63
   ·by_cases f:Ae s (AO s (Al s k) k (CJ s {p with r:=nx (Aa s p.r)}).1).1.r=58
    ·exact Zqp rb sb B s a tp d k g p S e w H G b c h f
    ·exact Zql rb sb B s a tp d k g p S e w H G b c h f
   ·by_cases l:Ae s p.r=64
    ·exact Zrt rb sb B s a tp d k g p S e w H G b c l
    ·exact Zqo rb sb B s a tp d k g p S e w H G b c i j h l
set_option maxRecDepth 100000
def F6:Nat->Value:=λ_=>.slice none 0 0
theorem Mm(w:World)(b c d f:Value)(t:TypeId):AF (w.alloc (.cells #[b,c,d,f] t)) w.heap.size [b,c,d,f]:=by
 refine⟨by simp,?_,?_⟩
 ·intro i v a;have g:i<4:=by have:=(List.getElem?_eq_some_iff.1 a).1;simpa using this
  have e:(w.alloc (.cells #[b,c,d,f] t)).cell? ⟨w.heap.size,i,none⟩=([b,c,d,f]:List Value)[i]?:=by
   match i,g with
   | 0,_=>simp[go_sem]
   | 1,_=>simp[go_sem]
   | 2,_=>simp[go_sem]
   | 3,_=>simp[go_sem]
  rw[e];exact a
 ·intro i v a;have g:i<4:=by have:=(List.getElem?_eq_some_iff.1 a).1;simpa using this
  match i,g with
  | 0,_=>simp[go_sem]
  | 1,_=>simp[go_sem]
  | 2,_=>simp[go_sem]
  | 3,_=>simp[go_sem]
theorem YB.start{b w1 g:World}(s:ZB)(n o:TypeId)(l:w1=b.alloc (.cells #[.int .i64 1,.string ⟨#[]⟩,.string ⟨#[]⟩,.string ⟨#[]⟩,.slice none 0 0,.slice none 0 0,.slice none 0 0] n))(h:g=w1.alloc (.cells #[.string s,.int .i64 0,.int .i64 0,.pointer (some ⟨b.heap.size,0,none⟩)] o)) :
  YB g (b.heap.size+1) b.heap.size (b.heap.size+2) s ⟨⟨0,0⟩,1,[],[],[],[]⟩ ⟨#[]⟩ (.slice none 0 0) F6 []:=by
 have k:=Dd b (.int .i64 1) (.string ⟨#[]⟩) (.string ⟨#[]⟩) (.string ⟨#[]⟩) (.slice none 0 0) (.slice none 0 0) (.slice none 0 0) n;rw[<-l]at k;have d:=Mm w1 (.string s) (.int .i64 0) (.int .i64 0) (.pointer (some ⟨b.heap.size,0,none⟩)) o;rw[<-h]at d;have m:w1.heap.size=b.heap.size+1:=by rw[l];simp
 rw[m]at d;have t:g.heap.size=b.heap.size+2:=by rw[h];simp[m]
 have a:AF g b.heap.size [.int .i64 1,.string ⟨#[]⟩,.string ⟨#[]⟩,.string ⟨#[]⟩,.slice none 0 0,.slice none 0 0,.slice none 0 0]:=k.step (by rw[h];exact(Qh _ _).alloc (Qb _) _);refine⟨⟨by omega,d.c 0 _ rfl,d.c 1 _ rfl,d.c 2 _ rfl,d.f 1 _ rfl,d.f 2 _ rfl⟩,d.c 3 _ rfl,by omega,by omega,by omega,by omega,a.c 0 _ rfl,a.c 1 _ rfl,a.c 2 _ rfl,a.c 3 _ rfl,λj e=>?_,a.c 6 _ rfl,λj e=>?_,λj e=>?_,λi j r e p=>.inl rfl,rfl,λi x y q=>by simp at q,by omega⟩
 ·match j,e with
  | 0,_=>exact a.c 4 _ rfl
  | 1,_=>exact a.c 5 _ rfl
 ·match j,e with
  | 0,_=>exact a.f 0 _ rfl
  | 1,_=>exact a.f 1 _ rfl
  | 2,_=>exact a.f 2 _ rfl
  | 3,_=>exact a.f 3 _ rfl
  | 4,_=>exact a.f 4 _ rfl
  | 5,_=>exact a.f 5 _ rfl
  | 6,_=>exact a.f 6 _ rfl
 ·match j,e with
  | 0,_=>exact⟨rfl,.inl ⟨rfl,rfl⟩⟩
  | 1,_=>exact⟨rfl,.inl ⟨rfl,rfl⟩⟩
theorem ZW.o{rb sb B:Nat}{a:Nat->Value}{w w':World}(T:ZW rb sb F6 a w w')(f:B<=rb)(g:B<=sb)(b:B<=w.heap.size):Below B w w':=
 ⟨T.os,T.tape,T.output,T.size,λk d=>T.block k (by omega) (by omega) (by omega) (λj c e=>by cases e)⟩
theorem ST(s:ZB)(f:Rs->Rs×Nat):∀(k:Nat) (p:Rs) (l:List Nat),∃r,(AV s f k p l).1.r=Aa s r
 | 0,p,l=>⟨p.r,rfl⟩
 | k+1,p,l=>by
  simp only[AV];split
  ·exact ST s f k _ _
  ·exact⟨p.r,rfl⟩
theorem TH(s:ZB)(b:s.size<=300):Au s (Aw s)<=6000:=by have a:=Z5 s (Aw s).r;show 0+0+Bm s (Aw s).r<=6000;unfold Bm;split<;>omega
def PN(s:ZB)(w:World)(e:Ending)(w':World):Prop:=
 Below w.heap.size w w'∧(((BF s).er≠0∧e=.returned (.tuple #[.pointer none,.int .i64 (BF s).a,.int .i64 (BF s).er]))∨
  ((BF s).er=0∧∃rb sb B tp S sv,e=.returned (.tuple #[.pointer (some ⟨sb,0,none⟩),.int .i64 0,.int .i64 0])∧YB w' rb sb B s (Af s).1 (AB s) tp S sv∧BD w' B S tp (Af s).2))
theorem Oy{B:Nat}{w w':World}(h:Below B w w')(k:Nat):Below B w (w'.drewN k):=⟨h.os,h.tape,h.output,h.size,h.block⟩
set_option maxHeartbeats 6400000
theorem Yt(s:ZB)(w:World)(V:s.size<=300):Calls prog 27 #[.string s] w (PN s w):=by
 obtain⟨w1,F⟩:∃w1,w1=w.alloc (.cells #[.int .i64 1,.string ⟨#[]⟩,.string ⟨#[]⟩,.string ⟨#[]⟩,.slice none 0 0,.slice none 0 0,.slice none 0 0] 71):=⟨_,rfl⟩
 obtain⟨L,t⟩:∃L,L=w1.alloc (.cells #[.string s,.int .i64 0,.int .i64 0,.pointer (some ⟨w.heap.size,0,none⟩)] 159):=⟨_,rfl⟩
 have A0:=YB.start s 71 159 F t;have b0:Below w.heap.size w L:=by rw[t,F];exact((Qh _ _).alloc (Qb _) _).alloc (by simp) _
 rw[F]at t;clear F;have K:Kp (∀(Z:Nat->Value) (i:World),ZW (w.heap.size+1) w.heap.size F6 Z L i->Below w.heap.size w i):=⟨λZ i T=>b0.trans (T.o (by omega) (by omega) b0.size)⟩
 obtain⟨rb,p⟩:∃rb,w.heap.size+1=rb:=⟨_,rfl⟩
 obtain⟨sb,E⟩:∃sb,w.heap.size=sb:=⟨_,rfl⟩
 obtain⟨B,hB⟩:∃B,w.heap.size+2=B:=⟨_,rfl⟩
 have Q:=Xg (w.heap.size+1) w.heap.size (w.heap.size+2) s (.slice none 0 0) F6 L V A0;have Q:Calls prog 72 #[.pointer (some ⟨w.heap.size+1,0,none⟩)] L λe i=>e=.returned (.tuple #[])∧YB i rb sb B s (Aw s) (AB s) (.slice none 0 0) F6 []∧ZW rb sb F6 F6 L i:=by rw[<-p,<-E,<-hB];exact Q
 have g:Kp (∀(Z:Nat->Value) (i:World),ZW rb sb F6 Z L i->Below w.heap.size w i):=⟨by rw[<-p,<-E];exact K.o⟩
 have Gh:=UH s;have ph:=TH s V;obtain⟨b,D⟩:∃b,Af s=b:=⟨_,rfl⟩
 obtain⟨l,N⟩:∃l,BF s=l:=⟨_,rfl⟩
 have d:l=if b.1.r.er=0∧b.1.r.a<s.size then Bi b.1.r 11 else b.1.r:=by rw[<-N,<-D];rfl
 have y:AV s (Al s (s.size+2)) (s.size+1) (Aw s) []=b:=D;have aa:Kp (∀u,YB u rb sb B s (Aw s) (AB s) (.slice none 0 0) F6 []->Calls prog 73 #[.pointer (some ⟨rb,0,none⟩)] u (IA rb sb B s (AB s) (.slice none 0 0) F6 [] u b)):=⟨λu A=>by
  rw[<-y];exact Sb rb sb B s (AB s) (.slice none 0 0) V (s.size+2) (s.size+1) ⟨So rb sb B s (AB s) (.slice none 0 0) V (s.size+2)⟩ (Aw s) F6 [] u A Gh (by have:=Z5 s (Aw s).r;omega) (by have:=Z5 s (Aw s).r;omega) ph⟩
 have Gr:Gp s b.1:=by rw[<-y];exact LF (Fs _) _ _ _ Gh
 have W:PT s b.1.r.a=b.1.r.a∨b.1.r.er≠0:=by
  obtain⟨r,hr⟩:=ST s (Al s (s.size+2)) (s.size+1) (Aw s) [];rw[y]at hr;by_cases h:r.er=0
  ·left;rw[hr,Fp h];exact TS s r.a
  ·right;rw[hr,Zl];exact h
 have ab:Kp (∀u,Cr u rb s b.1.r->b.1.r.er=0->Calls prog 74 #[.pointer (some ⟨rb,0,none⟩)] u λe i=>e=.returned (.tuple #[])∧Zi u i rb b.1.r):=⟨λu A h=>by
  have q:=IR rb s b.1.r u A (Gr.ok V);rcases W with k|k
  ·rw[k]at q;exact q
  ·exact absurd h k⟩
 have m:(Aw s).r.er≠0->b=(Aw s,[]):=λh=>by rw[<-y];exact NQ h _
 have hP:PN s w=λe i=>Below w.heap.size w i∧((l.er≠0∧e=.returned (.tuple #[.pointer none,.int .i64 l.a,.int .i64 l.er]))∨(l.er=0∧∃rb sb B tp S sv,e=.returned (.tuple #[.pointer (some ⟨sb,0,none⟩),.int .i64 0,.int .i64 0])∧YB i rb sb B s b.1 (AB s) tp S sv∧BD i B S tp b.2)):=by unfold PN;rw[N,D]
 rw[hP];generalize AB s=tb at *;generalize Aw s=hp at *;replace Q:=Z_ Q;replace d:=Z_ d;replace t:=Z_ t;replace p:=Z_ p;replace Gr:=Z_ Gr;replace m:=Z_ m;have ag:rb≠sb:=by have:=p.o;omega
 have ai:sb≠rb:=λe=>ag e.symm;replace E:=Z_ E;replace hB:=Z_ hB;clear A0 b0 K Gh ph D N y W hP;go_in;go_wp2_with fail;rw[<-t.o];refine Q.o.mono ?_;rintro e u ⟨rfl,O,T3⟩;simp only[p.o];have c1:=O.rd.c1
 have c2:=O.rd.c2;have c3:=O.c3;replace O:=Z_ O;replace T3:=Z_ T3;clear Q;by_cases J:hp.r.er=0
 ·have hL:=aa.o u.drew (O.o.step (Qh _ _).drew);replace hL:=Z_ hL;rw[J]at c2;replace J:=Z_ J;go_wp2_with fail;go_region_held3 (λi=>i.cell? ⟨rb,3,none⟩=some (.pointer (some ⟨sb,0,none⟩))) (first|go_keep|assumption) ((go_at_call 73;refine hL.o.mono ?_;rintro e w4 ⟨v,rfl,S4,ah,G,T4,N4,I4,F4⟩;obtain⟨p1,q1,rfl⟩:=Zc I4.1;have d3:=G.c3;have df:=G.f 6 (by omega);have dp:=G.cp;have dl:=G.lt;have n:=G.setP (.slice p1 b.2.length q1);have k3:=n.1.c3;have U:=I4.to n.2 G.b0 G.b1;have I:=T3.o.trans ((ZW.below (rb:=rb) (sb:=sb) (S:=F6) ((Qh _ _).drew)).trans (T4.trans n.2));have k1:=n.1.rd.c1;have k2:=n.1.rd.c2;replace n:Kp _:=⟨n.1⟩;replace I:=Z_ I;replace U:=Z_ U;clear G T4 N4 I4 F4));all_goals
   obtain⟨w5,X⟩:∃w5,w4.setCell ⟨sb,6,none⟩ (.slice p1 b.2.length q1)=w5:=⟨_,rfl⟩
   rw[X]at n I U k1 k2 k3 ⊢;clear X d3 df dp dl;by_cases c:b.1.r.er=0
   ·rw[c]at k2;have R:=ab.o w5 n.o.rd c;replace R:=Z_ R;by_cases ha:b.1.r.a<s.size
    ·have C:Kp (l=⟨b.1.r.a,11⟩):=⟨by
      rw[d.o,if_pos ⟨c,ha⟩];unfold Bi;rw[if_pos c]⟩
     have M:(b.1.r.a:Int)<(s.size:Int):=by omega
     have ad:decide (b.1.r.a<s.size)=true:=Qv ha;have ae:decide ((b.1.r.a:Int)<(s.size:Int))=true:=Qv M;go_wp2_with fail;refine R.o.mono ?_;rintro e w6 ⟨rfl,H⟩;have j:=n.o.rdto H;have P:=I.o.trans (ZW.rd H);have m1:=j.rd.c1;have z:=j.rd.c2;have mf:=j.rd.f2;have ml:=j.rd.lt;have m2:w6.cell? ⟨rb,2,none⟩=some (.int .i64 0):=by rw[<-c];exact z
     clear z;have Y:=Zi.setE j.rd 11;have T7:=P.trans (ZW.rd Y);have n1:(w6.setCell ⟨rb,2,none⟩ (.int .i64 11)).cell? ⟨rb,1,none⟩=some (.int .i64 b.1.r.a):=Y.c1;have n2:=Y.c2;replace T7:=Z_ T7;clear H j P Y n I R;go_wp2_with fail;go_quiet (fail);go_wp2;go_ret3;exact⟨Oy (g.o _ _ T7.o) _,.inl ⟨by rw[C.o];show (11:Int)≠0;omega,by rw[C.o];rfl⟩⟩
    ·have C:Kp (l=b.1.r):=⟨by rw[d.o,if_neg (λk=>ha k.2)]⟩
     have M:¬(b.1.r.a:Int)<(s.size:Int):=by omega
     have ad:decide (b.1.r.a<s.size)=false:=Qx ha;have ae:decide ((b.1.r.a:Int)<(s.size:Int))=false:=Qx M;have x:Kp (l.er=0):=⟨by rw[C.o];exact c⟩
     go_wp2_with fail;refine R.o.mono ?_;rintro e w6 ⟨rfl,H⟩;have j:=n.o.rdto H;have P:=I.o.trans (ZW.rd H);have I6:=U.o.to (ZW.rd (sb:=sb) (S:=S4) H) j.b0 j.b1;have m1:=j.rd.c1;have z:=j.rd.c2;have m3:=j.c3;have m2:w6.cell? ⟨rb,2,none⟩=some (.int .i64 0):=by rw[<-c];exact z
     clear z;replace j:=Z_ j;replace P:=Z_ P;replace I6:=Z_ I6;clear H n I U R;go_wp2;go_ret3;exact⟨g.o _ _ P.o,.inr ⟨x.o,rb,sb,B,_,S4,ah,rfl,j.o,I6.o⟩⟩
   ·have C:Kp (l=b.1.r):=⟨by rw[d.o,if_neg (λk=>c k.1)]⟩
    have hk:(b.1.r.er==0)=false:=Qf.2 c;have af:(b.1.r.er != 0)=true:=QO.2 c;have x:Kp (l.er≠0):=⟨by rw[C.o];exact c⟩
    go_wp2_with fail;go_quiet (fail);go_wp2;go_ret3;exact⟨Oy (g.o _ _ I.o) _,.inl ⟨x.o,by rw[C.o];rfl⟩⟩
 ·have e1:=m.o J;have C:Kp (l=hp.r):=⟨by rw[d.o,e1,if_neg (λk=>J k.1)]⟩
  have hk:(hp.r.er==0)=false:=Qf.2 J;have af:(hp.r.er != 0)=true:=QO.2 J;have x:Kp (l.er≠0):=⟨by rw[C.o];exact J⟩
  clear e1 m;go_wp2_with fail;go_quiet (fail);go_wp2;go_ret3;exact⟨Oy (g.o _ _ T3.o) _,.inl ⟨x.o,by rw[C.o];rfl⟩⟩
end Go.Proofs.YtcnbifdlkalimabGreat
