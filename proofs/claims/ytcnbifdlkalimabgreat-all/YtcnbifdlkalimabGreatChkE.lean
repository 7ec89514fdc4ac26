/- Lemmas; their conditions stand in each. -/
import Derived.Test.YtcnbifdlkalimabGreatChkD
namespace Go.Proofs.YtcnbifdlkalimabGreat
open Go.RowKit Go.Deep Go.Proofs.Tryz
set_option linter.all false
set_option maxRecDepth 100000
set_option maxHeartbeats 25600000
theorem WE(s t v c:ZB)(n:Int)(w:World)(F:Kp (FP c v t n))(hA:Kp (∀p x,Gq c v t n p x->DY s p x))(ap:Kp (∀W:World,Calls prog 84 #[.string s] W λe N=>e=.returned (.tuple #[.agg #[.int .i64 n,.string t,.string v,.string c,.int .i64 (half c)],.int .i64 0])∧Below W.heap.size W N)) :
  Calls prog 85 #[.string s] w (Ok s w):=by
 have hh:=(Zn c).1;have hK:=F.o.hK;have hc:=F.o.hc;have hr:Kp (Ay c):=⟨GO F.o.ok⟩
 have aP:Kp (∀i:Int,0<=i->i<half c->bv c (2*i)<=11):=⟨λi h0 h1=>by have:=QB (PC F.o.ok h0 h1);omega⟩
 have aO:=F.o.lat.tab.lo;have aZ:=F.o.lat.tab.hi;go_in;go_wp2_with fail;refine(ap.o _).mono ?_;rintro e w1 ⟨rfl,au⟩;have hU:=GF.begin n t v c w1;have Z:=hU.o.lt;have q0:=hU.o.c 0 _ rfl;have q1:=hU.o.c 1 _ rfl;have q2:=hU.o.c 2 _ rfl;have q3:=hU.o.c 3 _ rfl;have q4:=hU.o.c 4 _ rfl;go_wp2_with fail;go_region_held3 (λN=>N.cell? ⟨w1.heap.size,0,none⟩=some (.int .i64 n)∧N.cell? ⟨w1.heap.size,1,none⟩=some (.string t)∧N.cell? ⟨w1.heap.size,2,none⟩=some (.string v)∧N.cell? ⟨w1.heap.size,3,none⟩=some (.string c)∧N.cell? ⟨w1.heap.size,4,none⟩=some (.int .i64 (half c))) (go_keep) (first|(go_at_call 152;refine(MR n 0 t v c _ hK (by omega)).mono ?_;rintro e w2 ⟨g,rfl,hg,l,ad⟩;have T:=hU.step ((Qh _ _).drew.trans ad);have o0:=T.o.c 0 _ rfl;have o1:=T.o.c 1 _ rfl;have o2:=T.o.c 2 _ rfl;have o3:=T.o.c 3 _ rfl;have o4:=T.o.c 4 _ rfl)|(go_at_call 151;refine(Ll n (-1) g (λj=>decide (j=0)) t v c _ hc hK hr l).mono ?_;rintro e w3 ⟨rfl,lm,D,hm,Q⟩;replace hm:=Z_ hm;have O:=T.step Q;have p0:=O.o.c 0 _ rfl;have p1:=O.o.c 1 _ rfl;have p2:=O.o.c 2 _ rfl;have p3:=O.o.c 3 _ rfl;have p4:=O.o.c 4 _ rfl));all_goals
  obtain⟨u,hu⟩:∃u,w1.heap.size=u:=⟨_,rfl⟩
  obtain⟨gl,av⟩:∃gl,w2.heap.size+1=gl:=⟨_,rfl⟩
  have C0:CB w w3 u gl n t v c lm:=⟨au.trans (O.b.mono au.size),by rw[<-hu];exact O.o,by rw[<-av];exact D⟩
  have r:Kp (∀j:Nat,(j:Int)<=half c->(lm j=true↔Aq c j)):=⟨λj hj=>by rw[hm.o j hj];exact Mu (i:=0) (by omega) (-1) j⟩
  rw[hu,av];clear hU T O hm l D au ad Q p0 p1 p2 p3 p4 o0 o1 o2 o3 o4 q0 q1 q2 q3 q4 Z hg hu av;go_wp2_with fail;go_loopw [7] (λY wr=>∃k:Nat,k<=(half c).toNat+1∧Y=.int .i64 k∧CB w wr u gl n t v c lm∧Kp (∀q:Nat,q<k->¬CD c q)) (λY _=>(half c).toNat+1-(intOf Y).toNat);case atStart=>exact⟨0,by omega,rfl,C0,⟨λq hq=>absurd hq (by omega)⟩⟩
  case round=>
   clear C0;obtain⟨k,hk,rfl,C,hT⟩:=hrel;have Z:=C.o.lt;have q0:=C.o.c 0 _ rfl;have q1:=C.o.c 1 _ rfl;have q2:=C.o.c 2 _ rfl;have q3:=C.o.c 3 _ rfl;have q4:=C.o.c 4 _ rfl;by_cases G:(k:Int)<=half c
   ·have ql:=C.rl.cell (i:=k) (by omega);have aN:(k:Int)<((half c).toNat+1:Nat):=by omega
    cases z:lm k with
    | false=>
     rw[z]at ql;have ar:Kp (∀q:Nat,q<k+1->¬CD c q):=⟨λq hq ht=>by
      by_cases e:q=k
      ·subst e;rw[(r.o q G).2 ht.2.1]at z;exact absurd z (by simp)
      ·exact hT.o q (by omega) ht⟩
     go_wp2_with fail;go_roundw;case rel=>exact⟨k+1,by omega,by go_num,C,ar⟩
     case measure=>simp[intOf];omega
    | true=>
     rw[z]at ql;have aw:Kp (Aq c k):=⟨(r.o k G).1 z⟩
     replace z:=Z_ z;go_wp2_with fail;go_region_held3 (λN=>N.cell? ⟨u,0,none⟩=some (.int .i64 n)∧N.cell? ⟨u,1,none⟩=some (.string t)∧N.cell? ⟨u,2,none⟩=some (.string v)∧N.cell? ⟨u,3,none⟩=some (.string c)∧N.cell? ⟨u,4,none⟩=some (.int .i64 (half c))) (go_keep) (first|(go_at_call 152;refine(MR n k t v c _ hK (by omega)).mono ?_;rintro e w2 ⟨g,rfl,hg,l,ad⟩;have C1:=C.step ((Qh _ _).drew.trans ad);have o0:=C1.o.c 0 _ rfl;have o1:=C1.o.c 1 _ rfl;have o2:=C1.o.c 2 _ rfl;have o3:=C1.o.c 3 _ rfl;have o4:=C1.o.c 4 _ rfl)|(go_at_call 151;refine(Ll n (-1) g (λj=>decide (j=k)) t v c _ hc hK hr l).mono ?_;rintro e w3 ⟨rfl,m,D,hm,Q⟩;replace hm:=Z_ hm;have C2:=C1.step Q;have p0:=C2.o.c 0 _ rfl;have p1:=C2.o.c 1 _ rfl;have p2:=C2.o.c 2 _ rfl;have p3:=C2.o.c 3 _ rfl;have p4:=C2.o.c 4 _ rfl));all_goals
      have ae:=D.cell (i:=(half c).toNat) (by omega);have ah:Kp (m (half c).toNat=true↔Ac c (Bx k) (-1) (half c)):=⟨by
       rw[hm.o (half c).toNat (by omega),Mu (by omega)];rw[Qj hh]⟩
      clear ad Q C1 p0 p1 p2 p3 p4 o0 o1 o2 o3 o4 Z q0 q1 q2 q3 q4 l D hm hg ql C;have Z:=C2.o.lt;have q4:=C2.o.c 4 _ rfl;have aY:half c<half c+1:=by omega
      cases V:m (half c).toNat
      ·rw[V]at ae;have hR:Kp (DY s k 7):=⟨hA.o _ _ (.inl ⟨rfl,⟨⟨by omega,G⟩,aw.o,λh=>by rw[ah.o.2 h]at V;exact absurd V (by simp)⟩,λq hq ht=>by
        have e:((q.toNat:Nat):Int)=q:=Qj ht.1.1;exact hT.o q.toNat (by omega) (by rw[e];exact ht)⟩)⟩
       clear V ah hT;go_wp2;go_ret2;exact⟨k,7,rfl,hR,C2.b⟩
      ·rw[V]at ae;have ar:Kp (∀q:Nat,q<k+1->¬CD c q):=⟨λq hq ht=>by
        by_cases e:q=k
        ·subst e;exact ht.2.2 (ah.o.1 V)
        ·exact hT.o q (by omega) ht⟩
       clear V ah hT;go_wp2_with fail;go_roundw;case rel=>exact⟨k+1,by omega,by go_num,C2,ar⟩
       case measure=>simp[intOf];omega
   ·have aa:Kp (∀q,¬CD c q):=⟨λq ht=>by
     have e:((q.toNat:Nat):Int)=q:=Qj ht.1.1;have h2:=ht.1.2;exact hT.o q.toNat (by omega) (by rw[e];exact ht)⟩
    clear hT;go_wp2_with fail;refine(Wv n gl lm t v c _ hc hK hr aP C.rl r).mono ?_;rintro e w3 ⟨ok,rfl,h,l,hH,Q⟩;have C3:=C.step Q;cases ok
    ·have hR:Kp (DY s 0 8):=⟨hA.o _ _ (.inr ⟨aa.o,.inl ⟨rfl,rfl,hH.o.2 rfl⟩⟩)⟩
     clear q0 q1 q2 q3 q4 Z hH;go_wp2;go_ret2;exact⟨0,8,rfl,hR,C3.b⟩
    ·have HH:Kp (Zj c h):=⟨hH.o.1 rfl⟩
     have FC:Kp (DZ c v t n h):=⟨F.o.code HH.o⟩
     have aD:Kp (∀i:Nat,Aq c i->∀x,Ac c (Bx i) (-1) x->Ac c (Bx x) (-1) (half c)):=⟨λi hl x hx=>by
      have aG:Aq c x:=Ac.trans hl hx;exact Classical.byContradiction λk=>aa.o x ⟨Ta hr.o aG,aG,k⟩⟩
     obtain⟨gh,aE⟩:∃gh,wr.heap.size+1=gh:=⟨_,rfl⟩
     rw[aE]at l ⊢;clear q0 q1 q2 q3 q4 Z hH C Q aE;have aH:=run_make_row' (P:=prog) 212 206 (.slice none 0 0) 24 Tryz.underlying212 Zoh rfl .i64 .i64 ((half c).toNat+1) (by omega) (by omega);rw[show ((((half c).toNat+1):Nat):Int)=half c+1 from by omega]at aH;have aR:IntKind.i64.wrap (half c+1)=half c+1:=by rw[IntKind.wrap_i64];omega
     have q0:=C3.o.c 0 _ rfl;have q1:=C3.o.c 1 _ rfl;have q2:=C3.o.c 2 _ rfl;have q3:=C3.o.c 3 _ rfl;have q4:=C3.o.c 4 _ rfl;go_wp2_with fail;go_region_held3 (λN=>N.cell? ⟨u,0,none⟩=some (.int .i64 n)∧N.cell? ⟨u,1,none⟩=some (.string t)∧N.cell? ⟨u,2,none⟩=some (.string v)∧N.cell? ⟨u,3,none⟩=some (.string c)∧N.cell? ⟨u,4,none⟩=some (.int .i64 (half c))) ((refine Mi C3.o ?_;first|exact(Qh _ _).drew|exact((Qh _ _).alloc (Qb _) _).drew|exact(((Qh _ _).alloc (Qb _) _).alloc (by simp) _).drew)) (fail);all_goals
      have P0:=(EH.begin C3 l).step ((Qh _ _).drew);obtain⟨w4,aI⟩:∃w4,w4=((w3.alloc (.cells (madeCells #[.slice none 0 0] ((half c).toNat+1)) 206)).alloc (.cells #[.int .i64 n,.string t,.string v,.string c,.int .i64 (half c),.slice (some ⟨gl,0,none⟩) ((half c).toNat+1) ((half c).toNat+1),.slice (some ⟨gh,0,none⟩) ((half c).toNat+1) ((half c).toNat+1),.slice (some ⟨w3.heap.size,0,none⟩) ((half c).toNat+1) ((half c).toNat+1)] 214)).drew:=⟨_,rfl⟩
      rw[<-aI]at P0 ⊢;obtain⟨gr,aF⟩:∃gr,w3.heap.size=gr:=⟨_,rfl⟩
      rw[aF]at P0 ⊢;obtain⟨f,hf⟩:∃f,gr+1=f:=⟨_,rfl⟩
      rw[hf]at P0 ⊢;clear q0 q1 q2 q3 q4 aH aR aI aF hf C3 l;go_wp2_with fail;go_loopw [12] (λY wr=>∃(k:Nat) (R:Nat->Nat->Bool) (rv:Nat->Value),(k:Int)<=half c∧Y=.int .i64 k∧EH w wr u gl gh f gr n t v c lm h R rv k∧Kp (∀i p:Nat,i<k->Aq c i->bv c (2*i)=9->(p:Int)<=half c->(R i p=true↔CO c i p))) (λY _=>(half c).toNat-(intOf Y).toNat);case atStart=>exact⟨0,_,_,by omega,rfl,P0,⟨λi p hi=>absurd hi (by omega)⟩⟩
      case round=>
       clear P0;obtain⟨k,R,rv,hk,rfl,P,B⟩:=hrel;have Z:=P.cb.o.lt;have q4:=P.cb.o.c 4 _ rfl;by_cases G:(k:Int)<half c
       ·have ql:=P.cb.rl.cell (i:=k) (by omega);have aN:(k:Int)<((half c).toNat+1:Nat):=by omega
        have E:Kp (¬(lm k=true∧bv c (2*k)=9)->∀i p:Nat,i<k+1->Aq c i->bv c (2*i)=9->(p:Int)<=half c->(R i p=true↔CO c i p)):=⟨λJ i p hi hl h9 hp=>by
         by_cases e:i=k
         ·subst e;exact absurd ⟨(r.o i hk).2 hl,h9⟩ J
         ·exact B.o i p (by omega) hl h9 hp⟩
        cases z:lm k with
        | false=>
         rw[z]at ql;have J:¬(lm k=true∧bv c (2*k)=9):=λe=>by rw[z]at e;exact absurd e.1 (by simp)
         have P2:=P.skip J;have ab:Kp _:=⟨E.o J⟩
         clear P B E J z;go_wp2_with fail;go_roundw;case rel=>exact⟨k+1,R,rv,by omega,by go_num,P2,ab⟩
         case measure=>simp[intOf];omega
        | true=>
         rw[z]at ql;have aw:Kp (Aq c k):=⟨(r.o k hk).1 z⟩
         replace z:=Z_ z;have q0:=P.cb.o.c 0 _ rfl;have q1:=P.cb.o.c 1 _ rfl;have q2:=P.cb.o.c 2 _ rfl;have q3:=P.cb.o.c 3 _ rfl;go_wp2_with fail;refine(FL n k t v c _ hc (by omega) G).mono ?_;rintro e w5 ⟨rfl,aB⟩;have P5:=P.step aB;clear q0 q1 q2 q3 q4 ql P aB Z;by_cases h9:bv c (2*k)=9
         ·rw[h9];have Z:=P5.cb.o.lt;have q0:=P5.cb.o.c 0 _ rfl;have q1:=P5.cb.o.c 1 _ rfl;have q2:=P5.cb.o.c 2 _ rfl;have q3:=P5.cb.o.c 3 _ rfl;have q4:=P5.cb.o.c 4 _ rfl;have q7:=P5.oF.c 7 _ rfl;have aV:=P5.rr.lt;replace h9:=Z_ h9;clear E;go_wp2_with fail;go_region_with ((go_at_call 154;refine(Xt n k t v c _ hc hK G hr ⟨aD.o k aw.o⟩).mono ?_;rintro e w6 ⟨g,rfl,hg,m,l,an,aC⟩;have P6:=P5.step ((Qh _ _).drew.trans aC);have a7:=P6.oF.c 7 _ rfl;have a8:=P6.rr.cell (i:=k) (by omega);have fz:=P6.rr.frozen k))
          all_goals
           have P7:=P6.set l (by have aX:w5.heap.size<=g:=(by simpa using hg);omega);have ab:Kp (∀i p:Nat,i<k+1->Aq c i->bv c (2*i)=9->(p:Int)<=half c->((if i=k then m p else R i p)=true↔CO c i p)):=⟨λi p hi hl h9 hp=>by
            by_cases e:i=k
            ·subst e;rw[if_pos rfl];exact an.o p hp
            ·rw[if_neg e];exact B.o i p (by omega) hl h9 hp⟩
           clear P5 P6 B an l aC q0 q1 q2 q3 q4 q7 a7 a8 fz hg;go_wp2_with fail;go_roundw;case rel=>exact⟨k+1,_,_,by omega,by go_num,P7,ab⟩
           case measure=>simp[intOf];omega
         ·have aW:(bv c (2*k)==9)=false:=Qf.2 h9;have J:¬(lm k=true∧bv c (2*k)=9):=λe=>h9 e.2;have P2:=P5.skip J
          have ab:Kp _:=⟨E.o J⟩
          clear P5 B E J;go_wp2_with fail;go_roundw;case rel=>exact⟨k+1,R,rv,by omega,by go_num,P2,ab⟩
          case measure=>simp[intOf];omega
       ·have H:=P.all G;have C:=P.cb;have aq:Kp (∀i p:Nat,(i:Int)<half c->Aq c i->bv c (2*i)=9->(p:Int)<=half c->(R i p=true↔CO c i p)):=⟨λi p hi=>B.o i p (by omega)⟩
        obtain⟨i0,aM,aS,aT,aU⟩:=info_parts Zoi;clear B P;go_wp2_with fail;clear Z q4;obtain⟨wa,rfl⟩:∃x,x=wr:=⟨_,rfl⟩
        go_loopw [13,14] (λsv Y w7=>∃(k:Nat) (ps:List Value) (Mf:Int->Int->Int->Bool),(k:Int)<=n∧Y=.int .i64 k∧Kp (w7.ownsRow wa.heap.size 216 1 sv k ps)∧Hn w7 ps k c Mf∧Below wa.heap.size wa w7∧Kp (∀a:Nat,a<k->∀p d,Mf a p d=true↔AC c v h a p d)) (λ_ Y _=>n.toNat-(intOf Y).toNat);case atStart=>exact⟨0,[],λ_ _ _=>false,by omega,rfl,⟨Uq _ _ _ _⟩,⟨rfl,λa ha=>absurd ha (by omega)⟩,Qh _ _,⟨λa ha=>absurd ha (by omega)⟩⟩
        case round=>
         obtain⟨k,ps,Mf,hk,rfl,S,ai,hB,ag⟩:=hrel;have C7:=C.step hB;have H7:=H.step hB;have Z:=C7.o.lt;have q0:=C7.o.c 0 _ rfl;by_cases G:(k:Int)<n
         ·go_wp2_with fail;refine(XA f gl gh gr n k t v c lm h R _ H7 FC r aq).mono ?_;rintro e w8 ⟨mb,gp,gs,M,rfl,m1,m2,m3,K,aj,hM⟩;have L:Kp (w8.ownsRow wa.heap.size 216 1 u13 k ps):=⟨RW S.o aj⟩
          have am:=ai.step aj;have A:=hB.trans (aj.mono hB.size);have hz:=A.size;have az:Kp (∀a:Nat,a<k+1->∀p d,(λa:Int=>if a=k then M else Mf a) a p d=true↔AC c v h a p d):=⟨λa ha p d=>by
           by_cases e:a=k
           ·subst e;simp only[if_pos];exact hM.o p d
           ·have e2:¬((a:Int)=(k:Int)):=by omega
            simp only[if_neg e2];exact ag.o a (by omega) p d⟩
          clear q0 Z aj ag C7 H7 hM;go_wp2_with (at_builtin;refine wpList_append_own _ rfl _ _ 215 rfl wa.heap.size 216 i0 (.pointer none) 1 8 Tryz.underlying215 aM aS aT aU rfl (by decide) _ _ _ rfl (L.o.alloc _) ⟨w8.heap.size,0,none⟩ 1 1 [.pointer (some ⟨mb,0,none⟩)] rfl rfl ?a1 ?a2 ?a3 ?a4 ?a5 ?_)
          case a1=>
           intro j y hj;match j,hj with
           | 0,hj=>simp at hj;subst hj;simp[Addr.add]
          case a2=>intro y hy;simp at hy;subst hy;rfl
          case a3=>unfold maxLen;omega
          case a4=>omega
          case a5=>simp;omega
          intro v' w9 X U _;have ao:Below wa.heap.size wa w9:=(A.alloc hz _).grown U (by simp;omega) (λj hj=>((L.o.lt j hj).1));have aA:=am.push L.o S.o U K m1 m2 m3;replace X:=Z_ X;clear U S L ai am K A hB hz m1 m2 m3;go_wp2;go_roundw;case rel=>exact⟨k+1,_,_,by omega,by go_num,X,aA,ao,az⟩
          case measure=>simp[intOf];omega
         ·obtain⟨gL,aJ,aQ,L7⟩:=ai.list S.o aO (by omega);have aK:Kp (∀a p d,Lv n a->(Mf a p d=true↔AC c v h a p d)):=⟨λa p d ha=>by
           have h1:=ha.1;have h2:=ha.2;have e:((a.toNat:Nat):Int)=a:=Qj h1;have:=ag.o a.toNat (by omega) p d
           rwa [e]at this⟩
          have ay:=C7.b;subst aQ;clear ag S ai;go_wp2_with fail;clear q0 Z;obtain⟨wb,rfl⟩:∃x,x=wr:=⟨_,rfl⟩
          go_loopw [15] (λY w8=>∃k:Nat,(k:Int)<=half c∧Y=.int .i64 k∧Below wb.heap.size wb w8∧Kp (∀q:Nat,q<k->¬Bb c v t n h q)) (λY _=>(half c).toNat-(intOf Y).toNat);case atStart=>exact⟨0,by omega,rfl,Qh _ _,⟨λq hq=>absurd hq (by omega)⟩⟩
          case round=>
           obtain⟨k,hk,rfl,A,hN⟩:=hrel;have C8:=C7.step A;have H8:=H7.step A;have L8:=L7.step A;have Z:=C8.o.lt;have q4:=C8.o.c 4 _ rfl;have af:=ay.trans (A.mono ay.size);by_cases G:(k:Int)<half c
           ·go_wp2_with fail;refine(XC f gl gh gr gL aJ n t v c lm h R Mf k _ H8 L8 FC r aK G).mono ?_;rintro e w9 ⟨b,rfl,al,ak⟩;have ao:=A.trans (ak.mono A.size);have ax:=af.trans (ak.mono af.size);clear q4 Z H8 L8 C8 af;cases b
            ·have aL:Kp (∀q:Nat,q<k+1->¬Bb c v t n h q):=⟨λq hq I=>by
              by_cases e:q=k
              ·subst e;exact absurd (al.o.2 I) (by simp)
              ·exact hN.o q (by omega) I⟩
             clear al hN ak A;go_wp2_with fail;go_roundw;case rel=>exact⟨k+1,by omega,by go_num,ao,aL⟩
             case measure=>simp[intOf];omega
            ·have hR:Kp (DY s k 9):=⟨hA.o _ _ (.inr ⟨aa.o,.inr ⟨h,HH.o,.inl ⟨rfl,al.o.1 rfl,λq hq I=>by
              have e:((q.toNat:Nat):Int)=q:=Qj I.1.1;exact hN.o q.toNat (by omega) (by rw[e];exact I)⟩⟩⟩)⟩
             clear al hN ak A;go_wp2;go_ret2;exact⟨k,9,rfl,hR,ax⟩
           ·have hR:Kp (DY s 0 0):=⟨hA.o _ _ (.inr ⟨aa.o,.inr ⟨h,HH.o,.inr ⟨rfl,rfl,λq I=>by
             have e:((q.toNat:Nat):Int)=q:=Qj I.1.1;have h2:=I.1.2;exact hN.o q.toNat (by omega) (by rw[e];exact I)⟩⟩⟩)⟩
            clear hN A L8 H8;go_wp2;go_ret2;exact⟨0,0,rfl,hR,af⟩
theorem RB(s:ZB)(w:World)(c:s.size<=maxLen):Calls prog 85 #[.string s] w (Ok s w):=by
 by_cases h:AN s=0
 ·exact WE s (Av s) (At s) (Ao s) (bv s 1) w ⟨Jd c h⟩ ⟨λp x i=>.inr ⟨h,i⟩⟩ ⟨λW=>NV s W c h⟩
 ·have j:(AN s != 0)=true:=QO.2 h;replace h:=Z_ h;have d:Kp (DY s 0 (AN s)):=⟨.inl ⟨h.o,rfl,rfl⟩⟩
  generalize b:AN s=f at j d ⊢;replace b:=Z_ b;go_in;go_wp2_with fail;refine(Td s _ c h.o).mono ?_;rintro e k ⟨rfl,a⟩;rw[b.o];have g:=a.trans (((Qh _ _).alloc (Qb _) (.cells #[.int .i64 0,.string {data:=#[]},.string {data:=#[]},.string {data:=#[]},.int .i64 0] 169)).mono a.size);go_wp2;go_ret2;exact⟨0,f,rfl,d,g⟩
open Go.RowKit
theorem checks_walk(b:ZB)(d:b.size<=maxLen)(w:World) :
  Calls prog 35 #[.string b] w λe m=>e=.returned (.bool true)∧Below w.heap.size w m:=by
 have a:Kp (∀p x q y,DY b p x->DY b q y->p=q∧x=y):=⟨λp x q y k l=>RQ (λh=>GO (Jd d h).ok) k l⟩
 go_in;go_wp2_with fail;refine(YC b _ d).mono ?_;rintro e n ⟨p,x,rfl,g,c⟩;go_wp2_with fail;refine(RB b _ d).mono ?_;rintro e r ⟨q,y,rfl,i,f⟩;obtain⟨rfl,rfl⟩:=a.o p x q y g.o i.o;have j:=c.trans (f.mono c.size);clear c f a g i;go_wp2_with fail;refine(IT _ _).mono ?_;rintro e s ⟨rfl,rfl⟩;go_wp2;go_ret;exact⟨Za (by simp),j⟩
end Go.Proofs.YtcnbifdlkalimabGreat
