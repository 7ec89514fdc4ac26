/- Lemmas; their conditions stand in each. -/
import Derived.Test.YtcnbifdlkalimabGreatChkA
namespace Go.Proofs.YtcnbifdlkalimabGreat
open Go.RowKit Go.Deep Go.Proofs.Tryz
set_option linter.all false
structure GF(n:Int)(t v c:ZB)(w wr:World):Prop where
 b:Below w.heap.size w wr
 o:AF wr w.heap.size [.int .i64 n,.string t,.string v,.string c,.int .i64 (half c)]
theorem GF.step{n:Int}{t v c:ZB}{w wr w1:World}(h:GF n t v c w wr)(a:Below wr.heap.size wr w1):GF n t v c w w1:=⟨h.b.trans (a.mono (Uf h.o.lt)),h.o.step a⟩
theorem GF.begin(n:Int)(t v c:ZB)(w:World):GF n t v c w (w.alloc (.cells #[.int .i64 n,.string t,.string v,.string c,.int .i64 (half c)] 169)):=⟨(Qh _ _).alloc (Qb _) _,AF.new5 w _ _ _ _ _ _⟩
theorem RW{w w':World}{B:Nat}{e:TypeId}{v:Value}{k:Nat}{i:List Value}(h:w.ownsRow B e 1 v k i)(m:Below w.heap.size w w'):w'.ownsRow B e 1 v k i:=by
 refine⟨h.1,?_⟩;rcases h.2 with c|⟨g,a,b,j,c,f,l⟩
 ·exact .inl c
 ·refine .inr ⟨g,a,b,j,c,?_,l⟩;obtain⟨d,_⟩:=Ug.1 f;rw[m.block g d];exact f
set_option maxHeartbeats 6400000
theorem Wa(n:Int)(i:Nat)(t v c:ZB)(w:World)(hc:c.size<=maxLen)(hk:half c<=200)(hi:(i:Int)<half c)(hr:Kp (Ay c))(ar:Kp (∀x,Ac c (Bx i) (-1) x->Ac c (Bx x) (-1) (half c))) :
  Calls prog 205 #[.agg #[.int .i64 n,.string t,.string v,.string c,.int .i64 (half c)],.int .i64 i] w λe T=>∃j:Int,e=.returned (.int .i64 j)∧Kp (EW c i j)∧Below w.heap.size w T:=by
 obtain⟨i0,aE,aK,aL,aM⟩:=info_parts OQ;have hh:=(Zn c).1;go_in;go_wp2_with fail;go_loopw [5,6] (λsv j wr=>∃(k:Nat) (L:List Int),k<=((half c).toNat+1)∧j=.int .i64 k∧Kp (wr.ownsRow (w.heap.size+1) 3 1 sv L.length (L.map (Value.int .i64)))∧GF n t v c w wr∧Kp (∀x,x∈L↔(0<=x∧x<k∧x≠i∧D1 c i x))∧L.length<=k) (λ_ j _=>((half c).toNat+1)-(intOf j).toNat);case atStart=>exact⟨0,[],by omega,rfl,⟨Uq _ _ _ _⟩,GF.begin n t v c w,⟨λx=>by simp;omega⟩,by simp⟩
 case round=>
  obtain⟨k,L,aX,rfl,K,G,hL,aT⟩:=hrel;have ol:=G.o.lt;have q0:=G.o.c 0 _ rfl;have q1:=G.o.c 1 _ rfl;have q2:=G.o.c 2 _ rfl;have q3:=G.o.c 3 _ rfl;have q4:=G.o.c 4 _ rfl;by_cases aY:(k:Int)<=half c
  ·by_cases aw:k=i
   ·have ax:((k:Int) != (i:Int))=false:=by rw[aw];simp
    have X:Kp (∀x,x∈L↔(0<=x∧x<((k+1:Nat):Int)∧x≠i∧D1 c i x)):=⟨λx=>by
     rw[hL.o x];constructor
     ·rintro⟨a,b,d,e⟩;exact⟨a,by omega,d,e⟩
     ·rintro⟨a,b,d,e⟩;exact⟨a,by omega,d,e⟩⟩
    clear aw;go_wp2;go_roundw;case rel=>exact⟨k+1,L,by omega,by go_num,K,G,X,by omega⟩
    case measure=>simp[intOf];omega
   ·have ax:((k:Int) != (i:Int))=true:=QO.2 (by omega);go_wp2_with fail;go_region_held3 (λT=>T.cell? ⟨w.heap.size,0,none⟩=some (.int .i64 n)∧T.cell? ⟨w.heap.size,1,none⟩=some (.string t)∧T.cell? ⟨w.heap.size,2,none⟩=some (.string v)∧T.cell? ⟨w.heap.size,3,none⟩=some (.string c)∧T.cell? ⟨w.heap.size,4,none⟩=some (.int .i64 (half c))) (go_keep) (first|(go_at_call 152;refine(MR n i t v c _ hk (by omega)).mono ?_;rintro e w1 ⟨g,rfl,hg,M,C⟩;have r:=G.step ((Qh _ _).drew.trans C);have o0:=r.o.c 0 _ rfl;have o1:=r.o.c 1 _ rfl;have o2:=r.o.c 2 _ rfl;have o3:=r.o.c 3 _ rfl;have o4:=r.o.c 4 _ rfl)|(go_at_call 151;refine(Ll n k g (λj=>decide (j=i)) t v c _ hc hk hr M).mono ?_;rintro e w2 ⟨rfl,m,H,hm,F⟩;have U:=r.step F;have r0:=U.o.c 0 _ rfl;have r1:=U.o.c 1 _ rfl;have r2:=U.o.c 2 _ rfl;have r3:=U.o.c 3 _ rfl;have r4:=U.o.c 4 _ rfl;replace hm:=Z_ hm));all_goals
     have s:=r.step F;have V:Below wr.heap.size wr w2:=((Qh _ _).drew.trans C).trans (F.mono C.size);have B:Kp (w2.ownsRow (w.heap.size+1) 3 1 u5 L.length (L.map (Value.int .i64))):=⟨RW K.o V⟩
     have Z:=H.cell (i:=(half c).toNat) (by omega);have ae:Kp (m (half c).toNat=true↔Ac c (Bx i) k (half c)):=⟨by
      rw[hm.o (half c).toNat (by omega),Mu (by omega)];rw[Qj hh]⟩
     clear G K V C F r o0 o1 o2 o3 o4 U r0 r1 r2 r3 r4 ol q0 q1 q2 q3 q4 M H hm hg;have ol:=s.o.lt;have q0:=s.o.c 0 _ rfl;have q1:=s.o.c 1 _ rfl;have q2:=s.o.c 2 _ rfl;have q3:=s.o.c 3 _ rfl;have q4:=s.o.c 4 _ rfl;have aN:=s.b.size;have aW:half c<half c+1:=by omega
     cases O:m (half c).toNat
     ·rw[O]at Z;have am:Kp (D1 c i k):=⟨λh=>by rw[ae.o.2 h]at O;exact absurd O (by simp)⟩
      have X:Kp (∀x,x∈L++[(k:Int)]↔(0<=x∧x<((k+1:Nat):Int)∧x≠i∧D1 c i x)):=⟨λx=>by
       rw[QI,hL.o x,QA];constructor
       ·rintro(⟨a,b,d,e⟩|e)
        ·exact⟨a,by omega,d,e⟩
        ·subst e;exact⟨by omega,by omega,by omega,am.o⟩
       ·rintro⟨a,b,d,e⟩;by_cases I:x=k
        ·exact .inr I
        ·exact .inl ⟨a,by omega,d,e⟩⟩
      clear O ae hL;go_wp2_with (at_builtin;refine wpList_append_own _ rfl _ _ 69 rfl (w.heap.size+1) 3 i0 (.int .i64 0) 1 8 Tryz.underlying69 aE aK aL aM rfl (by decide) _ _ _ rfl (B.o.alloc _) ⟨w2.heap.size,0,none⟩ 1 1 [.int .i64 ((k:Int))] rfl rfl ?a1 ?a2 ?a3 ?a4 ?a5 ?_)
      case a1=>
       intro j u hj;match j,hj with
       | 0,hj=>simp at hj;subst hj;simp[Addr.add]
      case a2=>intro u hu;simp at hu;subst hu;rfl
      case a3=>unfold maxLen;omega
      case a4=>omega
      case a5=>simp;omega
      intro v' w3 ab E _;have aD:GF n t v c w w3:=⟨(s.b.alloc aN _).grown E (by simp;omega) (λj hj=>Nat.le_of_succ_le ((B.o.lt j hj).1)),⟨Qq ol (Qg (by simp) E.size),λj x I=>by
       have Q:some w.heap.size≠u5.ownBlock:=λe=>by have:=(B.o.lt _ e.symm).1;omega
       rw[Qo (w:=w2.alloc (.cells #[.int .i64 (k:Int)] 3)) (E.block _ (by simp;omega) Q)];exact(s.o.alloc _).c j x I,λj x I=>by
       have Q:some w.heap.size≠u5.ownBlock:=λe=>by have:=(B.o.lt _ e.symm).1;omega
       rw[Qz (w:=w2.alloc (.cells #[.int .i64 (k:Int)] 3)) (E.block _ (by simp;omega) Q)];exact(s.o.alloc _).f j x I⟩⟩
      have an:Kp (w3.ownsRow (w.heap.size+1) 3 1 v' (L++[(k:Int)]).length ((L++[(k:Int)]).map (Value.int .i64))):=⟨by rw[Qe,QK];exact ab⟩
      clear ab E B s ol q0 q1 q2 q3 q4;go_wp2;go_roundw;case rel=>exact⟨k+1,L++[(k:Int)],by omega,by go_num,an,aD,X,by simp;omega⟩
      case measure=>simp[intOf];omega
     ·rw[O]at Z;have am:Kp (¬D1 c i k):=⟨λh=>h (ae.o.1 O)⟩
      have X:Kp (∀x,x∈L↔(0<=x∧x<((k+1:Nat):Int)∧x≠i∧D1 c i x)):=⟨λx=>by
       rw[hL.o x];constructor
       ·rintro⟨a,b,d,e⟩;exact⟨a,by omega,d,e⟩
       ·rintro⟨a,b,d,e⟩;by_cases I:x=k
        ·subst I;exact absurd e am.o
        ·exact⟨a,by omega,d,e⟩⟩
      clear O ae hL;go_wp2;go_roundw;case rel=>exact⟨k+1,L,by omega,by go_num,B,s,X,by omega⟩
      case measure=>simp[intOf];omega
  ·have A:Kp (∀x,x∈L↔(0<=x∧x<=half c∧x≠i∧D1 c i x)):=⟨λx=>by
    rw[hL.o x];constructor
    ·rintro⟨a,b,d,e⟩;exact⟨a,by omega,d,e⟩
    ·rintro⟨a,b,d,e⟩;exact⟨a,by omega,d,e⟩⟩
   have Q:L≠[]:=by have h1:=(A.o (half c)).2 ⟨hh,QP _,by omega,λh=>h.ne rfl⟩;intro e;rw[e]at h1;exact absurd h1 (by simp)
   obtain⟨a0,al,aa⟩:=Wl hr.o (i:=(i:Int)) (by omega) ar.o L Q (λx I=>⟨((A.o x).1 I).2.2.1,((A.o x).1 I).2.2.2⟩);replace al:=Z_ al;replace aa:=Z_ aa;have hI:=KQ Q K.o;obtain⟨⟨go,aS,rfl,aV,N,l⟩⟩:=hI;replace l:=Z_ l;have aR:L.length<=201:=by omega
   have ak:Kp (∀y:Int,y∈L->∃q,q<L.length∧L[q]?=some y):=⟨λj hj=>by
    obtain⟨q,hq,he⟩:=List.getElem_of_mem hj;exact⟨q,hq,by rw[Qn hq,he]⟩⟩
   clear hL K Q;go_wp2_with fail;go_loopw [8] (λav wr=>∃a:Nat,a<=L.length∧av=.int .i64 a∧GF n t v c w wr∧go<wr.heap.size∧Kp (∀(p:Nat) (x:Int),L[p]?=some x->wr.cell? ⟨go,p,none⟩=some (.int .i64 x))∧Kp (∀(p:Nat) (x:Int),p<a->L[p]?=some x->∃b,b∈L∧Ac c (Bx i) x b)) (λav _=>L.length-(intOf av).toNat);case atStart=>exact⟨0,by omega,rfl,G,N,l,⟨λp x hp=>absurd hp (by omega)⟩⟩
   case round=>
    clear G l N ol q0 q1 q2 q3 q4;obtain⟨a,ha,rfl,G,N,l,aA⟩:=hrel;have ol:=G.o.lt;have q0:=G.o.c 0 _ rfl;have q1:=G.o.c 1 _ rfl;have q2:=G.o.c 2 _ rfl;have q3:=G.o.c 3 _ rfl;have q4:=G.o.c 4 _ rfl;by_cases aF:a<L.length
    ·obtain⟨x,I⟩:∃x,L[a]?=some x:=⟨_,Qn aF⟩
     have af:=l.o a x I;have S:Kp (0<=x∧x<=half c∧x≠i∧D1 c i x):=⟨(A.o x).1 (Qw I)⟩
     replace I:=Z_ I;have aP:(a:Int)<(L.length:Int):=by omega
     go_wp2_with fail;go_region_held3 (λT=>T.cell? ⟨w.heap.size,0,none⟩=some (.int .i64 n)∧T.cell? ⟨w.heap.size,1,none⟩=some (.string t)∧T.cell? ⟨w.heap.size,2,none⟩=some (.string v)∧T.cell? ⟨w.heap.size,3,none⟩=some (.string c)∧T.cell? ⟨w.heap.size,4,none⟩=some (.int .i64 (half c))∧T.cell? ⟨go,a,none⟩=some (.int .i64 x)) (go_keep) (first|(go_at_call 152;refine(MR n i t v c _ hk (by omega)).mono ?_;rintro e w1 ⟨g,rfl,hg,M,C⟩;have r:=G.step ((Qh _ _).drew.trans C);have o0:=r.o.c 0 _ rfl;have o1:=r.o.c 1 _ rfl;have o2:=r.o.c 2 _ rfl;have o3:=r.o.c 3 _ rfl;have o4:=r.o.c 4 _ rfl;have aj:w1.cell? ⟨go,a,none⟩=some (.int .i64 x):=(C.cell (p:=⟨go,a,none⟩) N).trans af)|(go_at_call 151;refine(Ll n x g (λj=>decide (j=i)) t v c _ hc hk hr M).mono ?_;rintro e w2 ⟨rfl,m,H,hm,F⟩;have aO:w2.cell? ⟨go,a,none⟩=some (.int .i64 x):=(F.cell (p:=⟨go,a,none⟩) (Qq N C.size)).trans aj;have U:=r.step F;have r0:=U.o.c 0 _ rfl;have r1:=U.o.c 1 _ rfl;have r2:=U.o.c 2 _ rfl;have r3:=U.o.c 3 _ rfl;have r4:=U.o.c 4 _ rfl;replace hm:=Z_ hm));all_goals
      have s:=r.step F;have V:Below wr.heap.size wr w2:=((Qh _ _).drew.trans C).trans (F.mono C.size);have au:go<w2.heap.size:=Qq N V.size;have D:Kp (∀(p:Nat) (x:Int),L[p]?=some x->w2.cell? ⟨go,p,none⟩=some (.int .i64 x)):=⟨λp x aH=>(V.cell (p:=⟨go,p,none⟩) N).trans (l.o p x aH)⟩
      have az:Kp (∀y:Nat,(y:Int)<=half c->(m y=true↔Ac c (Bx i) x y)):=⟨λy hy=>by rw[hm.o y hy,Mu (by omega)]⟩
      clear G V C F r o0 o1 o2 o3 o4 U r0 r1 r2 r3 r4 ol q0 q1 q2 q3 q4 M hm hg af aj l;go_wp2_with fail;go_loop [10,11] (λf bb=>∃(J:Bool) (b:Nat),f=.bool J∧b<=L.length∧bb=.int .i64 b∧Kp (J=true↔∀(p:Nat) (y:Int),p<b->p≠a->L[p]?=some y->¬Ac c (Bx i) x y)) (λ_ bb=>L.length-(intOf bb).toNat);case atStart=>exact⟨true,0,rfl,by omega,rfl,⟨by simp⟩⟩
      case round=>
       obtain⟨J,b,rfl,hb,rfl,hF⟩:=hrel;by_cases aG:b<L.length
       ·obtain⟨y,hy⟩:∃y,L[b]?=some y:=⟨_,Qn aG⟩
        have aU:=D.o b y hy;have ad:=(A.o y).1 (Qw hy);obtain⟨yn,rfl⟩:=Int.eq_ofNat_of_zero_le ad.1;have aC:(yn:Int)<=half c:=ad.2.1;have aZ:(yn:Int)<half c+1:=by omega
        clear ad;replace hy:=Z_ hy;have ay:=H.cell (i:=yn) (by omega);have aQ:(b:Int)<(L.length:Int):=by omega
        by_cases Y:b=a
        ·have ao:((b:Int) != (a:Int))=false:=by rw[Y];simp
         have W:Kp (J=true↔∀(p:Nat) (y:Int),p<b+1->p≠a->L[p]?=some y->¬Ac c (Bx i) x y):=⟨by
          rw[hF.o];constructor
          ·intro h p y hp R;exact h p y (by omega) R
          ·intro h p y hp R;exact h p y (by omega) R⟩
         clear Y;go_wp2;go_round;case rel=>exact⟨J,b+1,rfl,by omega,by go_num,W⟩
         case measure=>simp[intOf];omega
        ·have ao:((b:Int) != (a:Int))=true:=QO.2 (by omega);cases P:m yn
         ·rw[P]at ay;have W:Kp (J=true↔∀(p:Nat) (y:Int),p<b+1->p≠a->L[p]?=some y->¬Ac c (Bx i) x y):=⟨by
           rw[hF.o];constructor
           ·intro h p y hp R ag hR;by_cases e:p=b
            ·subst e;rw[hy.o]at ag;simp only[Option.some.injEq]at ag;subst ag;rw[(az.o yn aC).2 hR]at P;exact absurd P (by simp)
            ·exact h p y (by omega) R ag hR
           ·intro h p y hp R;exact h p y (by omega) R⟩
          clear Y P;go_wp2;go_round;case rel=>exact⟨J,b+1,rfl,by omega,by go_num,W⟩
          case measure=>simp[intOf];omega
         ·rw[P]at ay;have W:Kp (false=true↔∀(p:Nat) (y:Int),p<b+1->p≠a->L[p]?=some y->¬Ac c (Bx i) x y):=⟨by
           constructor
           ·intro h;exact absurd h (by simp)
           ·intro h;exact absurd ((az.o yn aC).1 P) (h b yn (by omega) Y hy.o)⟩
          clear Y P;go_wp2;go_round;case rel=>exact⟨false,b+1,rfl,by omega,by go_num,W⟩
          case measure=>simp[intOf];omega
       ·have ap:b=L.length:=by omega
        have af:=D.o a x I.o;cases J
        ·have aB:Kp (∀(p:Nat) (x:Int),p<a+1->L[p]?=some x->∃b,b∈L∧Ac c (Bx i) x b):=⟨λp z hp ah=>by
          by_cases e:p=a
          ·subst e;rw[I.o]at ah;simp only[Option.some.injEq]at ah;subst ah;refine Classical.byContradiction (λaq=>?_);have:=hF.o.2 (λq y hq _ aJ hR=>aq ⟨y,Qw aJ,hR⟩);exact absurd this (by simp)
          ·exact aA.o p z (by omega) ah⟩
         clear ap af;go_wp2;go_roundw;case rel=>exact⟨a+1,by omega,by go_num,s,au,D,aB⟩
         case measure=>simp[intOf];omega
        ·have hJ:Kp (EW c i x):=⟨⟨S.o.1,S.o.2.1,S.o.2.2.1,S.o.2.2.2,λz z0 z1 zi zx zo=>by
          obtain⟨q,hq,ai⟩:=ak.o z ((A.o z).2 ⟨z0,z1,zi,zo⟩);refine hF.o.1 rfl q z (by omega) (λe=>?_) ai;subst e;rw[I.o]at ai;simp only[Option.some.injEq]at ai;exact zx ai.symm⟩⟩
         clear ap;go_wp2;go_ret;exact⟨x,rfl,hJ,s.b⟩
    ·exfalso;obtain⟨q,hq,aI⟩:=ak.o a0 al.o;obtain⟨b,hb,hR⟩:=aA.o q a0 (by omega) aI;exact aa.o b hb hR.ne hR
end Go.Proofs.YtcnbifdlkalimabGreat
