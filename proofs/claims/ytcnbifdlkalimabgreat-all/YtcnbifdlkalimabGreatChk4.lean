/- Lemmas; their conditions stand in each. -/
import Derived.Test.YtcnbifdlkalimabGreatChkA
namespace Go.Proofs.YtcnbifdlkalimabGreat
open Go.RowKit Go.Deep Go.Proofs.Tryz
set_option linter.all false
structure GF(n:Int)(t v c:ZB)(w wr:World):Prop where
 b:Below w.heap.size w wr
 o:AF wr w.heap.size [.int .i64 n,.string t,.string v,.string c,.int .i64 (half c)]
theorem GF.step{n:Int}{t v c:ZB}{w wr w1:World}(h:GF n t v c w wr)(a:Below wr.heap.size wr w1):GF n t v c w w1:=⟨h.b.trans (a.mono (Uf h.o.lt)),h.o.step a⟩
theorem GF.begin(n:Int)(t v c:ZB)(w:World):GF n t v c w (w.alloc (.cells #[.int .i64 n,.string t,.string v,.string c,.int .i64 (half c)] 169)):=⟨(Qh _ _).alloc (Qb _) _,AF.new5 w _ _ _ _ _ _⟩
theorem RW{w w':World}{B:Nat}{e:TypeId}{v:Value}{k:Nat}{i:List Value}(h:w.ownsRow B e 1 v k i)(m:Below w.heap.size w w'):w'.ownsRow B e 1 v k i:=by
 refine⟨h.1,?_⟩;rcases h.2 with c|⟨g,a,b,j,c,f,l⟩
 ·exact .inl c
 ·refine .inr ⟨g,a,b,j,c,?_,l⟩;obtain⟨d,_⟩:=Ug.1 f;rw[m.block g d];exact f
set_option maxHeartbeats 6400000
theorem Wa(n:Int)(i:Nat)(t v c:ZB)(w:World)(hc:c.size<=maxLen)(hk:half c<=200)(hi:(i:Int)<half c)(hr:Kp (Ay c))(ap:Kp (∀x,Ac c (Bx i) (-1) x->Ac c (Bx x) (-1) (half c))) :
  Calls prog 205 #[.agg #[.int .i64 n,.string t,.string v,.string c,.int .i64 (half c)],.int .i64 i] w λe w'=>∃j:Int,e=.returned (.int .i64 j)∧Kp (EW c i j)∧Below w.heap.size w w':=by
 obtain⟨i0,aC,aI,aJ,aK⟩:=info_parts OQ;have hh:=(Zn c).1;go_in;go_wp2_with fail;go_loopw [5,6] (λsv j wr=>∃(k:Nat) (L:List Int),k<=((half c).toNat+1)∧j=.int .i64 k∧Kp (wr.ownsRow (w.heap.size+1) 3 1 sv L.length (L.map (Value.int .i64)))∧GF n t v c w wr∧Kp (∀x,x∈L↔(0<=x∧x<k∧x≠i∧D1 c i x))∧L.length<=k) (λ_ j _=>((half c).toNat+1)-(intOf j).toNat);case atStart=>exact⟨0,[],by omega,rfl,⟨Uq _ _ _ _⟩,GF.begin n t v c w,⟨λx=>by simp;omega⟩,by simp⟩
 case round=>
  obtain⟨k,L,aU,rfl,J,F,hL,aQ⟩:=hrel;have ol:=F.o.lt;have q0:=F.o.c 0 _ rfl;have q1:=F.o.c 1 _ rfl;have q2:=F.o.c 2 _ rfl;have q3:=F.o.c 3 _ rfl;have q4:=F.o.c 4 _ rfl;by_cases aV:(k:Int)<=half c
  ·by_cases ar:k=i
   ·have au:((k:Int) != (i:Int))=false:=by rw[ar];simp
    have V:Kp (∀x,x∈L↔(0<=x∧x<((k+1:Nat):Int)∧x≠i∧D1 c i x)):=⟨λx=>by
     rw[hL.o x];constructor
     ·rintro⟨a,b,d,e⟩;exact⟨a,by omega,d,e⟩
     ·rintro⟨a,b,d,e⟩;exact⟨a,by omega,d,e⟩⟩
    clear ar;go_wp2;go_roundw;case rel=>exact⟨k+1,L,by omega,by go_num,J,F,V,by omega⟩
    case measure=>simp[intOf];omega
   ·have au:((k:Int) != (i:Int))=true:=QO.2 (by omega);go_wp2_with fail;go_region_with (first|(go_at_call 152;refine(MR n i t v c _ hk (by omega)).mono ?_;rintro e w1 ⟨g,rfl,hg,K,E⟩;have r:=F.step ((Qh _ _).drew.trans E);have o0:=r.o.c 0 _ rfl;have o1:=r.o.c 1 _ rfl;have o2:=r.o.c 2 _ rfl;have o3:=r.o.c 3 _ rfl;have o4:=r.o.c 4 _ rfl)|(go_at_call 151;refine(Ll n k g (λj=>decide (j=i)) t v c _ hc hk hr K).mono ?_;rintro e w2 ⟨rfl,m,G,hm,M⟩;replace hm:=Z_ hm))
    all_goals
     have s:=r.step M;have S:Below wr.heap.size wr w2:=((Qh _ _).drew.trans E).trans (M.mono E.size);have B:Kp (w2.ownsRow (w.heap.size+1) 3 1 u5 L.length (L.map (Value.int .i64))):=⟨RW J.o S⟩
     have X:=G.cell (i:=(half c).toNat) (by omega);have ab:Kp (m (half c).toNat=true↔Ac c (Bx i) k (half c)):=⟨by
      rw[hm.o (half c).toNat (by omega),Mu (by omega)];rw[Qj hh]⟩
     clear F J S E M r o0 o1 o2 o3 o4 ol q0 q1 q2 q3 q4 K G hm hg;have ol:=s.o.lt;have q0:=s.o.c 0 _ rfl;have q1:=s.o.c 1 _ rfl;have q2:=s.o.c 2 _ rfl;have q3:=s.o.c 3 _ rfl;have q4:=s.o.c 4 _ rfl;have aL:=s.b.size;have aT:half c<half c+1:=by omega
     cases N:m (half c).toNat
     ·rw[N]at X;have aj:Kp (D1 c i k):=⟨λh=>by rw[ab.o.2 h]at N;exact absurd N (by simp)⟩
      have V:Kp (∀x,x∈L++[(k:Int)]↔(0<=x∧x<((k+1:Nat):Int)∧x≠i∧D1 c i x)):=⟨λx=>by
       rw[QI,hL.o x,QA];constructor
       ·rintro(⟨a,b,d,e⟩|e)
        ·exact⟨a,by omega,d,e⟩
        ·subst e;exact⟨by omega,by omega,by omega,aj.o⟩
       ·rintro⟨a,b,d,e⟩;by_cases H:x=k
        ·exact .inr H
        ·exact .inl ⟨a,by omega,d,e⟩⟩
      clear N ab hL;go_wp2_with (at_builtin;refine wpList_append_own _ rfl _ _ 69 rfl (w.heap.size+1) 3 i0 (.int .i64 0) 1 8 Tryz.underlying69 aC aI aJ aK rfl (by decide) _ _ _ rfl (B.o.alloc _) ⟨w2.heap.size,0,none⟩ 1 1 [.int .i64 ((k:Int))] rfl rfl ?a1 ?a2 ?a3 ?a4 ?a5 ?_)
      case a1=>
       intro j u hj;match j,hj with
       | 0,hj=>simp at hj;subst hj;simp[Addr.add]
      case a2=>intro u hu;simp at hu;subst hu;rfl
      case a3=>unfold maxLen;omega
      case a4=>omega
      case a5=>simp;omega
      intro v' w3 Z D _;have aB:GF n t v c w w3:=⟨(s.b.alloc aL _).grown D (by simp;omega) (λj hj=>Nat.le_of_succ_le ((B.o.lt j hj).1)),⟨Qq ol (Qg (by simp) D.size),λj x H=>by
       have P:some w.heap.size≠u5.ownBlock:=λe=>by have:=(B.o.lt _ e.symm).1;omega
       rw[Qo (w:=w2.alloc (.cells #[.int .i64 (k:Int)] 3)) (D.block _ (by simp;omega) P)];exact(s.o.alloc _).c j x H,λj x H=>by
       have P:some w.heap.size≠u5.ownBlock:=λe=>by have:=(B.o.lt _ e.symm).1;omega
       rw[Qz (w:=w2.alloc (.cells #[.int .i64 (k:Int)] 3)) (D.block _ (by simp;omega) P)];exact(s.o.alloc _).f j x H⟩⟩
      have ak:Kp (w3.ownsRow (w.heap.size+1) 3 1 v' (L++[(k:Int)]).length ((L++[(k:Int)]).map (Value.int .i64))):=⟨by rw[Qe,QK];exact Z⟩
      clear Z D B s ol q0 q1 q2 q3 q4;go_wp2;go_roundw;case rel=>exact⟨k+1,L++[(k:Int)],by omega,by go_num,ak,aB,V,by simp;omega⟩
      case measure=>simp[intOf];omega
     ·rw[N]at X;have aj:Kp (¬D1 c i k):=⟨λh=>h (ab.o.1 N)⟩
      have V:Kp (∀x,x∈L↔(0<=x∧x<((k+1:Nat):Int)∧x≠i∧D1 c i x)):=⟨λx=>by
       rw[hL.o x];constructor
       ·rintro⟨a,b,d,e⟩;exact⟨a,by omega,d,e⟩
       ·rintro⟨a,b,d,e⟩;by_cases H:x=k
        ·subst H;exact absurd e aj.o
        ·exact⟨a,by omega,d,e⟩⟩
      clear N ab hL;go_wp2;go_roundw;case rel=>exact⟨k+1,L,by omega,by go_num,B,s,V,by omega⟩
      case measure=>simp[intOf];omega
  ·have A:Kp (∀x,x∈L↔(0<=x∧x<=half c∧x≠i∧D1 c i x)):=⟨λx=>by
    rw[hL.o x];constructor
    ·rintro⟨a,b,d,e⟩;exact⟨a,by omega,d,e⟩
    ·rintro⟨a,b,d,e⟩;exact⟨a,by omega,d,e⟩⟩
   have P:L≠[]:=by have h1:=(A.o (half c)).2 ⟨hh,QP _,by omega,λh=>h.ne rfl⟩;intro e;rw[e]at h1;exact absurd h1 (by simp)
   obtain⟨a0,ai,Y⟩:=Wl hr.o (i:=(i:Int)) (by omega) ap.o L P (λx H=>⟨((A.o x).1 H).2.2.1,((A.o x).1 H).2.2.2⟩);replace ai:=Z_ ai;replace Y:=Z_ Y;have hI:=KQ P J.o;obtain⟨⟨go,aP,rfl,aS,T,l⟩⟩:=hI;replace l:=Z_ l;have aO:L.length<=201:=by omega
   have ah:Kp (∀y:Int,y∈L->∃q,q<L.length∧L[q]?=some y):=⟨λj hj=>by
    obtain⟨q,hq,he⟩:=List.getElem_of_mem hj;exact⟨q,hq,by rw[Qn hq,he]⟩⟩
   clear hL J P;go_wp2_with fail;go_loopw [8] (λav wr=>∃a:Nat,a<=L.length∧av=.int .i64 a∧GF n t v c w wr∧go<wr.heap.size∧Kp (∀(p:Nat) (x:Int),L[p]?=some x->wr.cell? ⟨go,p,none⟩=some (.int .i64 x))∧Kp (∀(p:Nat) (x:Int),p<a->L[p]?=some x->∃b,b∈L∧Ac c (Bx i) x b)) (λav _=>L.length-(intOf av).toNat);case atStart=>exact⟨0,by omega,rfl,F,T,l,⟨λp x hp=>absurd hp (by omega)⟩⟩
   case round=>
    clear F l T ol q0 q1 q2 q3 q4;obtain⟨a,ha,rfl,F,T,l,ay⟩:=hrel;have ol:=F.o.lt;have q0:=F.o.c 0 _ rfl;have q1:=F.o.c 1 _ rfl;have q2:=F.o.c 2 _ rfl;have q3:=F.o.c 3 _ rfl;have q4:=F.o.c 4 _ rfl;by_cases aD:a<L.length
    ·obtain⟨x,H⟩:∃x,L[a]?=some x:=⟨_,Qn aD⟩
     have ad:=l.o a x H;have R:Kp (0<=x∧x<=half c∧x≠i∧D1 c i x):=⟨(A.o x).1 (Qw H)⟩
     replace H:=Z_ H;have aM:(a:Int)<(L.length:Int):=by omega
     go_wp2_with fail;go_region_with (first|(go_at_call 152;refine(MR n i t v c _ hk (by omega)).mono ?_;rintro e w1 ⟨g,rfl,hg,K,E⟩;have r:=F.step ((Qh _ _).drew.trans E);have o0:=r.o.c 0 _ rfl;have o1:=r.o.c 1 _ rfl;have o2:=r.o.c 2 _ rfl;have o3:=r.o.c 3 _ rfl;have o4:=r.o.c 4 _ rfl;have ao:w1.cell? ⟨go,a,none⟩=some (.int .i64 x):=(E.cell (p:=⟨go,a,none⟩) T).trans ad)|(go_at_call 151;refine(Ll n x g (λj=>decide (j=i)) t v c _ hc hk hr K).mono ?_;rintro e w2 ⟨rfl,m,G,hm,M⟩;replace hm:=Z_ hm))
     all_goals
      have s:=r.step M;have S:Below wr.heap.size wr w2:=((Qh _ _).drew.trans E).trans (M.mono E.size);have aq:go<w2.heap.size:=Qq T S.size;have C:Kp (∀(p:Nat) (x:Int),L[p]?=some x->w2.cell? ⟨go,p,none⟩=some (.int .i64 x)):=⟨λp x aF=>(S.cell (p:=⟨go,p,none⟩) T).trans (l.o p x aF)⟩
      have ax:Kp (∀y:Nat,(y:Int)<=half c->(m y=true↔Ac c (Bx i) x y)):=⟨λy hy=>by rw[hm.o y hy,Mu (by omega)]⟩
      clear F S E M r o0 o1 o2 o3 o4 ol q0 q1 q2 q3 q4 K hm hg ad ao l;go_wp2_with fail;go_loop [10,11] (λf bb=>∃(I:Bool) (b:Nat),f=.bool I∧b<=L.length∧bb=.int .i64 b∧Kp (I=true↔∀(p:Nat) (y:Int),p<b->p≠a->L[p]?=some y->¬Ac c (Bx i) x y)) (λ_ bb=>L.length-(intOf bb).toNat);case atStart=>exact⟨true,0,rfl,by omega,rfl,⟨by simp⟩⟩
      case round=>
       obtain⟨I,b,rfl,hb,rfl,hF⟩:=hrel;by_cases aE:b<L.length
       ·obtain⟨y,hy⟩:∃y,L[b]?=some y:=⟨_,Qn aE⟩
        have aR:=C.o b y hy;have aa:=(A.o y).1 (Qw hy);obtain⟨yn,rfl⟩:=Int.eq_ofNat_of_zero_le aa.1;have aA:(yn:Int)<=half c:=aa.2.1;have aW:(yn:Int)<half c+1:=by omega
        clear aa;replace hy:=Z_ hy;have aw:=G.cell (i:=yn) (by omega);have aN:(b:Int)<(L.length:Int):=by omega
        by_cases W:b=a
        ·have al:((b:Int) != (a:Int))=false:=by rw[W];simp
         have U:Kp (I=true↔∀(p:Nat) (y:Int),p<b+1->p≠a->L[p]?=some y->¬Ac c (Bx i) x y):=⟨by
          rw[hF.o];constructor
          ·intro h p y hp Q;exact h p y (by omega) Q
          ·intro h p y hp Q;exact h p y (by omega) Q⟩
         clear W;go_wp2;go_round;case rel=>exact⟨I,b+1,rfl,by omega,by go_num,U⟩
         case measure=>simp[intOf];omega
        ·have al:((b:Int) != (a:Int))=true:=QO.2 (by omega);cases O:m yn
         ·rw[O]at aw;have U:Kp (I=true↔∀(p:Nat) (y:Int),p<b+1->p≠a->L[p]?=some y->¬Ac c (Bx i) x y):=⟨by
           rw[hF.o];constructor
           ·intro h p y hp Q ae hR;by_cases e:p=b
            ·subst e;rw[hy.o]at ae;simp only[Option.some.injEq]at ae;subst ae;rw[(ax.o yn aA).2 hR]at O;exact absurd O (by simp)
            ·exact h p y (by omega) Q ae hR
           ·intro h p y hp Q;exact h p y (by omega) Q⟩
          clear W O;go_wp2;go_round;case rel=>exact⟨I,b+1,rfl,by omega,by go_num,U⟩
          case measure=>simp[intOf];omega
         ·rw[O]at aw;have U:Kp (false=true↔∀(p:Nat) (y:Int),p<b+1->p≠a->L[p]?=some y->¬Ac c (Bx i) x y):=⟨by
           constructor
           ·intro h;exact absurd h (by simp)
           ·intro h;exact absurd ((ax.o yn aA).1 O) (h b yn (by omega) W hy.o)⟩
          clear W O;go_wp2;go_round;case rel=>exact⟨false,b+1,rfl,by omega,by go_num,U⟩
          case measure=>simp[intOf];omega
       ·have am:b=L.length:=by omega
        have ad:=C.o a x H.o;cases I
        ·have az:Kp (∀(p:Nat) (x:Int),p<a+1->L[p]?=some x->∃b,b∈L∧Ac c (Bx i) x b):=⟨λp z hp af=>by
          by_cases e:p=a
          ·subst e;rw[H.o]at af;simp only[Option.some.injEq]at af;subst af;refine Classical.byContradiction (λan=>?_);have:=hF.o.2 (λq y hq _ aH hR=>an ⟨y,Qw aH,hR⟩);exact absurd this (by simp)
          ·exact ay.o p z (by omega) af⟩
         clear am ad;go_wp2;go_roundw;case rel=>exact⟨a+1,by omega,by go_num,s,aq,C,az⟩
         case measure=>simp[intOf];omega
        ·have hJ:Kp (EW c i x):=⟨⟨R.o.1,R.o.2.1,R.o.2.2.1,R.o.2.2.2,λz z0 z1 zi zx zo=>by
          obtain⟨q,hq,ag⟩:=ah.o z ((A.o z).2 ⟨z0,z1,zi,zo⟩);refine hF.o.1 rfl q z (by omega) (λe=>?_) ag;subst e;rw[H.o]at ag;simp only[Option.some.injEq]at ag;exact zx ag.symm⟩⟩
         clear am;go_wp2;go_ret;exact⟨x,rfl,hJ,s.b⟩
    ·exfalso;obtain⟨q,hq,aG⟩:=ah.o a0 ai.o;obtain⟨b,hb,hR⟩:=ay.o q a0 (by omega) aG;exact Y.o b hb hR.ne hR
end Go.Proofs.YtcnbifdlkalimabGreat
