/- Lemmas; their conditions stand in each. -/
import Derived.Test.YtcnbifdlkalimabGreatChkC
import Derived.Test.YtcnbifdlkalimabGreatChk6
import Derived.Test.YtcnbifdlkalimabGreatRfP
namespace Go.Proofs.YtcnbifdlkalimabGreat
open Go.RowKit Go.Deep Go.Proofs.Tryz
set_option linter.all false
set_option maxRecDepth 100000
variable{n:Int}{Mf:Int->Int->Int->Bool}{ps:List Value}{B f gh gl gr k u:Nat}{lm:Nat->Bool}{h:Nat->Int}{R:Nat->Nat->Bool}{rv:Nat->Value}{sv:Value}{w w1 wr:World}{c t v:ZB}
def CN:Array Value:=#[.bool false,.bool false,.bool false,.bool false,.bool false,.bool false,.bool false,.bool false,.bool false]
def JB:Value:=.agg CN
theorem Yk:(prog.info? 239).map (λi=>(i.zero,i.size,i.bytes))=some (some JB,9,9):=by kernel_rfl
theorem Ts(n k:Nat)(h:k<n):(madeCells CN n)[k]?=some (.bool false):=by
 have a:∀r,r<9->CN[r]! = .bool false:=by
  intro r d;have:r=0∨r=1∨r=2∨r=3∨r=4∨r=5∨r=6∨r=7∨r=8:=by omega
  rcases this with rfl|rfl|rfl|rfl|rfl|rfl|rfl|rfl|rfl<;>rfl
 have b:CN.size=9:=rfl;simp only[madeCells,b];rw[Array.getElem?_map];simp[h];exact a _ (by omega)
theorem HT(w:World)(a b d:Obj):(((w.alloc a).alloc b).alloc d).heap[w.heap.size]?=some a:=by rw[Below.heap_alloc ((w.alloc a).alloc b) d w.heap.size (by simp;omega),Below.heap_alloc (w.alloc a) b w.heap.size (by simp)];exact heap_alloc_last w a
theorem Zqi(w:World)(c:ZB):BL (((w.alloc (.cells (madeCells #[.bool false] ((half c).toNat+1)) 4)).alloc (.cells (madeCells CN (((half c).toNat+1)*9)) 239)).alloc (.cells #[.slice (some ⟨w.heap.size,0,none⟩) ((half c).toNat+1) ((half c).toNat+1),.slice (some ⟨w.heap.size+1,0,none⟩) ((half c).toNat+1) ((half c).toNat+1)] 236)) (w.heap.size+1+1) w.heap.size (w.heap.size+1) c (λ_ _=>false):=by
 refine⟨by simp,by simp;omega,by simp,by omega,by omega,by omega,?_,?_,λj a=>?_,λj d a hd=>?_,λj a=>?_,λj d a hd=>?_⟩
 ·rw[cell_of_row _ _ 0 _ _ (0,0) (Et _ _ _ _)];rfl
 ·rw[cell_of_row _ _ 1 _ _ (0,0) (Et _ _ _ _)];rfl
 ·rw[cell_of_row _ _ j _ _ (0,0) (HT _ _ _ _)];exact Lk _ _ _ a
 ·rw[cell_of_row _ _ _ _ _ (0,0) (EV _ _ _ _)];exact Ts _ _ (by omega)
 ·simp only[World.frozen?,HT];simp
 ·simp only[World.frozen?,EV];simp
theorem Zqj(w:World)(c:ZB):BL (((w.alloc (.cells (madeCells CN (((half c).toNat+1)*9)) 239)).alloc (.cells (madeCells #[.bool false] ((half c).toNat+1)) 4)).alloc (.cells #[.slice (some ⟨w.heap.size+1,0,none⟩) ((half c).toNat+1) ((half c).toNat+1),.slice (some ⟨w.heap.size,0,none⟩) ((half c).toNat+1) ((half c).toNat+1)] 236)) (w.heap.size+1+1) (w.heap.size+1) w.heap.size c (λ_ _=>false):=by
 refine⟨by simp,by simp,by simp;omega,by omega,by omega,by omega,?_,?_,λj a=>?_,λj d a hd=>?_,λj a=>?_,λj d a hd=>?_⟩
 ·rw[cell_of_row _ _ 0 _ _ (0,0) (Et _ _ _ _)];rfl
 ·rw[cell_of_row _ _ 1 _ _ (0,0) (Et _ _ _ _)];rfl
 ·rw[cell_of_row _ _ j _ _ (0,0) (EV _ _ _ _)];exact Lk _ _ _ a
 ·rw[cell_of_row _ _ _ _ _ (0,0) (HT _ _ _ _)];exact Ts _ _ (by omega)
 ·simp only[World.frozen?,EV];simp
 ·simp only[World.frozen?,HT];simp
def Yi(c v:ZB)(h:Nat->Int)(a:Int)(w:World)(e:Ending)(w':World):Prop:=
 ∃(mb gp gs:Nat) (M:Int->Int->Bool),e=.returned (.pointer (some ⟨mb,0,none⟩))∧w.heap.size<=mb∧w.heap.size<=gp∧w.heap.size<=gs∧BL w' mb gp gs c M∧Below w.heap.size w w'∧Kp (∀p d,M p d=true↔AC c v h a p d)
set_option maxHeartbeats 6400000
theorem XA(f gl gh gr:Nat)(n a:Int)(t v c:ZB)(lm:Nat->Bool)(h:Nat->Int)(R:Nat->Nat->Bool)(w:World)(H:Hg w f gl gh gr n t v c lm h R)(F:Kp (DZ c v t n h))(X:Kp (∀j:Nat,(j:Int)<=half c->(lm j=true↔Aq c j)))(aq:Kp (∀i p:Nat,(i:Int)<half c->Aq c i->bv c (2*i)=9->(p:Int)<=half c->(R i p=true↔CO c i p))) :
  Calls prog 155 #[.pointer (some ⟨f,0,none⟩),.int .i64 a] w (Yi c v h a w):=by
 have hh:=(Zn c).1;have hK:=F.o.hK;have hc:=F.o.hc;have q4:=H.c4;have av:=H.lt;have az:=run_make_row' (P:=prog) 206 4 (.bool false) 1 Tryz.underlying206 KV rfl .i64 .i64 ((half c).toNat+1) (by omega) (by omega);rw[show ((((half c).toNat+1):Nat):Int)=half c+1 from by omega]at az;have aA:∀W:World,(Instr.makeSlice 234 (.int .i64 (half c+1)) (.int .i64 (half c+1))).run prog W=.ok (.slice (some ⟨W.heap.size,0,none⟩) ((half c).toNat+1) ((half c).toNat+1)) (W.alloc (.cells (madeCells CN (((half c).toNat+1)*9)) 239)):=λW=>by obtain⟨i9,aG,af⟩:=Option.map_eq_some_iff.1 Yk;simp only[Prod.mk.injEq]at af;have:=run_make (P:=prog) W 234 239 i9 JB Tryz.underlying234 aG af.1 .i64 .i64 (half c+1) (half c+1) (by omega) (by omega) (by rw[af.2.2];omega) (by omega);rw[this,af.2.1,show JB.cells=CN from rfl,show (half c+1).toNat=(half c).toNat+1 from by omega]
 go_in;go_wp2_with fail;have aH:IntKind.i64.wrap (half c+1)=half c+1:=by rw[IntKind.wrap_i64];omega
 go_region_held3 (λw'=>w'.cell? ⟨f,4,none⟩=some (.int .i64 (half c))) ((refine(Below.cell (B:=w.heap.size) (w:=w) (p:=⟨f,4,none⟩) ?_ av).trans q4;first|exact(Qh _ _).drew|exact((Qh _ _).alloc (Qb _) _).drew|exact(((Qh _ _).alloc (Qb _) _).alloc (by simp) _).drew|exact((((Qh _ _).alloc (Qb _) _).alloc (by simp) _).alloc (by simp;omega) _).drew)) (fail);all_goals
  first
  | (obtain⟨w1,C⟩:∃w1,w1=(((w.alloc (.cells (madeCells #[.bool false] ((half c).toNat+1)) 4)).alloc (.cells (madeCells CN (((half c).toNat+1)*9)) 239)).alloc (.cells #[.slice (some ⟨w.heap.size,0,none⟩) ((half c).toNat+1) ((half c).toNat+1),.slice (some ⟨w.heap.size+1,0,none⟩) ((half c).toNat+1) ((half c).toNat+1)] 236)).drew:=⟨_,rfl⟩;rw[<-C];have K1:∃J E,w.heap.size<=J∧w.heap.size<=E∧J<w.heap.size+2∧E<w.heap.size+2∧BL w1 (w.heap.size+1+1) J E c (λ_ _=>false):=⟨w.heap.size,w.heap.size+1,by omega,by omega,by omega,by omega,by rw[C];exact(Zqi w c).step ((Qh _ _).drew)⟩;have aj:Below w.heap.size w w1:=(by rw[C];exact((((Qh _ _).alloc (Qb _) _).alloc (by simp) _).alloc (by simp;omega) _).drew);clear C)
  | (obtain⟨w1,C⟩:∃w1,w1=(((w.alloc (.cells (madeCells CN (((half c).toNat+1)*9)) 239)).alloc (.cells (madeCells #[.bool false] ((half c).toNat+1)) 4)).alloc (.cells #[.slice (some ⟨w.heap.size+1,0,none⟩) ((half c).toNat+1) ((half c).toNat+1),.slice (some ⟨w.heap.size,0,none⟩) ((half c).toNat+1) ((half c).toNat+1)] 236)).drew:=⟨_,rfl⟩;rw[<-C];have K1:∃J E,w.heap.size<=J∧w.heap.size<=E∧J<w.heap.size+2∧E<w.heap.size+2∧BL w1 (w.heap.size+1+1) J E c (λ_ _=>false):=⟨w.heap.size+1,w.heap.size,by omega,by omega,by omega,by omega,by rw[C];exact(Zqj w c).step ((Qh _ _).drew)⟩;have aj:Below w.heap.size w w1:=(by rw[C];exact((((Qh _ _).alloc (Qb _) _).alloc (by simp) _).alloc (by simp;omega) _).drew);clear C)
  obtain⟨J,E,g1,g2,g3,g4,K1⟩:=K1;have aC:Kp (∀p d:Int,(λ(_ _:Int)=>false) p d=true->AC c v h a p d):=⟨λp d hd=>absurd hd (by simp)⟩
  clear az aA aH q4;go_wp2_with fail;go_loopg [6] (2*HN c (λ_ _=>false)+1) (λgm ag wr=>∃(g:Bool) (M:Int->Int->Bool),ag=.bool g∧gm=2*HN c M+(if g then 1 else 0)∧BL wr (w.heap.size+1+1) J E c M∧Below w.heap.size w wr∧Kp (∀p d,M p d=true->AC c v h a p d)∧Kp (g=false->∀i:Nat,(i:Int)<half c->Aq c i->Hf c v h a M i));case atStart=>exact⟨true,_,rfl,by simp,K1,aj,aC,⟨λh=>absurd h (by simp)⟩⟩
  case round=>
   clear K1 aj aC;obtain⟨g,M,rfl,an,K,hB,ae,ai⟩:=hrel;replace an:=Z_ an;cases g
   ·have au:Kp (∀p d,M p d=true↔AC c v h a p d):=⟨λp d=>⟨ae.o p d,λhf=>Xq (λi h0 h1 hl=>by
     have e:((i.toNat:Nat):Int)=i:=Qj h0;have:=ai.o rfl i.toNat (by rw[e];exact h1) (by rw[e];exact hl)
     rwa [e]at this) hf⟩⟩
    go_wp2;go_ret;exact⟨_,J,E,M,rfl,by omega,g1,g2,K,hB,au⟩
   ·clear ai;have ap:Kp (Cu c v h a M M false):=⟨Cu.refl c v h a M⟩
    go_wp2_with fail;go_loopw [6,7] (λag iv wr=>∃(g:Bool) (k:Nat) (Y:Int->Int->Bool),ag=.bool g∧(k:Int)<=half c∧iv=.int .i64 k∧BL wr (w.heap.size+1+1) J E c Y∧Below w.heap.size w wr∧Kp (Cu c v h a M Y g∧(g=false->∀i:Nat,i<k->Aq c i->Hf c v h a M i))) (λ_ iv _=>(half c).toNat-(intOf iv).toNat);case atStart=>exact⟨false,0,M,rfl,by omega,rfl,K,hB,⟨ap.o,λ_ i hi=>absurd hi (by omega)⟩⟩
    case round=>
     clear K hB ap;obtain⟨g,k,Y,rfl,hk,rfl,K,hB,A⟩:=hrel;have H1:=H.step hB;have q4:=H1.c4;by_cases Q:(k:Int)<half c
     ·have q5:=H1.c5;have ql:=H1.l k (by omega);have aO:(k:Int)<((half c).toNat+1:Nat):=by omega
      cases O:lm k with
      | false=>
       rw[O]at ql;have s:Kp (Cu c v h a M Y g∧(g=false->∀i:Nat,i<k+1->Aq c i->Hf c v h a M i)):=⟨A.o.1,λm i hi hl=>by
        by_cases e:i=k
        ·subst e;rw[(X.o i (by omega)).2 hl]at O;exact absurd O (by simp)
        ·exact A.o.2 m i (by omega) hl⟩
       go_wp2_with fail;go_roundw;case rel=>exact⟨g,k+1,Y,rfl,by omega,by go_num,K,hB,s⟩
       case measure=>simp[intOf];omega
      | true=>
       rw[O]at ql;have ao:Kp (Aq c k):=⟨(X.o k (by omega)).1 O⟩
       have q0:=H1.c0;have q1:=H1.c1;have q2:=H1.c2;have q3:=H1.c3;go_wp2_with fail;refine(MS n k t v c _ hc (by omega) Q hK).mono ?_;rintro e w2 ⟨r,rfl,hI,ak⟩;obtain⟨gn,aJ,rfl,aL,y,b⟩:=hI.form;have K2:=K.step ak;have z:=hB.trans (ak.mono hB.size);have aN:=K.ls;have aM:=K.lp;have aF:=M1 c k;have aB:Kp (∀(q:Nat) (x:Int),(AP c k)[q]?=some x->0<=x∧x<=half c∧x∈AP c k):=⟨λq x hx=>by
        have m:=Qw hx;have:=GO F.o.ok k x ⟨by omega,Q,m⟩;exact⟨this.1,this.2,m⟩⟩
       obtain⟨I,aa⟩:∃I,AP c k=I:=⟨_,rfl⟩
       rw[aa]at b aF aB;have ah:Kp (AP c k=I):=⟨aa⟩
       rw[aa];replace b:=Z_ b;clear q0 q1 q2 q3 q4 q5 ql hI ak K hB H1 aa;go_wp2_with fail;go_loopw [6,53] (λag qv wr=>∃(g:Bool) (q:Nat) (Z:Int->Int->Bool),ag=.bool g∧q<=I.length∧qv=.int .i64 q∧BL wr (w.heap.size+1+1) J E c Z∧Below w.heap.size w wr∧gn<wr.heap.size∧Kp (∀(p:Nat) (x:Int),I[p]?=some x->wr.cell? ⟨gn,p,none⟩=some (.int .i64 x))∧Kp (Cu c v h a M Z g∧(g=false->(∀i:Nat,i<k->Aq c i->Hf c v h a M i)∧∀(p:Nat) (x:Int),p<q->I[p]?=some x->Jv c v h a M k x))) (λ_ qv _=>I.length-(intOf qv).toNat);case atStart=>exact⟨g,0,Y,rfl,by omega,rfl,K2,z,y,b,⟨A.o.1,λm=>⟨A.o.2 m,λp x hp=>absurd hp (by omega)⟩⟩⟩
       case round=>
        clear K2 z A b y;obtain⟨g,q,Z,rfl,hq,rfl,K2,z,y,b,s⟩:=hrel;by_cases ax:q<I.length
        ·obtain⟨x,hx⟩:∃x,I[q]?=some x:=⟨_,Qn ax⟩
         have cx:=b.o q x hx;have aI:(q:Int)<I.length:=by omega
         obtain⟨aP,aQ,aD⟩:=aB.o q x hx;obtain⟨xn,rfl⟩:∃xn:Nat,x=xn:=⟨x.toNat,by omega⟩
         have ay:Kp ((xn:Int)∈AP c k):=⟨by rw[ah.o];exact aD⟩
         replace hx:=Z_ hx;have D:Kp (∀p d,Z p d=true->AC c v h a p d):=⟨λp d hd=>(s.o.1.ok p d hd).elim (ae.o p d) id⟩
         clear aD;go_wp2_with fail;refine(Xs f gl gh gr (w.heap.size+1+1) J E n a t v c lm h R Z k xn w _ H z K2 g2 F D Q ao ay).mono ?_;rintro e w3 ⟨mo,M3,rfl,K3,ad,G⟩;have L:=ad.base z g2;have aw:=Qq y ad.size;have V:Kp (∀(p:Nat) (x:Int),I[p]?=some x->w3.cell? ⟨gn,p,none⟩=some (.int .i64 x)):=⟨λp x hx=>by rw[ad.cell (p:=⟨gn,p,none⟩) y (by show gn≠E;omega)];exact b.o p x hx⟩
         have U:Kp (Cu c v h a M M3 (g||mo)∧((g||mo)=false->(∀i:Nat,i<k->Aq c i->Hf c v h a M i)∧∀(p:Nat) (x:Int),p<q+1->I[p]?=some x->Jv c v h a M k x)):=⟨s.o.1.trans G.o.1,λm=>by
          rw[Bool.or_eq_false_iff]at m;have e2:=s.o.1.no m.1;have h2:=s.o.2 m.1;refine⟨h2.1,λp x hp S=>?_⟩;by_cases e:p=q
          ·subst e;rw[hx.o]at S;simp only[Option.some.injEq]at S;rw[<-S];have:=G.o.2 m.2
           rwa [e2]at this
          ·exact h2.2 p x (by omega) S⟩
         clear K2 z ad s G b cx y;cases g<;>cases mo;all_goals
          go_wp2_with fail;go_roundw;case rel=>exact⟨_,q+1,M3,rfl,by omega,by go_num,K3,L,aw,V,U⟩
          case measure=>simp[intOf];omega
        ·have T:Kp (g=false->(∀i:Nat,i<k->Aq c i->Hf c v h a M i)∧∀j,j∈AP c k->Jv c v h a M k j):=⟨λm=>⟨(s.o.2 m).1,λj hj=>by
          rw[ah.o]at hj;obtain⟨p,hp,S⟩:=List.getElem?_of_mem hj |> λ⟨p,h⟩=>(⟨p,(Ql.1 h).1,h⟩:∃p,p<I.length∧I[p]?=some j)
          exact(s.o.2 m).2 p j (by omega) S⟩⟩
         have N:Kp (Cu c v h a M Z g):=⟨s.o.1⟩
         have H2:=H.step z;have q0:=H2.c0;have q1:=H2.c1;have q2:=H2.c2;have q3:=H2.c3;have q4:=H2.c4;clear s b;go_wp2_with fail;refine(FL n k t v c _ hc (by omega) Q).mono ?_;rintro e w3 ⟨rfl,al⟩;have K3:=K2.step al;have L:=z.trans (al.mono z.size);clear q0 q1 q2 q3 q4 K2 z al H2 y;by_cases h9:bv c (2*k)=9
         ·rw[h9];have D:Kp (∀p d,Z p d=true->AC c v h a p d):=⟨λp d hd=>(N.o.ok p d hd).elim (ae.o p d) id⟩
          go_wp2_with fail;refine(YD f gl gh gr (w.heap.size+1+1) J E n a t v c lm h R Z k w _ H L K3 g1 F D Q ao O h9 ⟨λp hp=>aq.o k p Q ao.o h9 hp⟩).mono ?_;rintro e w4 ⟨mo,M3,rfl,K4,ar,G⟩;have aE:=ar.base L g1;have U:Kp (Cu c v h a M M3 (g||mo)∧((g||mo)=false->∀i:Nat,i<k+1->Aq c i->Hf c v h a M i)):=⟨N.o.trans G.o.1,λm i hi hl=>by
           rw[Bool.or_eq_false_iff]at m;have e2:=N.o.no m.1;by_cases e:i=k
           ·subst e;refine⟨(T.o m.1).2,λ_=>?_⟩;have:=G.o.2 m.2
            rwa [e2]at this
           ·exact(T.o m.1).1 i (by omega) hl⟩
          clear K3 L ar G T N;replace h9:=Z_ h9;cases g<;>cases mo;all_goals
           go_wp2_with fail;go_roundw;case rel=>exact⟨_,k+1,M3,rfl,by omega,by go_num,K4,aE,U⟩
           case measure=>simp[intOf];omega
         ·have aK:(bv c (2*k)==9)=false:=Qf.2 h9;have U:Kp (Cu c v h a M Z g∧(g=false->∀i:Nat,i<k+1->Aq c i->Hf c v h a M i)):=⟨N.o,λm i hi hl=>by
           by_cases e:i=k
           ·subst e;exact⟨(T.o m).2,λk9=>absurd k9 h9⟩
           ·exact(T.o m).1 i (by omega) hl⟩
          clear T N;go_wp2_with fail;go_roundw;case rel=>exact⟨g,k+1,Z,rfl,by omega,by go_num,K3,L,U⟩
          case measure=>simp[intOf];omega
     ·have D:Kp (∀p d,Y p d=true->AC c v h a p d):=⟨λp d hd=>(A.o.1.ok p d hd).elim (ae.o p d) id⟩
      have am:Kp (g=false->∀i:Nat,(i:Int)<half c->Aq c i->Hf c v h a Y i):=⟨λm i hi hl=>by rw[A.o.1.no m];exact A.o.2 m i (by omega) hl⟩
      go_wp2_with fail;go_roundg (2*HN c Y+(if g then 1 else 0));case measure=>
       have h1:=an.o;have h2:=A.o.1.le;have h3:=A.o.1.yes;simp at h1;cases g
       ·simp;omega
       ·have:=h3 rfl;simp;omega
      case rel=>exact⟨g,Y,rfl,rfl,K,hB,D,am⟩
theorem Yl(n i:Int)(t v c:ZB)(w:World)(H:c.size<=maxLen)(hv:v.size<=maxLen)(G:0<=i)(I:i<half c)(K:bv c (2*i)<=11)(g:bv c (2*i)=2->bv c (2*i+1)<v.size) :
  Calls prog 209 #[.agg #[.int .i64 n,.string t,.string v,.string c,.int .i64 (half c)],.int .i64 i] w λe A=>e=.returned (.tuple #[.int .i64 (AL c v i),.bool (Bw c i)])∧Below w.heap.size w A:=by
 have r:Kp (AL c v i=if bv c (2*i)=2 then bv v (bv c (2*i+1)) else if bv c (2*i)=10∨bv c (2*i)=11 then bv c (2*i+1) else -1):=⟨rfl⟩
 have s:Kp (Bw c i=decide (bv c (2*i)=2∨bv c (2*i)=11)):=⟨rfl⟩
 have P:=(Zx c (2*i)).1;have N:=Zx c (2*i+1);replace g:=Z_ g;have x:=(Qh w.heap.size w).alloc (Qb _) (.cells #[.int .i64 n,.string t,.string v,.string c,.int .i64 (half c)] 169);have E:=AF.new5 w (.int .i64 n) (.string t) (.string v) (.string c) (.int .i64 (half c)) 169;go_in;go_wp2_with fail;refine(FL n i t v c _ H G I).mono ?_;rintro e w1 ⟨rfl,y⟩;have m:=E.step y;have l:=x.trans (y.mono x.size);clear E x y;obtain⟨q,F⟩:∃q,bv c (2*i)=q:=⟨_,rfl⟩
 obtain⟨j,d⟩:∃j,bv c (2*i+1)=j:=⟨_,rfl⟩
 rw[F]at r s g K P ⊢;rw[d]at r g N;replace d:=Z_ d;clear F;have T:=m.c 0 _ rfl;have U:=m.c 1 _ rfl;have V:=m.c 2 _ rfl;have W:=m.c 3 _ rfl;have X:=m.c 4 _ rfl;have O:=m.lt;have z:q=2∨q=11∨q=10∨(q=0∨q=1∨q=3∨q=4∨q=5∨q=6∨q=7∨q=8∨q=9):=by omega
 rcases z with rfl|rfl|rfl|z
 ·have S:=g.o rfl;have a:=r.o;have b:=s.o;rw[if_pos rfl]at a;rw[Qv (.inl rfl)]at b;replace a:=Z_ a;replace b:=Z_ b;have L:Kp (IntKind.i64.wrap (bv v j)=bv v j):=⟨by have:=Zx v j;rw[IntKind.wrap_i64];omega⟩
  have Q:((v[j.toNat]'(by omega)).toNat:Int)=bv v j:=Ir v j (by omega);clear r s g;go_wp2_with fail;go_region_held3 (λA=>A.cell? ⟨w.heap.size,0,none⟩=some (.int .i64 n)∧A.cell? ⟨w.heap.size,1,none⟩=some (.string t)∧A.cell? ⟨w.heap.size,2,none⟩=some (.string v)∧A.cell? ⟨w.heap.size,3,none⟩=some (.string c)∧A.cell? ⟨w.heap.size,4,none⟩=some (.int .i64 (half c))) (go_keep) ((go_at_call 148;refine(GL n i t v c _ H G I).mono ?_;rintro e M ⟨rfl,p⟩;rw[d.o];have C:=m.step ((Qh _ _).drew.trans p);have Y:=C.c 0 _ rfl;have Z:=C.c 1 _ rfl;have r2:=C.c 2 _ rfl;have r3:=C.c 3 _ rfl;have r4:=C.c 4 _ rfl));all_goals
   have hd:Below w1.heap.size w1 w1.drew:=(Qh _ _).drew;have J:=l.trans (hd.mono l.size);have D:=J.trans (p.mono J.size);clear hd J p Y Z r2 r3 r4 T U V W X;go_wp2;go_ret2;exact⟨by rw[a.o,b.o,L.o];rfl,D⟩
 ·have a:=r.o;have b:=s.o;rw[if_neg (by decide),if_pos (.inr rfl)]at a;rw[Qv (.inr rfl)]at b;replace a:=Z_ a;replace b:=Z_ b;clear r s g;go_wp2_with fail;refine(GL n i t v c _ H G I).mono ?_;rintro e M ⟨rfl,p⟩;rw[d.o];have D:=l.trans (p.mono l.size);go_wp2;go_ret2;exact⟨by rw[a.o,b.o];rfl,D⟩
 ·have a:=r.o;have b:=s.o;rw[if_neg (by decide),if_pos (.inl rfl)]at a;rw[Qx (by decide)]at b;replace a:=Z_ a;replace b:=Z_ b;clear r s g;go_wp2_with fail;refine(GL n i t v c _ H G I).mono ?_;rintro e M ⟨rfl,p⟩;rw[d.o];have D:=l.trans (p.mono l.size);go_wp2;go_ret2;exact⟨by rw[a.o,b.o];rfl,D⟩
 ·have a:=r.o;have b:=s.o;rw[if_neg (by omega),if_neg (by omega)]at a;rw[Qx (by omega)]at b;replace a:=Z_ a;replace b:=Z_ b;clear r s g;rcases z with rfl|rfl|rfl|rfl|rfl|rfl|rfl|rfl|rfl;all_goals
   go_wp2;go_ret2;exact⟨by rw[a.o,b.o];rfl,l⟩
structure JF(w:World)(gL:Nat)(n:Int)(c:ZB)(Mf:Int->Int->Int->Bool):Prop where
 lt:gL<w.heap.size
 m:∀a:Nat,(a:Int)<n->∃mb gp gs,w.cell? ⟨gL,a,none⟩=some (.pointer (some ⟨mb,0,none⟩))∧BL w mb gp gs c (Mf a)
theorem JF.step{b:Nat}(L:JF w b n c Mf)(d:Below w.heap.size w w1):JF w1 b n c Mf:=
 ⟨Qq L.lt d.size,λa l=>by
  obtain⟨o,e,g,i,j⟩:=L.m a l;exact⟨o,e,g,by rw[d.cell (p:=⟨b,a,none⟩) L.lt];exact i,j.step d⟩⟩
def ZrD(c v t:ZB)(n:Int)(h:Nat->Int)(i:Int)(w:World)(e:Ending)(w':World):Prop:=
 ∃b:Bool,e=.returned (.bool b)∧Kp (b=true↔Bb c v t n h i)∧Below w.heap.size w w'
theorem XC(f gl gh gr gL am:Nat)(n:Int)(t v c:ZB)(lm:Nat->Bool)(h:Nat->Int)(R:Nat->Nat->Bool)(Mf:Int->Int->Int->Bool)(i:Nat)(w:World)(H:Hg w f gl gh gr n t v c lm h R)(L:JF w gL n c Mf)(F:Kp (DZ c v t n h))(M:Kp (∀j:Nat,(j:Int)<=half c->(lm j=true↔Aq c j)))(aj:Kp (∀a p d,Lv n a->(Mf a p d=true↔AC c v h a p d)))(hi:(i:Int)<half c) :
  Calls prog 156 #[.pointer (some ⟨f,0,none⟩),.slice (some ⟨gL,0,none⟩) n.toNat am,.int .i64 i] w (ZrD c v t n h i w):=by
 have hh:=(Zn c).1;have hK:=F.o.hK;have hc:=F.o.hc;have hv:=F.o.hv;have hT:=F.o.lat.tab;have aB:=hT.1;have aC:=hT.hi;have hI:=F.o.ins (i:=i) (by omega) hi;have an:=hI.hi;have q0:=H.c0;have q1:=H.c1;have q2:=H.c2;have q3:=H.c3;have q4:=H.c4;have ay:(i:Int)<((half c).toNat+1:Nat):=by omega
 have ai:Kp (0<=AL c v i->Lv n (AL c v i)):=⟨λk=>by
  unfold AL at k ⊢;split
  ·rename_i e;exact(hI.vr (.inr e)).2
  ·rename_i e;rw[if_neg e]at k;split
   ·rename_i e2;exact hI.lv e2
   ·rename_i e2;rw[if_neg e2]at k;omega⟩
 have X:Kp (Bw c i=true->lm i=true->1<=h i∧h i<=8):=⟨λk hl=>by
  have hP:=F.o.pops hi ((M.o i (by omega)).1 hl);have:=QB k;have ht:Ab c i=1:=by unfold Ab Aj;rw[if_pos (by omega)]
  omega⟩
 go_in;go_wp2_with fail;refine(Yl n i t v c _ hc hv (by omega) hi an (λk=>(hI.vr (.inr k)).1)).mono ?_;rintro e w1 ⟨rfl,S⟩;have U:=H.step S;have L1:=L.step S;clear q0 q1 q2 q3 q4 H L;have P:Kp (Bb c v t n h i↔((0<=(i:Int)∧(i:Int)<half c)∧Aq c i∧0<=AL c v i∧∃a,Lv n a∧le t n a (AL c v i)=false∧(AC c v h a i (-1)∨(Bw c i=true∧AC c v h a i (h i-1))))):=⟨Iff.rfl⟩
 obtain⟨D,af⟩:∃D,AL c v i=D:=⟨_,rfl⟩
 obtain⟨Z,ag⟩:∃Z,Bw c i=Z:=⟨_,rfl⟩
 rw[af]at ai P ⊢;rw[ag]at X P ⊢;clear af ag;by_cases au:D<0
 ·have hR:Kp (false=true↔Bb c v t n h i):=⟨by rw[P.o];exact⟨λk=>absurd k (by simp),λk=>by have:=k.2.2.1;omega⟩⟩
  go_wp2;go_ret;exact⟨false,rfl,hR,S⟩
 ·have q5:=U.c5;have ql:=U.l i (by omega);cases G:lm i with
  | false=>
   rw[G]at ql;have hR:Kp (false=true↔Bb c v t n h i):=⟨by
    rw[P.o];exact⟨λk=>absurd k (by simp),λk=>by rw[(M.o i (by omega)).2 k.2.1]at G;exact absurd G (by simp)⟩⟩
   go_wp2;go_ret;exact⟨false,rfl,hR,S⟩
  | true=>
   rw[G]at ql;have aq:Kp (Aq c i):=⟨(M.o i (by omega)).1 G⟩
   obtain⟨Y,ae⟩:=ai.o (by omega);replace G:=Z_ G;have ak:Kp (Z=true->1<=h i∧h i<=8):=⟨λk=>X.o k G.o⟩
   clear X ai;go_wp2_with fail;clear q5 ql;go_loopw [9] (λav wr=>∃k:Nat,(k:Int)<=n∧av=.int .i64 k∧Hg wr f gl gh gr n t v c lm h R∧JF wr gL n c Mf∧Below w.heap.size w wr∧Kp (∀a:Nat,a<k->¬(le t n a D=false∧(AC c v h a i (-1)∨(Z=true∧AC c v h a i (h i-1)))))) (λav _=>n.toNat-(intOf av).toNat);case atStart=>exact⟨0,by omega,rfl,U,L1,S,⟨λa ha=>absurd ha (by omega)⟩⟩
   case round=>
    clear U L1 S;obtain⟨k,hk,rfl,U,L1,ah,hN⟩:=hrel;have q0:=U.c0;by_cases I:(k:Int)<n
    ·obtain⟨mb,gp,gs,cm,K⟩:=L1.m k I;have az:(k:Int)<(n.toNat:Nat):=by omega
     have k0:=K.c0;have k1:=K.c1;have kp:=K.p i (by omega);have q1:=U.c1;have J:=aj.o k i (-1) ⟨by omega,I⟩;have Q:=aj.o k i (h i-1) ⟨by omega,I⟩;obtain⟨x,hx⟩:∃x,Mf k i (-1)=x:=⟨_,rfl⟩
     rw[hx]at kp J;have A:=λq=>ah.trans ((below_drewN (Qh wr.heap.size wr) q).mono ah.size);have z:=λq=>U.step (below_drewN (Qh wr.heap.size wr) q)
     have C:=λq=>L1.step (below_drewN (Qh wr.heap.size wr) q);have aA:=U.lt
     have r:Kp (∀fl:Bool,(fl=true↔(AC c v h k i (-1)∨(Z=true∧AC c v h k i (h i-1))))->(fl=false∨le t n k D=true)->∀a:Nat,a<k+1->¬(le t n a D=false∧(AC c v h a i (-1)∨(Z=true∧AC c v h a i (h i-1))))):=⟨λfl b ar a ha aa=>by
      by_cases e:a=k
      ·subst e;rcases ar with k|k
       ·rw[b.2 aa.2]at k;exact absurd k (by simp)
       ·rw[k]at aa;exact absurd aa.1 (by simp)
      ·exact hN.o a (by omega) aa⟩
     have fnd:Kp (∀fl:Bool,(fl=true↔(AC c v h k i (-1)∨(Z=true∧AC c v h k i (h i-1))))->fl=true->le t n k D=false->(true=true↔Bb c v t n h i)):=⟨λfl b h1 h2=>⟨λ_=>by rw[P.o];exact⟨⟨by omega,hi⟩,aq.o,Y,k,⟨by omega,I⟩,h2,b.1 h1⟩,λ_=>rfl⟩⟩
     have O:Kp (∀fl:Bool,(fl=true↔(AC c v h k i (-1)∨(Z=true∧AC c v h k i (h i-1))))->fl=true->le t n k D=true->∀a:Nat,a<k+1->¬(le t n a D=false∧(AC c v h a i (-1)∨(Z=true∧AC c v h a i (h i-1))))):=⟨λfl b _ g=>r.o fl b (.inr g)⟩
     have ab:=λq=>(z q).c0;have ad:=λq=>(z q).c1
     cases x
     ·cases Z
      ·have b:Kp ((false=true)↔(AC c v h k i (-1)∨(false=true∧AC c v h k i (h i-1)))):=⟨⟨λe=>absurd e (by simp),λe=>by
        rcases e with e|e
        ·exact J.2 e
        ·exact absurd e.1 (by simp)⟩⟩
       have N:=(⟨r.o false b.o (.inl rfl)⟩:Kp _)
       clear r fnd O b J Q hN;go_wp2_with fail;go_quiet (fail);go_wp2_with fail;go_quiet (fail);go_wp2_with fail;go_roundw;case rel=>exact⟨k+1,by omega,by go_num,z _,C _,A _,N⟩
       case measure=>simp[intOf];omega
      ·obtain⟨ao,ap⟩:=ak.o rfl;obtain⟨d1,V⟩:∃d1:Nat,h i-1=d1:=⟨(h i-1).toNat,by omega⟩
       have al:h i=d1+1:=by omega
       have q6:=U.c6;have qh:=U.h i (by omega);have ks:=K.s i d1 (by omega) (by omega);have ax:(d1:Int)<9:=by omega
       rw[al]at qh;replace V:=Z_ V;clear al ak ao ap;obtain⟨y,hy⟩:∃y,Mf k i d1=y:=⟨_,rfl⟩
       rw[hy]at ks;rw[V.o,hy]at Q;replace hy:=Z_ hy;have b:Kp ((y=true)↔(AC c v h k i (-1)∨(true=true∧AC c v h k i (h i-1)))):=⟨by rw[V.o];exact⟨λe=>.inr ⟨rfl,Q.1 e⟩,λe=>by
        rcases e with e|e
        ·exact absurd (J.2 e) (by simp)
        ·exact Q.2 e.2⟩⟩
       clear hN J Q V;cases y
       ·have N:=(⟨r.o false b.o (.inl rfl)⟩:Kp _)
        clear r fnd O b;go_wp2_with fail;go_quiet (fail);go_wp2_with fail;go_quiet (fail);go_wp2_with fail;go_roundw;case rel=>exact⟨k+1,by omega,by go_num,z _,C _,A _,N⟩
        case measure=>simp[intOf];omega
       ·cases g:le t n k D with
        | true=>
         have N:=(⟨r.o true b.o (.inr g)⟩:Kp _)
         have hu:Kp (∀W:World,Calls prog 55 #[.string t,.int .i64 n,.int .i64 k,.int .i64 D] W λe w'=>e=.returned (.bool true)∧w'=W):=⟨λW=>by have:=ZZ hT k D W (by omega) I Y ae;rwa [g]at this⟩
         replace g:=Z_ g;clear r fnd O b;go_wp2_with fail;go_quiet (fail);have E:=z nq;have L5:=C nq;have T:=A nq;generalize wr.drewN nq=w5 at E L5 T ⊢;have r0:=E.c0;have r1:=E.c1;clear ab ad z C A q0 q1 k0 k1 kp K cm;go_wp2_with fail;go_quiet ((go_at_call 55;exact Calls.quiet_of_same (hu.o _)));go_wp2_with fail;go_roundw;case rel=>exact⟨k+1,by omega,by go_num,E.step (below_drewN (Qh _ _) _),L5.step (below_drewN (Qh _ _) _),below_drewN T _,N⟩
         case measure=>simp[intOf];omega
        | false=>
         have hR:=(⟨fnd.o true b.o rfl g⟩:Kp _)
         have hu:Kp (∀W:World,Calls prog 55 #[.string t,.int .i64 n,.int .i64 k,.int .i64 D] W λe w'=>e=.returned (.bool false)∧w'=W):=⟨λW=>by have:=ZZ hT k D W (by omega) I Y ae;rwa [g]at this⟩
         replace g:=Z_ g;clear r fnd O b;go_wp2_with fail;go_quiet (fail);have E:=z nq;have L5:=C nq;have T:=A nq;generalize wr.drewN nq=w5 at E L5 T ⊢;have r0:=E.c0;have r1:=E.c1;clear ab ad z C A q0 q1 k0 k1 kp K cm;go_wp2_with fail;go_quiet ((go_at_call 55;exact Calls.quiet_of_same (hu.o _)));go_wp2;go_ret;exact⟨true,rfl,⟨⟨λ_=>hR.o.1 trivial,λ_=>rfl⟩⟩,below_drewN T _⟩
     ·have b:Kp ((true=true)↔(AC c v h k i (-1)∨(Z=true∧AC c v h k i (h i-1)))):=⟨⟨λ_=>.inl (J.1 rfl),λ_=>rfl⟩⟩
      clear hN J Q;cases g:le t n k D with
      | true=>
       have N:=(⟨r.o true b.o (.inr g)⟩:Kp _)
       have hu:Kp (∀W:World,Calls prog 55 #[.string t,.int .i64 n,.int .i64 k,.int .i64 D] W λe w'=>e=.returned (.bool true)∧w'=W):=⟨λW=>by have:=ZZ hT k D W (by omega) I Y ae;rwa [g]at this⟩
       replace g:=Z_ g;clear r fnd O b;go_wp2_with fail;go_quiet (fail);have E:=z nq;have L5:=C nq;have T:=A nq;generalize wr.drewN nq=w5 at E L5 T ⊢;have r0:=E.c0;have r1:=E.c1;clear ab ad z C A q0 q1 k0 k1 kp K cm;go_wp2_with fail;go_quiet ((go_at_call 55;exact Calls.quiet_of_same (hu.o _)));go_wp2_with fail;go_roundw;case rel=>exact⟨k+1,by omega,by go_num,E.step (below_drewN (Qh _ _) _),L5.step (below_drewN (Qh _ _) _),below_drewN T _,N⟩
       case measure=>simp[intOf];omega
      | false=>
       have hR:=(⟨fnd.o true b.o rfl g⟩:Kp _)
       have hu:Kp (∀W:World,Calls prog 55 #[.string t,.int .i64 n,.int .i64 k,.int .i64 D] W λe w'=>e=.returned (.bool false)∧w'=W):=⟨λW=>by have:=ZZ hT k D W (by omega) I Y ae;rwa [g]at this⟩
       replace g:=Z_ g;clear r fnd O b;go_wp2_with fail;go_quiet (fail);have E:=z nq;have L5:=C nq;have T:=A nq;generalize wr.drewN nq=w5 at E L5 T ⊢;have r0:=E.c0;have r1:=E.c1;clear ab ad z C A q0 q1 k0 k1 kp K cm;go_wp2_with fail;go_quiet ((go_at_call 55;exact Calls.quiet_of_same (hu.o _)));go_wp2;go_ret;exact⟨true,rfl,⟨⟨λ_=>hR.o.1 trivial,λ_=>rfl⟩⟩,below_drewN T _⟩
    ·have hR:Kp (false=true↔Bb c v t n h i):=⟨by
      rw[P.o];refine⟨λk=>absurd k (by simp),λhb=>?_⟩;obtain⟨_,_,_,a,ha,h1,h2⟩:=hb;have e:((a.toNat:Nat):Int)=a:=Qj ha.1;have aw:=ha.2;exact absurd ⟨by rw[e];exact h1,by rw[e];exact h2⟩ (hN.o a.toNat (by omega))⟩
     go_wp2;go_ret;exact⟨false,rfl,hR,ah⟩
structure CB(w wr:World)(u gl:Nat)(n:Int)(t v c:ZB)(lm:Nat->Bool):Prop where
 b:Below w.heap.size w wr
 o:AF wr u [.int .i64 n,.string t,.string v,.string c,.int .i64 (half c)]
 rl:wr.rowIs gl 4 ((half c).toNat+1) (λj=>.bool (lm j))
theorem CB.step(H:CB w wr u gl n t v c lm)(a:Below wr.heap.size wr w1):CB w w1 u gl n t v c lm:=
 ⟨H.b.trans (a.mono H.b.size),H.o.step a,H.rl.of_block (a.block _ H.rl.lt)⟩
theorem Zoh:(prog.info? 206).map (λi=>(i.zero,i.size,i.bytes))=some (some (.slice none 0 0),1,24):=by kernel_rfl
theorem Zoi:(prog.info? 216).map (λi=>(i.zero,i.size,i.bytes))=some (some (.pointer none),1,8):=by kernel_rfl
theorem Mi{W:World}(O:AF w u [.int .i64 n,.string t,.string v,.string c,.int .i64 (half c)])(b:Below w.heap.size w W):W.cell? ⟨u,0,none⟩=some (.int .i64 n)∧W.cell? ⟨u,1,none⟩=some (.string t)∧W.cell? ⟨u,2,none⟩=some (.string v)∧W.cell? ⟨u,3,none⟩=some (.string c)∧W.cell? ⟨u,4,none⟩=some (.int .i64 (half c)):=
 have a:=O.step b
 ⟨a.c 0 _ rfl,a.c 1 _ rfl,a.c 2 _ rfl,a.c 3 _ rfl,a.c 4 _ rfl⟩
structure EH(w wr:World)(u gl gh f gr:Nat)(n:Int)(t v c:ZB)(lm:Nat->Bool)(h:Nat->Int)(R:Nat->Nat->Bool)(rv:Nat->Value)(k:Nat):Prop where
 cb:CB w wr u gl n t v c lm
 rh:wr.rowIs gh 3 ((half c).toNat+1) (λj=>.int .i64 (h j))
 oF:AF wr f [.int .i64 n,.string t,.string v,.string c,.int .i64 (half c),.slice (some ⟨gl,0,none⟩) ((half c).toNat+1) ((half c).toNat+1),.slice (some ⟨gh,0,none⟩) ((half c).toNat+1) ((half c).toNat+1),.slice (some ⟨gr,0,none⟩) ((half c).toNat+1) ((half c).toNat+1)]
 rr:wr.rowIs gr 206 ((half c).toNat+1) rv
 gw:w.heap.size<=gr
 ne:gr≠u∧gr≠gl∧gr≠gh∧gr≠f
 rc:∀i:Nat,i<k->lm i=true->bv c (2*i)=9->∃g,g<wr.heap.size∧g≠gr∧rv i=.slice (some ⟨g,0,none⟩) ((half c).toNat+1) ((half c).toNat+1)∧∀j,j<(half c).toNat+1->wr.cell? ⟨g,j,none⟩=some (.bool (R i j))
theorem EH.step(H:EH w wr u gl gh f gr n t v c lm h R rv k)(a:Below wr.heap.size wr w1):EH w w1 u gl gh f gr n t v c lm h R rv k:=
 ⟨H.cb.step a,H.rh.of_block (a.block _ H.rh.lt),H.oF.step a,H.rr.of_block (a.block _ H.rr.lt),H.gw,H.ne,λi m o q=>by
  obtain⟨g,b,d,e,l⟩:=H.rc i m o q;exact⟨g,Qq b a.size,d,e,λj r=>by rw[a.cell (p:=⟨g,j,none⟩) b];exact l j r⟩⟩
theorem EH.skip(H:EH w wr u gl gh f gr n t v c lm h R rv k)(d:¬(lm k=true∧bv c (2*k)=9)):EH w wr u gl gh f gr n t v c lm h R rv (k+1):=
 ⟨H.cb,H.rh,H.oF,H.rr,H.gw,H.ne,λi g a b=>by
  by_cases e:i=k
  ·subst e;exact absurd ⟨a,b⟩ d
  ·exact H.rc i (by omega) a b⟩
theorem EH.set{g:Nat}{m:Nat->Bool}(H:EH w wr u gl gh f gr n t v c lm h R rv k)(r:wr.rowIs g 4 ((half c).toNat+1) (λj=>.bool (m j)))(d:g≠gr) :
  EH w (wr.setCell ⟨gr,k,none⟩ (.slice (some ⟨g,0,none⟩) ((half c).toNat+1) ((half c).toNat+1))) u gl gh f gr n t v c lm h (λi j=>if i=k then m j else R i j) (λi=>if i=k then .slice (some ⟨g,0,none⟩) ((half c).toNat+1) ((half c).toNat+1) else rv i) (k+1):=by
 obtain⟨E,F,G,I⟩:=H.ne;have a:∀b j,b≠gr->(wr.setCell ⟨gr,k,none⟩ (.slice (some ⟨g,0,none⟩) ((half c).toNat+1) ((half c).toNat+1))).cell? ⟨b,j,none⟩=wr.cell? ⟨b,j,none⟩:=λb j D=>QN wr ⟨gr,k,none⟩ ⟨b,j,none⟩ _ (by intro e;have s:=congrArg Addr.block e;exact D s.symm);refine⟨⟨H.cb.b.setCell H.gw _,Nj H.cb.o _ _ E,H.cb.rl.setOther (Ne.symm F) _⟩,H.rh.setOther (Ne.symm G) _,Nj H.oF _ _ I,(H.rr.set k _).congr (λi _=>by split<;>rfl),H.gw,H.ne,λi J A C=>?_⟩;by_cases e:i=k
 ·subst e;refine⟨g,by simpa using r.lt,d,if_pos rfl,λj l=>?_⟩;rw[a g j d,r.cell l,if_pos rfl]
 ·obtain⟨p,x,q,y,z⟩:=H.rc i (by omega) A C;refine⟨p,by simpa using x,q,by rw[if_neg e];exact y,λj l=>?_⟩;rw[a p j q,z j l,if_neg e]
theorem EH.all(H:EH w wr u gl gh f gr n t v c lm h R rv k)(q:¬(k:Int)<half c):Hg wr f gl gh gr n t v c lm h R:=
 ⟨H.oF.lt,H.cb.rl.lt,H.rh.lt,H.rr.lt,H.oF.c 0 _ rfl,H.oF.c 1 _ rfl,H.oF.c 2 _ rfl,H.oF.c 3 _ rfl,H.oF.c 4 _ rfl,H.oF.c 5 _ rfl,H.oF.c 6 _ rfl,H.oF.c 7 _ rfl,λj a=>H.cb.rl.cell a,λj a=>H.rh.cell a,λi p l m=>by
  obtain⟨g,b,o,d,e⟩:=H.rc i (by omega) l m;exact⟨g,b,by rw[H.rr.cell (i:=i) (by omega),d],e⟩⟩
theorem Ym(w:World)(vs:List Value)(t:TypeId):AF (w.alloc (.cells vs.toArray t)) w.heap.size vs:=by
 refine⟨by simp,λi x a=>?_,λi x a=>?_⟩
 ·rw[cell_of_row _ _ i _ _ (0,0) (heap_alloc_last w _)];simpa using a
 ·simp only[World.frozen?,heap_alloc_last];simp
theorem EH.begin(C:CB w wr u gl n t v c lm)(a:wr.rowIs gh 3 ((half c).toNat+1) (λj=>.int .i64 (h j))) :
  EH w ((wr.alloc (.cells (madeCells #[.slice none 0 0] ((half c).toNat+1)) 206)).alloc (.cells #[.int .i64 n,.string t,.string v,.string c,.int .i64 (half c),.slice (some ⟨gl,0,none⟩) ((half c).toNat+1) ((half c).toNat+1),.slice (some ⟨gh,0,none⟩) ((half c).toNat+1) ((half c).toNat+1),.slice (some ⟨wr.heap.size,0,none⟩) ((half c).toNat+1) ((half c).toNat+1)] 214)) u gl gh (wr.heap.size+1) wr.heap.size n t v c lm h (λ_ _=>false) (λ_=>.slice none 0 0) 0:=by
 have d:Below wr.heap.size wr ((wr.alloc (.cells (madeCells #[.slice none 0 0] ((half c).toNat+1)) 206)).alloc (.cells #[.int .i64 n,.string t,.string v,.string c,.int .i64 (half c),.slice (some ⟨gl,0,none⟩) ((half c).toNat+1) ((half c).toNat+1),.slice (some ⟨gh,0,none⟩) ((half c).toNat+1) ((half c).toNat+1),.slice (some ⟨wr.heap.size,0,none⟩) ((half c).toNat+1) ((half c).toNat+1)] 214)):=((Qh _ _).alloc (Qb _) _).alloc (by simp) _;have l:=C.o.lt;have m:=C.rl.lt;have e:=a.lt;refine⟨C.step d,a.of_block (d.block _ e),?_,?_,C.b.size,⟨by omega,by omega,by omega,by omega⟩,λi g=>absurd g (by omega)⟩
 ·have:=Ym (wr.alloc (.cells (madeCells #[.slice none 0 0] ((half c).toNat+1)) 206)) [.int .i64 n,.string t,.string v,.string c,.int .i64 (half c),.slice (some ⟨gl,0,none⟩) ((half c).toNat+1) ((half c).toNat+1),.slice (some ⟨gh,0,none⟩) ((half c).toNat+1) ((half c).toNat+1),.slice (some ⟨wr.heap.size,0,none⟩) ((half c).toNat+1) ((half c).toNat+1)] 214;simpa using this
 ·exact(World.rowIs_made wr (.slice none 0 0) ((half c).toNat+1) 206).alloc _
structure Hn(w:World)(ps:List Value)(k:Nat)(c:ZB)(Mf:Int->Int->Int->Bool):Prop where
 len:ps.length=k
 m:∀a:Nat,a<k->∃mb gp gs,ps[a]?=some (.pointer (some ⟨mb,0,none⟩))∧BL w mb gp gs c (Mf a)
theorem Hn.step(H:Hn w ps k c Mf)(j:Below w.heap.size w w1):Hn w1 ps k c Mf:=
 ⟨H.len,λa i=>by
  obtain⟨l,b,d,e,g⟩:=H.m a i;exact⟨l,b,d,e,g.step j⟩⟩
theorem BL.keep{l g i:Nat}{M:Int->Int->Bool}(H:BL w l g i c M)(q:w.heap.size<=w1.heap.size)(e:∀b,(b=l∨b=g∨b=i)->w1.heap[b]?=w.heap[b]?):BL w1 l g i c M:=by
 have m:∀b j,(b=l∨b=g∨b=i)->w1.cell? ⟨b,j,none⟩=w.cell? ⟨b,j,none⟩:=λb j o=>Qo (e b o);have r:∀b j,(b=l∨b=g∨b=i)->w1.frozen? ⟨b,j,none⟩=w.frozen? ⟨b,j,none⟩:=λb j o=>Qz (e b o)
 exact⟨Qq H.lm q,Qq H.lp q,Qq H.ls q,H.n1,H.n2,H.n3,by rw[m _ _ (.inl rfl)];exact H.c0,by rw[m _ _ (.inl rfl)];exact H.c1,λj a=>by rw[m _ _ (.inr (.inl rfl))];exact H.p j a,λj d a hd=>by rw[m _ _ (.inr (.inr rfl))];exact H.s j d a hd,λj a=>by rw[r _ _ (.inr (.inl rfl))];exact H.fp j a,λj d a hd=>by rw[r _ _ (.inr (.inr rfl))];exact H.fs j d a hd⟩
theorem PB{e:TypeId}(h:w.ownsRow B e 1 sv k ps)(r:0<k){q:Option Addr}(l:ps[0]?=some (.pointer q)){b:Nat}{x:Value}(a:w.cell? ⟨b,0,none⟩=some x)(o:∀q,x≠.pointer q):some b≠sv.ownBlock:=by
 intro e;have m:=h;rcases m.2 with ⟨_,s⟩|⟨g,d,i,p,_⟩
 ·omega
 ·subst p;have j:b=g:=by simpa [Value.ownBlock] using e
  subst j;rw[h.cellAt 0 (by omega),l]at a;exact o q (by simpa using a.symm)
theorem Hn.push{g y:World}{e:TypeId}{x A C:Nat}{M:Int->Int->Bool}{o:Obj}(H:Hn g ps k c Mf)(own:g.ownsRow B e 1 sv k ps)(own0:wr.ownsRow B e 1 sv k ps)(E:(g.alloc o).grownBy y sv.ownBlock)(K:BL g x A C c M)(N:wr.heap.size<=x)(O:wr.heap.size<=A)(P:wr.heap.size<=C):Hn y (ps++[.pointer (some ⟨x,0,none⟩)]) (k+1) c (λa=>if a=k then M else Mf a):=by
 have F:g.heap.size<=y.heap.size:=Qg (by simp) E.size;have d:∀b,b<g.heap.size->some b≠sv.ownBlock->y.heap[b]?=g.heap[b]?:=λb r D=>by rw[E.block b (by simp;omega) D,Below.heap_alloc g o b r]
 refine⟨by simp[H.len],λa Q=>?_⟩;by_cases e:a=k
 ·subst e;refine⟨x,A,C,?_,?_⟩
  ·rw[QF (by rw[H.len];omega),H.len];simp
  ·simp only[if_pos];have i:∀b,wr.heap.size<=b->some b≠sv.ownBlock:=λb r z=>by have:=(own0.lt b z.symm).2;omega
   refine K.keep F (λb r=>?_);rcases r with rfl|rfl|rfl
   ·exact d _ K.lm (i _ N)
   ·exact d _ K.lp (i _ O)
   ·exact d _ K.ls (i _ P)
 ·obtain⟨G,I,J,L,l⟩:=H.m a (by omega);obtain⟨S,T,U,j,_⟩:=H.m 0 (by omega);have z:¬((a:Int)=(k:Int)):=by omega
  refine⟨G,I,J,?_,?_⟩
  ·rw[QD (by rw[H.len];omega)];exact L
  ·simp only[if_neg z];refine l.keep F (λb r=>?_);rcases r with rfl|rfl|rfl
   ·exact d _ l.lm (PB own (by omega) j l.c0 (λq=>by simp))
   ·exact d _ l.lp (PB own (by omega) j (l.p 0 (by omega)) (λq=>by simp))
   ·exact d _ l.ls (PB own (by omega) j (by have:=l.s 0 0 (by omega) (by omega);simpa using this) (λq=>by simp))
theorem Hn.list{e:TypeId}(H:Hn w ps k c Mf)(own:w.ownsRow B e 1 sv k ps)(A:1<=n)(z:(k:Int)=n):∃d b,sv=.slice (some ⟨d,0,none⟩) n.toNat b∧JF w d n c Mf:=by
 rcases own.2 with ⟨_,C⟩|⟨g,b,i,r,y,q,_⟩
 ·omega
 ·subst r;have e:n.toNat=k:=by omega
  refine⟨g,b,by rw[e],⟨(Ug.1 q).1,λa x=>?_⟩⟩;obtain⟨s,j,l,o,p⟩:=H.m a (by omega);exact⟨s,j,l,by rw[own.cellAt a (by omega)];exact o,p⟩
end Go.Proofs.YtcnbifdlkalimabGreat
