/- Lemmas; their conditions stand in each. -/
import Derived.Test.YtcnbifdlkalimabGreatRfM
import Derived.Deep.OwnRows
import Derived.Deep.LoopGhost
namespace Go.Proofs.YtcnbifdlkalimabGreat
open Go.RowKit Go.Deep Go.Proofs.Tryz
set_option linter.all false
variable{n:Int}{m:Nat->Bool}{w wr:World}{c t v:ZB}
theorem KV:(prog.info? 4).map (λi=>(i.zero,i.size,i.bytes))=some (some (.bool false),1,1):=by kernel_rfl
theorem OQ:(prog.info? 3).map (λi=>(i.zero,i.size,i.bytes))=some (some (.int .i64 0),1,8):=by kernel_rfl
theorem Lk(z:Value)(n i:Nat)(h:i<n):(madeCells #[z] n)[i]?=some z:=by simp[madeCells,h,Nat.mod_one]
theorem Re(w:World)(z v:Value)(n i:Nat)(t:TypeId):(w.alloc (.cells ((madeCells #[z] n).setIfInBounds i v) t)).rowIs w.heap.size t n (λj=>if j=i then v else z):=by
 have h:=World.rowIs_alloc w ((madeCells #[z] n).setIfInBounds i v) t (λj=>if j=i then v else z) (by
  intro j b;have a:j<n:=by simpa [size_madeCells] using b
  rw[Array.getElem?_setIfInBounds];by_cases e:i=j
  ·subst e;rw[if_pos rfl,if_pos (by simpa [size_madeCells] using a),if_pos rfl]
  ·rw[if_neg e,Lk z n j a,if_neg (λh=>e h.symm)])
 have d:((madeCells #[z] n).setIfInBounds i v).size=n:=by simp[size_madeCells]
 rw[d]at h;exact h
set_option maxHeartbeats 6400000
theorem MR(n:Int)(i:Nat)(t v c:ZB)(w:World)(o:half c<=200)(k:(i:Int)<=half c) :
  Calls prog 152 #[.agg #[.int .i64 n,.string t,.string v,.string c,.int .i64 (half c)],.int .i64 i] w λe b=>
   ∃g,e=.returned (.slice (some ⟨g,0,none⟩) ((half c).toNat+1) ((half c).toNat+1))∧w.heap.size<=g∧b.rowIs g 4 ((half c).toNat+1) (λj=>.bool (decide (j=i)))∧Below w.heap.size w b:=by
 have f:=(Zn c).1;have a:=run_make_row' (P:=prog) 206 4 (.bool false) 1 Tryz.underlying206 KV rfl .i64 .i64 ((half c).toNat+1) (by omega) (by omega);rw[show (((half c).toNat+1:Nat):Int)=half c+1 from by omega]at a;have d:=Lk (.bool false) ((half c).toNat+1) i (by omega);go_in;go_wp2;go_ret;refine⟨w.heap.size+1,rfl,by omega,?_,((Qh _ _).alloc (Qb _) _).alloc (by simp) _⟩;have h:=Re (w.alloc (.cells #[.int .i64 n,.string t,.string v,.string c,.int .i64 (half c)] 169)) (.bool false) (.bool true) ((half c).toNat+1) i 4;simp only[World.size_alloc]at h;refine h.congr (λj l=>?_);by_cases e:j=i
 ·simp[e]
 ·simp[e]
structure Fi(B:Nat)(w:World)(v:Value)(l:List Int):Prop where
 form:∃g cap,v=.slice (some ⟨g,0,none⟩) l.length cap∧B<=g∧g<w.heap.size∧∀(q:Nat) (x:Int),l[q]?=some x->w.cell? ⟨g,q,none⟩=some (.int .i64 x)
theorem KQ{B:Nat}{v:Value}{l:List Int}(k:l≠[])(h:w.ownsRow B 3 1 v l.length (l.map (Value.int .i64))):Fi B w v l:=by
 have e:0<l.length:=List.length_pos_iff.2 k;rcases h.2 with ⟨_,p⟩|⟨g,a,f,o,i,j,_,_,_,_⟩
 ·omega
 ·subst o;refine⟨⟨g,a,rfl,i,?_,λq x d=>?_⟩⟩
  ·obtain⟨b,_⟩:=Ug.1 j;exact b
  ·have r:q<l.length:=by rw[Ql]at d;exact d.1
   rw[h.cellAt q (by omega),Ui,d];rfl
theorem MS(n i:Int)(t v c:ZB)(w:World)(T:c.size<=maxLen)(S:0<=i)(U:i<half c)(J:half c<=200) :
  Calls prog 202 #[.agg #[.int .i64 n,.string t,.string v,.string c,.int .i64 (half c)],.int .i64 i] w λe W=>
   ∃r,e=.returned r∧Fi w.heap.size W r (AP c i)∧Below w.heap.size w W:=by
 obtain⟨Q,D,E,F,G⟩:=info_parts OQ;have q:=AF.new5 w (.int .i64 n) (.string t) (.string v) (.string c) (.int .i64 (half c)) 169;have B:Below w.heap.size w (w.alloc (.cells #[.int .i64 n,.string t,.string v,.string c,.int .i64 (half c)] 169)):=(Qh _ _).alloc (Qb _) _;go_in;go_wp2_with fail;refine(GL n i t v c _ T S U).mono ?_;rintro e w1 ⟨rfl,g⟩;replace B:=B.trans (g.mono (by simp));replace q:=q.step g;clear g;have ol:=q.lt;have q0:=q.c 0 _ rfl;have q1:=q.c 1 _ rfl;have q2:=q.c 2 _ rfl;have q3:=q.c 3 _ rfl;have q4:=q.c 4 _ rfl;go_wp2_with fail;refine(FL n i t v c _ T S U).mono ?_;rintro e X ⟨rfl,g⟩;replace B:=B.trans (g.mono (by omega));clear g q ol q0 q1 q2 q3 q4;have V:=B.size;have O:Kp (AP c i=if bv c (2*i)=8 then [bv c (2*i+1)] else if bv c (2*i)=9∧bv c (2*i+1)≠i+1 then [i+1,bv c (2*i+1)] else [i+1]):=⟨rfl⟩
 obtain⟨d0,d1⟩:=Zx c (2*i);obtain⟨d2,d3⟩:=Zx c (2*i+1);generalize bv c (2*i)=x at *;generalize bv c (2*i+1)=y at *;by_cases s:x=8
 ·have L:Kp (AP c i=[y]):=⟨by rw[O.o,if_pos s]⟩
  have x8:(x==8)=true:=QL.2 s;have R:(x != 8)=false:=by rw[s];rfl
  clear s O;go_wp2_with (at_builtin;refine wpList_append_own _ rfl _ _ 69 rfl w.heap.size 3 Q (.int .i64 0) 1 8 Tryz.underlying69 D E F G rfl (by decide) _ _ _ rfl (Uq _ _ _ _) ⟨X.heap.size,0,none⟩ 1 1 [.int .i64 (y)] rfl rfl ?a1 ?a2 ?a3 ?a4 ?a5 ?_)
  case a1=>
   intro j u f;match j,f with
   | 0,f=>simp at f;subst f;simp[Addr.add]
  case a2=>intro u A;simp at A;subst A;rfl
  case a3=>unfold maxLen;omega
  case a4=>omega
  case a5=>simp;omega
  intro H I a b _;have b1:Below w.heap.size w I:=(B.alloc V _).grown b (by simp;omega) (by intro k J;simp[Value.ownBlock]at J);have C:Kp (Fi w.heap.size I H [y]):=⟨KQ (l:=[y]) (by simp) a⟩
  clear a b;go_wp2;go_ret;exact⟨H,rfl,by rw[L.o];exact C.o,b1⟩
 ·have x8:(x==8)=false:=Qf.2 s;have R:(x != 8)=true:=QO.2 s;have L:Kp ((¬(x=9∧y≠i+1)->AP c i=[i+1])∧(x=9∧y≠i+1->AP c i=[i+1,y])):=⟨by rw[O.o,if_neg s];exact⟨λh=>by rw[if_neg h],λh=>by rw[if_pos h]⟩⟩
  clear s O;go_wp2_with (at_builtin;refine wpList_append_own _ rfl _ _ 69 rfl w.heap.size 3 Q (.int .i64 0) 1 8 Tryz.underlying69 D E F G rfl (by decide) _ _ _ rfl (Uq _ _ _ _) ⟨X.heap.size,0,none⟩ 1 1 [.int .i64 (i+1)] rfl rfl ?a1 ?a2 ?a3 ?a4 ?a5 ?_)
  case a1=>
   intro j u f;match j,f with
   | 0,f=>simp at f;subst f;simp[Addr.add]
  case a2=>intro u A;simp at A;subst A;rfl
  case a3=>unfold maxLen;omega
  case a4=>omega
  case a5=>simp;omega
  intro H I a b _;have b1:Below w.heap.size w I:=(B.alloc V _).grown b (by simp;omega) (by intro k J;simp[Value.ownBlock]at J);clear b;by_cases z:x=9
  ·by_cases K:y=i+1
   ·have C:Kp (Fi w.heap.size I H [i+1]):=⟨KQ (l:=[i+1]) (by simp) a⟩
    have M:Kp (AP c i=[i+1]):=⟨L.o.1 (λh=>h.2 K)⟩
    have Z:(x==9)=true:=QL.2 z;have y9:(y != i+1)=false:=by rw[K];simp
    clear a z K;go_wp2;go_ret;exact⟨H,rfl,by rw[M.o];exact C.o,b1⟩
   ·have M:Kp (AP c i=[i+1,y]):=⟨L.o.2 ⟨z,K⟩⟩
    have Z:(x==9)=true:=QL.2 z;have y9:(y != i+1)=true:=QO.2 K;have P:=b1.size;clear z K;go_wp2_with (at_builtin;refine wpList_append_own _ rfl _ _ 69 rfl w.heap.size 3 Q (.int .i64 0) 1 8 Tryz.underlying69 D E F G rfl (by decide) _ _ _ rfl (a.alloc _) ⟨I.heap.size,0,none⟩ 1 1 [.int .i64 (y)] rfl rfl ?b1 ?b2 ?b3 ?b4 ?b5 ?_)
    case b1=>
     intro j u f;match j,f with
     | 0,f=>simp at f;subst f;simp[Addr.add]
    case b2=>intro u A;simp at A;subst A;rfl
    case b3=>unfold maxLen;omega
    case b4=>omega
    case b5=>simp;omega
    intro N Y p d _;have b2:Below w.heap.size w Y:=(b1.alloc P _).grown d (by simp;omega) (λk J=>(a.lt k J).1);have C:Kp (Fi w.heap.size Y N [i+1,y]):=⟨KQ (l:=[i+1,y]) (by simp) p⟩
    clear a p d;go_wp2;go_ret;exact⟨N,rfl,by rw[M.o];exact C.o,b2⟩
  ·have C:Kp (Fi w.heap.size I H [i+1]):=⟨KQ (l:=[i+1]) (by simp) a⟩
   have M:Kp (AP c i=[i+1]):=⟨L.o.1 (λh=>z h.1)⟩
   have Z:(x==9)=false:=Qf.2 z;clear a z;go_wp2;go_ret;exact⟨H,rfl,by rw[M.o];exact C.o,b1⟩
structure DL(n:Int)(t v c:ZB)(w wr:World)(m:Nat->Bool):Prop where
 b:Below w.heap.size w wr
 o:AF wr w.heap.size [.int .i64 n,.string t,.string v,.string c,.int .i64 (half c)]
 r:wr.rowIs (w.heap.size+1) 4 ((half c).toNat+1) (λj=>.bool (m j))
theorem DL.step{w1:World}(h:DL n t v c w wr m)(a:Below wr.heap.size wr w1):DL n t v c w w1 m:=
 ⟨h.b.trans (a.mono (Uf h.o.lt)),h.o.step a,h.r.of_block (a.block _ h.r.lt)⟩
theorem DL.set(h:DL n t v c w wr m)(j:Nat)(x:Bool):DL n t v c w (wr.setCell ⟨w.heap.size+1,j,none⟩ (.bool x)) (λi=>if i=j then x else m i):=by
 refine⟨h.b.setCell (by simp) _,?_,(h.r.set j (.bool x)).congr (λi _=>by split<;>rfl)⟩;refine⟨by simpa using h.o.lt,λi v a=>?_,λi v a=>?_⟩
 ·rw[QN wr ⟨w.heap.size+1,j,none⟩ ⟨w.heap.size,i,none⟩ (.bool x) (by intro e;have d:=congrArg Addr.block e;simp at d)];exact h.o.c i v a
 ·rw[Qu];exact h.o.f i v a
theorem DL.congr{m':Nat->Bool}(h:DL n t v c w wr m)(e:∀j,j<((half c).toNat+1)->m j=m' j):DL n t v c w wr m':=
 ⟨h.b,h.o,h.r.congr (λi a=>by rw[e i a])⟩
theorem DL.begin(n:Int)(t v c:ZB)(w:World):DL n t v c w ((w.alloc (.cells #[.int .i64 n,.string t,.string v,.string c,.int .i64 (half c)] 169)).alloc (.cells (madeCells #[.bool false] ((half c).toNat+1)) 4)) (λ_=>false):=
 ⟨((Below.refl _ _).alloc (Nat.le_refl _) _).alloc (by simp) _,(AF.new5 w _ _ _ _ _ _).alloc _,by have h:=World.rowIs_made (w.alloc (.cells #[.int .i64 n,.string t,.string v,.string c,.int .i64 (half c)] 169)) (.bool false) ((half c).toNat+1) 4;simpa using h⟩
theorem Ll(n wall:Int)(gm:Nat)(mk:Nat->Bool)(t v c:ZB)(w:World)(hc:c.size<=maxLen)(hk:half c<=200)(hr:Kp (Ay c))(S:w.rowIs gm 4 ((half c).toNat+1) (λj=>.bool (mk j))) :
  Calls prog 151 #[.agg #[.int .i64 n,.string t,.string v,.string c,.int .i64 (half c)],.slice (some ⟨gm,0,none⟩) ((half c).toNat+1) ((half c).toNat+1),.int .i64 wall] w λe w'=>
   e=.returned (.slice (some ⟨w.heap.size+1,0,none⟩) ((half c).toNat+1) ((half c).toNat+1))∧∃m:Nat->Bool,w'.rowIs (w.heap.size+1) 4 ((half c).toNat+1) (λj=>.bool (m j))∧(∀j:Nat,(j:Int)<=half c->(m j=true↔Ac c (Dx c mk) wall j))∧Below w.heap.size w w':=by
 have hh:=(Zn c).1;have aq:=S.lt;have am:=run_make_row' (P:=prog) 206 4 (.bool false) 1 Tryz.underlying206 KV rfl .i64 .i64 ((half c).toNat+1) (by omega) (by omega);rw[show ((((half c).toNat+1):Nat):Int)=half c+1 from by omega]at am;have ah:Kp (w.rowIs gm 4 ((half c).toNat+1) (λj=>.bool (mk j))):=⟨S⟩
 clear S;go_in;go_wp2_with fail;clear am;go_loopw [8] (λi wr=>∃k:Nat,k<=((half c).toNat+1)∧i=.int .i64 k∧DL n t v c w wr (λj=>decide (j<k)&&(mk j&&decide ((j:Int)≠wall)))) (λi _=>((half c).toNat+1)-(intOf i).toNat);case atStart=>exact⟨0,by omega,rfl,(DL.begin n t v c w).congr (λj _=>by simp)⟩
 case round=>
  obtain⟨k,aI,rfl,f⟩:=hrel;have V:=f.o.lt;have W:=f.o.c 0 _ rfl;have X:=f.o.c 1 _ rfl;have Y:=f.o.c 2 _ rfl;have Z:=f.o.c 3 _ rfl;have q4:=f.o.c 4 _ rfl;by_cases aJ:(k:Int)<=half c
  ·have I:wr.cell? ⟨gm,k,none⟩=some (.bool (mk k)):=by rw[f.b.cell (p:=⟨gm,k,none⟩) aq];exact ah.o.cell (by omega)
   have aB:=f.r.cell (i:=k) (by omega);have aE:=f.r.frozen k;have ar:(k:Int)<half c+1:=by omega
   have B:∀x:Bool,x=(mk k&&decide ((k:Int)≠wall))->Kp (DL n t v c w (wr.setCell ⟨w.heap.size+1,k,none⟩ (.bool x)) (λj=>decide (j<k+1)&&(mk j&&decide ((j:Int)≠wall)))):=λx O=>⟨(f.set k x).congr (λj J=>by
    by_cases e:j=k
    ·subst e;simp[O]
    ·rw[if_neg e];congr 1;have:(j<k)↔(j<k+1):=by omega
     simp[this])⟩
   cases E:mk k
   ·rw[E]at I;have N:=B false (by simp[E]);clear B;go_wp2;go_roundw;case rel=>exact⟨k+1,by omega,by go_num,N.o⟩
    case measure=>simp[intOf];omega
   ·rw[E]at I;by_cases F:(k:Int)=wall
    ·have T:((k:Int) != wall)=false:=by rw[F];simp
     have N:=B false (by simp[F]);clear B F;go_wp2;go_roundw;case rel=>exact⟨k+1,by omega,by go_num,N.o⟩
     case measure=>simp[intOf];omega
    ·have T:((k:Int) != wall)=true:=QO.2 F;have N:=B true (by simp[E,F]);clear B F;go_wp2;go_roundw;case rel=>exact⟨k+1,by omega,by go_num,N.o⟩
     case measure=>simp[intOf];omega
  ·have R:Kp (DL n t v c w wr (λj=>mk j&&decide ((j:Int)≠wall))):=⟨f.congr (λj J=>by
    have:j<k:=by omega
    simp[this])⟩
   have l:Kp (B9 c mk wall (λj=>mk j&&decide ((j:Int)≠wall))):=⟨⟨λj J A=>by
    simp only[Qr,decide_eq_true_eq]at A;exact Ac.start ⟨by omega,J,by simpa using A.1⟩ A.2,λj J A F=>by simp[A,F]⟩⟩
   generalize (λj=>mk j&&decide ((j:Int)≠wall))=m0 at R l;clear f;go_wp2_with fail;go_loopg [9] (2*BG m0 ((half c).toNat+1)+1) (λg a wr=>∃(s:Bool) (m:Nat->Bool),a=.bool s∧g=2*BG m ((half c).toNat+1)+(if s then 1 else 0)∧DL n t v c w wr m∧Kp (B9 c mk wall m)∧Kp (s=false->Z2 c wall m (half c).toNat));case atStart=>exact⟨true,m0,rfl,by simp,R.o,l,⟨λh=>absurd h (by simp)⟩⟩
   case round=>
    clear R l V W X Y Z q4;obtain⟨s,m,rfl,hg,f,l,ad⟩:=hrel;replace hg:=Z_ hg;have V:=f.o.lt;have W:=f.o.c 0 _ rfl;have X:=f.o.c 1 _ rfl;have Y:=f.o.c 2 _ rfl;have Z:=f.o.c 3 _ rfl;have q4:=f.o.c 4 _ rfl;cases s
    ·go_wp2;go_ret;exact⟨rfl,m,f.r,WP hr.o l.o (ad.o (by simp)),f.b⟩
    ·clear ad;go_wp2_with fail;go_loopw [9,10] (λa i wr=>∃(s:Bool) (k:Nat) (H:Nat->Bool),a=.bool s∧(k:Int)<=half c∧i=.int .i64 k∧DL n t v c w wr H∧Kp (B9 c mk wall H)∧Kp ((s=false->H=m∧Z2 c wall m k)∧(s=true->BG H ((half c).toNat+1)<BG m ((half c).toNat+1)))) (λ_ i _=>(half c).toNat-(intOf i).toNat);case atStart=>exact⟨false,0,m,rfl,by omega,rfl,f,l,⟨⟨λ_=>⟨rfl,λi hi=>absurd hi (by omega)⟩,λh=>absurd h (by simp)⟩⟩⟩
     case round=>
      clear f l V W X Y Z q4;obtain⟨s,z,H,rfl,aH,rfl,f,l,u⟩:=hrel;have V:=f.o.lt;have W:=f.o.c 0 _ rfl;have X:=f.o.c 1 _ rfl;have Y:=f.o.c 2 _ rfl;have Z:=f.o.c 3 _ rfl;have q4:=f.o.c 4 _ rfl;by_cases M:(z:Int)<half c
      ·have I:=f.r.cell (i:=z) (by omega);have ar:(z:Int)<half c+1:=by omega
       cases E:H z
       ·rw[E]at I;have D:Kp ((s=false->H=m∧Z2 c wall m (z+1))∧(s=true->BG H ((half c).toNat+1)<BG m ((half c).toNat+1))):=⟨⟨λh=>⟨(u.o.1 h).1,λi hi A j J F=>by
         by_cases e:i=z
         ·subst e;rw[(u.o.1 h).1]at E;rw[E]at A;exact absurd A (by simp)
         ·exact(u.o.1 h).2 i (by omega) A j J F⟩,u.o.2⟩⟩
        go_wp2;go_roundw;case rel=>exact⟨s,z+1,H,rfl,by omega,by go_num,f,l,D⟩
        case measure=>simp[intOf];omega
       ·rw[E]at I;replace E:=Z_ E;go_wp2_with fail;refine(MS n z t v c _ hc (by omega) M hk).mono ?_;rintro e w1 ⟨r,rfl,hI,ab⟩;have ax:=f.r.lt;replace f:=f.step ab;obtain⟨⟨gn,aC,rfl,aG,az,d⟩⟩:=hI;have ai:gn≠w.heap.size+1:=by omega
        clear ab ax I V W X Y Z q4;have aw:Kp (∀(q:Nat) (x:Int),(AP c z)[q]?=some x->0<=x∧x<=half c∧x∈AP c z):=⟨λq x O=>by
         have A:=Qw O;have:=hr.o z x ⟨by omega,M,A⟩;exact⟨this.1,this.2,A⟩⟩
        have au:Kp (∀j:Int,j∈AP c z->∃q,q<(AP c z).length∧(AP c z)[q]?=some j):=⟨λj J=>by
         obtain⟨q,hq,he⟩:=List.getElem_of_mem J;exact⟨q,hq,by rw[Qn hq,he]⟩⟩
        have aA:=M1 c z;generalize hL:AP c z=L at *;replace hL:=Z_ hL;replace d:=Z_ d;have av:=f.o.lt;go_wp2_with fail;go_loopw [9,51] (λa qv wr=>∃(s:Bool) (q:Nat) (C:Nat->Bool),a=.bool s∧q<=L.length∧qv=.int .i64 q∧DL n t v c w wr C∧Kp (B9 c mk wall C)∧Kp (C z=true)∧Kp ((s=false->C=m∧Z2 c wall m z∧∀(p:Nat) (x:Int),p<q->L[p]?=some x->x≠wall->m x.toNat=true)∧(s=true->BG C ((half c).toNat+1)<BG m ((half c).toNat+1)))∧Kp (∀(p:Nat) (x:Int),L[p]?=some x->wr.cell? ⟨gn,p,none⟩=some (.int .i64 x))) (λ_ qv _=>L.length-(intOf qv).toNat);case atStart=>exact⟨s,0,H,rfl,by omega,rfl,f,l,E,⟨⟨λh=>⟨(u.o.1 h).1,(u.o.1 h).2,λp x hp=>absurd hp (by omega)⟩,u.o.2⟩⟩,d⟩
        case round=>
         clear f l E u d av;obtain⟨s,q,C,rfl,hq,rfl,f,l,E,u,d⟩:=hrel;have V:=f.o.lt;have W:=f.o.c 0 _ rfl;have X:=f.o.c 1 _ rfl;have Y:=f.o.c 2 _ rfl;have Z:=f.o.c 3 _ rfl;have q4:=f.o.c 4 _ rfl;by_cases al:q<L.length
         ·obtain⟨x,O⟩:∃x,L[q]?=some x:=⟨_,Qn al⟩
          have aD:=d.o q x O;obtain⟨ay,aL,U⟩:=aw.o q x O;obtain⟨G,rfl⟩:=Int.eq_ofNat_of_zero_le ay;replace O:=Z_ O;have an:=f.r.cell (i:=G) (by omega);have aF:=f.r.frozen G;have aM:(G:Int)<half c+1:=by omega
          have aK:(q:Int)<(L.length:Int):=by omega
          replace U:Kp ((G:Int)∈AP c z):=⟨by rw[hL.o];exact U⟩
          by_cases F:(G:Int)=wall
          ·have T:((G:Int) != wall)=false:=by rw[F];simp
           have D:Kp ((s=false->C=m∧Z2 c wall m z∧∀(p:Nat) (x:Int),p<q+1->L[p]?=some x->x≠wall->m x.toNat=true)∧(s=true->BG C ((half c).toNat+1)<BG m ((half c).toNat+1))):=⟨⟨λh=>⟨(u.o.1 h).1,(u.o.1 h).2.1,λp x hp y Q=>by
            by_cases e:p=q
            ·subst e;rw[O.o]at y;simp only[Option.some.injEq]at y;exact absurd (y.symm.trans F) Q
            ·exact(u.o.1 h).2.2 p x (by omega) y Q⟩,u.o.2⟩⟩
           clear F;go_wp2;go_roundw;case rel=>exact⟨s,q+1,C,rfl,by omega,by go_num,f,l,E,D,d⟩
           case measure=>simp[intOf];omega
          ·have T:((G:Int) != wall)=true:=QO.2 F;cases A:C G
           ·rw[A]at an;have ao:=f.set G true;have aa:Kp (B9 c mk wall (λx=>if x=G then true else C x)):=⟨WQ l.o M E.o U.o F⟩
            have ap:Kp ((λx=>if x=G then true else C x) z=true):=⟨by simp[E.o]⟩
            have D:Kp ((true=false->(λx=>if x=G then true else C x)=m∧Z2 c wall m z∧∀(p:Nat) (x:Int),p<q+1->L[p]?=some x->x≠wall->m x.toNat=true)∧(true=true->BG (λx=>if x=G then true else C x) ((half c).toNat+1)<BG m ((half c).toNat+1))):=⟨⟨λh=>absurd h (by simp),λ_=>by
             have h1:=Hu (k:=((half c).toNat+1)) (j:=G) (by omega) A;cases s with
             | false=>rw[(u.o.1 rfl).1]at h1 ⊢;omega
             | true=>have:=u.o.2 rfl;omega⟩⟩
            have K:Kp (∀(p:Nat) (x:Int),L[p]?=some x->(wr.setCell ⟨w.heap.size+1,G,none⟩ (.bool true)).cell? ⟨gn,p,none⟩=some (.int .i64 x)):=⟨λp x y=>by
             rw[QN wr ⟨w.heap.size+1,G,none⟩ ⟨gn,p,none⟩ (.bool true) (by intro e;have e2:=congrArg Addr.block e;exact ai e2.symm)];exact d.o p x y⟩
            clear u E l d F A;go_wp2;go_roundw;case rel=>exact⟨true,q+1,_,rfl,by omega,by go_num,ao,aa,ap,D,K⟩
            case measure=>simp[intOf];omega
           ·rw[A]at an;have D:Kp ((s=false->C=m∧Z2 c wall m z∧∀(p:Nat) (x:Int),p<q+1->L[p]?=some x->x≠wall->m x.toNat=true)∧(s=true->BG C ((half c).toNat+1)<BG m ((half c).toNat+1))):=⟨⟨λh=>⟨(u.o.1 h).1,(u.o.1 h).2.1,λp x hp y Q=>by
             by_cases e:p=q
             ·subst e;rw[O.o]at y;simp only[Option.some.injEq]at y;rw[<-y,QC,<-(u.o.1 h).1];exact A
             ·exact(u.o.1 h).2.2 p x (by omega) y Q⟩,u.o.2⟩⟩
            clear F A;go_wp2;go_roundw;case rel=>exact⟨s,q+1,C,rfl,by omega,by go_num,f,l,E,D,d⟩
            case measure=>simp[intOf];omega
         ·have D:Kp ((s=false->C=m∧Z2 c wall m (z+1))∧(s=true->BG C ((half c).toNat+1)<BG m ((half c).toNat+1))):=⟨⟨λh=>⟨(u.o.1 h).1,λi hi A j J aj=>by
           by_cases e:i=z
           ·subst e;rw[hL.o]at J;obtain⟨p,hp,y⟩:=au.o j J;exact(u.o.1 h).2.2 p j (by omega) y aj
           ·exact(u.o.1 h).2.1 i (by omega) A j J aj⟩,u.o.2⟩⟩
          go_wp2;go_roundw;case rel=>exact⟨s,z+1,C,rfl,by omega,by go_num,f,l,D⟩
          case measure=>simp[intOf];omega
      ·have ak:z=(half c).toNat:=by omega
       have ae:Kp (s=false->Z2 c wall H (half c).toNat):=⟨λh=>by rw[(u.o.1 h).1,<-ak];exact(u.o.1 h).2⟩
       have af:Kp (2*BG H ((half c).toNat+1)+(if s then 1 else 0)<2*BG m ((half c).toNat+1)+1):=⟨by
        cases s with
        | false=>rw[(u.o.1 rfl).1];simp
        | true=>have:=u.o.2 rfl;simp;omega⟩
       clear ak;go_wp2;go_roundg (2*BG H ((half c).toNat+1)+(if s then 1 else 0));case measure=>have h1:=hg.o;have h2:=af.o;simp at h1;omega
       case rel=>exact⟨s,H,rfl,rfl,f,l,ae⟩
def BP(c:ZB)(i j:Int):Bool:=decide (j∈AP c i)
theorem W4{i j:Int}(h:bv c (2*i)=8):BP c i j=(j==bv c (2*i+1)):=by unfold BP AP;rw[if_pos h,QM];simp
theorem WG{i j:Int}(h:bv c (2*i)≠8):BP c i j=(j==i+1||(bv c (2*i)==9&&j==bv c (2*i+1))):=by
 unfold BP AP;rw[if_neg h,QM];by_cases a:bv c (2*i)=9
 ·by_cases b:bv c (2*i+1)=i+1
  ·rw[if_neg (λh=>h.2 b)];simp[a,b]
  ·rw[if_pos ⟨a,b⟩];simp[a]
 ·rw[if_neg (λh=>a h.1)];simp[a]
theorem Zph(n i j:Int)(t v c:ZB)(w:World)(u:c.size<=maxLen)(s:0<=i)(A:i<half c)(N:half c<=200) :
  Calls prog 227 #[.agg #[.int .i64 n,.string t,.string v,.string c,.int .i64 (half c)],.int .i64 i,.int .i64 j] w λe H=>e=.returned (.bool (BP c i j))∧Below w.heap.size w H:=by
 have d:=AF.new5 w (.int .i64 n) (.string t) (.string v) (.string c) (.int .i64 (half c)) 169;have f:Below w.heap.size w (w.alloc (.cells #[.int .i64 n,.string t,.string v,.string c,.int .i64 (half c)] 169)):=(Qh _ _).alloc (Qb _) _;have l:Kp (bv c (2*i)=8->BP c i j=(j==bv c (2*i+1))):=⟨W4⟩
 have p:Kp (bv c (2*i)≠8->BP c i j=(j==i+1||(bv c (2*i)==9&&j==bv c (2*i+1)))):=⟨WG⟩
 obtain⟨J,K⟩:=Zx c (2*i);obtain⟨L,M⟩:=Zx c (2*i+1);generalize O:BP c i j=z at *;go_in;go_wp2_with fail;refine(FL n i t v c _ u s A).mono ?_;rintro e P ⟨rfl,a⟩;replace f:=f.trans (a.mono (by simp));replace d:=d.step a;clear a;have B:=d.lt;have C:=d.c 0 _ rfl;have D:=d.c 1 _ rfl;have E:=d.c 2 _ rfl;have F:=d.c 3 _ rfl;have G:=d.c 4 _ rfl;go_wp2_with fail;refine(GL n i t v c _ u s A).mono ?_;rintro e Q ⟨rfl,a⟩;replace f:=f.trans (a.mono (by omega));clear a d B C D E F G;generalize bv c (2*i)=x at *;generalize bv c (2*i+1)=y at *;by_cases g:x=8
 ·have I:(x==8)=true:=QL.2 g;have b:Kp _:=⟨l.o g⟩
  clear l p g;go_wp2;go_ret;exact⟨Za b.o.symm,f⟩
 ·have I:(x==8)=false:=Qf.2 g;have b:Kp _:=⟨p.o g⟩
  clear l p g;by_cases k:j=i+1
  ·have q:(j==i+1)=true:=QL.2 k;replace b:Kp (z=true):=⟨by rw[b.o,q];rfl⟩
   clear k;go_wp2;go_ret;exact⟨Za b.o.symm,f⟩
  ·have q:(j==i+1)=false:=Qf.2 k;replace b:Kp (z=(x==9&&j==y)):=⟨by rw[b.o,q];rfl⟩
   clear k;by_cases h:x=9
   ·have r:(x==9)=true:=QL.2 h;replace b:Kp (z=(j==y)):=⟨by rw[b.o,r];rfl⟩
    clear h;go_wp2;go_ret;exact⟨Za b.o.symm,f⟩
   ·have r:(x==9)=false:=Qf.2 h;replace b:Kp (z=false):=⟨by rw[b.o,r];rfl⟩
    clear h;go_wp2;go_ret;exact⟨Za b.o.symm,f⟩
theorem YJ(n i:Int)(t v c:ZB)(w:World)(s:c.size<=maxLen)(q:0<=i)(x:i<half c)(z:half c<=200) :
  Calls prog 206 #[.agg #[.int .i64 n,.string t,.string v,.string c,.int .i64 (half c)],.int .i64 i] w λe p=>
   e=.returned (.slice (some ⟨w.heap.size+1,0,none⟩) ((half c).toNat+1) ((half c).toNat+1))∧p.rowIs (w.heap.size+1) 4 ((half c).toNat+1) (λj=>.bool (BP c i j))∧Below w.heap.size w p:=by
 have K:=(Zn c).1;have g:=run_make_row' (P:=prog) 206 4 (.bool false) 1 Tryz.underlying206 KV rfl .i64 .i64 ((half c).toNat+1) (by omega) (by omega);rw[show ((((half c).toNat+1):Nat):Int)=half c+1 from by omega]at g;go_in;go_wp2_with fail;clear g;go_loopw [6] (λj wr=>∃k:Nat,k<=((half c).toNat+1)∧j=.int .i64 k∧DL n t v c w wr (λj=>decide (j<k)&&BP c i j)) (λj _=>((half c).toNat+1)-(intOf j).toNat);case atStart=>exact⟨0,by omega,rfl,(DL.begin n t v c w).congr (λj _=>by simp)⟩
 case round=>
  obtain⟨k,B,rfl,a⟩:=hrel;have D:=a.o.lt;have E:=a.o.c 0 _ rfl;have F:=a.o.c 1 _ rfl;have G:=a.o.c 2 _ rfl;have H:=a.o.c 3 _ rfl;have I:=a.o.c 4 _ rfl;by_cases C:(k:Int)<=half c
  ·go_wp2_with fail;refine(Zph n i k t v c _ s q x z).mono ?_;rintro e J ⟨rfl,f⟩;replace a:=a.step f;clear f D E F G H I;have l:=a.r.cell (i:=k) (by omega);have u:=a.r.frozen k;have A:(k:Int)<half c+1:=by omega
   have h:Kp (DL n t v c w (J.setCell ⟨w.heap.size+1,k,none⟩ (.bool (BP c i k))) (λj=>decide (j<k+1)&&BP c i j)):=⟨(a.set k (BP c i k)).congr (λj y=>by
    by_cases e:j=k
    ·subst e;simp
    ·rw[if_neg e];congr 1;have:(j<k)↔(j<k+1):=by omega
     simp[this])⟩
   go_wp2;go_roundw;case rel=>exact⟨k+1,by omega,by go_num,h.o⟩
   case measure=>simp[intOf];omega
  ·have d:Kp (DL n t v c w wr (λj=>BP c i j)):=⟨a.congr (λj y=>by
    have:j<k:=by omega
    simp[this])⟩
   go_wp2;go_ret;exact⟨rfl,d.o.r,d.o.b⟩
theorem Sc(n i:Int)(t v c:ZB)(w:World)(j:c.size<=maxLen)(g:0<=i)(k:i<half c)(h:bv c (2*i)<=11) :
  Calls prog 203 #[.agg #[.int .i64 n,.string t,.string v,.string c,.int .i64 (half c)],.int .i64 i] w λe l=>e=.returned (.int .i64 (Aj (bv c (2*i))))∧Below w.heap.size w l:=by
 have b:Below w.heap.size w (w.alloc (.cells #[.int .i64 n,.string t,.string v,.string c,.int .i64 (half c)] 169)):=(Qh _ _).alloc (Qb _) _;obtain⟨p,q⟩:=Zx c (2*i);go_in;go_wp2_with fail;refine(FL n i t v c _ j g k).mono ?_;rintro e r ⟨rfl,a⟩;replace b:=b.trans (a.mono (by simp));clear a;generalize f:bv c (2*i)=x at *;replace f:=Z_ f;have d:x=0∨x=1∨x=2∨x=3∨x=4∨x=5∨x=6∨x=7∨x=8∨x=9∨x=10∨x=11:=by omega
 rcases d with rfl|rfl|rfl|rfl|rfl|rfl|rfl|rfl|rfl|rfl|rfl|rfl<;>go_wp2<;>go_ret<;>exact⟨ZG (by rw[f.o];rfl),b⟩
theorem Se(n i:Int)(t v c:ZB)(w:World)(j:c.size<=maxLen)(g:0<=i)(k:i<half c)(h:bv c (2*i)<=11) :
  Calls prog 204 #[.agg #[.int .i64 n,.string t,.string v,.string c,.int .i64 (half c)],.int .i64 i] w λe l=>e=.returned (.int .i64 (Ar (bv c (2*i))))∧Below w.heap.size w l:=by
 have b:Below w.heap.size w (w.alloc (.cells #[.int .i64 n,.string t,.string v,.string c,.int .i64 (half c)] 169)):=(Qh _ _).alloc (Qb _) _;obtain⟨p,q⟩:=Zx c (2*i);go_in;go_wp2_with fail;refine(FL n i t v c _ j g k).mono ?_;rintro e r ⟨rfl,a⟩;replace b:=b.trans (a.mono (by simp));clear a;generalize f:bv c (2*i)=x at *;replace f:=Z_ f;have d:x=0∨x=1∨x=2∨x=3∨x=4∨x=5∨x=6∨x=7∨x=8∨x=9∨x=10∨x=11:=by omega
 rcases d with rfl|rfl|rfl|rfl|rfl|rfl|rfl|rfl|rfl|rfl|rfl|rfl<;>go_wp2<;>go_ret<;>exact⟨ZG (by rw[f.o];rfl),b⟩
end Go.Proofs.YtcnbifdlkalimabGreat
