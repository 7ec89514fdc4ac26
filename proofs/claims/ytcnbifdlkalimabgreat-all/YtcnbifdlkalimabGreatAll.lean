/-
  The statement All: for every script, each step is as the document says: every call, in every order, on files that the program has made and on others; no condition.
-/
import Derived.Test.YtcnbifdlkalimabGreatRdrZ
import Derived.ProofKit
import Derived.OpenShut
import Derived.Deep.Slices
namespace Go.Proofs.YtcnbifdlkalimabGreat
namespace all
open Go.ChangeShapes Go.WideShapes Go.ChangeAt Go.RowKit Go.Deep Go.Proofs.Tryz
theorem own:ownKnob prog.godebug=none:=by kernel_rfl
theorem laid:laidOutB prog=true:=by kernel_rfl
theorem OU:prog.cellsOf 49=10:=by kernel_rfl
theorem Zqq:prog.cellsOf 23=6:=by kernel_rfl
theorem TO:prog.cellsOf 9=1:=by kernel_rfl
theorem Zqr:prog.cellsOf 3=1:=by kernel_rfl
theorem Zqs:Tryz.checked.prog.bytesOf 49=136:=by kernel_rfl
theorem JA{α:Type}{l:List α}(h:l.length=10):∃a b c d e f g i j k,l=[a,b,c,d,e,f,g,i,j,k]:=by
 match l,h with
 | [a,b,c,d,e,f,g,i,j,k],_=>exact⟨a,b,c,d,e,f,g,i,j,k,rfl⟩
def Ztz(s0 s1 s2 s3 s4 s5:ZB)(i:Int):ZB:=if i=0 then s0 else if i=1 then s1 else if i=2 then s2 else if i=3 then s3 else if i=4 then s4 else s5
theorem U5{n:Int}(h:(Lit.int .i64 n).wf=true):FI n:=by simp only[Lit.wf,Bool.and_eq_true,decide_eq_true_eq]at h;exact h
theorem Zqt{H:Type}{enc:TypeId×Value->H}{w:World}{b:Nat}{u:List Value}{x:DataW H×List MemPlace}(h:DataW.trod enc prog w 0 (λ_=>true) true b 49 u=some x) :
  ∃(K A N:Int) (S:ZB) (T:Int->ZB),u=[.int .i64 K,.int .i64 A,.int .i64 N,.string S,.string (T 0),.string (T 1),.string (T 2),.string (T 3),.string (T 4),.string (T 5)]∧FI A∧FI N∧S.size<=maxLen∧∀l:Nat,l<6->(T l).size<=maxLen:=by
 obtain⟨J,n,_,_,q,_,c⟩:=DataW.trod_struct Tryz.underlying49 h;rw[OU]at q;obtain⟨c0,c1,c2,c3,L,M,O,P,Q,R,rfl⟩:=JA q;have z:=c 0 _ rfl;have B:=c 1 _ rfl;have C:=c 2 _ rfl;have D:=c 3 _ rfl;have E:=c 4 _ rfl;have d:∀i,i<5->∃y,J[i]?=some y:=λi p=>⟨J[i]'(by simp at *;omega),List.getElem?_eq_getElem _⟩
 obtain⟨y0,f⟩:=d 0 (by omega);obtain⟨y1,g⟩:=d 1 (by omega);obtain⟨y2,j⟩:=d 2 (by omega);obtain⟨y3,k⟩:=d 3 (by omega);obtain⟨y4,o⟩:=d 4 (by omega);rw[f]at z;rw[g]at B;rw[j]at C;rw[k]at D;rw[o]at E;obtain⟨K,F,_,_⟩:=DataW.trod_int Tryz.underlying3 z;obtain⟨A,s,_,wa⟩:=DataW.trod_int Tryz.underlying3 B;obtain⟨N,G,_,wn⟩:=DataW.trod_int Tryz.underlying3 C;obtain⟨S,I,_,ws⟩:=DataW.trod_string Tryz.underlying9 D;obtain⟨zs,m,_,_,_,U,p⟩:=DataW.trod_array Tryz.underlying23 E;rw[TO]at p;simp[Zqr,TO,Zqq]at F s G I p;subst F s G I;have a:∀i,i<6->∃t:ZB,List.take 1 (List.drop i [L,M,O,P,Q,R])=[.string t]∧t.size<=maxLen:=λi r=>by have h:=p i r;rw[List.getElem?_eq_getElem (show i<zs.length by omega)]at h;obtain⟨t,e,_,l⟩:=DataW.trod_string Tryz.underlying9 h;exact⟨t,e,l⟩
 obtain⟨t0,f,V⟩:=a 0 (by omega);obtain⟨t1,g,W⟩:=a 1 (by omega);obtain⟨t2,j,X⟩:=a 2 (by omega);obtain⟨t3,k,Y⟩:=a 3 (by omega);obtain⟨t4,o,Z⟩:=a 4 (by omega);obtain⟨t5,v,l5⟩:=a 5 (by omega);simp at f g j k o v;subst f g j k o v;refine⟨K,A,N,S,Ztz t0 t1 t2 t3 t4 t5,rfl,U5 wa,U5 wn,ws,λl q=>?_⟩;match l,q with
 | 0,_=>exact V
 | 1,_=>exact W
 | 2,_=>exact X
 | 3,_=>exact Y
 | 4,_=>exact Z
 | 5,_=>exact l5
set_option linter.unusedVariables false in
set_option maxRecDepth 100000 in
theorem Jz(os:Os)(l:os.Started)(H:Type)(enc:TypeId×Value->H) :
  ReturnsInHanded {} Tryz.checked os 5 .any (Rows.allSpec.pre6 enc prog Tryz.f5 Rows.allRow.domain false) (Rows.allSpec.post enc prog Tryz.f5 false true false false):=by
 refine returnsInHanded_of_change_sized (C:=Tryz.checked) own l (by kernel_rfl) func5
  (ChangeSpec.witness6 (enc:=enc) (C:=Tryz.checked) false ⟨#[],#[.slice none 0 0],[]⟩ 8 (by kernel_rfl) (by kernel_rfl) (by kernel_rfl) (by kernel_rfl)) ?_
 intro W y b ds gs I k hW aa X _;have r:∀(j:Nat) t v,Tryz.f5.params[j]?=some t->b[j]?=some v->Value.okWide prog W .any y t v:=k;have s:=hW;obtain⟨p,q,hA0,hV,rfl,af,ai⟩:=hW;have hA:DataW.TrodAll enc prog W 0 (λ_=>true) true Tryz.f5.params.toList b.toList ds p:=hA0;rw[Tryz.params5]at hA r;obtain⟨v0,aj,d0,ae,p0,q0,Q,rfl,rfl,h0,r0⟩:=trodAll_cons hA;obtain⟨rfl,rfl,rfl⟩:=trodAll_nil r0;obtain rfl:b=#[v0]:=by cases b;simp_all
 obtain⟨rfl,rfl⟩:=trodVars_none hV;obtain⟨Y,w,B,rfl⟩:=okWide_slice Tryz.underlying45 (r 0 45 v0 rfl rfl);have L:=h0;obtain⟨J,hf⟩:=h0;clear hA0 k;simp only[List.append_nil]at s;have E:∀x∈p0,x.block<W.heap.size:=λx c=>s.lt x (by simpa using c);have F:w*16<=140737488355328∧∀i,i<w->∃g o K A N S T,Y=some ⟨g,o,none⟩∧Mb W g (o+i*10) K A N S T:=by
  rcases open_slice Tryz.underlying45 hf with ⟨d,c⟩|⟨a,ab,Z,m,n,D,Pl,d,_,hl,hm,U,c,f⟩
  ·simp[Value.cells]at d;obtain⟨rfl,rfl,rfl⟩:=d;exact⟨by omega,λi hi=>absurd hi (by omega)⟩
  ·simp[Value.cells]at d;obtain⟨rfl,rfl,rfl⟩:=d;simp only[Prod.mk.injEq]at c;obtain⟨rfl,rfl⟩:=c;have hz:=sized_slice X (j:=0) (t:=45) (e:=49) (by rw[Tryz.params5];rfl) rfl Tryz.underlying45;have hr:=reachBytes_lt;simp only[List.length_map,List.length_range,Zqs]at hz;have ah:m=B:=by rw[U];rfl
   refine⟨by omega,λi hi=>?_⟩;obtain⟨cs,h1,h2⟩:=f i (by omega);obtain⟨K,A,N,S,T,rfl,hA1,M,O,P⟩:=Zqt h2;rw[OU]at h1;obtain⟨_,_,u⟩:=World.cells?_some h1;obtain⟨g,o,G⟩:=a;have V:G=none:=by obtain⟨ad,g1,_⟩:=f 0 (by omega);rw[OU]at g1;obtain⟨_,ag,R⟩:=World.cells?_some g1;simpa [Addr.add] using World.cell?_spot ((R 0 (by omega)).trans (List.getElem?_eq_getElem (by omega)))
   subst V;have hc:∀(j:Nat) (x:Value),[Value.int .i64 K,.int .i64 A,.int .i64 N,.string S,.string (T 0),.string (T 1),.string (T 2),.string (T 3),.string (T 4),.string (T 5)][j]?=some x->W.cell? ⟨g,o+i*10+j,none⟩=some x:=λj x c=>by
    have hj:j<10:=by have:=(List.getElem?_eq_some_iff.1 c).1;simpa using this
    have h:=u j hj;rw[c,add_add,add_plain]at h;rw[Nat.add_assoc];exact h
   exact⟨g,o,K,A,N,S,T,rfl,World.block_lt_of_cell? _ _ (hc 0 _ rfl),hc,hA1,M,O,P⟩
 refine(ZtE Y w B W F.1 F.2 ⟨Ztd⟩ ⟨Zte⟩ ⟨Ztf⟩ ⟨Zsq⟩ ⟨Zsr⟩ ⟨Zss⟩ ⟨Zst⟩ ⟨Ztg⟩).mono λe W' ⟨he,z⟩=>?_;subst he;exact⟨_,rfl,_,_,_,[],p0,[],s,trodAll_mk1 (shut_bool Tryz.underlying4 _),trodAll_mk1 (WideElems.Trod_stays laid (by kernel_rfl) (of_decide_eq_true (by kernel_rfl)) L (λx c=>z.same (E x c)) (λx c=>by simpa using E x c)),rfl,z.frame _,λh=>by cases h⟩
theorem over:Rows.allRow.holds Tryz.pinned (OpenSpec.ofChange Rows.allSpec):=
 OpenClaim.holds_of_wide 5 Tryz.f5 rfl rfl rfl rfl rfl rfl rfl ⟨rfl,rfl,rfl,rfl,rfl⟩ rfl rfl rfl rfl rfl (by kernel_rfl) func5 (by kernel_rfl)
  (of_decide_eq_true (by kernel_rfl)) (by unfold Func.isWrapper;first|(rw[if_pos (by decide +kernel)];kernel_rfl)|(rw[if_neg (by decide +kernel)];exact⟨rfl,rfl⟩))
  (λc a H b _=>Jz c a H b)
end all
theorem all_holds:Rows.AllSaid:=all.over
#print axioms all_holds
end Go.Proofs.YtcnbifdlkalimabGreat
