/- Lemmas; their conditions stand in each. -/
import Derived.Test.YtcnbifdlkalimabGreatRdrM
namespace Go.Proofs.YtcnbifdlkalimabGreat
open Go.RowKit Go.Proofs.Tryz
set_option linter.all false
set_option maxRecDepth 100000
set_option maxHeartbeats 6400000
theorem Xg(rb sb B:Nat)(s:ZB)(tp:Value)(S:Nat->Value)(w:World)(hs:s.size<=300)(H:YB w rb sb B s ⟨⟨0,0⟩,1,[],[],[],[]⟩ ⟨#[]⟩ tp S []) :
  Calls prog 72 #[.pointer (some ⟨rb,0,none⟩)] w λe z=>e=.returned (.tuple #[])∧YB z rb sb B s (Aw s) (AB s) tp S []∧ZW rb sb S S w z:=by
 obtain⟨n,hn⟩:∃n:Nat,nP s=n:=⟨(nP s).toNat,by have:=(LX s).1;omega⟩
 have aU:1<=n:=by have:=(LX s).1;omega
 have aV:n<=6:=by have:=(LX s).2;omega
 have ai:Below w.heap.size w w.drew:=(Qh _ _).drew;have ak:=IL rb s ⟨#[49,50,51,52,53,54]⟩ ⟨0,0⟩ w.drew (H.step ai).rd ⟨hs,Q8 _⟩ Zto (by decide);obtain⟨f,hf⟩:∃f:Int,((DW (Ae s ⟨0,0⟩) (bl ⟨#[49,50,51,52,53,54]⟩):Nat):Int)=f:=⟨_,rfl⟩
 obtain⟨r0,aB⟩:∃r0,An s ⟨0,0⟩ 1 6=r0:=⟨_,rfl⟩
 have bB:(1:Int)+f=n:=by rw[<-hf,(UK s ⟨0,0⟩).2,<-hn];rfl
 have e0:BW s ⟨0,0⟩ (C6 s ⟨#[49,50,51,52,53,54]⟩ ⟨0,0⟩) 11=r0:=by rw[(UK s ⟨0,0⟩).1,<-aB];rfl
 rw[e0,hf]at ak;have P:r0.a<=s.size:=by rw[<-aB];exact DX (by omega) (Q8 _)
 obtain⟨g,aa⟩:∃g,Es s=g:=⟨_,rfl⟩
 have O:EF s n (s.size+1) r0 []=g:=by rw[<-aa];unfold Es;rw[hn,aB]
 have ay:∀x∈g.2,0<=x∧x<=5:=by rw[<-O];exact Vk s n (by omega) (by omega) _ _ _ (λx hx=>by cases hx)
 obtain⟨dc,aQ⟩:∃dc,F8 s=dc:=⟨_,rfl⟩
 have M:DC s n (s.size+1) (tk s g.1 46) [] []=dc:=by rw[<-aQ];unfold F8;rw[hn,aa]
 have bf:Aw s=⟨tk s dc.1 46,n,dc.2.1,dc.2.2,[],[]⟩:=by unfold Aw;rw[aQ,hn]
 obtain⟨TB,aM⟩:∃TB,AB s=TB:=⟨_,rfl⟩
 have ab:bs (cells (λi j=>AZ g.2 (n-1) i j) n)=TB:=by rw[<-aM];unfold AB;rw[aa,hn];rfl
 rw[bf,aM];have c3:=H.c3;have am:AJ s r0<=s.size+1:=by have:=Z5 s r0;unfold AJ;split<;>omega
 have hO:Kp (∀(r:Rd) c,Cr c rb s r->r.a<=s.size->Calls prog 138 #[.pointer (some ⟨rb,0,none⟩),.string ⟨#[48,49,50,51,52,53,54,55,56,57]⟩] c λe z=>e=.returned (.bool (NC (Ae s r)))∧Zi c z rb (Aa s r)):=⟨λr c A hl=>by
  have h:=Fo rb s ⟨#[48,49,50,51,52,53,54,55,56,57]⟩ r c A ⟨hs,hl⟩ Md (by decide);rw[Lu]at h;exact h⟩
 have aK:Kp (∀(r:Rd) (p:Rs) c t1,YB c rb sb B s p t1 tp S []->p.r=r->p.n=n->r.a<=s.size->Calls prog 139 #[.pointer (some ⟨rb,0,none⟩)] c λe z=>e=.returned (.int .i64 (AW s r 0 ((n:Int)-1)))∧Zi c z rb (An s r 0 ((n:Int)-1))):=⟨λr p c t1 A hr bF hl=>by
  subst hr;have cN:c.cell? ⟨sb,0,none⟩=some (.int .i64 n):=by rw[<-bF];exact A.cn
  exact NP rb sb s p.r n c A.rd ⟨hs,hl⟩ A.c3 cN aU aV⟩
 have aI:Kp (∀(x:Int) c,0<=x->x<=255->Calls prog 51 #[.int .i64 x] c λe z=>e=.returned (.string (bs [x]))∧Below c.heap.size c z):=⟨λx c h0 h1=>by
  have h:=Zk x c;rw[show x%256=x from by omega]at h;exact h⟩
 have H0:Kp _:=⟨H⟩
 have bz:0<=f:=by omega
 obtain⟨bH,bp⟩:=CY (x:=(n:Int)) (by omega) (by omega);have bK:sb≠rb:=H.ne;have bJ:rb≠sb:=λe=>H.ne e.symm;have bA:f<=5:=by omega
 replace ak:=Z_ ak;replace P:=Z_ P;replace O:=Z_ O;replace ay:=Z_ ay;replace M:=Z_ M;replace ab:=Z_ ab;replace am:=Z_ am;replace ai:=Z_ ai;clear H hn hf aB e0 aa aQ bf aM;go_in;go_wp2_with fail;go_region_held3 (λz=>z.cell? ⟨rb,3,none⟩=some (.pointer (some ⟨sb,0,none⟩))) (go_keep) ((go_at_call 137;refine ak.o.mono ?_;rintro e c ⟨rfl,T⟩;have d3:=(T.cell 3 (by omega) (by omega)).trans c3;have A1:=(H0.o.step ai.o).rdto T;have g0:=A1.cn;have gf:=A1.f 0 (by omega);have gl:=A1.lt;have A2:=A1.setN n;have T1:=(ZW.below (rb:=rb) (sb:=sb) (S:=S) ai.o).trans ((ZW.rd T).trans A2.2);replace A2:Kp _:=⟨A2.1⟩;replace T1:=Z_ T1;clear A1 T));obtain⟨w2,bn⟩:∃w2,c.setCell ⟨sb,0,none⟩ (.int .i64 n)=w2:=⟨_,rfl⟩
 rw[bn]at A2 T1 ⊢;clear bn d3 g0 gf gl;go_wp2_with fail;refine(hO.o r0 _ A2.o.rd P.o).mono ?_;rintro e w3 ⟨rfl,R⟩;have A3:=A2.o.rdto R;have T3:=T1.o.trans (ZW.rd R);replace A3:=Z_ A3;replace T3:=Z_ T3;clear R A2 T1 c3 ak;go_wp2_with fail;go_loopg [2,3] (AJ s r0) (λgm pv mv wr=>∃(j:Nat) (r:Rd) (l:List Int),pv=.string (bs l)∧mv=.bool (NC (Ae s r))∧Kp (YB wr rb sb B s ⟨Aa s r,n,[],[],[],[]⟩ ⟨#[]⟩ tp S [])∧Kp (r.a<=s.size)∧Kp (AJ s r<=j)∧Kp (l.length+2*AJ s r<=602∧l.length%2=0)∧Kp (EF s n j r l=g)∧Kp (ZW rb sb S S w wr)∧Kp (gm=AJ s r));case atStart=>exact⟨s.size+1,r0,[],rfl,rfl,A3,P,am,⟨by have:=am.o;simp;omega⟩,O,T3,⟨rfl⟩⟩
 case round=>
  clear A3 T3 P am O;obtain⟨j,r,l,rfl,rfl,hA,hL,hj,hl,hM,hT,hm⟩:=hrel;by_cases hd:48<=Ae s r∧Ae s r<=57
  ·have he:(Aa s r).er=0:=by rw[Zl];exact(Z8 (s:=s) (r:=r) (by omega)).1
   have bD:=Zpu (s:=s) (n:=n) he;have bC:=Zrp s r;have az:=hj.o;obtain⟨j,rfl⟩:∃i,j=i+1:=⟨j-1,by omega⟩
   have k:EF s n j (An s (An s (Aa s r) 0 ((n:Int)-1)) 0 ((n:Int)-1)) (l++[AW s (Aa s r) 0 ((n:Int)-1),AW s (An s (Aa s r) 0 ((n:Int)-1)) 0 ((n:Int)-1)])=g:=by rw[<-hM.o];simp only[EF];rw[if_pos hd]
   have q:YB wr rb sb B s ⟨Aa s r,n,[],[],[],[]⟩ ⟨#[]⟩ tp S []:=hA.o;have av:=aK.o (Aa s r) _ wr _ q rfl rfl (Ze hL.o);have aO:=Gm (s:=s) (r:=Aa s r) (n:=n) (by omega);have aP:=Gm (s:=s) (r:=An s (Aa s r) 0 ((n:Int)-1)) (n:=n) (by omega);have aR:(An s (Aa s r) 0 ((n:Int)-1)).a<=s.size:=DX (by omega) (Ze hL.o);have aT:=RH s (An s (Aa s r) 0 ((n:Int)-1)) 0 ((n:Int)-1);have K:(An s (An s (Aa s r) 0 ((n:Int)-1)) 0 ((n:Int)-1)).a<=s.size:=DX (by omega) aR;obtain⟨a,ha⟩:∃a,AW s (Aa s r) 0 ((n:Int)-1)=a:=⟨_,rfl⟩
   obtain⟨b,hb⟩:∃b,AW s (An s (Aa s r) 0 ((n:Int)-1)) 0 ((n:Int)-1)=b:=⟨_,rfl⟩
   rw[ha,hb]at k;rw[ha]at av aO;rw[hb]at aP;have aw:Kp (∀c,Zi wr c rb (An s (Aa s r) 0 ((n:Int)-1))->Calls prog 139 #[.pointer (some ⟨rb,0,none⟩)] c λe z=>e=.returned (.int .i64 b)∧Zi c z rb (An s (An s (Aa s r) 0 ((n:Int)-1)) 0 ((n:Int)-1))):=⟨λc R=>by
    have h:=aK.o (An s (Aa s r) 0 ((n:Int)-1)) _ c _ (q.rdto R) rfl rfl aR;rw[hb]at h;exact h⟩
   have J:=λW=>aI.o a W aO.1 (by omega);have au:=λW=>aI.o b W aP.1 (by omega)
   have D:bs l++bs [a]++bs [b]=bs (l++[a,b]):=by rw[Zg,show ([a,b]:List Int)=[a]++[b] from rfl,Zg,QR]
   have bg:(l++[a,b]).length=l.length+2:=by rw[Qe];rfl
   generalize An s (An s (Aa s r) 0 ((n:Int)-1)) 0 ((n:Int)-1)=r2 at *;generalize An s (Aa s r) 0 ((n:Int)-1)=r1 at *;have F:Kp (AJ s r2<=j∧AJ s r2<AJ s r∧(l++[a,b]).length+2*AJ s r2<=602∧(l++[a,b]).length%2=0):=⟨by have:=hl.o;rw[bg];omega⟩
   have bx:(bs l).size<=602:=by rw[Zd];have:=hl.o;omega
   have hA1:(bs [a]).size=1:=by rw[Zd];rfl
   have hA2:(bs [b]).size=1:=by rw[Zd];rfl
   rw[show NC (Ae s r)=true from Qv hd];obtain⟨V,hV⟩:∃V,bs l=V:=⟨_,rfl⟩
   obtain⟨Va,ba⟩:∃V,bs [a]=V:=⟨_,rfl⟩
   obtain⟨Vb,bb⟩:∃V,bs [b]=V:=⟨_,rfl⟩
   rw[hV]at bx D ⊢;rw[ba]at hA1 D J;rw[bb]at hA2 D au;have s0:(V.size:Int)<=602:=by omega
   have s1:¬(9223372036854775807:Int)<(V.size:Int)+1:=by omega
   have s2:¬(9223372036854775807:Int)<((V.size+1:Nat):Int):=by omega
   have s3:¬(9223372036854775807:Int)<(V.size:Int)+1+1:=by omega
   have s4:¬(9223372036854775807:Int)<((V.size+1+1:Nat):Int):=by omega
   replace av:=Z_ av;replace J:=Z_ J;replace au:=Z_ au;replace k:=Z_ k;replace D:=Z_ D;replace K:=Z_ K;clear hd he bD bC az q aO aP aR aT ha hb bg hV ba bb hM hj hl hL;go_wp2_with fail;refine av.o.mono ?_;rintro e w4 ⟨rfl,R4⟩;replace R4:=Z_ R4;go_wp2_with fail;refine(aw.o _ R4.o).mono ?_;rintro e w5 ⟨rfl,R5⟩;have A5:Kp _:=⟨(hA.o.rdto R4.o).rdto R5⟩
   have T5:Kp _:=⟨(hT.o.trans (ZW.rd R4.o)).trans (ZW.rd R5)⟩
   clear R4 R5;go_wp2_with fail;refine(J.o _).mono ?_;rintro e w6 ⟨rfl,b6⟩;replace b6:=Z_ b6;go_wp2_with fail;refine(au.o _).mono ?_;rintro e w7 ⟨rfl,b7⟩;have b8:Kp _:=⟨b6.o.trans (b7.mono b6.o.size)⟩
   have A7:Kp _:=⟨A5.o.step b8.o⟩
   have T7:Kp _:=⟨T5.o.trans (ZW.below b8.o)⟩
   clear b6 b7 b8 A5 T5 hA hT;go_wp2_with fail;refine(hO.o r2 _ A7.o.rd K.o).mono ?_;rintro e w8 ⟨rfl,R8⟩;replace R8:=Z_ R8;go_wp2_with fail;go_roundg (AJ s r2);case measure=>have h1:=hm.o;have h2:=F.o;omega
   case rel=>exact⟨j,r2,l++[a,b],by rw[<-D.o],rfl,⟨A7.o.rdto R8.o⟩,K,⟨F.o.1⟩,⟨F.o.2.2⟩,k,⟨T7.o.trans (ZW.rd R8.o)⟩,⟨rfl⟩⟩
  ·have e1:g=(Aa s r,l):=by
    rw[<-hM.o];cases j with
    | zero=>rfl
    | succ j=>simp only[EF];rw[if_neg hd]
   rw[show NC (Ae s r)=false from Qx hd];have m:=ZP rb s ⟨#[46]⟩ 46 (Aa s r) wr hA.o.rd ⟨hs,Ze hL.o⟩ (by decide) (by omega);have e2:tk s (Aa s r) 46=tk s g.1 46:=by rw[e1]
   rw[e2]at m;have E:(tk s g.1 46).a<=s.size:=by rw[e1];exact Z4 (Ze hL.o) (by omega)
   have e3:l=g.2:=by rw[e1]
   have aS:(bs g.2).size<=1000∧(bs g.2).size%2=0:=by rw[Zd,<-e3];have:=hl.o;omega
   have aJ:Kp (∀W,Calls prog 140 #[.string (bs g.2),.int .i64 n] W λe z=>e=.returned (.string TB)∧Below W.heap.size W z):=⟨λW=>by
    have h:=Yd (bs g.2) n W aS.1 aS.2 aU aV;rw[Vr (λx hx=>by have:=ay.o x hx;omega),ab.o]at h;exact h⟩
   rw[e3];obtain⟨r3,bi⟩:∃r3,tk s g.1 46=r3:=⟨_,rfl⟩
   rw[bi]at m E M;obtain⟨V,hV⟩:∃V,bs g.2=V:=⟨_,rfl⟩
   rw[hV]at aJ ⊢;have aA:AJ s r3<=s.size+1:=by have:=Z5 s r3;unfold AJ;split<;>omega
   replace m:=Z_ m;replace E:=Z_ E;replace aA:=Z_ aA;have hA0:=hA;clear e1 e2 e3 aS bi hV hd hM hj hl hL hm ay ab hO;go_wp2_with fail;refine m.o.mono ?_;rintro e w4 ⟨rfl,R4⟩;have A4:=hA0.o.rdto R4;have T4:=hT.o.trans (ZW.rd R4);have c3:=A4.c3;have g0:=A4.cn;replace A4:=Z_ A4;replace T4:=Z_ T4;clear R4 hA0 hA hT m;go_wp2_with fail;go_region_held3 (λz=>z.cell? ⟨rb,3,none⟩=some (.pointer (some ⟨sb,0,none⟩))∧z.cell? ⟨sb,0,none⟩=some (.int .i64 n)) (first|go_keep|(constructor<;>assumption)) ((go_at_call 140;refine(aJ.o _).mono ?_;rintro e w5 ⟨rfl,b5⟩;have b6:Below w4.heap.size w4 w5:=(Qh _ _).drew.trans b5;have A5:=A4.o.step b6;have d3:=A5.c3;have d0:=A5.cn;have gt:=A5.ct;have gf:=A5.f 1 (by omega);have gl:=A5.lt;have A6:=A5.setT TB;have k3:=A6.1.c3;have k0:=A6.1.cn;have T6:=T4.o.trans ((ZW.below (rb:=rb) (sb:=sb) (S:=S) b6).trans A6.2);replace A6:Kp _:=⟨A6.1⟩;replace T6:=Z_ T6;clear A5 b5 b6));obtain⟨w7,bo⟩:∃w7,w5.setCell ⟨sb,1,none⟩ (.string TB)=w7:=⟨_,rfl⟩
   rw[bo]at A6 T6 ⊢;clear bo d3 d0 gt gf gl k3 k0 A4 T4 c3 g0 aJ;have hO:Kp (∀(r:Rd) c,Cr c rb s r->r.a<=s.size->Calls prog 138 #[.pointer (some ⟨rb,0,none⟩),.string ⟨#[97,98,99,100,101,102,103,104]⟩] c λe z=>e=.returned (.bool (Ct (Ae s r)))∧Zi c z rb (Aa s r)):=⟨λr c A hl=>by
    have h:=Fo rb s ⟨#[97,98,99,100,101,102,103,104]⟩ r c A ⟨hs,hl⟩ PM (by decide);rw[OX]at h;exact h⟩
   go_wp2_with fail;refine(hO.o r3 _ A6.o.rd E.o).mono ?_;rintro e w8 ⟨rfl,R8⟩;have A8:=A6.o.rdto R8;have T8:=T6.o.trans (ZW.rd R8);replace A8:=Z_ A8;replace T8:=Z_ T8;clear R8 A6 T6;go_wp2_with fail;obtain⟨wq,bI⟩:∃x,x=wr:=⟨_,rfl⟩
   go_loopg [3] (AJ s r3) (λgm mv wr=>∃(j:Nat) (r:Rd) (u C:List Int),mv=.bool (Ct (Ae s r))∧Kp (YB wr rb sb B s ⟨Aa s r,n,u,C,[],[]⟩ TB tp S [])∧Kp (r.a<=s.size)∧Kp (AJ s r<=j)∧Kp (C9 u)∧Kp (C.length<=8∧C.length=u.length)∧Kp (DC s n j r u C=dc)∧Kp (ZW rb sb S S w wr)∧Kp (gm=AJ s r));case atStart=>exact⟨s.size+1,r3,[],[],rfl,A8,E,aA,⟨C9.nil⟩,⟨by simp⟩,M,T8,⟨rfl⟩⟩
   case round=>
    clear A8 T8 E aA M bI;obtain⟨j,r,u,C,rfl,hA,hL,hj,hN,ao,hM,hT,hm⟩:=hrel;by_cases hi:Ct (Ae s r)=true
    ·have G:=QB hi;have an:Ae s r≠0:=by omega
     have he:r.er=0:=(Z8 an).1;have az:=hj.o;have bh:AJ s r=Ah s r+1:=by unfold AJ;rw[if_pos he]
     obtain⟨j,rfl⟩:∃i,j=i+1:=⟨j-1,by omega⟩
     have k:=hM.o;simp only[DC]at k;rw[if_pos hi]at k;have q:YB wr rb sb B s ⟨Aa s r,n,u,C,[],[]⟩ TB tp S []:=hA.o;have hS:=Fo rb s (bs u) (Aa s r) wr q.rd ⟨hs,Ze hL.o⟩ hN.o.lets.noz (by rw[Zd];have:=hN.o.lets.1;omega);have e1:C6 s (bs u) (Aa s r)=decide (fnd (Ae s r) u<u.length):=by rw[(U1 hN.o.lets).1,NZ];unfold CW;rw[hi];simp
     rw[e1,Z3]at hS;have c3:=q.c3;have cL:=q.cl;rw[hi];by_cases ho:fnd (Ae s r) u<u.length
     ·rw[if_pos ho]at k;rw[Qv ho]at hS;replace hS:=Z_ hS;have e2:Kp (dc=(⟨(Aa s r).a,12⟩,u,C)):=⟨by
       rw[<-k];unfold Bi;rw[if_pos (by rw[Zl];exact he)]⟩
      clear k hM e1 hj az bh G an hm hN ao ho hi hL;go_wp2_with fail;refine hS.o.mono ?_;rintro e w9 ⟨rfl,R9⟩;have A9:=q.rdto R9;have T9:=hT.o.trans (ZW.rd R9);have g2:=A9.rd.c2;have gf:=A9.rd.f2;have gl:=A9.rd.lt;have Z:=Zi.setE A9.rd 12;have X:=A9.rdto Z;have af:=T9.trans (ZW.rd Z);have e3:Kp (tk s (⟨(Aa s r).a,12⟩:Rd) 46=⟨(Aa s r).a,12⟩):=⟨GZ (by show (12:Int)≠0;omega)⟩
      replace X:=Z_ X;replace af:=Z_ af;clear A9 T9 R9 Z q;go_wp2_with fail;first|go_end0|refine Qi (Qp rfl _ _ _) rfl ?_
      exact⟨rfl,by rw[e2.o];show YB _ rb sb B s ⟨tk s (⟨(Aa s r).a,12⟩:Rd) 46,n,u,C,[],[]⟩ TB tp S [];rw[e3.o];exact X.o,af.o⟩
     ·rw[if_neg ho]at k;rw[Qx ho]at hS;have m:=IL rb s ⟨#[97,98,99,100,101,102,103,104]⟩ (Aa s r);obtain⟨v,hv⟩:∃v:Nat,Ae s r=((97+v:Nat):Int):=⟨(Ae s r-97).toNat,by omega⟩
      have bG:v<8:=by omega
      have aC:Kp (∀c,Cr c rb s (Aa s r)->Calls prog 137 #[.pointer (some ⟨rb,0,none⟩),.string ⟨#[97,98,99,100,101,102,103,104]⟩] c λe z=>e=.returned (.int .i64 (v:Nat))∧Zi c z rb (nx (Aa s r))):=⟨λc A=>by
       have h:=m c A ⟨hs,Ze hL.o⟩ PM (by decide);have q1:C6 s ⟨#[97,98,99,100,101,102,103,104]⟩ (Aa s r)=true:=by rw[OX,Zs];exact hi
       have q2:DW (Ae s (Aa s r)) (bl ⟨#[97,98,99,100,101,102,103,104]⟩)=v:=by rw[Zs,Zrr G.1 G.2];omega
       have q3:BW s (Aa s r) true 11=nx (Aa s r):=by unfold BW;rw[if_pos rfl,Z3]
       rw[q1,q2,q3]at h;exact h⟩
      have aW:(nx (Aa s r)).a<=s.size:=Dk an;have bE:AJ s (nx (Aa s r))<AJ s r:=by
       have h1:=ZR an;have h2:(nx (Aa s r)).er=0:=by rw[EZ,Zl];exact he
       unfold AJ;rw[if_pos h2,if_pos he];omega
      have be:=Gm (s:=s) (r:=nx (Aa s r)) (n:=n) (by omega);have aT:=RH s (nx (Aa s r)) 0 ((n:Int)-1);have K:(An s (nx (Aa s r)) 0 ((n:Int)-1)).a<=s.size:=DX (by omega) aW;have aw:Kp (∀c,YB c rb sb B s ⟨nx (Aa s r),n,u,C,[],[]⟩ TB tp S []->Calls prog 139 #[.pointer (some ⟨rb,0,none⟩)] c λe z=>e=.returned (.int .i64 (AW s (nx (Aa s r)) 0 ((n:Int)-1)))∧Zi c z rb (An s (nx (Aa s r)) 0 ((n:Int)-1))):=⟨λc A=>aK.o (nx (Aa s r)) _ c _ A rfl rfl aW⟩
      have aL:Kp (C9 (u++[Ae s r])):=⟨hN.o.add ho G.1 G.2⟩
      generalize An s (nx (Aa s r)) 0 ((n:Int)-1)=r2 at *;generalize AW s (nx (Aa s r)) 0 ((n:Int)-1)=d at *;have aE:Kp ((C++[d]).length<=8∧(C++[d]).length=(u++[Ae s r]).length):=⟨by
       have h1:=aL.o.lets.1;have h2:=ao.o;have e1:(C++[d]).length=C.length+1:=by rw[Qe];rfl
       have e2:(u++[Ae s r]).length=u.length+1:=by rw[Qe];rfl
       rw[e2]at h1;rw[e1,e2];omega⟩
      have N:=Zrq bG;rw[<-hv]at N;have ag:bs u++bs [Ae s r]=bs (u++[Ae s r]):=(Zg _ _).symm;have al:bs C++bs [d]=bs (C++[d]):=(Zg _ _).symm;have J:=λW=>aI.o d W be.1 (by omega);have br:(bs u).size<=8:=by rw[Zd];exact hN.o.lets.1
      have bt:(bs C).size<=8:=by rw[Zd];exact ao.o.1
      have a2:(bs [Ae s r]).size=1:=by rw[Zd];rfl
      have bq:(bs [d]).size=1:=by rw[Zd];rfl
      have F:Kp (AJ s r2<=j∧AJ s r2<AJ s r):=⟨by omega⟩
      have cV:=q.cv;obtain⟨t1,bj⟩:∃t1,Ae s r=t1:=⟨_,rfl⟩
      rw[bj]at k aL aE N ag a2;obtain⟨Vl,ax⟩:∃V,bs u=V:=⟨_,rfl⟩
      obtain⟨Vv,aN⟩:∃V,bs C=V:=⟨_,rfl⟩
      obtain⟨V1,a9⟩:∃V,bs [t1]=V:=⟨_,rfl⟩
      obtain⟨Vd,bc⟩:∃V,bs [d]=V:=⟨_,rfl⟩
      rw[ax]at ag br hS;rw[aN]at al bt;rw[a9]at ag a2 N;rw[bc]at al bq J;clear cL;have cL:wr.cell? ⟨sb,2,none⟩=some (.string Vl):=by rw[<-ax];exact q.cl
      have bd:Kp (bs u=Vl):=⟨ax⟩
      have aD:Kp (bs C=Vv):=⟨aN⟩
      obtain⟨v1,aX⟩:∃v1,v+1=v1:=⟨_,rfl⟩
      have aZ:(v:Int)+1=v1:=by omega
      rw[aX]at N;have bm:v<=v1:=by omega
      have bk:v1<=8:=by omega
      have a0:(v:Int)<=v1:=by omega
      have aY:(v1:Int)<=8:=by omega
      have s1:(Vl.size:Int)<=8:=by omega
      have s2:(Vv.size:Int)<=8:=by omega
      have s3:¬(9223372036854775807:Int)<(Vl.size:Int)+1:=by omega
      have s4:¬(9223372036854775807:Int)<((Vl.size+1:Nat):Int):=by omega
      have s5:¬(9223372036854775807:Int)<(Vv.size:Int)+1:=by omega
      have s6:¬(9223372036854775807:Int)<((Vv.size+1:Nat):Int):=by omega
      have a1:=CY (x:=(v:Int)+1) (by omega) (by omega);have Q:IntKind.i64.wrap ((v:Int)+1)=(v1:Int):=a1.1.trans aZ;have U:wrap64 ((v:Int)+1)=(v1:Int):=a1.2.trans aZ;replace hS:=Z_ hS;replace J:=Z_ J;replace k:=Z_ k;replace ag:=Z_ ag;replace al:=Z_ al;replace K:=Z_ K;replace aX:=Z_ aX;replace Q:=Z_ Q;replace U:=Z_ U;clear m hM e1 hj az bh G an ao ho hi hL he hv aW bE be aT cV bj ax aN a9 bc a1 aZ hN;go_wp2_with fail;refine hS.o.mono ?_;rintro e w9 ⟨rfl,R9⟩;have A9:Kp _:=⟨q.rdto R9⟩
      have T9:Kp _:=⟨hT.o.trans (ZW.rd R9)⟩
      clear R9 q hT hA cL c3 hS;go_wp2_with fail;refine(aC.o _ A9.o.rd).mono ?_;rintro e bL ⟨rfl,Z⟩;have X:Kp _:=⟨A9.o.rdto Z⟩
      have af:Kp _:=⟨T9.o.trans (ZW.rd Z)⟩
      clear Z A9 T9 aC;go_wp2_with fail;refine(aw.o _ X.o).mono ?_;rintro e bu ⟨rfl,aG⟩;have ad:=X.o.rdto aG;have a4:=af.o.trans (ZW.rd aG);have c3:=ad.c3;have cL:bu.cell? ⟨sb,2,none⟩=some (.string Vl):=by rw[<-bd.o];exact ad.cl
      have gf:=ad.f 2 (by omega);have gl:=ad.lt;have Y:=ad.setL (u++[t1]);rw[<-ag.o]at Y;have k3:=Y.1.c3;have a5:Kp _:=⟨a4.trans Y.2⟩
      replace Y:Kp _:=⟨Y.1⟩
      clear aG X af aw ad a4;go_wp2_with fail;replace Q:=Q.o;replace U:=U.o;go_region;obtain⟨ap,aF⟩:∃ap,(bu.setCell ⟨sb,2,none⟩ (.string (Vl++V1))).drew=ap:=⟨_,rfl⟩
      have I:=Y.o.step ((Qh _ _).drew);have ah:=a5.o.trans (ZW.below (rb:=rb) (sb:=sb) (S:=S) ((Qh _ _).drew));rw[aF]at I ah ⊢;clear aF Y a5 c3 cL gf gl k3 Q U N bm bk a0 aY s3 s4;have c3:=I.c3;have cV:ap.cell? ⟨sb,3,none⟩=some (.string Vv):=by rw[<-aD.o];exact I.cv
      have gf:=I.f 3 (by omega);have gl:=I.lt;replace I:=Z_ I;replace ah:=Z_ ah;go_wp2_with fail;have q1:¬9223372036854775807<Vv.size+Vd.size:=by omega
      clear s5 s6 bq s1 s2 br bt a2 bB bz bA bH bp aU aV;refine wp_region_held_drew (S:=(λz=>z.cell? ⟨rb,3,none⟩=some (.pointer (some ⟨sb,0,none⟩)))) (by kernel_rfl) (by go_keep) (λbw=>?_);refine AS (i:=0) (v:=?_) rfl (Or.inl ⟨by rfl,?_⟩) (by assumption) ?_;rotate_left
      ·intro w t;go_simp<;>rfl
      try simp only[Act.put,Qa,Qc,Qd]
      refine AS (i:=1) (v:=?_) rfl (Or.inl ⟨by rfl,?_⟩) (by assumption) ?_;rotate_left
      ·intro w t;go_simp<;>rfl
      try simp only[Act.put,Qa,Qc,Qd]
      refine AS (i:=2) (v:=?_) rfl (Or.inl ⟨by rfl,?_⟩) (by assumption) ?_;rotate_left
      ·intro w t;go_simp<;>rfl
      try simp only[Act.put,Qa,Qc,Qd]
      refine AS (i:=3) (v:=?_) rfl (Or.inl ⟨by rfl,?_⟩) (by assumption) ?_;rotate_left
      ·intro w t;go_simp<;>rfl
      try simp only[Act.put,Qa,Qc,Qd]
      refine AS (i:=4) (v:=?_) rfl (Or.inl ⟨by rfl,?_⟩) (by assumption) ?_;rotate_left
      ·intro w t;go_simp<;>rfl
      try simp only[Act.put,Qa,Qc,Qd]
      refine AS (i:=5) (v:=?_) rfl (Or.inl ⟨by rfl,?_⟩) (by assumption) ?_;rotate_left
      ·intro w t;go_simp<;>rfl
      try simp only[Act.put,Qa,Qc,Qd]
      refine AS (i:=6) (v:=?_) rfl (Or.inl ⟨by rfl,?_⟩) (by assumption) ?_;rotate_left
      ·intro w t;go_simp<;>rfl
      try simp only[Act.put,Qa,Qc,Qd]
      refine AS (i:=7) (v:=?_) rfl (Or.inl ⟨by rfl,?_⟩) (by assumption) ?_;rotate_left
      ·intro w t;go_simp<;>rfl
      try simp only[Act.put,Qa,Qc,Qd]
      refine AS (i:=8) (v:=?_) rfl (Or.inl ⟨by rfl,?_⟩) (by assumption) ?_;rotate_left
      ·intro w t;go_simp<;>rfl
      try simp only[Act.put,Qa,Qc,Qd]
      refine AS (i:=9) (v:=?_) rfl (Or.inl ⟨by rfl,?_⟩) (by assumption) ?_;rotate_left
      ·intro w t;go_simp<;>rfl
      try simp only[Act.put,Qa,Qc,Qd]
      refine AS (i:=11) (v:=?_) rfl (Or.inl ⟨by rfl,?_⟩) (by assumption) ?_;rotate_left
      ·intro w t;go_simp<;>rfl
      try simp only[Act.put,Qa,Qc,Qd]
      refine wpAnyH_ready (rs:=[10,12]) (by kernel_rfl) (by simp) (AllReadyH.cons (o:=_) rfl (λKK y=>?_) (AllReadyH.cons (o:=_) rfl (λKK y=>?_) AllReadyH.nil));all_goals go_simp
      focus
       refine y.out _ _ (by assumption) (λaj=>?_);clear y KK;try simp only[Act.put,Qa,Qc,Qd]
       refine wpAnyH_ready (rs:=[12]) (by kernel_rfl) (by simp) (AllReadyH.cons (o:=_) rfl (λKK y=>?_) AllReadyH.nil);go_simp
      all_goals
       go_wp2_with (go_at_call 51;refine(J.o _).mono ?_;rintro e a3 ⟨rfl,a6⟩;have aH:Below ap.heap.size ap a3:=(Qh _ _).drew.trans a6;have ae:=I.o.step aH;have d3:=ae.c3;have dV:a3.cell? ⟨sb,3,none⟩=some (.string Vv):=(by rw[<-aD.o];exact ae.cv);have df:=ae.f 3 (by omega);have dl:=ae.lt;have L:=ae.setV (C++[d]);rw[<-al.o]at L;have k3:=L.1.c3;have ar:=ah.o.trans ((ZW.below (rb:=rb) (sb:=sb) (S:=S) aH).trans L.2);replace L:Kp _:=⟨L.1⟩;replace ar:=Z_ ar;clear ae a6 aH)
       refine y.out _ _ d3 (λa7=>?_);clear y KK;try simp only[Act.put,Qa,Qc,Qd]
      rotate_left
      focus
       refine wpAnyH_ready (rs:=[10]) (by kernel_rfl) (by simp) (AllReadyH.cons (o:=_) rfl (λKK y=>?_) AllReadyH.nil);go_simp;refine y.out _ _ d3 (λaj=>?_);clear y KK;try simp only[Act.put,Qa,Qc,Qd]
      all_goals
       refine AS (i:=13) (v:=?_) rfl (Or.inl ⟨by rfl,?_⟩) (by assumption) ?_;rotate_left
       ·intro w t;go_simp<;>rfl
       try simp only[Act.put,Qa,Qc,Qd]
       refine AS (i:=14) (v:=?_) rfl (Or.inl ⟨by rfl,?_⟩) (by assumption) ?_;rotate_left
       ·intro w t;go_simp<;>rfl
       try simp only[Act.put,Qa,Qc,Qd]
       refine AS (i:=15) (v:=?_) rfl (Or.inl ⟨by rfl,?_⟩) (by assumption) ?_;rotate_left
       ·intro w t;go_simp<;>rfl
       try simp only[Act.put,Qa,Qc,Qd]
       refine wpAnyH_ready (rs:=[16]) (by kernel_rfl) (by simp) (AllReadyH.cons (o:=_) rfl (λKK y=>?_) AllReadyH.nil);go_simp;refine y.out _ _ k3 (λa8=>?_);clear y KK;try simp only[Act.put,Qa,Qc,Qd]
       refine wpAnyH_done (by kernel_rfl) ?_ _;clear d3 dV df dl k3;generalize a3.setCell ⟨sb,3,none⟩ (.string (Vv++Vd))=bM at L ar ⊢;clear c3 cV gf gl I ah;go_wp2_with fail;refine(hO.o r2 _ L.o.rd K.o).mono ?_;rintro e bN ⟨rfl,aq⟩;replace aq:=Z_ aq;go_wp2_with fail;go_roundg (AJ s r2);case measure=>have h1:=hm.o;have h2:=F.o;omega
       case rel=>exact⟨j,r2,u++[t1],C++[d],rfl,⟨L.o.rdto aq.o⟩,K,⟨F.o.1⟩,aL,aE,k,⟨ar.o.trans (ZW.rd aq.o)⟩,⟨rfl⟩⟩
    ·have hi:Ct (Ae s r)=false:=by simpa using hi
     have e1:dc=(Aa s r,u,C):=by
      rw[<-hM.o];cases j with
      | zero=>rfl
      | succ j=>simp only[DC];rw[if_neg (by rw[hi];simp)]
     have m:=ZP rb s ⟨#[46]⟩ 46 (Aa s r) wr hA.o.rd ⟨hs,Ze hL.o⟩ (by decide) (by omega);have e2:tk s (Aa s r) 46=tk s dc.1 46:=by rw[e1]
     rw[e2]at m;rw[hi];replace m:=Z_ m;replace e1:=Z_ e1;clear hi hM e2 hj hL hN ao hm;go_wp2_with fail;refine m.o.mono ?_;rintro e w9 ⟨rfl,R9⟩;have A9:=hA.o.rdto R9;have T9:=hT.o.trans (ZW.rd R9);replace A9:=Z_ A9;replace T9:=Z_ T9;clear R9;go_wp2_with fail;first|go_end0|refine Qi (Qp rfl _ _ _) rfl ?_
     exact⟨rfl,by have h:=A9.o;rw[e1.o]at h ⊢;exact h,T9.o⟩
end Go.Proofs.YtcnbifdlkalimabGreat
