/- Lemmas; their conditions stand in each. -/
import Derived.Test.YtcnbifdlkalimabGreatRdrM
namespace Go.Proofs.YtcnbifdlkalimabGreat
open Go.RowKit Go.Proofs.Tryz
set_option linter.all false
set_option maxRecDepth 100000
set_option maxHeartbeats 6400000
theorem Xg(rb sb B:Nat)(s:ZB)(tp:Value)(S:Nat->Value)(w:World)(hs:s.size<=300)(H:YB w rb sb B s ⟨⟨0,0⟩,1,[],[],[],[]⟩ ⟨#[]⟩ tp S []) :
  Calls prog 72 #[.pointer (some ⟨rb,0,none⟩)] w λe u=>e=.returned (.tuple #[])∧YB u rb sb B s (Aw s) (AB s) tp S []∧ZW rb sb S S w u:=by
 obtain⟨n,hn⟩:∃n:Nat,nP s=n:=⟨(nP s).toNat,by have:=(LX s).1;omega⟩
 have aT:1<=n:=by have:=(LX s).1;omega
 have aU:n<=6:=by have:=(LX s).2;omega
 have ai:Below w.heap.size w w.drew:=(Qh _ _).drew;have aj:=IL rb s ⟨#[49,50,51,52,53,54]⟩ ⟨0,0⟩ w.drew (H.step ai).rd ⟨hs,Q8 _⟩ Zto (by decide);obtain⟨f,hf⟩:∃f:Int,((DW (Ae s ⟨0,0⟩) (bl ⟨#[49,50,51,52,53,54]⟩):Nat):Int)=f:=⟨_,rfl⟩
 obtain⟨r0,aA⟩:∃r0,An s ⟨0,0⟩ 1 6=r0:=⟨_,rfl⟩
 have bw:(1:Int)+f=n:=by rw[<-hf,(UK s ⟨0,0⟩).2,<-hn];rfl
 have e0:BW s ⟨0,0⟩ (C6 s ⟨#[49,50,51,52,53,54]⟩ ⟨0,0⟩) 11=r0:=by rw[(UK s ⟨0,0⟩).1,<-aA];rfl
 rw[e0,hf]at aj;have N:r0.a<=s.size:=by rw[<-aA];exact DX (by omega) (Q8 _)
 obtain⟨g,aa⟩:∃g,Es s=g:=⟨_,rfl⟩
 have M:EF s n (s.size+1) r0 []=g:=by rw[<-aa];unfold Es;rw[hn,aA]
 have ax:∀x∈g.2,0<=x∧x<=5:=by rw[<-M];exact Vk s n (by omega) (by omega) _ _ _ (λx hx=>by cases hx)
 obtain⟨dc,aP⟩:∃dc,F8 s=dc:=⟨_,rfl⟩
 have K:DC s n (s.size+1) (tk s g.1 46) [] []=dc:=by rw[<-aP];unfold F8;rw[hn,aa]
 have bc:Aw s=⟨tk s dc.1 46,n,dc.2.1,dc.2.2,[],[]⟩:=by unfold Aw;rw[aP,hn]
 obtain⟨TB,aL⟩:∃TB,AB s=TB:=⟨_,rfl⟩
 have ab:bs (cells (λi j=>AZ g.2 (n-1) i j) n)=TB:=by rw[<-aL];unfold AB;rw[aa,hn];rfl
 rw[bc,aL];have c3:=H.c3;have al:AJ s r0<=s.size+1:=by have:=Z5 s r0;unfold AJ;split<;>omega
 have hO:Kp (∀(r:Rd) c,Cr c rb s r->r.a<=s.size->Calls prog 138 #[.pointer (some ⟨rb,0,none⟩),.string ⟨#[48,49,50,51,52,53,54,55,56,57]⟩] c λe u=>e=.returned (.bool (NC (Ae s r)))∧Zi c u rb (Aa s r)):=⟨λr c A hl=>by
  have h:=Fo rb s ⟨#[48,49,50,51,52,53,54,55,56,57]⟩ r c A ⟨hs,hl⟩ Md (by decide);rw[Lu]at h;exact h⟩
 have aJ:Kp (∀(r:Rd) (p:Rs) c t1,YB c rb sb B s p t1 tp S []->p.r=r->p.n=n->r.a<=s.size->Calls prog 139 #[.pointer (some ⟨rb,0,none⟩)] c λe u=>e=.returned (.int .i64 (AW s r 0 ((n:Int)-1)))∧Zi c u rb (An s r 0 ((n:Int)-1))):=⟨λr p c t1 A hr bB hl=>by
  subst hr;have cN:c.cell? ⟨sb,0,none⟩=some (.int .i64 n):=by rw[<-bB];exact A.cn
  exact NP rb sb s p.r n c A.rd ⟨hs,hl⟩ A.c3 cN aT aU⟩
 have aH:Kp (∀(x:Int) c,0<=x->x<=255->Calls prog 51 #[.int .i64 x] c λe u=>e=.returned (.string (bs [x]))∧Below c.heap.size c u):=⟨λx c h0 h1=>by
  have h:=Zk x c;rw[show x%256=x from by omega]at h;exact h⟩
 have H0:Kp _:=⟨H⟩
 have bt:0<=f:=by omega
 obtain⟨bD,bm⟩:=CY (x:=(n:Int)) (by omega) (by omega);have bG:sb≠rb:=H.ne;have bF:rb≠sb:=λe=>H.ne e.symm;have bu:f<=5:=by omega
 replace aj:=Z_ aj;replace N:=Z_ N;replace M:=Z_ M;replace ax:=Z_ ax;replace K:=Z_ K;replace ab:=Z_ ab;replace al:=Z_ al;replace ai:=Z_ ai;clear H hn hf aA e0 aa aP bc aL;go_in;go_wp2_with fail;go_region_held3 (λu=>u.cell? ⟨rb,3,none⟩=some (.pointer (some ⟨sb,0,none⟩))) (go_keep) ((go_at_call 137;refine aj.o.mono ?_;rintro e c ⟨rfl,T⟩;have d3:=(T.cell 3 (by omega) (by omega)).trans c3;have A1:=(H0.o.step ai.o).rdto T;have g0:=A1.cn;have gf:=A1.f 0 (by omega);have gl:=A1.lt;have A2:=A1.setN n;have T1:=(ZW.below (rb:=rb) (sb:=sb) (S:=S) ai.o).trans ((ZW.rd T).trans A2.2);replace A2:Kp _:=⟨A2.1⟩;replace T1:=Z_ T1;clear A1 T));obtain⟨w2,bj⟩:∃w2,c.setCell ⟨sb,0,none⟩ (.int .i64 n)=w2:=⟨_,rfl⟩
 rw[bj]at A2 T1 ⊢;clear bj d3 g0 gf gl;go_wp2_with fail;refine(hO.o r0 _ A2.o.rd N.o).mono ?_;rintro e w3 ⟨rfl,R⟩;have A3:=A2.o.rdto R;have T3:=T1.o.trans (ZW.rd R);replace A3:=Z_ A3;replace T3:=Z_ T3;clear R A2 T1 c3 aj;go_wp2_with fail;go_loopg [2,3] (AJ s r0) (λgm pv mv wr=>∃(j:Nat) (r:Rd) (l:List Int),pv=.string (bs l)∧mv=.bool (NC (Ae s r))∧Kp (YB wr rb sb B s ⟨Aa s r,n,[],[],[],[]⟩ ⟨#[]⟩ tp S [])∧Kp (r.a<=s.size)∧Kp (AJ s r<=j)∧Kp (l.length+2*AJ s r<=602∧l.length%2=0)∧Kp (EF s n j r l=g)∧Kp (ZW rb sb S S w wr)∧Kp (gm=AJ s r));case atStart=>exact⟨s.size+1,r0,[],rfl,rfl,A3,N,al,⟨by have:=al.o;simp;omega⟩,M,T3,⟨rfl⟩⟩
 case round=>
  clear A3 T3 N al M;obtain⟨j,r,l,rfl,rfl,hA,hL,hj,hl,hM,hT,hm⟩:=hrel;by_cases hd:48<=Ae s r∧Ae s r<=57
  ·have he:(Aa s r).er=0:=by rw[Zl];exact(Z8 (s:=s) (r:=r) (by omega)).1
   have bz:=Zpu (s:=s) (n:=n) he;have bx:=Zrp s r;have ay:=hj.o;obtain⟨j,rfl⟩:∃i,j=i+1:=⟨j-1,by omega⟩
   have k:EF s n j (An s (An s (Aa s r) 0 ((n:Int)-1)) 0 ((n:Int)-1)) (l++[AW s (Aa s r) 0 ((n:Int)-1),AW s (An s (Aa s r) 0 ((n:Int)-1)) 0 ((n:Int)-1)])=g:=by rw[<-hM.o];simp only[EF];rw[if_pos hd]
   have q:YB wr rb sb B s ⟨Aa s r,n,[],[],[],[]⟩ ⟨#[]⟩ tp S []:=hA.o;have au:=aJ.o (Aa s r) _ wr _ q rfl rfl (Ze hL.o);have aN:=Gm (s:=s) (r:=Aa s r) (n:=n) (by omega);have aO:=Gm (s:=s) (r:=An s (Aa s r) 0 ((n:Int)-1)) (n:=n) (by omega);have aQ:(An s (Aa s r) 0 ((n:Int)-1)).a<=s.size:=DX (by omega) (Ze hL.o);have aS:=RH s (An s (Aa s r) 0 ((n:Int)-1)) 0 ((n:Int)-1);have I:(An s (An s (Aa s r) 0 ((n:Int)-1)) 0 ((n:Int)-1)).a<=s.size:=DX (by omega) aQ;obtain⟨a,ha⟩:∃a,AW s (Aa s r) 0 ((n:Int)-1)=a:=⟨_,rfl⟩
   obtain⟨b,hb⟩:∃b,AW s (An s (Aa s r) 0 ((n:Int)-1)) 0 ((n:Int)-1)=b:=⟨_,rfl⟩
   rw[ha,hb]at k;rw[ha]at au aN;rw[hb]at aO;have av:Kp (∀c,Zi wr c rb (An s (Aa s r) 0 ((n:Int)-1))->Calls prog 139 #[.pointer (some ⟨rb,0,none⟩)] c λe u=>e=.returned (.int .i64 b)∧Zi c u rb (An s (An s (Aa s r) 0 ((n:Int)-1)) 0 ((n:Int)-1))):=⟨λc R=>by
    have h:=aJ.o (An s (Aa s r) 0 ((n:Int)-1)) _ c _ (q.rdto R) rfl rfl aQ;rw[hb]at h;exact h⟩
   have G:=λW=>aH.o a W aN.1 (by omega);have ar:=λW=>aH.o b W aO.1 (by omega)
   have z:bs l++bs [a]++bs [b]=bs (l++[a,b]):=by rw[Zg,show ([a,b]:List Int)=[a]++[b] from rfl,Zg,QR]
   have bd:(l++[a,b]).length=l.length+2:=by rw[Qe];rfl
   generalize An s (An s (Aa s r) 0 ((n:Int)-1)) 0 ((n:Int)-1)=r2 at *;generalize An s (Aa s r) 0 ((n:Int)-1)=r1 at *;have D:Kp (AJ s r2<=j∧AJ s r2<AJ s r∧(l++[a,b]).length+2*AJ s r2<=602∧(l++[a,b]).length%2=0):=⟨by have:=hl.o;rw[bd];omega⟩
   have br:(bs l).size<=602:=by rw[Zd];have:=hl.o;omega
   have hA1:(bs [a]).size=1:=by rw[Zd];rfl
   have hA2:(bs [b]).size=1:=by rw[Zd];rfl
   rw[show NC (Ae s r)=true from Qv hd];obtain⟨V,hV⟩:∃V,bs l=V:=⟨_,rfl⟩
   obtain⟨Va,a7⟩:∃V,bs [a]=V:=⟨_,rfl⟩
   obtain⟨Vb,a8⟩:∃V,bs [b]=V:=⟨_,rfl⟩
   rw[hV]at br z ⊢;rw[a7]at hA1 z G;rw[a8]at hA2 z ar;have s0:(V.size:Int)<=602:=by omega
   have s1:¬(9223372036854775807:Int)<(V.size:Int)+1:=by omega
   have s2:¬(9223372036854775807:Int)<((V.size+1:Nat):Int):=by omega
   have s3:¬(9223372036854775807:Int)<(V.size:Int)+1+1:=by omega
   have s4:¬(9223372036854775807:Int)<((V.size+1+1:Nat):Int):=by omega
   replace au:=Z_ au;replace G:=Z_ G;replace ar:=Z_ ar;replace k:=Z_ k;replace z:=Z_ z;replace I:=Z_ I;clear hd he bz bx ay q aN aO aQ aS ha hb bd hV a7 a8 hM hj hl hL;go_wp2_with fail;refine au.o.mono ?_;rintro e w4 ⟨rfl,R4⟩;replace R4:=Z_ R4;go_wp2_with fail;refine(av.o _ R4.o).mono ?_;rintro e w5 ⟨rfl,R5⟩;have A5:Kp _:=⟨(hA.o.rdto R4.o).rdto R5⟩
   have T5:Kp _:=⟨(hT.o.trans (ZW.rd R4.o)).trans (ZW.rd R5)⟩
   clear R4 R5;go_wp2_with fail;refine(G.o _).mono ?_;rintro e w6 ⟨rfl,b6⟩;replace b6:=Z_ b6;go_wp2_with fail;refine(ar.o _).mono ?_;rintro e w7 ⟨rfl,b7⟩;have b8:Kp _:=⟨b6.o.trans (b7.mono b6.o.size)⟩
   have A7:Kp _:=⟨A5.o.step b8.o⟩
   have T7:Kp _:=⟨T5.o.trans (ZW.below b8.o)⟩
   clear b6 b7 b8 A5 T5 hA hT;go_wp2_with fail;refine(hO.o r2 _ A7.o.rd I.o).mono ?_;rintro e w8 ⟨rfl,R8⟩;replace R8:=Z_ R8;go_wp2_with fail;go_roundg (AJ s r2);case measure=>have h1:=hm.o;have h2:=D.o;omega
   case rel=>exact⟨j,r2,l++[a,b],by rw[<-z.o],rfl,⟨A7.o.rdto R8.o⟩,I,⟨D.o.1⟩,⟨D.o.2.2⟩,k,⟨T7.o.trans (ZW.rd R8.o)⟩,⟨rfl⟩⟩
  ·have Y:g=(Aa s r,l):=by
    rw[<-hM.o];cases j with
    | zero=>rfl
    | succ j=>simp only[EF];rw[if_neg hd]
   rw[show NC (Ae s r)=false from Qx hd];have m:=ZP rb s ⟨#[46]⟩ 46 (Aa s r) wr hA.o.rd ⟨hs,Ze hL.o⟩ (by decide) (by omega);have e2:tk s (Aa s r) 46=tk s g.1 46:=by rw[Y]
   rw[e2]at m;have C:(tk s g.1 46).a<=s.size:=by rw[Y];exact Z4 (Ze hL.o) (by omega)
   have e3:l=g.2:=by rw[Y]
   have aR:(bs g.2).size<=1000∧(bs g.2).size%2=0:=by rw[Zd,<-e3];have:=hl.o;omega
   have aI:Kp (∀W,Calls prog 140 #[.string (bs g.2),.int .i64 n] W λe u=>e=.returned (.string TB)∧Below W.heap.size W u):=⟨λW=>by
    have h:=Yd (bs g.2) n W aR.1 aR.2 aT aU;rw[Vr (λx hx=>by have:=ax.o x hx;omega),ab.o]at h;exact h⟩
   rw[e3];obtain⟨r3,bf⟩:∃r3,tk s g.1 46=r3:=⟨_,rfl⟩
   rw[bf]at m C K;obtain⟨V,hV⟩:∃V,bs g.2=V:=⟨_,rfl⟩
   rw[hV]at aI ⊢;have az:AJ s r3<=s.size+1:=by have:=Z5 s r3;unfold AJ;split<;>omega
   replace m:=Z_ m;replace C:=Z_ C;replace az:=Z_ az;have hA0:=hA;clear Y e2 e3 aR bf hV hd hM hj hl hL hm ax ab hO;go_wp2_with fail;refine m.o.mono ?_;rintro e w4 ⟨rfl,R4⟩;have A4:=hA0.o.rdto R4;have T4:=hT.o.trans (ZW.rd R4);have c3:=A4.c3;have g0:=A4.cn;replace A4:=Z_ A4;replace T4:=Z_ T4;clear R4 hA0 hA hT m;go_wp2_with fail;go_region_held3 (λu=>u.cell? ⟨rb,3,none⟩=some (.pointer (some ⟨sb,0,none⟩))∧u.cell? ⟨sb,0,none⟩=some (.int .i64 n)) (first|go_keep|(constructor<;>assumption)) ((go_at_call 140;refine(aI.o _).mono ?_;rintro e w5 ⟨rfl,b5⟩;have b6:Below w4.heap.size w4 w5:=(Qh _ _).drew.trans b5;have A5:=A4.o.step b6;have d3:=A5.c3;have d0:=A5.cn;have gt:=A5.ct;have gf:=A5.f 1 (by omega);have gl:=A5.lt;have A6:=A5.setT TB;have k3:=A6.1.c3;have k0:=A6.1.cn;have T6:=T4.o.trans ((ZW.below (rb:=rb) (sb:=sb) (S:=S) b6).trans A6.2);replace A6:Kp _:=⟨A6.1⟩;replace T6:=Z_ T6;clear A5 b5 b6));obtain⟨w7,bk⟩:∃w7,w5.setCell ⟨sb,1,none⟩ (.string TB)=w7:=⟨_,rfl⟩
   rw[bk]at A6 T6 ⊢;clear bk d3 d0 gt gf gl k3 k0 A4 T4 c3 g0 aI;have hO:Kp (∀(r:Rd) c,Cr c rb s r->r.a<=s.size->Calls prog 138 #[.pointer (some ⟨rb,0,none⟩),.string ⟨#[97,98,99,100,101,102,103,104]⟩] c λe u=>e=.returned (.bool (Ct (Ae s r)))∧Zi c u rb (Aa s r)):=⟨λr c A hl=>by
    have h:=Fo rb s ⟨#[97,98,99,100,101,102,103,104]⟩ r c A ⟨hs,hl⟩ PM (by decide);rw[OX]at h;exact h⟩
   go_wp2_with fail;refine(hO.o r3 _ A6.o.rd C.o).mono ?_;rintro e w8 ⟨rfl,R8⟩;have A8:=A6.o.rdto R8;have T8:=T6.o.trans (ZW.rd R8);replace A8:=Z_ A8;replace T8:=Z_ T8;clear R8 A6 T6;go_wp2_with fail;obtain⟨wq,bE⟩:∃x,x=wr:=⟨_,rfl⟩
   go_loopg [3] (AJ s r3) (λgm mv wr=>∃(j:Nat) (r:Rd) (t y:List Int),mv=.bool (Ct (Ae s r))∧Kp (YB wr rb sb B s ⟨Aa s r,n,t,y,[],[]⟩ TB tp S [])∧Kp (r.a<=s.size)∧Kp (AJ s r<=j)∧Kp (C9 t)∧Kp (y.length<=8∧y.length=t.length)∧Kp (DC s n j r t y=dc)∧Kp (ZW rb sb S S w wr)∧Kp (gm=AJ s r));case atStart=>exact⟨s.size+1,r3,[],[],rfl,A8,C,az,⟨C9.nil⟩,⟨by simp⟩,K,T8,⟨rfl⟩⟩
   case round=>
    clear A8 T8 C az K bE;obtain⟨j,r,t,y,rfl,hA,hL,hj,hN,an,hM,hT,hm⟩:=hrel;by_cases hi:Ct (Ae s r)=true
    ·have E:=QB hi;have am:Ae s r≠0:=by omega
     have he:r.er=0:=(Z8 am).1;have ay:=hj.o;have be:AJ s r=Ah s r+1:=by unfold AJ;rw[if_pos he]
     obtain⟨j,rfl⟩:∃i,j=i+1:=⟨j-1,by omega⟩
     have k:=hM.o;simp only[DC]at k;rw[if_pos hi]at k;have q:YB wr rb sb B s ⟨Aa s r,n,t,y,[],[]⟩ TB tp S []:=hA.o;have hS:=Fo rb s (bs t) (Aa s r) wr q.rd ⟨hs,Ze hL.o⟩ hN.o.lets.noz (by rw[Zd];have:=hN.o.lets.1;omega);have Y:C6 s (bs t) (Aa s r)=decide (fnd (Ae s r) t<t.length):=by rw[(U1 hN.o.lets).1,NZ];unfold CW;rw[hi];simp
     rw[Y,Z3]at hS;have c3:=q.c3;have cL:=q.cl;rw[hi];by_cases ho:fnd (Ae s r) t<t.length
     ·rw[if_pos ho]at k;rw[Qv ho]at hS;replace hS:=Z_ hS;have e2:Kp (dc=(⟨(Aa s r).a,12⟩,t,y)):=⟨by
       rw[<-k];unfold Bi;rw[if_pos (by rw[Zl];exact he)]⟩
      clear k hM Y hj ay be E am hm hN an ho hi hL;go_wp2_with fail;refine hS.o.mono ?_;rintro e w9 ⟨rfl,R9⟩;have Z:=q.rdto R9;have T9:=hT.o.trans (ZW.rd R9);have g2:=Z.rd.c2;have gf:=Z.rd.f2;have gl:=Z.rd.lt;have X:=Zi.setE Z.rd 12;have Q:=Z.rdto X;have af:=T9.trans (ZW.rd X);have e3:Kp (tk s (⟨(Aa s r).a,12⟩:Rd) 46=⟨(Aa s r).a,12⟩):=⟨GZ (by show (12:Int)≠0;omega)⟩
      replace Q:=Z_ Q;replace af:=Z_ af;clear Z T9 R9 X q;go_wp2_with fail;first|go_end0|refine Qi (Qp rfl _ _ _) rfl ?_
      exact⟨rfl,by rw[e2.o];show YB _ rb sb B s ⟨tk s (⟨(Aa s r).a,12⟩:Rd) 46,n,t,y,[],[]⟩ TB tp S [];rw[e3.o];exact Q.o,af.o⟩
     ·rw[if_neg ho]at k;rw[Qx ho]at hS;have m:=IL rb s ⟨#[97,98,99,100,101,102,103,104]⟩ (Aa s r);obtain⟨v,hv⟩:∃v:Nat,Ae s r=((97+v:Nat):Int):=⟨(Ae s r-97).toNat,by omega⟩
      have bC:v<8:=by omega
      have aB:Kp (∀c,Cr c rb s (Aa s r)->Calls prog 137 #[.pointer (some ⟨rb,0,none⟩),.string ⟨#[97,98,99,100,101,102,103,104]⟩] c λe u=>e=.returned (.int .i64 (v:Nat))∧Zi c u rb (nx (Aa s r))):=⟨λc A=>by
       have h:=m c A ⟨hs,Ze hL.o⟩ PM (by decide);have q1:C6 s ⟨#[97,98,99,100,101,102,103,104]⟩ (Aa s r)=true:=by rw[OX,Zs];exact hi
       have q2:DW (Ae s (Aa s r)) (bl ⟨#[97,98,99,100,101,102,103,104]⟩)=v:=by rw[Zs,Zrr E.1 E.2];omega
       have q3:BW s (Aa s r) true 11=nx (Aa s r):=by unfold BW;rw[if_pos rfl,Z3]
       rw[q1,q2,q3]at h;exact h⟩
      have aV:(nx (Aa s r)).a<=s.size:=Dk am;have bA:AJ s (nx (Aa s r))<AJ s r:=by
       have h1:=ZR am;have h2:(nx (Aa s r)).er=0:=by rw[EZ,Zl];exact he
       unfold AJ;rw[if_pos h2,if_pos he];omega
      have bb:=Gm (s:=s) (r:=nx (Aa s r)) (n:=n) (by omega);have aS:=RH s (nx (Aa s r)) 0 ((n:Int)-1);have I:(An s (nx (Aa s r)) 0 ((n:Int)-1)).a<=s.size:=DX (by omega) aV;have av:Kp (∀c,YB c rb sb B s ⟨nx (Aa s r),n,t,y,[],[]⟩ TB tp S []->Calls prog 139 #[.pointer (some ⟨rb,0,none⟩)] c λe u=>e=.returned (.int .i64 (AW s (nx (Aa s r)) 0 ((n:Int)-1)))∧Zi c u rb (An s (nx (Aa s r)) 0 ((n:Int)-1))):=⟨λc A=>aJ.o (nx (Aa s r)) _ c _ A rfl rfl aV⟩
      have aK:Kp (C9 (t++[Ae s r])):=⟨hN.o.add ho E.1 E.2⟩
      generalize An s (nx (Aa s r)) 0 ((n:Int)-1)=r2 at *;generalize AW s (nx (Aa s r)) 0 ((n:Int)-1)=d at *;have aD:Kp ((y++[d]).length<=8∧(y++[d]).length=(t++[Ae s r]).length):=⟨by
       have h1:=aK.o.lets.1;have h2:=an.o;have Y:(y++[d]).length=y.length+1:=by rw[Qe];rfl
       have e2:(t++[Ae s r]).length=t.length+1:=by rw[Qe];rfl
       rw[e2]at h1;rw[Y,e2];omega⟩
      have L:=Zrq bC;rw[<-hv]at L;have ag:bs t++bs [Ae s r]=bs (t++[Ae s r]):=(Zg _ _).symm;have ak:bs y++bs [d]=bs (y++[d]):=(Zg _ _).symm;have G:=λW=>aH.o d W bb.1 (by omega);have bo:(bs t).size<=8:=by rw[Zd];exact hN.o.lets.1
      have bp:(bs y).size<=8:=by rw[Zd];exact an.o.1
      have a1:(bs [Ae s r]).size=1:=by rw[Zd];rfl
      have bn:(bs [d]).size=1:=by rw[Zd];rfl
      have D:Kp (AJ s r2<=j∧AJ s r2<AJ s r):=⟨by omega⟩
      have cV:=q.cv;obtain⟨t1,bg⟩:∃t1,Ae s r=t1:=⟨_,rfl⟩
      rw[bg]at k aK aD L ag a1;obtain⟨Vl,aw⟩:∃V,bs t=V:=⟨_,rfl⟩
      obtain⟨Vv,aM⟩:∃V,bs y=V:=⟨_,rfl⟩
      obtain⟨V1,a6⟩:∃V,bs [t1]=V:=⟨_,rfl⟩
      obtain⟨Vd,a9⟩:∃V,bs [d]=V:=⟨_,rfl⟩
      rw[aw]at ag bo hS;rw[aM]at ak bp;rw[a6]at ag a1 L;rw[a9]at ak bn G;clear cL;have cL:wr.cell? ⟨sb,2,none⟩=some (.string Vl):=by rw[<-aw];exact q.cl
      have ba:Kp (bs t=Vl):=⟨aw⟩
      have aC:Kp (bs y=Vv):=⟨aM⟩
      obtain⟨v1,aW⟩:∃v1,v+1=v1:=⟨_,rfl⟩
      have aY:(v:Int)+1=v1:=by omega
      rw[aW]at L;have bi:v<=v1:=by omega
      have bh:v1<=8:=by omega
      have aZ:(v:Int)<=v1:=by omega
      have aX:(v1:Int)<=8:=by omega
      have s1:(Vl.size:Int)<=8:=by omega
      have s2:(Vv.size:Int)<=8:=by omega
      have s3:¬(9223372036854775807:Int)<(Vl.size:Int)+1:=by omega
      have s4:¬(9223372036854775807:Int)<((Vl.size+1:Nat):Int):=by omega
      have s5:¬(9223372036854775807:Int)<(Vv.size:Int)+1:=by omega
      have s6:¬(9223372036854775807:Int)<((Vv.size+1:Nat):Int):=by omega
      have a0:=CY (x:=(v:Int)+1) (by omega) (by omega);have O:IntKind.i64.wrap ((v:Int)+1)=(v1:Int):=a0.1.trans aY;have P:wrap64 ((v:Int)+1)=(v1:Int):=a0.2.trans aY;replace hS:=Z_ hS;replace G:=Z_ G;replace k:=Z_ k;replace ag:=Z_ ag;replace ak:=Z_ ak;replace I:=Z_ I;replace aW:=Z_ aW;replace O:=Z_ O;replace P:=Z_ P;clear m hM Y hj ay be E am an ho hi hL he hv aV bA bb aS cV bg aw aM a6 a9 a0 aY hN;go_wp2_with fail;refine hS.o.mono ?_;rintro e w9 ⟨rfl,R9⟩;have Z:Kp _:=⟨q.rdto R9⟩
      have T9:Kp _:=⟨hT.o.trans (ZW.rd R9)⟩
      clear R9 q hT hA cL c3 hS;go_wp2_with fail;refine(aB.o _ Z.o.rd).mono ?_;rintro e bH ⟨rfl,X⟩;have Q:Kp _:=⟨Z.o.rdto X⟩
      have af:Kp _:=⟨T9.o.trans (ZW.rd X)⟩
      clear X Z T9 aB;go_wp2_with fail;refine(av.o _ Q.o).mono ?_;rintro e bq ⟨rfl,aF⟩;have ad:=Q.o.rdto aF;have a3:=af.o.trans (ZW.rd aF);have c3:=ad.c3;have cL:bq.cell? ⟨sb,2,none⟩=some (.string Vl):=by rw[<-ba.o];exact ad.cl
      have gf:=ad.f 2 (by omega);have gl:=ad.lt;have U:=ad.setL (t++[t1]);rw[<-ag.o]at U;have k3:=U.1.c3;have a4:Kp _:=⟨a3.trans U.2⟩
      replace U:Kp _:=⟨U.1⟩
      clear aF Q af av ad a3;go_wp2_with fail;replace O:=O.o;replace P:=P.o;go_region;obtain⟨ao,aE⟩:∃ao,(bq.setCell ⟨sb,2,none⟩ (.string (Vl++V1))).drew=ao:=⟨_,rfl⟩
      have F:=U.o.step ((Qh _ _).drew);have ah:=a4.o.trans (ZW.below (rb:=rb) (sb:=sb) (S:=S) ((Qh _ _).drew));rw[aE]at F ah ⊢;clear aE U a4 c3 cL gf gl k3 O P L bi bh aZ aX s3 s4;have c3:=F.c3;have cV:ao.cell? ⟨sb,3,none⟩=some (.string Vv):=by rw[<-aC.o];exact F.cv
      have gf:=F.f 3 (by omega);have gl:=F.lt;replace F:=Z_ F;replace ah:=Z_ ah;go_wp2_with fail;have q1:¬(9223372036854775807:Int)<(Vv.size:Int)+Vd.size:=by omega
      have q2:¬(9223372036854775807:Int)<((Vv.size+Vd.size:Nat):Int):=by omega
      have q3:(Vv.size:Int)+Vd.size<=9223372036854775807:=by omega
      clear s5 s6 bn s1 s2 bo bp a1 bw bt bu bD bm aT aU;go_region_with ((go_at_call 51;refine(G.o _).mono ?_;rintro e a2 ⟨rfl,a5⟩;have aG:Below ao.heap.size ao a2:=(Qh _ _).drew.trans a5;have ae:=F.o.step aG;have d3:=ae.c3;have dV:a2.cell? ⟨sb,3,none⟩=some (.string Vv):=(by rw[<-aC.o];exact ae.cv);have df:=ae.f 3 (by omega);have dl:=ae.lt;have J:=ae.setV (y++[d]);rw[<-ak.o]at J;have k3:=J.1.c3;have aq:=ah.o.trans ((ZW.below (rb:=rb) (sb:=sb) (S:=S) aG).trans J.2);replace J:Kp _:=⟨J.1⟩;replace aq:=Z_ aq;clear ae a5 aG))
      all_goals
       clear d3 dV df dl k3;generalize a2.setCell ⟨sb,3,none⟩ (.string (Vv++Vd))=bI at J aq ⊢;clear c3 cV gf gl F ah;go_wp2_with fail;refine(hO.o r2 _ J.o.rd I.o).mono ?_;rintro e bJ ⟨rfl,ap⟩;replace ap:=Z_ ap;go_wp2_with fail;go_roundg (AJ s r2);case measure=>have h1:=hm.o;have h2:=D.o;omega
       case rel=>exact⟨j,r2,t++[t1],y++[d],rfl,⟨J.o.rdto ap.o⟩,I,⟨D.o.1⟩,aK,aD,k,⟨aq.o.trans (ZW.rd ap.o)⟩,⟨rfl⟩⟩
    ·have hi:Ct (Ae s r)=false:=by simpa using hi
     have Y:dc=(Aa s r,t,y):=by
      rw[<-hM.o];cases j with
      | zero=>rfl
      | succ j=>simp only[DC];rw[if_neg (by rw[hi];simp)]
     have m:=ZP rb s ⟨#[46]⟩ 46 (Aa s r) wr hA.o.rd ⟨hs,Ze hL.o⟩ (by decide) (by omega);have e2:tk s (Aa s r) 46=tk s dc.1 46:=by rw[Y]
     rw[e2]at m;rw[hi];replace m:=Z_ m;replace Y:=Z_ Y;clear hi hM e2 hj hL hN an hm;go_wp2_with fail;refine m.o.mono ?_;rintro e w9 ⟨rfl,R9⟩;have Z:=hA.o.rdto R9;have T9:=hT.o.trans (ZW.rd R9);replace Z:=Z_ Z;replace T9:=Z_ T9;clear R9;go_wp2_with fail;first|go_end0|refine Qi (Qp rfl _ _ _) rfl ?_
     exact⟨rfl,by have h:=Z.o;rw[Y.o]at h ⊢;exact h,T9.o⟩
end Go.Proofs.YtcnbifdlkalimabGreat
