import Derived.Test.YtcnbifdlkalimabGreatPlyM
import Derived.Test.YtcnbifdlkalimabGreatDrnB
import Derived.Test.YtcnbifdlkalimabGreatShtM
import Derived.Test.YtcnbifdlkalimabGreatCmpM
import Derived.Deep.RegionHeld
import Derived.Test.YtcnbifdlkalimabGreatShtC
/- Lemmas for the statement Means; their conditions stand in each. -/
namespace Go.Proofs.YtcnbifdlkalimabGreat
open Go.RowKit Go.Proofs.Tryz
set_option linter.unusedVariables false
set_option maxRecDepth 100000
theorem own5p(w:World)(v0 v1 v2 v3 v4:Value)(t:TypeId):Own (w.alloc (.cells #[v0,v1,v2,v3,v4] t)) w.heap.size [v0,v1,v2,v3,v4]:=Own.new5 w v0 v1 v2 v3 v4 t
theorem Zkb(w:World)(g o k j:Nat)(v:Value)(h:k≠g):(w.setCell ⟨g,o,none⟩ v).cell? ⟨k,j,none⟩=w.cell? ⟨k,j,none⟩:=Qo (w:=w) (QH w ⟨g,o,none⟩ v k h)
def plaF(s:ZB)(T:Int->ZB)(f:Nat):Py:=does T (readP s).1.ex (readP s).1.sm (readP s).2 ⟨start,0,f,false⟩
set_option maxHeartbeats 6400000
theorem Zoz(s:ZB)(T:Int->ZB)(f:Nat)(w:World)(hs:s.size<=maxLen)(hT:∀l:Nat,l<6->(T l).size<=maxLen)(hE:compE s=0)(hf:f<=20000) :
  Calls prog 10 #[.string s,Zhu T,.int .i64 f] w λe w'=>e=.returned (.tuple #[ZlI (if (plaF s T f).ou=true then 2 else 1) (plaF s T f).st (λj=>bs ((plaF s T f).m.lo j)) (bs (lst (plaF s T f).m.va (readP s).1.vs.length)),.bool true])∧Below w.heap.size w w':=by
 have hte:transE s=0:=by
  unfold compE at hE
  by_cases c:transE s=0
  ·exact c
  ·rw[if_pos c]at hE;exact hE
 have H:=Zgu hte
 have hm8:(readP s).1.vs.length<=8:=by
  have h1:=(Zhh s).ll
  have h2:=H.j.ll
  rw[(Zax s).p.2.1]at h2
  omega
 have hcm:=λW=>Zey s W hs
 rw[hE]at hcm
 have hpa:=λW=>Zin s W H.sz
 have her:=H.er
 obtain⟨w0,hw0⟩:∃w0,w0=((w.alloc (.cells #[.string (T 0),.string (T 1),.string (T 2),.string (T 3),.string (T 4),.string (T 5)] 34)).alloc (.cells #[.int .i64 0,.int .i64 0,.string {data:=#[]},.string {data:=#[]},.string {data:=#[]},.string {data:=#[]},.string {data:=#[]},.string {data:=#[]},.string {data:=#[]}] 36)).alloc (.cells #[.int .i64 0,.int .i64 0,.string {data:=#[]},.string {data:=#[]},.string {data:=#[]},.string {data:=#[]},.string {data:=#[]},.string {data:=#[]},.string {data:=#[]}] 36):=⟨_,rfl⟩
 have X0:ZX w0 (w.heap.size+1) 0 0 (λ_=>{data:=#[]}) {data:=#[]}:=by
  rw[hw0]
  have:=(ZX.new (w.alloc (.cells #[.string (T 0),.string (T 1),.string (T 2),.string (T 3),.string (T 4),.string (T 5)] 34)) 36 0 0).step ((Qh _ _).alloc (Qb _) (.cells #[.int .i64 0,.int .i64 0,.string {data:=#[]},.string {data:=#[]},.string {data:=#[]},.string {data:=#[]},.string {data:=#[]},.string {data:=#[]},.string {data:=#[]}] 36))
  simpa using this
 have T0:ZbA w0 w.heap.size (λj=>T j):=by
  rw[hw0]
  exact((ZbA.new w 34 (T 0) (T 1) (T 2) (T 3) (T 4) (T 5) (f:=λj=>T j) ⟨rfl,rfl,rfl,rfl,rfl,rfl⟩).step ((Qh _ _).alloc (Qb _) _)).step ((Qh _ _).alloc (Qb _) _)
 have hB0:Below w.heap.size w w0:=by rw[hw0];exact(((Qh _ _).alloc (Qb _) _).alloc (by simp) _).alloc (by simp;omega) _
 generalize compF s=cF at *
 generalize compA s=cA at *
 replace hw0:=Z_ hw0
 replace X0:=Z_ X0
 replace T0:=Z_ T0
 replace hB0:=Z_ hB0
 replace hT:=Z_ hT
 replace hcm:=Z_ hcm
 replace hpa:=Z_ hpa
 replace H:=Z_ H
 obtain⟨Z,hZ⟩:∃Z,plaF s T f=Z:=⟨_,rfl⟩
 rw[hZ]
 replace hZ:=Z_ hZ
 obtain⟨y,hy⟩:∃y:Nat->ZB,(λq:Nat=>bs (Z.m.lo q))=y:=⟨_,rfl⟩
 obtain⟨yv,hyv⟩:∃yv,bs (lst Z.m.va (readP s).1.vs.length)=yv:=⟨_,rfl⟩
 rw[hy,hyv]
 obtain⟨EN,hEN⟩:∃EN:Int,(if Z.ou=true then 2 else 1)=EN:=⟨_,rfl⟩
 rw[hEN]
 have enT:Kp (Z.ou=true->EN=2):=⟨λk=>by rw[<-hEN,if_pos k]⟩
 have enF:Kp (Z.ou=false->EN=1):=⟨λk=>by rw[<-hEN,if_neg (by rw[k];simp)]⟩
 clear hEN
 unfold ZlI
 replace hy:=Z_ hy
 replace hyv:=Z_ hyv
 have hwx:w.heap.size<=w.heap.size+1:=by omega
 clear hs hte hE
 unfold Zhu
 go_enter func10,ntmps10
 go_wp2_with fail
 rw[<-hw0.out]
 clear hw0
 refine(hcm.out _).mono ?_
 rintro e w1 ⟨rfl,b1⟩
 have X1:=X0.out.step b1
 have T1:=T0.out.step b1
 have hB1:=hB0.out.trans (b1.mono hB0.out.size)
 replace X1:=Z_ X1
 replace T1:=Z_ T1
 replace hB1:=Z_ hB1
 clear X0 T0 hB0 b1 hcm
 go_wp2_with fail
 refine(hpa.out _).mono ?_
 rintro e w2 ⟨b2,h2⟩
 rcases h2 with ⟨k,_⟩|⟨_,rb,sb,B,tp,S,sv,rfl,P,R⟩
 ·exact absurd her k
 have X2:=X1.out.step b2
 have T2:=T1.out.step b2
 have hB2:=hB1.out.trans (b2.mono hB1.out.size)
 have t0:=T2.c 0 (by omega)
 have t1:=T2.c 1 (by omega)
 have t2:=T2.c 2 (by omega)
 have t3:=T2.c 3 (by omega)
 have t4:=T2.c 4 (by omega)
 have t5:=T2.c 5 (by omega)
 have ht2:=T2.lt
 have hxl:=X2.lt
 obtain⟨w3,hw3⟩:∃w3,w3=(w2.alloc (.cells #[.string (T 0),.string (T 1),.string (T 2),.string (T 3),.string (T 4),.string (T 5),.string {data:=#[]},.string {data:=#[]},.string {data:=#[]},.string {data:=#[]},.string {data:=#[]},.string {data:=#[]},.int .i64 0,.int .i64 0,.int .i64 0,.int .i64 0,.int .i64 0,.int .i64 0,.int .i64 0,.int .i64 0] 87)).alloc (.cells #[.pointer (some ⟨sb,0,none⟩),.pointer (some ⟨w2.heap.size,0,none⟩),.int .i64 0,.int .i64 f,.bool false] 89):=⟨_,rfl⟩
 have b3:Below w2.heap.size w2 w3:=by rw[hw3];exact((Qh _ _).alloc (Qb _) _).alloc (by simp) _
 have Y3:ZbM w3 w2.heap.size (w2.heap.size+1) sb T ⟨start,0,f,false⟩:=by
  have h1:=ZV.new w2 87 T
  obtain⟨wh,hwh⟩:∃wh,wh=w2.alloc (.cells #[.string (T 0),.string (T 1),.string (T 2),.string (T 3),.string (T 4),.string (T 5),.string {data:=#[]},.string {data:=#[]},.string {data:=#[]},.string {data:=#[]},.string {data:=#[]},.string {data:=#[]},.int .i64 0,.int .i64 0,.int .i64 0,.int .i64 0,.int .i64 0,.int .i64 0,.int .i64 0,.int .i64 0] 87):=⟨_,rfl⟩
  rw[<-hwh]at h1
  have hsz:wh.heap.size=w2.heap.size+1:=by rw[hwh];simp
  have O:=own5p wh (.pointer (some ⟨sb,0,none⟩)) (.pointer (some ⟨w2.heap.size,0,none⟩)) (.int .i64 0) (.int .i64 f) (.bool false) 89
  have h2:=h1.step ((Qh wh.heap.size wh).alloc (Qb _) (.cells #[.pointer (some ⟨sb,0,none⟩),.pointer (some ⟨w2.heap.size,0,none⟩),.int .i64 0,.int .i64 f,.bool false] 89))
  rw[hwh]at O h2
  rw[<-hw3]at O h2
  rw[<-hwh,hsz]at O
  exact⟨O.lt,by omega,O.c 0 _ rfl,O.c 1 _ rfl,O.c 2 _ rfl,O.c 3 _ rfl,O.c 4 _ rfl,λj hj=>by
   match j,hj with
   | 0,_=>exact O.f 0 _ rfl
   | 1,_=>exact O.f 1 _ rfl
   | 2,_=>exact O.f 2 _ rfl
   | 3,_=>exact O.f 3 _ rfl
   | 4,_=>exact O.f 4 _ rfl,h2⟩
 have X3:=X2.step b3
 have P3:=P.step b3
 have c6:=P3.cp
 have cv3:=P3.cv
 have hsl:=P3.lt
 have hsb:∀x,x∈(readP s).1.sm->SB (readP s).1.n (readP s).1.vs.length x:=H.out.j.sb
 have I:Kp (Zq5 w2 rb sb B s (tabP s) tp (readP s).1 S sv w2.heap.size (w2.heap.size+1) T):=⟨⟨P,Qb _,by omega,H.out.oe,H.out.os,H.out.j.eb,hsb,Zjh s,by rw[H.out.pn];exact H.out.n6,hm8,hT.out⟩⟩
 have PB:PyB ⟨start,0,f,false⟩:=⟨by show (0:Int)<=0;omega,by show (0:Int)+(f:Int)<=20000;omega,λl=>by show (([]:List Int).length:Int)<=0;simp,Zgg⟩
 have hrun:=Zhi w2 rb sb B s (tabP s) tp (readP s).1 S sv w2.heap.size (w2.heap.size+1) T I (readP s).1.sm.length ⟨Zku w2 rb sb B s (tabP s) tp (readP s).1 S sv w2.heap.size (w2.heap.size+1) T I _⟩ (readP s).2 tp R (λn hn=>⟨H.out.top n hn,H.out.top n hn⟩) w3 _ Y3 b3 PB
 have PZ:PyB Z:=by rw[<-hZ.out];exact Zpu (T:=T) (sm:=(readP s).1.sm) I.out.eb (readP s).2 PB
 have eZ:does T (readP s).1.ex (readP s).1.sm (readP s).2 ⟨start,0,f,false⟩=Z:=hZ.out
 rw[eZ]at hrun
 obtain⟨tpp,tpc,htp⟩:=Zb R.1
 have hvz:(bs (readP s).1.vs).size=(readP s).1.vs.length:=Zc _
 generalize hVS:bs (readP s).1.vs=VS at *
 generalize hVL:(readP s).1.vs.length=vl at *
 have hres:=λen W (hW:ZV W w2.heap.size T Z.m)=>Zk6 w2.heap.size T Z.m en Z.st vl W hW ⟨PZ.v⟩ hm8
 rw[hy.out,hyv.out]at hres
 unfold ZlI at hres
 have hB3:Below w.heap.size w w3:=hB2.trans (b3.mono hB2.size)
 have hs0:=PZ.s0
 have hs1:Z.st<=20000:=by have:=PZ.sl;omega
 have hsn:sb<w2.heap.size:=P.lt
 have hsx:sb≠w.heap.size+1:=λe=>by
  have h1:=P.ct
  rw[e,X2.c1]at h1
  cases h1
 have hne1:w.heap.size+1<w2.heap.size:=hxl
 have h3z:w3.heap.size=w2.heap.size+1+1:=by rw[hw3];simp
 have c62:=P.cp
 have c6r:=c6
 rw[hw3]at c6r
 replace hw3:=Z_ hw3
 replace hrun:=Z_ hrun
 replace hres:=Z_ hres
 replace X3:=Z_ X3
 replace hB3:=Z_ hB3
 replace cv3:=Z_ cv3
 replace h3z:=Z_ h3z
 subst htp
 clear Y3 P P3 R I PB PZ eZ X1 T1 hB1 X2 T2 hB2 b2 b3 H hT hpa hsb hy hyv her
 go_wp2_with fail
 rw[<-hw3.out]
 clear t0 t1 t2 t3 t4 t5 hw3 c62 c6r
 refine hrun.out.mono ?_
 rintro en w4 ⟨rfl,Y4,t4⟩
 have X4:ZX w4 (w.heap.size+1) 0 0 (λ_=>{data:=#[]}) {data:=#[]}:=by
  have hX:=X3.out
  have key:∀q:Nat,w4.cell? ⟨w.heap.size+1,q,none⟩=w3.cell? ⟨w.heap.size+1,q,none⟩:=λq=>t4.cell (p:=⟨w.heap.size+1,q,none⟩) hX.lt (by show w.heap.size+1≠w2.heap.size;omega) (by show w.heap.size+1≠w2.heap.size+1;omega)
  exact⟨Qq hX.lt t4.size,(key _).trans hX.c0,(key _).trans hX.c1,λj hj=>(key _).trans (hX.cl j hj),(key _).trans hX.cv,λj hj=>by rw[Qz (w:=w3) (t4.block _ hX.lt (by show w.heap.size+1≠w2.heap.size;omega) (by show w.heap.size+1≠w2.heap.size+1;omega))];exact hX.f j hj⟩
 have v4:w4.cell? ⟨sb,3,none⟩=some (.string VS):=by
  rw[t4.cell (p:=⟨sb,3,none⟩) hsl (by show sb≠w2.heap.size;omega) (by show sb≠w2.heap.size+1;omega)]
  exact cv3.out
 have B4:Below w.heap.size w w4:=hB3.out.trans (t4.below hB3.out.size (by omega) (by omega))
 have y1:=Y4.c1
 have y2:=Y4.c2
 have y4:=Y4.c4
 have hl4:=Y4.lt
 have hs4:sb<w4.heap.size:=Qq hsl t4.size
 have Hh:=Y4.h
 clear t4 cv3 c6 hsl X3 hB3 Y4 hrun h3z
 replace X4:=Z_ X4
 replace B4:=Z_ B4
 replace Hh:=Z_ Hh
 have hvi:(VS.size:Int)=vl:=by omega
 generalize w2.heap.size=hb at *
 have e1:¬hb+1=w.heap.size+1:=by omega
 have e2:¬w.heap.size+1=hb+1:=by omega
 have e3:¬sb=hb+1:=by omega
 cases hz:Z.ou with
 | true=>
  obtain rfl:=enT.out hz
  rw[hz]at y4
  clear enT enF hz
  go_wp2_with fail
  clear y4
  go_region_held (λw'=>w'.cell? ⟨hb+1,1,none⟩=some (.pointer (some ⟨hb,0,none⟩))∧w'.cell? ⟨hb+1,2,none⟩=some (.int .i64 Z.st)∧w'.cell? ⟨sb,3,none⟩=some (.string VS)) (first|go_keep|(refine⟨?_,?_,?_⟩<;>(repeat rw[Zkb _ _ _ _ _ _ (by omega)])<;>assumption)) ((go_at_call 29;refine(hres.out 2 _ (Hh.out.step (Qh _ _).drew)).mono ?_;rintro e w5 ⟨rfl,b5⟩;have b6:Below w4.heap.size w4 w5:=(Qh _ _).drew.trans b5;have z1:=(b6.cell (p:=⟨hb+1,1,none⟩) hl4).trans y1;have z2:=(b6.cell (p:=⟨hb+1,2,none⟩) hl4).trans y2;have z3:=(b6.cell (p:=⟨sb,3,none⟩) hs4).trans v4;have X5:=X4.out.step b6;have B5:=B4.out.trans (b6.mono B4.out.size);have hxl5:=X5.lt;have r0:=X5.c0;have r1:=X5.c1;have r2:=X5.cl 0 (by omega);have r3:=X5.cl 1 (by omega);have r4:=X5.cl 2 (by omega);have r5:=X5.cl 3 (by omega);have r6:=X5.cl 4 (by omega);have r7:=X5.cl 5 (by omega);have r8:=X5.cv;have f0:=X5.f 0 (by omega);have f1:=X5.f 1 (by omega);have f2:=X5.f 2 (by omega);have f3:=X5.f 3 (by omega);have f4:=X5.f 4 (by omega);have f5:=X5.f 5 (by omega);have f6:=X5.f 6 (by omega);have f7:=X5.f 7 (by omega);have f8:=X5.f 8 (by omega)))
  all_goals
   go_wp2
   exact bodyPost_ret (v:=.tuple #[.agg #[.int .i64 2,.int .i64 Z.st,.string (y 0),.string (y 1),.string (y 2),.string (y 3),.string (y 4),.string (y 5),.string yv],.bool true]) (by simp[results,Tryz.results10,go_sem,r0,r1,r2,r3,r4,r5,r6,r7,r8]) rfl ⟨rfl,(((((((((B5.setCell hwx _).setCell hwx _).setCell hwx _).setCell hwx _).setCell hwx _).setCell hwx _).setCell hwx _).setCell hwx _).setCell hwx _)⟩
 | false=>
  obtain rfl:=enF.out hz
  rw[hz]at y4
  clear enT enF hz
  go_wp2_with fail
  clear y4
  go_region_held (λw'=>w'.cell? ⟨hb+1,1,none⟩=some (.pointer (some ⟨hb,0,none⟩))∧w'.cell? ⟨hb+1,2,none⟩=some (.int .i64 Z.st)∧w'.cell? ⟨sb,3,none⟩=some (.string VS)) (first|go_keep|(refine⟨?_,?_,?_⟩<;>(repeat rw[Zkb _ _ _ _ _ _ (by omega)])<;>assumption)) ((go_at_call 29;refine(hres.out 1 _ (Hh.out.step (Qh _ _).drew)).mono ?_;rintro e w5 ⟨rfl,b5⟩;have b6:Below w4.heap.size w4 w5:=(Qh _ _).drew.trans b5;have z1:=(b6.cell (p:=⟨hb+1,1,none⟩) hl4).trans y1;have z2:=(b6.cell (p:=⟨hb+1,2,none⟩) hl4).trans y2;have z3:=(b6.cell (p:=⟨sb,3,none⟩) hs4).trans v4;have X5:=X4.out.step b6;have B5:=B4.out.trans (b6.mono B4.out.size);have hxl5:=X5.lt;have r0:=X5.c0;have r1:=X5.c1;have r2:=X5.cl 0 (by omega);have r3:=X5.cl 1 (by omega);have r4:=X5.cl 2 (by omega);have r5:=X5.cl 3 (by omega);have r6:=X5.cl 4 (by omega);have r7:=X5.cl 5 (by omega);have r8:=X5.cv;have f0:=X5.f 0 (by omega);have f1:=X5.f 1 (by omega);have f2:=X5.f 2 (by omega);have f3:=X5.f 3 (by omega);have f4:=X5.f 4 (by omega);have f5:=X5.f 5 (by omega);have f6:=X5.f 6 (by omega);have f7:=X5.f 7 (by omega);have f8:=X5.f 8 (by omega)))
  all_goals
   go_wp2
   exact bodyPost_ret (v:=.tuple #[.agg #[.int .i64 1,.int .i64 Z.st,.string (y 0),.string (y 1),.string (y 2),.string (y 3),.string (y 4),.string (y 5),.string yv],.bool true]) (by simp[results,Tryz.results10,go_sem,r0,r1,r2,r3,r4,r5,r6,r7,r8]) rfl ⟨rfl,(((((((((B5.setCell hwx _).setCell hwx _).setCell hwx _).setCell hwx _).setCell hwx _).setCell hwx _).setCell hwx _).setCell hwx _).setCell hwx _)⟩
theorem Zqs(w:World):(Op.equalIn 10000 31 ZjG ZjG).run prog w=.ok true w:=by kernel_rfl
theorem Zqt{T:Int->ZB}{f:Int}{r:Value}{x:Int}(h:ZfM {data:=#[]} T f r x):r=ZjG∧x=2:=by
 have hs:scanE {data:=#[]}=2:=by kernel_rfl
 have key:∀p e,ZbS {data:=#[]} p e->e=2:=λp e h=>by
  rcases h with ⟨_,_,k⟩|⟨k,_⟩
  ·rw[k,hs]
  ·rw[hs]at k;omega
 rcases h with ⟨p,hC,hx,hr⟩|⟨hC,_⟩|⟨hC,_⟩
 ·exact⟨hr,key _ _ hC⟩
 ·have:=key _ _ hC;omega
 ·have:=key _ _ hC;omega
theorem ZoA{s:ZB}(hE:compE s=0){T:Int->ZB}{f:Int}{r:Value}{x:Int}(h:ZfM (compF s) T f r x) :
  (¬(0<=f∧f<=20000)->r=ZjG∧x=10)∧((0<=f∧f<=20000)->x=0∧r=ZlI (if (plaF s T f.toNat).ou=true then 2 else 1) (plaF s T f.toNat).st (λj=>bs ((plaF s T f.toNat).m.lo j)) (bs (lst (plaF s T f.toNat).m.va (readP s).1.vs.length))):=by
 have hte:transE s=0:=by
  have h:=hE
  unfold compE at h
  by_cases c:transE s=0
  ·exact c
  ·rw[if_pos c]at h;exact h
 have FI:=ZiF hte
 have H:=Zgu hte
 have hF:compF s=ZaI s:=by
  unfold compF
  rw[if_pos hE]
  unfold transF
  rw[if_neg]
  have h:=hte
  unfold transE at h
  intro k
  by_cases c:300<s.size
  ·rw[if_pos c]at h;omega
  ·rw[if_neg c]at h
   by_cases d:(endP s).er=0
   ·rw[if_neg (by rw[d];simp)]at h
    by_cases f:levE (tabP s)=0
    ·rw[if_neg (by rw[f];simp)]at h
     by_cases g:200<(Zbe s).length/2
     ·rw[if_pos g]at h;omega
     ·rcases k with k|k|k|k
      ·exact c k
      ·exact k d
      ·exact k f
      ·exact g k
    ·rw[if_pos f]at h;exact f h
   ·rw[if_pos d]at h;exact d h
 rw[hF]at h
 have hq:=ZpG hte hE
 have one:∀{p e},ZbS (ZaI s) p e->e=0:=λa=>(ZlR (λk=>by rw[FI.code];exact FI.rng) a hq).2
 rcases h with ⟨p,hC,hx,hr⟩|⟨hC,hf,hx,hr⟩|⟨hC,hf0,hf1,hx,hr⟩
 ·exact absurd (one hC) hx
 ·exact⟨λ_=>⟨hr,hx⟩,λk=>by omega⟩
 ·refine⟨λk=>absurd ⟨hf0,hf1⟩ k,λ_=>⟨hx,?_⟩⟩
  have hSB:∀x,x∈(readP s).1.sm->SB (nP s) (readP s).1.vs.length x:=λx hx=>by have:=H.j.sb x hx;rw[H.pn]at this;exact this
  obtain⟨m1,m2,m3,m4⟩:=Zow (T:=T) H.oe H.os H.exb hSB (Zjh s) H.n6 FI.m8 FI.k FI.half FI.ls f.toNat (z:=plaF s T f.toNat) rfl
  rw[hr,FI.code,FI.vars]
  unfold ZoY ZlI varsOf
  rw[m1,m2,m4,Zc,m3,m3,m3,m3,m3,m3]
  rfl
theorem means_walk(s:ZB)(T:Int->ZB)(f:Int)(w:World)(hs:s.size<=maxLen)(hT:∀l:Nat,l<6->(T l).size<=maxLen) :
  Calls prog 3 #[.string s,Zhu T,.int .i64 f] w λe w'=>e=.returned (.bool true)∧Below w.heap.size w w':=by
 obtain⟨wb,hwb⟩:∃wb,wb=w.alloc (.cells #[.string (T 0),.string (T 1),.string (T 2),.string (T 3),.string (T 4),.string (T 5)] 23):=⟨_,rfl⟩
 have A0:ZbA wb w.heap.size (λj=>T j):=by rw[hwb];exact ZbA.new w 23 (T 0) (T 1) (T 2) (T 3) (T 4) (T 5) (f:=λj=>T j) ⟨rfl,rfl,rfl,rfl,rfl,rfl⟩
 have hB0:Below w.heap.size w wb:=by rw[hwb];exact(Qh _ _).alloc (Qb _) _
 have hFl:(compF s).size<=maxLen:=by
  unfold compF
  split
  ·unfold transF
   split
   ·rw[Zc];unfold maxLen;simp
   ·rename_i h1 h2
    have hte:transE s=0:=by
     unfold compE at h1
     by_cases c:transE s=0
     ·exact c
     ·rw[if_pos c]at h1;exact h1
    have:=(ZiF hte).scan
    unfold scanE at this
    by_cases c:448<((ZaI s).size:Int)
    ·rw[if_pos c]at this;omega
    ·unfold maxLen;omega
  ·show 0<=maxLen;exact Q8 _
 have h1:=λW=>ZjB s W hs
 have h2:=λW=>Zey s W hs
 have hP:=λW=>ZoE (compF s) T f W hFl hT
 have hEv:=λ(W:World) (k:compE s=0) (f':Nat) (hf:f'<=20000)=>Zoz s T f' W hs hT k hf
 have hEe:compE s≠0->compF s={data:=#[]}:=λk=>by unfold compF;rw[if_neg k]
 have hG:=λ(k:compE s=0) r x=>ZoA (s:=s) k (T:=T) (f:=f) (r:=r) (x:=x)
 have hQ:=Zqs
 unfold Zhu at hP hEv
 unfold ZjG at hQ
 generalize compF s=F at *
 generalize compA s=A at *
 generalize compE s=E at *
 replace h1:=Z_ h1
 replace h2:=Z_ h2
 replace hP:=Z_ hP
 replace hEv:=Z_ hEv
 replace hEe:=Z_ hEe
 replace hG:=Z_ hG
 replace hwb:=Z_ hwb
 replace A0:=Z_ A0
 replace hB0:=Z_ hB0
 have hee:(E != E)=false:=by simp
 clear hFl hs hT
 unfold Zhu
 go_enter func3,ntmps3
 go_wp2_with fail
 rw[<-hwb.out]
 clear hwb
 refine(h1.out _).mono ?_
 rintro e w1 ⟨rfl,b1⟩
 have A1:=A0.out.step b1
 have hB1:Kp (Below w.heap.size w w1):=⟨hB0.out.trans (b1.mono hB0.out.size)⟩
 replace A1:=Z_ A1
 clear A0 hB0 b1 h1
 go_wp2_with fail
 refine(h2.out _).mono ?_
 rintro e w2 ⟨rfl,b2⟩
 have A2:=A1.out.step b2
 have hB2:Kp (Below w.heap.size w w2):=⟨hB1.out.trans (b2.mono hB1.out.size)⟩
 have t0:=A2.c 0 (by omega)
 have t1:=A2.c 1 (by omega)
 have t2:=A2.c 2 (by omega)
 have t3:=A2.c 3 (by omega)
 have t4:=A2.c 4 (by omega)
 have t5:=A2.c 5 (by omega)
 have hl2:=A2.lt
 replace A2:=Z_ A2
 clear A1 hB1 b2 h2
 go_wp2_with fail
 refine(ZdE _ _).mono ?_
 rintro e w3 ⟨rfl,rfl⟩
 go_wp2_with fail
 refine(hP.out _).mono ?_
 rintro e w4 ⟨r,x,rfl,hA,b4⟩
 have A4:=A2.out.step b4
 have hB4:Below w.heap.size w w4:=hB2.out.trans (b4.mono hB2.out.size)
 clear t0 t1 t2 t3 t4 t5 hl2 A2 hB2 b4 hP
 by_cases hE:E=0
 ·subst hE
  obtain⟨g1,g2⟩:=hG.out rfl r x hA.out
  by_cases hf:0<=f∧f<=20000
  ·obtain⟨rfl,hr⟩:=g2 hf
   obtain⟨fk,rfl⟩:∃k:Nat,f=k:=⟨f.toNat,by omega⟩
   have fk2:fk<=20000:=by omega
   obtain⟨hf0,hf1⟩:=hf
   rw[QC]at hr
   have hEw:=λW=>hEv.out W rfl fk fk2
   clear hEv
   generalize (if (plaF s T fk).ou=true then (2:Int) else 1)=en at *
   generalize (plaF s T fk).st=st at *
   generalize (λj:Nat=>bs ((plaF s T fk).m.lo j))=y at *
   generalize bs (lst (plaF s T fk).m.va (readP s).1.vs.length)=v at *
   subst hr
   have t0:=A4.c 0 (by omega)
   have t1:=A4.c 1 (by omega)
   have t2:=A4.c 2 (by omega)
   have t3:=A4.c 3 (by omega)
   have t4:=A4.c 4 (by omega)
   have t5:=A4.c 5 (by omega)
   have hl4:=A4.lt
   have hS:=λW=>Zom en st y v W
   unfold ZlI at hEw hS ⊢
   obtain⟨wc,hwc⟩:∃wc,wc=w4.alloc (.cells #[.int .i64 en,.int .i64 st,.string (y 0),.string (y 1),.string (y 2),.string (y 3),.string (y 4),.string (y 5),.string v] 31):=⟨_,rfl⟩
   have X4:ZX wc w4.heap.size en st y v:=by rw[hwc];exact ZX.boxD w4 _ en st y v
   have hBc:Below w.heap.size w wc:=by rw[hwc];exact hB4.alloc hB4.size _
   replace hwc:=Z_ hwc
   replace X4:=Z_ X4
   replace hBc:=Z_ hBc
   replace hEw:=Z_ hEw
   replace hS:=Z_ hS
   clear g1 g2 hA hG hEe A4 hB4 hQ
   go_wp2_with fail
   rw[<-hwc.out]
   clear hwc t0 t1 t2 t3 t4 t5
   refine(hEw.out _).mono ?_
   rintro e w5 ⟨rfl,b5⟩
   have X5:=X4.out.step b5
   have hB5:=hBc.out.trans (b5.mono hBc.out.size)
   have hx5:=X5.lt
   have p0:=X5.c0
   have p1:=X5.c1
   have p2:=X5.cl 0 (by omega)
   have p3:=X5.cl 1 (by omega)
   have p4:=X5.cl 2 (by omega)
   have p5:=X5.cl 3 (by omega)
   have p6:=X5.cl 4 (by omega)
   have p7:=X5.cl 5 (by omega)
   have p8:=X5.cv
   have hB6:Kp _:=⟨hB5.alloc hB5.size (.cells #[.int .i64 en,.int .i64 st,.string (y 0),.string (y 1),.string (y 2),.string (y 3),.string (y 4),.string (y 5),.string v] 36)⟩
   clear X4 X5 hBc b5 hEw hB5
   go_wp2_with fail
   refine(hS.out _).mono ?_
   rintro e w6 ⟨rfl,b6⟩
   have hB7:Kp _:=⟨hB6.out.trans (b6.mono hB6.out.size)⟩
   clear p0 p1 p2 p3 p4 p5 p6 p7 p8 hS
   go_wp2_with fail
   refine(ZdE _ _).mono ?_
   rintro e w7 ⟨rfl,rfl⟩
   go_wp2
   go_ret
   exact⟨Zd (by simp),hB7.out⟩
  ·obtain⟨rfl,rfl⟩:=g1 hf
   unfold ZjG
   have hBc:Kp _:=⟨hB4.alloc hB4.size (.cells #[.int .i64 0,.int .i64 0,.string {data:=#[]},.string {data:=#[]},.string {data:=#[]},.string {data:=#[]},.string {data:=#[]},.string {data:=#[]},.string {data:=#[]}] 31)⟩
   clear g1 g2 hA hG hEe A4 hB4 hEv
   by_cases hf0:f<0
   ·clear hf
    go_wp2_with fail
    refine(ZdE _ _).mono ?_
    rintro e w7 ⟨rfl,rfl⟩
    go_wp2
    go_ret
    exact⟨Zd (by simp),hBc.out⟩
   ·have hf1:20000<f:=by omega
    clear hf
    go_wp2_with fail
    refine(ZdE _ _).mono ?_
    rintro e w7 ⟨rfl,rfl⟩
    go_wp2
    go_ret
    exact⟨Zd (by simp),hBc.out⟩
 ·have hk:(E != 0)=true:=QO.2 hE
  have hF:=hEe.out hE
  subst hF
  obtain⟨rfl,rfl⟩:=Zqt hA.out
  unfold ZjG
  have hBc:Kp _:=⟨hB4.alloc hB4.size (.cells #[.int .i64 0,.int .i64 0,.string {data:=#[]},.string {data:=#[]},.string {data:=#[]},.string {data:=#[]},.string {data:=#[]},.string {data:=#[]},.string {data:=#[]}] 31)⟩
  clear hA hG hEe A4 hB4 hEv
  go_wp2_with fail
  refine(ZdE _ _).mono ?_
  rintro e w7 ⟨rfl,rfl⟩
  go_wp2
  go_ret
  exact⟨Zd (by simp),hBc.out⟩
end Go.Proofs.YtcnbifdlkalimabGreat
