import Derived.Test.YtcnbifdlkalimabGreatTrnD
import Derived.Test.YtcnbifdlkalimabGreatSrcB
import Derived.Test.YtcnbifdlkalimabGreatSrcC
import Derived.Test.YtcnbifdlkalimabGreatFlwM
import Derived.Test.YtcnbifdlkalimabGreatRdrE
import Derived.Test.YtcnbifdlkalimabGreatRdrF
import Derived.Test.YtcnbifdlkalimabGreatRefB
import Derived.OwnWalk
import Derived.Deep.RegionHeld3
import Derived.Test.YtcnbifdlkalimabGreatRdrI
/- Lemmas for the statement Means; their conditions stand in each. -/
namespace Go.Proofs.YtcnbifdlkalimabGreat
open Go.RowKit Go.Proofs.Tryz
set_option linter.unusedVariables false
variable{s:ZB}
def leakP(s:ZB):Int:=firstF (tabP s) (nP s) (readQ s).ss []
def compE(s:ZB):Int:=if transE s≠0 then transE s else if 8<(readQ s).hi then 8 else if leakP s≠-1 then 9 else 0
def compA(s:ZB):Int:=if transE s≠0 then transA s else if 8<(readQ s).hi then 0 else if leakP s≠-1 then leakP s else 0
def compF(s:ZB):ZB:=if compE s=0 then transF s else {data:=#[]}
theorem ZsB(s:ZB)(h:1<=nP s):VsB (nP s) (headP s).vs:=by
 have key:∀k r (ls vs:List Int),VsB (nP s) vs->VsB (nP s) (ZbB s (nP s) k r ls vs).2.2:=by
  intro k
  induction k with
  | zero=>intro r ls vs hv;exact hv
  | succ k ih=>
   intro r ls vs hv
   simp only[ZbB]
   split
   ·split
    ·exact hv
    ·refine ih _ _ _ λv hm=>?_
     rw[QI,QA]at hm
     rcases hm with c|c
     ·exact hv v c
     ·rw[c];exact Zi4 h
   ·exact hv
 exact key _ _ _ _ (λv hv=>by simp at hv)
structure ZeI(s:ZB):Prop where
 sz:s.size<=300
 er:(endP s).er=0
 n1:1<=nP s
 n6:nP s<=6
 tab:Tab (tabP s) (nP s)
 ord:ZaY (tabP s) (nP s)=true
 lat:Zam (tabP s) (nP s)
 lev:levN (tabP s)=nP s
 j:Jn s (readQ s) (readP s).1
 ss:(readQ s).ss=fls (readP s).1.vs (readP s).1.ex (readP s).1.sm (readP s).2 (-1) 0
 oe:Z7 (readP s).1.ex
 os:ZaQ (readP s).1.ex (readP s).1.sm
 top:∀n,n∈(readP s).2->n<(readP s).1.sm.length
 pn:(readP s).1.n=nP s
 vs:VsB (nP s) (readP s).1.vs
theorem Zgu(h:transE s=0):ZeI s:=by
 unfold transE at h
 by_cases h3:300<s.size
 ·rw[if_pos h3]at h;omega
 rw[if_neg h3]at h
 have he:(endP s).er=0:=by
  by_cases he:(endP s).er=0
  ·exact he
  ·rw[if_pos he]at h;exact h
 rw[if_neg (by rw[he];simp)]at h
 have hl:levE (tabP s)=0:=by
  by_cases hl:levE (tabP s)=0
  ·exact hl
  ·rw[if_pos hl]at h;exact h
 have hR:=Zax s
 obtain⟨hn,_,hvs,_,_,n1,n6,hEx,hSm,hmem,_⟩:=hR.ok he
 have her:(readQ s).r.er=0:=by rw[hR.r];exact he
 have hlev:=Zr6 her hl
 have hN:tabN (tabP s)=nP s:=by rw[<-ZhH hl];exact hlev
 obtain⟨l1,l2,l3⟩:=ZhJ hl
 have hT:=(Zce l1).1
 have hL:=Zo4 hl
 rw[hN]at hT hL l2
 obtain⟨J,hss⟩:=ZrB s (Zhh s) he
 have hpv:(readP s).1.vs=(headP s).vs:=hR.p.2.2
 exact⟨by omega,he,n1,n6,hT,by rw[Zbo];exact l2,hL,hlev,J,by rw[hss,hpv],hEx,hSm,hmem,hR.p.1,by rw[hpv];exact ZsB s n1⟩
theorem ZeI.kinds(H:ZeI s):∀x,x∈(readP s).1.sm->x.k=61∨x.k=62∨x.k=63∨x.k=64:=λx hx=>by
 rcases H.j.sb x hx with c|c|c|c
 ·exact .inl c.1
 ·exact .inr (.inl c.1)
 ·exact .inr (.inr (.inl c))
 ·exact .inr (.inr (.inr c))
theorem ZeI.exb(H:ZeI s):ExB (nP s) (readP s).1.vs.length (readP s).1.ex:=by have:=H.j.eb;rw[H.pn]at this;exact this
theorem ZeI.leak(H:ZeI s):leakP s=brks (tabP s) (nP s) (readP s).1.vs (readP s).1.ex (readP s).1.sm (readP s).2 (botI (tabP s) (nP s)) (-1):=by
 have hp:=H.j.srt
 unfold leakP
 rw[H.ss]at hp ⊢
 exact Zk3 H.lat (by have:=H.n1;omega) H.oe H.os H.exb H.vs H.kinds hp
theorem ZeI.high(H:ZeI s):8<(readQ s).hi↔∃e,e<(readP s).1.ex.length∧8<need (readP s).1.ex e:=by
 constructor
 ·intro h
  rcases H.j.hi with c|⟨e,he,c⟩
  ·omega
  ·exact⟨e,he,by omega⟩
 ·rintro⟨e,he,h⟩
  have:=H.j.nd e he
  omega
set_option maxRecDepth 100000
theorem ZeI.noted(H:ZeI s):(∀x,x∈(readQ s).ss->(x.k=1∨x.k=2->Lv (nP s) x.ta))∧(∀x,x∈(readQ s).ss->0<=x.pl):=by
 have key:∀k i ou b x,x∈flF (readP s).1.vs (readP s).1.ex (readP s).1.sm k i ou b->(x.k=1∨x.k=2->Lv (nP s) x.ta)∧0<=x.pl:=by
  intro k
  induction k with
  | zero=>intro i ou b x hx;simp[flF]at hx
  | succ k ih=>
   intro i ou b x hx
   have hG:∀(l:List Nat) (ou:Int) (b:Nat),x∈flG (flF (readP s).1.vs (readP s).1.ex (readP s).1.sm k) l ou b->(x.k=1∨x.k=2->Lv (nP s) x.ta)∧0<=x.pl:=by
    intro l
    induction l with
    | nil=>intro ou b h;simp[flG]at h
    | cons j l ih2=>
     intro ou b h
     simp only[flG,QI]at h
     rcases h with h|h
     ·exact ih _ _ _ _ h
     ·exact ih2 _ _ h
   simp only[flF]at hx
   cases hm:(readP s).1.sm[i]? with
   | none=>rw[hm]at hx;simp at hx
   | some y=>
    rw[hm]at hx
    simp only[Uc,QI]at hx
    rcases hx with hx|hx|hx
    ·subst hx
     have hsb:=H.j.sb y (Qw hm)
     rw[H.pn]at hsb
     refine⟨λhk=>?_,by show (0:Int)<=(y.a:Nat);omega⟩
     unfold Ziw at hk ⊢
     dsimp only at hk ⊢
     rcases hsb with ⟨c,c1,c2⟩|⟨c,c1,c2⟩|c|c
     ·rw[if_pos c]
      exact H.vs.at (by omega)
     ·rw[if_neg (by omega),if_pos c]
      exact⟨c1,c2⟩
     ·rw[if_neg (by omega),if_neg (by omega),if_pos c]at hk;omega
     ·rw[if_neg (by omega),if_neg (by omega),if_neg (by omega)]at hk;omega
    ·exact hG _ _ _ hx
    ·exact hG _ _ _ hx
 have all:∀x,x∈(readQ s).ss->(x.k=1∨x.k=2->Lv (nP s) x.ta)∧0<=x.pl:=by
  intro x hx
  rw[H.ss]at hx
  have hG:∀(l:List Nat) (ou:Int) (b:Nat),x∈flG (fl (readP s).1.vs (readP s).1.ex (readP s).1.sm) l ou b->(x.k=1∨x.k=2->Lv (nP s) x.ta)∧0<=x.pl:=by
   intro l
   induction l with
   | nil=>intro ou b h;simp[flG]at h
   | cons j l ih2=>
    intro ou b h
    simp only[flG,QI]at h
    rcases h with h|h
    ·exact key _ _ _ _ _ h
    ·exact ih2 _ _ h
  exact hG _ _ _ hx
 exact⟨λx hx=>(all x hx).1,λx hx=>(all x hx).2⟩
theorem ZrY(hs:s.size<=300):(readQ s).ss.length<=10000:=by
 have:=(Zho hs).1
 unfold pot at this
 omega
theorem own6d(w:World)(v0 v1 v2 v3 v4 v5:Value)(t:TypeId):Own (w.alloc (.cells #[v0,v1,v2,v3,v4,v5] t)) w.heap.size [v0,v1,v2,v3,v4,v5]:=own6s w v0 v1 v2 v3 v4 v5 t
set_option maxHeartbeats 6400000
theorem ZjB(s:ZB)(w:World)(hs:s.size<=maxLen) :
  Calls prog 6 #[.string s] w λe w'=>e=.returned (.tuple #[.string (compF s),.int .i64 (compA s),.int .i64 (compE s)])∧Below w.heap.size w w':=by
 have hO:=Znt s w hs
 have hTE:=(ZkA s).1
 have hTA:=(ZkA s).2
 by_cases h0:tqE s=0
 ·have hte:transE s=0:=by rw[<-hTE];exact h0
  have H:=Zgu hte
  have h300:=H.sz
  have hbd:=Zhp h300
  have hF:=ZqX h0
  have hA:tqA s=0:=by
   have e:=h0
   unfold tqE at e
   unfold tqA
   rw[if_neg (by omega)]at e ⊢
   by_cases c:(readQ s).r.er=0
   ·rw[if_neg (by rw[c];simp)]
   ·rw[if_pos c]at e;exact absurd e c
  have her:(readQ s).r.er=0:=by rw[(Zax s).r];exact H.er
  have hTQ:=Ziq her
  have hTs:(tabQ s).size<=100:=by
   rw[hTQ,Zir]
   have:=H.n6
   have:=Us (show (nP s).toNat<=6 by omega) (show (nP s).toNat<=6 by omega)
   omega
  have hln:levN (tabQ s)=nP s:=by rw[hTQ];exact H.lev
  obtain⟨rF,hrF⟩:∃z,compF s=z:=⟨_,rfl⟩
  obtain⟨rA,hrA⟩:∃z,compA s=z:=⟨_,rfl⟩
  obtain⟨rE,hrE⟩:∃z,compE s=z:=⟨_,rfl⟩
  rw[hrF,hrA,hrE]
  replace hO:=Z_ hO
  go_enter func6,ntmps6
  go_wp2_with fail
  refine hO.out.mono ?_
  rintro e w1 ⟨D,rfl,b1,hD⟩
  obtain⟨S,rfl,r1,r2,r3⟩:=hD.out.1 h0
  obtain⟨p1,k1,e1⟩:=Zb r1
  obtain⟨p2,k2,e2⟩:=Zb r2
  obtain⟨p3,k3,e3⟩:=Zb r3
  rw[e1,e2,e3,h0,hA]
  rw[e1]at r1
  rw[e2]at r2
  rw[e3]at r3
  rw[hln,hTQ]
  rw[hln,hTQ]at hF
  rw[hTQ]at hTs
  obtain⟨w2,hw2⟩:∃w2,w2=w1.alloc (.cells #[.int .i64 (nP s),.string (tabP s),.int .i64 (readQ s).hi,.slice p3 (readQ s).ss.length k3,.slice p1 (readQ s).vs.length k1,.slice p2 (readQ s).cd.length k2] 58):=⟨_,rfl⟩
  have b2:Below w1.heap.size w1 w2:=by rw[hw2];exact(Qh _ _).alloc (Qb _) _
  have B2:Kp (Below w.heap.size w w2):=⟨b1.trans (b2.mono b1.size)⟩
  have hFl:=λ(W:World) (hW:Below w2.heap.size w2 W)=>ZoT (nP s) (readQ s).hi (tabP s) p1 p2 p3 k1 k2 k3 (readQ s).ss.length (readQ s).vs (readQ s).cd (w.heap.size+1) W (Zq (Zq r1 b2) hW) (Zq (Zq r2 b2) hW) hTs hbd.2 (by omega)
  rw[hF]at hFl
  have hLk:=Zma H.tab H.ord H.lat (readQ s).ss (.slice p3 (readQ s).ss.length k3) (w.heap.size+1) w2 (Zq r3 b2) (ZrY h300) H.noted.1 H.noted.2
  obtain⟨f,hf⟩:∃f,firstF (tabP s) (nP s) (readQ s).ss []=f:=⟨_,rfl⟩
  have hleak:leakP s=f:=hf
  rw[hf]at hLk
  have O2:=own6d w1 (.int .i64 (nP s)) (.string (tabP s)) (.int .i64 (readQ s).hi) (.slice p3 (readQ s).ss.length k3) (.slice p1 (readQ s).vs.length k1) (.slice p2 (readQ s).cd.length k2) 58
  rw[<-hw2]at O2
  have hcE:compE s=if 8<(readQ s).hi then 8 else if f≠-1 then 9 else 0:=by unfold compE;rw[if_neg (by rw[hte];simp),hleak]
  have hcA:compA s=if 8<(readQ s).hi then 0 else if f≠-1 then f else 0:=by unfold compA;rw[if_neg (by rw[hte];simp),hleak]
  have hcF:compF s=if compE s=0 then transF s else {data:=#[]}:=rfl
  generalize (readQ s).vs.length=vl at *
  generalize (readQ s).cd.length=cl at *
  generalize (readQ s).ss.length=sl at *
  generalize (readQ s).hi=hi at *
  generalize hnn:nP s=n at *
  generalize tabP s=T at *
  replace hFl:=Z_ hFl
  replace hLk:=Z_ hLk
  replace hw2:=Z_ hw2
  replace O2:=Z_ O2
  replace hcF:=Z_ hcF
  rw[hrA]at hcA
  rw[hrE]at hcE
  have hcF2:Kp (rF=if rE=0 then transF s else {data:=#[]}):=⟨by rw[<-hrF,hcF.out,hrE]⟩
  generalize transF s=F at *
  replace hcA:=Z_ hcA
  replace hcE:=Z_ hcE
  clear r1 r2 r3 e1 e2 e3 hD b1 b2 hF hO h0 hA hbd hTE hTA hte H h300 her hTQ hTs hln hleak hf hcF hrF hrA hrE hnn
  by_cases h8:8<hi
  ·have x1:Kp (rE=8∧rA=0∧rF={data:=#[]}):=⟨by
    have a:=hcE.out
    have b:=hcA.out
    have c:=hcF2.out
    rw[if_pos h8]at a b
    rw[a,if_neg (by omega)]at c
    exact⟨a,b,c⟩⟩
   go_wp2_with fail
   refine bodyPost_ret (v:=.tuple #[.string {data:=#[]},.int .i64 0,.int .i64 8]) (by simp[results,Tryz.results6,go_sem]) rfl ⟨by rw[x1.out.1,x1.out.2.1,x1.out.2.2],?_⟩
   have:=B2.out
   rw[hw2.out]at this
   exact this
  ·go_wp2_with fail
   rw[<-hw2.out]
   refine hLk.out.mono ?_
   rintro e w3 ⟨rfl,b3⟩
   have O3:=O2.out.step b3
   have s0:=O3.c 0 _ rfl
   have s1:=O3.c 1 _ rfl
   have s2:=O3.c 2 _ rfl
   have s3:=O3.c 3 _ rfl
   have s4:=O3.c 4 _ rfl
   have s5:=O3.c 5 _ rfl
   obtain⟨gx,hgx⟩:∃gx,Kp (w1.heap.size=gx):=⟨_,⟨rfl⟩⟩
   rw[hgx.out]at s0 s1 s2 s3 s4 s5
   simp only[hgx.out]
   have B3:Kp (Below w.heap.size w w3):=⟨B2.out.trans (b3.mono B2.out.size)⟩
   replace b3:=Z_ b3
   clear O3 O2 hLk hw2
   by_cases hf1:f=-1
   ·have x1:Kp (rE=0∧rA=0∧rF=F):=⟨by
     have a:=hcE.out
     have b:=hcA.out
     have c:=hcF2.out
     rw[if_neg (by omega),if_neg (by rw[hf1];simp)]at a b
     rw[a,if_pos rfl]at c
     exact⟨a,b,c⟩⟩
    rw[if_pos hf1,show (f != -1)=false from by rw[hf1];rfl]
    clear hf1 hcE hcA hcF2 h8
    go_wp2_with fail
    refine(hFl.out _ b3.out).mono ?_
    rintro e w4 ⟨rfl,b4⟩
    replace b4:=Z_ b4
    go_wp2_with fail
    refine bodyPost_ret (v:=.tuple #[.string F,.int .i64 0,.int .i64 0]) (by simp[results,Tryz.results6,go_sem]) rfl ⟨by rw[x1.out.1,x1.out.2.1,x1.out.2.2],B3.out.trans (b4.out.mono B3.out.size)⟩
   ·have x1:Kp (rE=9∧rA=f∧rF={data:=#[]}):=⟨by
     have a:=hcE.out
     have b:=hcA.out
     have c:=hcF2.out
     rw[if_neg (by omega),if_pos hf1]at a b
     rw[a,if_neg (by omega)]at c
     exact⟨a,b,c⟩⟩
    rw[if_neg hf1,show (f != -1)=true from QO.2 hf1]
    clear hf1 hcE hcA hcF2 h8 hFl
    go_wp2_with fail
    refine bodyPost_ret (v:=.tuple #[.string {data:=#[]},.int .i64 f,.int .i64 9]) (by simp[results,Tryz.results6,go_sem]) rfl ⟨by rw[x1.out.1,x1.out.2.1,x1.out.2.2],B3.out⟩
 ·have hcE:compE s=transE s:=if_pos (by rw[<-hTE];exact h0)
  have hcA:compA s=transA s:=if_pos (by rw[<-hTE];exact h0)
  have hcF:compF s={data:=#[]}:=if_neg (by rw[hcE,<-hTE];exact h0)
  rw[hcE,hcA,hcF,<-hTE,<-hTA]
  have hkb:(tqE s != 0)=true:=QO.2 h0
  have hO2:Kp (Calls prog 17 #[.string s] w λe w'=>e=.returned (.tuple #[.agg #[.int .i64 0,.string {data:=#[]},.int .i64 0,.slice none 0 0,.slice none 0 0,.slice none 0 0],.int .i64 (tqA s),.int .i64 (tqE s)])∧Below w.heap.size w w'):=⟨hO.mono λe w' h=>by
   obtain⟨D,rfl,b1,hD⟩:=h
   rw[hD.out.2 h0]
   exact⟨rfl,b1⟩⟩
  clear hO h0 hTE hTA hcE hcA hcF
  generalize tqE s=er at *
  generalize tqA s=ea at *
  go_enter func6,ntmps6
  go_wp2_with fail
  refine hO2.out.mono ?_
  rintro e w1 ⟨rfl,b1⟩
  have hl1:=b1.size
  replace b1:=Z_ b1
  go_wp2_with fail
  refine bodyPost_ret (v:=.tuple #[.string {data:=#[]},.int .i64 ea,.int .i64 er]) (by simp[results,Tryz.results6,go_sem]) rfl ⟨rfl,b1.out.alloc hl1 _⟩
theorem Zba{fn:Func}{t u v x:Tmp}(h:fn.results=#[.tmp t,.tmp u,.tmp v,.tmp x])(tmps:Array Value)(P:Program)(w:World) :
  (results fn tmps).run P w=.ok (.tuple #[tmps.getD t undef,tmps.getD u undef,tmps.getD v undef,tmps.getD x undef]) w:=by
 simp[results,h]
def Zq8(s:ZB)(w:World)(e:Ending)(w':World):Prop:=∃v,e=.returned (.tuple #[v,.string (transF s),.int .i64 (transA s),.int .i64 (transE s)])∧Below w.heap.size w w'∧
 (transE s=0->∃rb sb B tp S sv,v=.pointer (some ⟨sb,0,none⟩)∧Zx w' rb sb B s (readP s).1 (tabP s) tp S sv∧ZaB w' B S tp (readP s).2)
theorem tpost{w w':World}{e:Ending}{F:ZB}{A E:Int}(hF:transF s=F)(hA:transA s=A)(hE:transE s=E)(hz:E≠0)(v:Value)(he:e=.returned (.tuple #[v,.string F,.int .i64 A,.int .i64 E]))(hb:Below w.heap.size w w'):Zq8 s w e w':=⟨v,by rw[hF,hA,hE];exact he,hb,λc=>absurd (hE.symm.trans c) hz⟩
theorem tpost0{w w':World}{e:Ending}{F:ZB}{A:Int}(hF:transF s=F)(hA:transA s=A)(hE:transE s=0){rb sb B:Nat}{tp:Value}{S:Nat->Value}{sv:List (Value×Value)}(v:Value)(hv:v=.pointer (some ⟨sb,0,none⟩))(A1:Zx w' rb sb B s (readP s).1 (tabP s) tp S sv)(I1:ZaB w' B S tp (readP s).2)(he:e=.returned (.tuple #[v,.string F,.int .i64 A,.int .i64 0]))(hb:Below w.heap.size w w'):Zq8 s w e w':=⟨v,by rw[hF,hA,hE];exact he,hb,λ_=>⟨rb,sb,B,tp,S,sv,hv,A1,I1⟩⟩
theorem ZfX(s:ZB)(w:World)(hs:s.size<=maxLen):Calls prog 20 #[.string s] w (Zq8 s w):=by
 by_cases h3:300<s.size
 ·have eF:transF s=⟨#[]⟩:=if_pos (.inl h3)
  have eA:transA s=0:=if_pos h3
  have eE:transE s=1:=if_pos h3
  have hP:=λe w' v=>tpost (e:=e) (w:=w) (w':=w') eF eA eE (by omega) v
  replace hP:=Z_ hP
  have h3i:(300:Int)<(s.size:Int):=by omega
  unfold maxLen at hs
  clear eF eA eE
  go_enter func20,ntmps20
  go_wp2_with fail
  (try simp only[Exit.inBlock,Exit.then]);refine Qi (Zba rfl _ _ _) rfl ?_
  exact hP.out _ _ _ rfl (Qh _ _)
 ·have hs3:s.size<=300:=by omega
  have hPa:=Zin s w hs3
  have h3i:¬(300:Int)<(s.size:Int):=by omega
  by_cases he:(endP s).er=0
  ·obtain⟨hn,_,hvs,_,_,n1,n6,hEx,hSm,hmem,hcd⟩:=(Zax s).ok he
   have hcb:=(Zhp hs3).1
   have hvb:=(Zhp hs3).2
   rw[hcd]at hcb
   have hpn:=(Zax s).p
   have htb:(tabP s).size<=maxLen:=by
    unfold tabP maxLen
    rw[Zc,ZcF]
    have:(nP s).toNat<=6:=by omega
    have:=Us this this
    omega
   have hLv:=λW=>Zlh (tabP s) W htb
   have hOne:=λrb sb B tp S sv=>Zkd rb sb B s (tabP s) tp (readP s).1 S sv hEx hSm ((readP s).1.sm.length+1)
   have hll:=Zg3 hEx hSm (readP s).2 0 hmem
   obtain⟨C,hC⟩:∃C,bs (als (readP s).1.ex (readP s).1.sm (readP s).2 0)=C:=⟨_,rfl⟩
   have hAll:Kp (∀rb sb B tp S sv W,Zx W rb sb B s (readP s).1 (tabP s) tp S sv->ZaB W B S tp (readP s).2->Calls prog 49 #[.pointer (some ⟨sb,0,none⟩),tp,.int .i64 0] W λen w'=>en=.returned (.string C)∧Below W.heap.size W w'):=⟨λrb sb B tp S sv W A I=>by
    rw[<-hC]
    exact ZdK rb sb B s (tabP s) tp (readP s).1 S sv _ ⟨hOne rb sb B tp S sv⟩ (readP s).2 tp 0 W A I (λm hm=>⟨by have:=hmem m hm;omega,hmem m hm⟩) (by omega) (by omega)⟩
   have hCs:C.size=(Zbe s).length:=by rw[<-hC,Zc];rfl
   have hCb:C.size<=5000:=by rw[<-hC,Zc];omega
   obtain⟨ch,hch⟩:∃ch,C.size/2=ch:=⟨_,rfl⟩
   have hLo:=λW=>Zbi C W (by omega)
   rw[hch]at hLo
   have hchc:(Zbe s).length/2=ch:=by rw[<-hCs];exact hch
   have hT0:(if 300<s.size∨(endP s).er≠0∨levE (tabP s)≠0∨200<(Zbe s).length/2 then bs [] else ZaI s)=transF s:=rfl
   have eA:transA s=0:=by unfold transA;rw[if_neg h3,if_neg (by rw[he];simp)]
   have hE0:transE s=if levE (tabP s)≠0 then levE (tabP s) else if 200<ch then 13 else 0:=by unfold transE;rw[if_neg h3,if_neg (by rw[he];simp),hchc]
   rw[hchc]at hT0
   obtain⟨le,hle⟩:∃le,levE (tabP s)=le:=⟨_,rfl⟩
   rw[hle]at hT0 hE0
   have hLv:Kp (∀W,Calls prog 48 #[.string (tabP s)] W λe w'=>e=.returned (.tuple #[.int .i64 (levN (tabP s)),.int .i64 le])∧w'=W):=⟨λW=>by rw[<-hle];exact hLv W⟩
   have hfile:¬le≠0->¬200<ch->transF s=⟨#[83]⟩++bs [nP s%256]++tabP s++bs [((bs (readP s).1.vs).size:Int)%256]++bs (readP s).1.vs++bs [(ch:Int)%256]++C:=λa b=>by
    rw[<-hT0,if_neg (by intro c;rcases c with c|c|c|c<;>omega)]
    unfold ZaI
    rw[hpn.2.2,Zc,hchc,<-hC,show nP s%256=nP s from by omega,show bs [83,nP s]=(⟨#[83]⟩:ZB)++bs [nP s] from by rw[show ([83,nP s]:List Int)=[83]++[nP s] from rfl,Zg];rfl]
    rfl
   have hvz:(bs (readP s).1.vs).size<=1000:=by rw[Zc,hpn.2.2,<-hvs];exact hvb
   have htz:(tabP s).size<=36:=by
    unfold tabP
    rw[Zc,ZcF]
    have:(nP s).toNat<=6:=by omega
    have:=Us this this
    omega
   have hpnn:=hpn.1
   have hPa2:Calls prog 27 #[.string s] w λe w'=>Below w.heap.size w w'∧∃rb sb B tp S sv,e=.returned (.tuple #[.pointer (some ⟨sb,0,none⟩),.int .i64 0,.int .i64 0])∧Zx w' rb sb B s (readP s).1 (tabP s) tp S sv∧ZaB w' B S tp (readP s).2:=hPa.mono λe w' h=>⟨h.1,by
    rcases h.2 with c|c
    ·exact absurd he c.1
    ·exact c.2⟩
   obtain⟨Vv,hVv⟩:∃V,bs (readP s).1.vs=V:=⟨_,rfl⟩
   rw[hVv]at hfile hvz
   obtain⟨nn,hnn⟩:∃nn,nP s=nn:=⟨_,rfl⟩
   rw[hnn]at hfile hpnn
   obtain⟨V1,hV1⟩:∃V,bs [nn%256]=V:=⟨_,rfl⟩
   obtain⟨V2,hV2⟩:∃V,bs [(Vv.size:Int)%256]=V:=⟨_,rfl⟩
   obtain⟨V3,hV3⟩:∃V,bs [(ch:Int)%256]=V:=⟨_,rfl⟩
   have z1:V1.size=1:=by rw[<-hV1,Zc];rfl
   have z2:V2.size=1:=by rw[<-hV2,Zc];rfl
   have z3:V3.size=1:=by rw[<-hV3,Zc];rfl
   have hB1:=λW=>Zj nn W
   have hB2:=λW=>Zj (Vv.size:Int) W
   have hB3:=λW=>Zj (ch:Int) W
   rw[hV1]at hB1 hfile
   rw[hV2]at hB2 hfile
   rw[hV3]at hB3 hfile
   have hcb3:(ch:Int)<=5000:=by omega
   have hX1:Kp (le≠0->transF s=⟨#[]⟩∧transE s=le):=⟨λa=>⟨by rw[<-hT0,if_pos (.inr (.inr (.inl a)))];rfl,by rw[hE0,if_pos a]⟩⟩
   have hX2:Kp (¬le≠0->200<ch->transF s=⟨#[]⟩∧transE s=13):=⟨λa c=>⟨by rw[<-hT0,if_pos (.inr (.inr (.inr c)))];rfl,by rw[hE0,if_neg a,if_pos c]⟩⟩
   have hX3:Kp (¬le≠0->¬200<ch->transF s=⟨#[83]⟩++V1++tabP s++V2++Vv++V3++C∧transE s=0):=⟨λa c=>⟨hfile a c,by rw[hE0,if_neg a,if_neg c]⟩⟩
   have hvs':Kp (bs (readP s).1.vs=Vv):=⟨hVv⟩
   have hP0:=λe w' F rb sb B tp S sv v (eF:transF s=F) (eE:transE s=0)=>tpost0 (s:=s) (w:=w) (e:=e) (w':=w') (rb:=rb) (sb:=sb) (B:=B) (tp:=tp) (S:=S) (sv:=sv) eF eA eE v
   replace hP0:=Z_ hP0
   replace hPa2:=Z_ hPa2
   replace hLo:=Z_ hLo
   replace hB1:=Z_ hB1
   replace hB2:=Z_ hB2
   replace hB3:=Z_ hB3
   replace eA:=Z_ eA
   replace hpnn:=Z_ hpnn
   generalize levN (tabP s)=ln at *
   generalize tabP s=T at *
   generalize readP s=rp at *
   have hqs:Kp (1+V1.size+T.size+V2.size+Vv.size+V3.size+C.size<=100000):=⟨by omega⟩
   clear hPa hn hvs n1 n6 hEx hSm hmem hcd hcb hvb hpn htb hOne hll hC hCs hCb hch hchc hT0 hE0 hle hfile hvz htz hVv hnn hV1 hV2 hV3 z1 z2 z3
   go_enter func20,ntmps20
   go_wp2_with fail
   refine hPa2.out.mono ?_
   rintro e w1 ⟨b1,rb,sb,B,tp,S,sv,rfl,A1,I1⟩
   obtain⟨p1,q1,etp⟩:=Zb I1.1
   subst etp
   have c1:=A1.ct
   have c6:=A1.cp
   replace A1:=Z_ A1
   replace I1:=Z_ I1
   replace b1:=Z_ b1
   clear hPa2
   go_wp2_with fail
   refine(hLv.out _).mono ?_
   rintro e w2 ⟨rfl,hw2⟩
   have hw3:=hw2.symm
   clear hw2
   subst hw3
   by_cases hl0:le=0
   ·subst hl0
    have hAl:=hAll.out rb sb B _ S sv w1 A1.out I1.out
    replace hAl:=Z_ hAl
    go_wp2_with fail
    refine hAl.out.mono ?_
    rintro e w3 ⟨rfl,b3⟩
    have A3:=A1.out.step b3
    have I3:Kp _:=⟨I1.out.step b3⟩
    have b4:Kp _:=⟨b1.out.trans (b3.mono b1.out.size)⟩
    have d0:w3.cell? ⟨sb,0,none⟩=some (.int .i64 nn):=by rw[<-hpnn.out];exact A3.cn
    have d1:=A3.ct
    have d3:w3.cell? ⟨sb,3,none⟩=some (.string Vv):=by rw[<-hvs'.out];exact A3.cv
    replace A3:=Z_ A3
    clear b3 A1 I1 hAll hAl c1 c6 b1
    go_wp2_with fail
    refine(hLo.out _).mono ?_
    rintro e w4 ⟨rfl,hw4⟩
    have hw5:=hw4.symm
    clear hw4
    subst hw5
    by_cases hc2:200<ch
    ·obtain⟨eF,eE⟩:=hX2.out (by simp) hc2
     have hci:(200:Int)<(ch:Int):=by omega
     have hP:=λe w' v=>tpost (e:=e) (w:=w) (w':=w') eF eA.out eE (by omega) v
     replace hP:=Z_ hP
     clear eF eE
     go_wp2_with fail
     (try simp only[Exit.inBlock,Exit.then]);refine Qi (Zba rfl _ _ _) rfl ?_
     exact hP.out _ _ _ rfl b4.out
    ·obtain⟨eF,eE⟩:=hX3.out (by simp) hc2
     have hci:¬(200:Int)<(ch:Int):=by omega
     have hP:=λe w' tp v hv A I he hb=>hP0.out e w' _ rb sb B tp S sv v eF eE hv A I he hb
     replace hP:=Z_ hP
     clear eF eE
     go_wp2_with fail
     have qn1:¬9223372036854775807<1+V1.size:=by have:=hqs.out;omega
     have qn2:¬9223372036854775807<1+V1.size+T.size:=by have:=hqs.out;omega
     have qn3:¬9223372036854775807<1+V1.size+T.size+V2.size:=by have:=hqs.out;omega
     have qn4:¬9223372036854775807<1+V1.size+T.size+V2.size+Vv.size:=by have:=hqs.out;omega
     have qn5:¬9223372036854775807<1+V1.size+T.size+V2.size+Vv.size+V3.size:=by have:=hqs.out;omega
     have qn6:¬9223372036854775807<1+V1.size+T.size+V2.size+Vv.size+V3.size+C.size:=by have:=hqs.out;omega
     go_region_held3 (λw'=>w'.cell? ⟨sb,0,none⟩=some (.int .i64 nn)∧w'.cell? ⟨sb,1,none⟩=some (.string T)∧w'.cell? ⟨sb,3,none⟩=some (.string Vv)) (go_keep) (first
      | (go_at_call_of 51 nn;refine(hB1.out _).mono ?_;rintro en w5 ⟨rfl,bb⟩;have bn:Below w3.heap.size w3 w5:=(by first|exact((Qh _ _).drew).trans bb|exact Q9 (by assumption) (bb.mono (Below.size (w:=w3) (by assumption))));have A5:=A3.out.step bn;have o0:w5.cell? ⟨sb,0,none⟩=some (.int .i64 nn):=(by rw[<-hpnn.out];exact A5.cn);have o1:=A5.ct;have o3:w5.cell? ⟨sb,3,none⟩=some (.string Vv):=(by rw[<-hvs'.out];exact A5.cv);clear bb A5)
      | (go_at_call_of 51 Vv;refine(hB2.out _).mono ?_;rintro en w5 ⟨rfl,bb⟩;have bn:Below w3.heap.size w3 w5:=(by first|exact((Qh _ _).drew).trans bb|exact Q9 (by assumption) (bb.mono (Below.size (w:=w3) (by assumption))));have A5:=A3.out.step bn;have o0:w5.cell? ⟨sb,0,none⟩=some (.int .i64 nn):=(by rw[<-hpnn.out];exact A5.cn);have o1:=A5.ct;have o3:w5.cell? ⟨sb,3,none⟩=some (.string Vv):=(by rw[<-hvs'.out];exact A5.cv);clear bb A5)
      | (go_at_call_of 51 ch;refine(hB3.out _).mono ?_;rintro en w5 ⟨rfl,bb⟩;have bn:Below w3.heap.size w3 w5:=(by first|exact((Qh _ _).drew).trans bb|exact Q9 (by assumption) (bb.mono (Below.size (w:=w3) (by assumption))));have A5:=A3.out.step bn;have o0:w5.cell? ⟨sb,0,none⟩=some (.int .i64 nn):=(by rw[<-hpnn.out];exact A5.cn);have o1:=A5.ct;have o3:w5.cell? ⟨sb,3,none⟩=some (.string Vv):=(by rw[<-hvs'.out];exact A5.cv);clear bb A5)
      | (go_at_call 50;refine(hLo.out _).mono ?_;rintro en w6 ⟨rfl,hw6⟩;subst hw6))
     all_goals
      have b9:Below w3.heap.size w3 w5:=by assumption
      go_wp2_with fail
      (try simp only[Exit.inBlock,Exit.then]);refine Qi (Zba rfl _ _ _) rfl ?_
      exact hP.out _ _ _ _ rfl (A3.out.step b9) (I3.out.step b9) rfl (b4.out.trans (b9.mono b4.out.size))
   ·obtain⟨eF,eE⟩:=hX1.out hl0
    have hk:(le != 0)=true:=QO.2 hl0
    have hP:=λe w' v=>tpost (e:=e) (w:=w) (w':=w') eF eA.out eE hl0 v
    replace hP:=Z_ hP
    clear eF eE
    go_wp2_with fail
    (try simp only[Exit.inBlock,Exit.then]);refine Qi (Zba rfl _ _ _) rfl ?_
    exact hP.out _ _ _ rfl b1.out
  ·have eF:transF s=⟨#[]⟩:=if_pos (.inr (.inl he))
   have eA:transA s=(endP s).a:=by unfold transA;rw[if_neg h3,if_pos he]
   have eE:transE s=(endP s).er:=by unfold transE;rw[if_neg h3,if_pos he]
   have hPa2:Calls prog 27 #[.string s] w λe w'=>Below w.heap.size w w'∧e=.returned (.tuple #[.pointer none,.int .i64 (endP s).a,.int .i64 (endP s).er]):=hPa.mono λe w' h=>⟨h.1,by
    rcases h.2 with c|c
    ·exact c.2
    ·exact absurd c.1 he⟩
   have hP:=λe w' v=>tpost (e:=e) (w:=w) (w':=w') eF eA eE he v
   have hk:((endP s).er != 0)=true:=QO.2 he
   generalize (endP s).a=ea at *
   generalize (endP s).er=ee at *
   replace hP:=Z_ hP
   replace hPa2:=Z_ hPa2
   clear hPa eF eA eE he
   go_enter func20,ntmps20
   go_wp2_with fail
   refine hPa2.out.mono ?_
   rintro e w1 ⟨b1,rfl⟩
   replace b1:=Z_ b1
   go_wp2_with fail
   (try simp only[Exit.inBlock,Exit.then]);refine Qi (Zba rfl _ _ _) rfl ?_
   exact hP.out _ _ _ rfl b1.out
theorem ZqN(T:ZB)(n:Int)(vs:List Int)(ex:List Ex)(sm:List Sm)(l:List Nat)(c:Int):-1<=brks T n vs ex sm l c (-1):=by
 have hL:brks T n vs ex sm l c (-1)=Zen (-1) (badG (λi c=>Zc2 T n vs ex sm (i+1) i c) l c):=
  ZcT _ (λi a=>Zbb T n vs ex sm (i+1) i _ a) (λi m hm=>ZdC T n vs ex sm (i+1) i _ m hm) l (-1) (by omega)
 rw[hL]
 exact Zd9 _ (by omega) (Zcx (f:=λi c=>Zc2 T n vs ex sm (i+1) i c) (λi c a=>Zbb T n vs ex sm (i+1) i c a) c l)
theorem Zey(s:ZB)(w:World)(hs:s.size<=maxLen) :
  Calls prog 7 #[.string s] w λe w'=>e=.returned (.tuple #[.string (compF s),.int .i64 (compA s),.int .i64 (compE s)])∧Below w.heap.size w w':=by
 have hT:=ZfX s w hs
 by_cases h0:transE s=0
 ·have H:=Zgu h0
  have hleak:=H.leak
  have hhigh:=H.high
  obtain⟨pr,hpr⟩:∃f,leakP s=f:=⟨_,rfl⟩
  have hp1:-1<=pr:=by rw[<-hpr,hleak];exact ZqN _ _ _ _ _ _ _
  have hcE:compE s=if 8<(readQ s).hi then 8 else if pr≠-1 then 9 else 0:=by unfold compE;rw[if_neg (by rw[h0];simp),hpr]
  have hcA:compA s=if 8<(readQ s).hi then 0 else if pr≠-1 then pr else 0:=by unfold compA;rw[if_neg (by rw[h0];simp),hpr]
  have hcF:compF s=if compE s=0 then transF s else {data:=#[]}:=rfl
  have hta:transA s=0:=by
   unfold transA
   rw[if_neg (by have:=H.sz;omega),if_neg (by rw[H.er];simp)]
  obtain⟨rF,hrF⟩:∃z,compF s=z:=⟨_,rfl⟩
  obtain⟨rA,hrA⟩:∃z,compA s=z:=⟨_,rfl⟩
  obtain⟨rE,hrE⟩:∃z,compE s=z:=⟨_,rfl⟩
  rw[hrF,hrA,hrE]
  rw[hrF,hrE]at hcF
  rw[hrA]at hcA
  rw[hrE]at hcE
  obtain⟨F,hF⟩:∃F,transF s=F:=⟨_,rfl⟩
  rw[hF]at hcF
  have hT2:Kp (Calls prog 20 #[.string s] w λe w'=>Below w.heap.size w w'∧∃rb sb B tp S sv,e=.returned (.tuple #[.pointer (some ⟨sb,0,none⟩),.string F,.int .i64 0,.int .i64 0])∧Zx w' rb sb B s (readP s).1 (tabP s) tp S sv∧ZaB w' B S tp (readP s).2):=⟨hT.mono λe w' h=>by
   obtain⟨v,a,b,c⟩:=h
   obtain⟨rb,sb,B,tp,S,sv,hv,A,I⟩:=c h0
   exact⟨b,rb,sb,B,tp,S,sv,by rw[a,hF,hta,h0,hv],A,I⟩⟩
  replace hcE:=Z_ hcE
  replace hcA:=Z_ hcA
  replace hcF:=Z_ hcF
  replace hhigh:=Z_ hhigh
  replace H:=Z_ H
  clear hT h0 hta hF hrF hrA hrE
  go_enter func7,ntmps7
  go_wp2_with fail
  refine hT2.out.mono ?_
  rintro e w1 ⟨b1,rb,sb,B,tp,S,sv,rfl,A,I⟩
  have ho:w1.ownsRow B (pT 0) (pZ 0) (S 0) (readP s).1.ex.length (pV (readP s).1 sv 0):=A.o 0 (by omega)
  have hmx:=Zkx ho
  obtain⟨p0,c0,hS0⟩:=Zb ho
  obtain⟨m,hm⟩:∃m,(readP s).1.ex.length=m:=⟨_,rfl⟩
  have hmi:(m:Int)<=9223372036854775807:=by rw[hm]at hmx;unfold maxLen at hmx;omega
  have hpN:=H.out.pn
  have hexb:ExB (readP s).1.n (readP s).1.vs.length (readP s).1.ex:=by rw[hpN];exact H.out.exb
  have hvsb:VsB (readP s).1.n (readP s).1.vs:=by rw[hpN];exact H.out.vs
  have htb:Tab (tabP s) (readP s).1.n:=by rw[hpN];exact H.out.tab
  have hlt:Zam (tabP s) (readP s).1.n:=by rw[hpN];exact H.out.lat
  have hm2:(readP s).1.ex.length<=20000:=by
   have h1:potP s (readP s).1<=6000:=Qg (Zfy s (stmP s (s.size+2)) (Zbl s (s.size+2)) (s.size+1) (headP s) []) (Zkz s H.out.sz)
   unfold potP at h1
   omega
  have hNd:Kp (∀(e:Nat) (W:World),e<m->Below w1.heap.size w1 W->Calls prog 21 #[.pointer (some ⟨sb,0,none⟩),.int .i64 e] W λen w'=>en=.returned (.int .i64 (need (readP s).1.ex e))∧Below W.heap.size W w'):=⟨λe W he hW=>Zkv rb sb B s (tabP s) tp (readP s).1 S sv H.out.oe hm2 (e+1) e W (by omega) (A.step hW) (by rw[hm];exact he)⟩
  have hBo:Kp (∀W,Calls prog 23 #[.string (tabP s),.int .i64 (readP s).1.n] W λe w'=>e=.returned (.int .i64 (botI (tabP s) (readP s).1.n))∧w'=W):=⟨λW=>ZfE htb W⟩
  have hbl:=(Zd8 hlt).1
  have hbk:brks (tabP s) (readP s).1.n (readP s).1.vs (readP s).1.ex (readP s).1.sm (readP s).2 (botI (tabP s) (readP s).1.n) (-1)=pr:=by rw[hpN,<-hleak,hpr]
  have hBr:Kp (∀W,Below w1.heap.size w1 W->Calls prog 22 #[.pointer (some ⟨sb,0,none⟩),tp,.int .i64 (botI (tabP s) (readP s).1.n)] W λen w'=>en=.returned (.int .i64 pr)∧Below W.heap.size W w'):=⟨λW hW=>by
   rw[<-hbk]
   exact Zgr rb sb B s (tabP s) tp (readP s).1 S sv H.out.oe H.out.os hexb hvsb (λx hx=>H.out.j.sb x hx) htb hlt (readP s).1.sm.length (readP s).2 tp _ W (λn hn=>⟨H.out.top n hn,H.out.top n hn⟩) (A.step hW) (I.step hW) hbl⟩
  obtain⟨pt,ctp,htp⟩:=Zb I.1
  have hhi2:Kp (8<(readQ s).hi↔∃e,e<m∧8<need (readP s).1.ex e):=⟨by rw[<-hm];exact hhigh.out⟩
  have g4:Kp (∀W,Below w1.heap.size w1 W->W.cell? ⟨sb,4,none⟩=some (.slice p0 m c0)∧W.cell? ⟨sb,6,none⟩=some tp∧W.cell? ⟨sb,1,none⟩=some (.string (tabP s))∧W.cell? ⟨sb,0,none⟩=some (.int .i64 (readP s).1.n)):=⟨λW hW=>by
   have A2:=A.step hW
   refine⟨?_,A2.cp,A2.ct,A2.cn⟩
   have:=A2.c 0 (by omega)
   rw[hS0,hm]at this
   exact this⟩
  subst htp
  generalize hnn:need (readP s).1.ex=nd at *
  generalize hbb:botI (tabP s) (readP s).1.n=bt at *
  generalize tabP s=T at *
  generalize (readP s).1.n=N at *
  generalize (readP s).2.length=tl at *
  generalize (readQ s).hi=hi at *
  replace b1:=Z_ b1
  clear A I H hm hmx hS0 ho hpN hexb hvsb htb hlt hm2 hbl hbk hhigh hT2 hleak hnn hbb
  go_wp2_with fail
  go_loopw [9] (λd wr=>∃i:Nat,d=.int .i64 i∧i<=m∧Kp (∀e,e<i->nd e<=8)∧Kp (Below w1.heap.size w1 wr)) (λd _=>m-(intOf d).toNat)
  case atStart=>exact⟨0,rfl,Q8 _,⟨λe he=>by omega⟩,⟨Qh _ _⟩⟩
  case round=>
   obtain⟨i,rfl,hi1,hall,hb⟩:=hrel
   obtain⟨q4,q6,q1,q0⟩:=g4.out wr hb.out
   by_cases hlt:i<m
   ·have hii:(i:Int)<(m:Int):=by omega
    have hN1:=hNd.out i wr hlt hb.out
    obtain⟨z,hz⟩:∃z,nd i=z:=⟨_,rfl⟩
    rw[hz]at hN1
    replace hN1:=Z_ hN1
    replace hz:=Z_ hz
    go_wp2_with fail
    refine hN1.out.mono ?_
    rintro e w2 ⟨rfl,b2⟩
    have b3:Kp (Below w1.heap.size w1 w2):=⟨hb.out.trans (b2.mono hb.out.size)⟩
    clear b2 q4 q6 q1 q0
    by_cases h8:8<z
    ·have x1:Kp (rE=8∧rA=0∧rF={data:=#[]}):=⟨by
      have hh:8<hi:=hhi2.out.2 ⟨i,hlt,by rw[hz.out];exact h8⟩
      have a:=hcE.out
      have b:=hcA.out
      have c:=hcF.out
      rw[if_pos hh]at a b
      rw[a,if_neg (by omega)]at c
      exact⟨a,b,c⟩⟩
     clear hcE hcA hcF hhi2
     go_wp2_with fail
     refine bodyPost_ret (v:=.tuple #[.string {data:=#[]},.int .i64 0,.int .i64 8]) (by simp[results,Tryz.results7,go_sem]) rfl ⟨by rw[x1.out.1,x1.out.2.1,x1.out.2.2],b1.out.trans (b3.out.mono b1.out.size)⟩
    ·have hall2:Kp (∀e,e<i+1->nd e<=8):=⟨λe he=>by
      by_cases c:e=i
      ·rw[c,hz.out];omega
      ·exact hall.out e (by omega)⟩
     go_wp2_with fail
     go_roundw
     case rel=>exact⟨i+1,by go_num,by omega,hall2,b3⟩
     case measure=>simp[intOf];omega
   ·have hni:¬(i:Int)<(m:Int):=by omega
    have hh:Kp (¬8<hi):=⟨λh=>by
     obtain⟨e,he,h2⟩:=hhi2.out.1 h
     have:=hall.out e (by omega)
     omega⟩
    clear hall hhi2 hNd
    go_wp2_with fail
    go_region_held3 (λw'=>w'.cell? ⟨sb,6,none⟩=some (.slice pt tl ctp)∧w'.cell? ⟨sb,1,none⟩=some (.string T)∧w'.cell? ⟨sb,0,none⟩=some (.int .i64 N)) (go_keep) (first
     | (go_at_call 23;refine(hBo.out _).mono ?_;rintro en w6 ⟨rfl,hw6⟩;subst hw6)
     | (go_at_call 22;refine(hBr.out _ (hb.out.drew)).mono ?_;rintro en w5 ⟨rfl,bb⟩;have bn:Below w1.heap.size w1 w5:=(hb.out.drew.trans (bb.mono hb.out.drew.size));have o0:=(g4.out _ bn).2.1;have o1:=(g4.out _ bn).2.2.1;have o2:=(g4.out _ bn).2.2.2;clear bb))
    have b9:Kp (Below w1.heap.size w1 w5):=⟨by assumption⟩
    clear q4 q6 q1 q0
    by_cases hf1:pr=-1
    ·have x1:Kp (rE=0∧rA=0∧rF=F):=⟨by
      have a:=hcE.out
      have b:=hcA.out
      have c:=hcF.out
      rw[if_neg (by have:=hh.out;omega),if_neg (by rw[hf1];simp)]at a b
      rw[a,if_pos rfl]at c
      exact⟨a,b,c⟩⟩
     have hpn:pr<0:=by omega
     clear hcE hcA hcF hf1
     go_wp2_with fail
     refine bodyPost_ret (v:=.tuple #[.string F,.int .i64 0,.int .i64 0]) (by simp[results,Tryz.results7,go_sem]) rfl ⟨by rw[x1.out.1,x1.out.2.1,x1.out.2.2],b1.out.trans (b9.out.mono b1.out.size)⟩
    ·have x1:Kp (rE=9∧rA=pr∧rF={data:=#[]}):=⟨by
      have a:=hcE.out
      have b:=hcA.out
      have c:=hcF.out
      rw[if_neg (by have:=hh.out;omega),if_pos hf1]at a b
      rw[a,if_neg (by omega)]at c
      exact⟨a,b,c⟩⟩
     have hpn:¬pr<0:=by omega
     clear hcE hcA hcF hf1
     go_wp2_with fail
     refine bodyPost_ret (v:=.tuple #[.string {data:=#[]},.int .i64 pr,.int .i64 9]) (by simp[results,Tryz.results7,go_sem]) rfl ⟨by rw[x1.out.1,x1.out.2.1,x1.out.2.2],b1.out.trans (b9.out.mono b1.out.size)⟩
 ·have hcE:compE s=transE s:=if_pos h0
  have hcA:compA s=transA s:=if_pos h0
  have hcF:compF s={data:=#[]}:=if_neg (by rw[hcE];exact h0)
  rw[hcE,hcA,hcF]
  have hkb:(transE s != 0)=true:=QO.2 h0
  have hT2:Kp (Calls prog 20 #[.string s] w λe w'=>∃v,e=.returned (.tuple #[v,.string (transF s),.int .i64 (transA s),.int .i64 (transE s)])∧Below w.heap.size w w'):=⟨hT.mono λe w' h=>by obtain⟨v,a,b,_⟩:=h;exact⟨v,a,b⟩⟩
  clear hT h0 hcE hcA hcF
  generalize transE s=er at *
  generalize transA s=ea at *
  generalize transF s=F at *
  go_enter func7,ntmps7
  go_wp2_with fail
  refine hT2.out.mono ?_
  rintro e w1 ⟨v,rfl,b1⟩
  replace b1:=Z_ b1
  go_wp2_with fail
  refine bodyPost_ret (v:=.tuple #[.string {data:=#[]},.int .i64 ea,.int .i64 er]) (by simp[results,Tryz.results7,go_sem]) rfl ⟨rfl,b1.out⟩
end Go.Proofs.YtcnbifdlkalimabGreat
