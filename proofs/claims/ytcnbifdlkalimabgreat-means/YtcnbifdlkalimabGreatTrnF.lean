import Derived.Test.YtcnbifdlkalimabGreatWayB
import Derived.Test.YtcnbifdlkalimabGreatPlnA
import Derived.Deep.QuietTactic
import Derived.BigQuiet
import Derived.Deep.LoopGhost
import Derived.Test.YtcnbifdlkalimabGreatLatM
import Derived.Maps.AppendAt
import Derived.Laws.OwnMore
import Derived.Deep.RegionHeld
/- Lemmas for the statement Means; their conditions stand in each. -/
namespace Go.Proofs.YtcnbifdlkalimabGreat
open Go.RowKit Go.Proofs.Tryz
set_option linter.unusedVariables false
set_option maxRecDepth 100000
variable{c:Int}{xs:List Value}{B b g k z:Nat}{S S':Nat->Value}{r:Rd}{q:Tq}{v:Value}{w w':World}{s:ZB}
structure Zct(w:World)(b:Nat)(s:ZB)(r:Rd):Prop where
 lt:b<w.heap.size
 c0:w.cell? ⟨b,0,none⟩=some (.string s)
 c1:w.cell? ⟨b,1,none⟩=some (.int .i64 r.a)
 c2:w.cell? ⟨b,2,none⟩=some (.int .i64 r.er)
 f1:w.frozen? ⟨b,1,none⟩=false
 f2:w.frozen? ⟨b,2,none⟩=false
structure Zi(w w':World)(b:Nat)(r:Rd):Prop where
 os:w'.os=w.os
 tape:w'.tape=w.tape
 output:w'.output=w.output
 size:w'.heap.size=w.heap.size
 block:∀k,k≠b->w'.heap[k]?=w.heap[k]?
 cell:∀k,k≠1->k≠2->w'.cell? ⟨b,k,none⟩=w.cell? ⟨b,k,none⟩
 frozen:∀k,w'.frozen? ⟨b,k,none⟩=w.frozen? ⟨b,k,none⟩
 c1:w'.cell? ⟨b,1,none⟩=some (.int .i64 r.a)
 c2:w'.cell? ⟨b,2,none⟩=some (.int .i64 r.er)
theorem Zct.to{r':Rd}(H:Zct w b s r)(h:Zi w w' b r'):Zct w' b s r':=
 ⟨by rw[h.size];exact H.lt,by rw[h.cell 0 (by omega) (by omega)];exact H.c0,h.c1,h.c2,by rw[h.frozen];exact H.f1,by rw[h.frozen];exact H.f2⟩
theorem Zi.trans{x y z:World}{r':Rd}(h:Zi x y b r)(k:Zi y z b r'):Zi x z b r':=
 ⟨k.os.trans h.os,k.tape.trans h.tape,k.output.trans h.output,k.size.trans h.size,λi hi=>(k.block i hi).trans (h.block i hi),λi h1 h2=>(k.cell i h1 h2).trans (h.cell i h1 h2),λi=>(k.frozen i).trans (h.frozen i),k.c1,k.c2⟩
theorem Zi.refl(H:Zct w b s r):Zi w w b r:=
 ⟨rfl,rfl,rfl,rfl,λ_ _=>rfl,λ_ _ _=>rfl,λ_=>rfl,H.c1,H.c2⟩
theorem Zi.drewN(h:Zi w w' b r)(k:Nat):Zi w (w'.drewN k) b r:=
 ⟨h.os,h.tape,h.output,h.size,h.block,h.cell,h.frozen,h.c1,h.c2⟩
theorem coff(w:World)(b i j:Nat)(x:Value)(h:i≠j):(w.setCell ⟨b,i,none⟩ x).cell? ⟨b,j,none⟩=w.cell? ⟨b,j,none⟩:=
 QN w ⟨b,i,none⟩ ⟨b,j,none⟩ x (by intro k;have:=congrArg Addr.off k;simp at this;omega)
theorem Zi.setA(H:Zct w b s r)(a:Nat):Zi w (w.setCell ⟨b,1,none⟩ (.int .i64 a)) b ⟨a,r.er⟩:=
 ⟨rfl,rfl,rfl,by simp,λk hk=>QH w ⟨b,1,none⟩ _ k hk,λk h1 _=>coff _ _ _ _ _ (by omega),λk=>Qu ..,Qk _ _ _ H.c1,by rw[coff _ _ _ _ _ (by omega)];exact H.c2⟩
theorem Zi.setE(H:Zct w b s r)(e:Int):Zi w (w.setCell ⟨b,2,none⟩ (.int .i64 e)) b ⟨r.a,e⟩:=
 ⟨rfl,rfl,rfl,by simp,λk hk=>QH w ⟨b,2,none⟩ _ k hk,λk h1 _=>coff _ _ _ _ _ (by omega),λk=>Qu ..,by rw[coff _ _ _ _ _ (by omega)];exact H.c1,Qk _ _ _ H.c2⟩
structure ZbV(s:ZB)(r:Rd):Prop where
 sz:s.size<=300
 le:r.a<=s.size
set_option maxHeartbeats 6400000
theorem ZdL(b:Nat)(s:ZB)(r:Rd)(w:World)(H:Zct w b s r)(O:ZbV s r) :
  Calls prog 210 #[.pointer (some ⟨b,0,none⟩)] w λe w'=>e=.returned (.int .u8 (here s r))∧∃k,w'=w.drewN k:=by
 obtain⟨a,er⟩:=r
 have c0:=H.c0
 have c1:w.cell? ⟨b,1,none⟩=some (.int .i64 a):=H.c1
 have c2:w.cell? ⟨b,2,none⟩=some (.int .i64 er):=H.c2
 have sz:=O.sz
 have le:a<=s.size:=O.le
 by_cases h0:er=0
 ·subst h0
  by_cases h1:a<s.size
  ·have hv:=ZS s a h1
   have hx:here s ⟨a,0⟩=bv s a:=if_pos ⟨rfl,h1⟩
   rw[hx]
   obtain⟨x0,x9⟩:=Zag s a
   generalize bv s a=x at *
   clear hx H O
   have d1:decide ((a:Int)<0)=false:=Qx (by omega)
   have d2:decide ((s.size:Int)<=(a:Int))=false:=Qx (by omega)
   have hai:(a:Int)<(s.size:Int):=by omega
   go_enter func210,ntmps210
   go_wp2
   go_quiet (fail)
   go_wp2
   go_quiet (fail)
   go_wp2
   go_ret
   exact⟨rfl,_,World.drewN_drewN _ _ _⟩
  ·have hx:here s ⟨a,0⟩=0:=if_neg λk=>h1 k.2
   rw[hx]
   have d1:decide ((a:Int)<0)=false:=Qx (by omega)
   have d2:decide ((s.size:Int)<=(a:Int))=true:=Qv (by omega)
   have h2:s.size<=a:=by omega
   clear hx H O h1 le
   go_enter func210,ntmps210
   go_wp2
   go_quiet (fail)
   go_wp2
   go_ret
   exact⟨rfl,_,rfl⟩
 ·have hx:here s ⟨a,er⟩=0:=ZjS h0
  rw[hx]
  have hk:(er != 0)=true:=QO.2 h0
  clear hx H O h0
  go_enter func210,ntmps210
  go_wp2
  go_quiet (fail)
  go_wp2
  go_ret
  exact⟨rfl,_,rfl⟩
theorem ZoG(h:here s r=32∨here s r=10):adv s r=adv s (nx r):=by
 have hp:=ZcQ (s:=s) (r:=r) (by omega)
 have hv:here s r=bv s r.a:=if_pos hp
 rw[Zb0 hp.1,Zb0 (by rw[Zdt];exact hp.1)]
 have:(nx r).a=r.a+1:=by unfold nx;rw[if_pos hp.1]
 rw[this,Zl0 hp.2]
 rw[hv]at h
 unfold blk
 rcases h with h|h<;>rw[h]<;>rfl
theorem Zjk(h1:here s r≠32)(h2:here s r≠10):adv s r=r:=by
 by_cases he:r.er=0
 ·rw[Zb0 he,Zf7]
  ·rw[<-he]
  ·rintro⟨a,b⟩
   have hv:here s r=bv s r.a:=if_pos ⟨he,a⟩
   rw[hv]at h1 h2
   unfold blk at b
   simp[h1,h2]at b
 ·exact Zz he
theorem Zac(b:Nat)(s:ZB)(r:Rd)(w:World)(H:Zct w b s r)(O:ZbV s r) :
  Calls prog 158 #[.pointer (some ⟨b,0,none⟩)] w λe w'=>e=.returned (.int .u8 (tok s r))∧Zi w w' b (adv s r):=by
 have sz:=O.sz
 go_enter func158,ntmps158
 go_wp2_with fail
 refine(ZdL b s r w H O).mono ?_
 rintro e w1 ⟨rfl,k1,rfl⟩
 have T0:Kp (Zi w (w.drewN k1) b r):=⟨(Zi.refl H).drewN k1⟩
 have H':Kp _:=⟨H⟩
 have hle:Kp (r.a<=s.size):=⟨O.le⟩
 clear H O
 go_wp2_with fail
 go_loopg [3] (rem s r) (λg nv wr=>∃r':Rd,nv=.int .u8 (here s r')∧Kp (adv s r'=adv s r)∧Kp (r'.a<=s.size)∧Kp (Zi w wr b r')∧Kp (g=rem s r'))
 case atStart=>exact⟨r,rfl,⟨rfl⟩,hle,T0,⟨rfl⟩⟩
 case round=>
  clear T0 hle
  obtain⟨r',rfl,ha,hle,hT,hg⟩:=hrel
  by_cases hb:here s r'=32∨here s r'=10
  ·have hp:=ZcQ (s:=s) (r:=r') (by omega)
   have hA:=H'.out.to hT.out
   obtain⟨a,er⟩:=r'
   have he:er=0:=hp.1
   subst he
   have ha2:a<s.size:=hp.2
   have c1:wr.cell? ⟨b,1,none⟩=some (.int .i64 a):=hA.c1
   have f1:=hA.f1
   have T1:Zi wr (wr.setCell ⟨b,1,none⟩ (.int .i64 ((a:Int)+1))) b ⟨a+1,0⟩:=Zi.setA hA (a+1)
   have A1:=hA.to T1
   have hh:=ZdL b s ⟨a+1,0⟩ ((wr.setCell ⟨b,1,none⟩ (.int .i64 ((a:Int)+1)))) A1 ⟨sz,ha2⟩
   have e1:Kp (adv s ⟨a+1,0⟩=adv s r):=⟨by rw[<-ha.out,ZoG hb];rfl⟩
   have hm:Kp (rem s ⟨a+1,0⟩<rem s ⟨a,0⟩):=⟨Zcv (s:=s) (r:=⟨a,0⟩) (by omega)⟩
   have T2:Kp (Zi w (wr.setCell ⟨b,1,none⟩ (.int .i64 ((a:Int)+1))) b ⟨a+1,0⟩):=⟨hT.out.trans T1⟩
   replace hh:=Z_ hh
   clear T1 A1 hA hp hT
   have hbb:here s ⟨a,0⟩=32∨here s ⟨a,0⟩=10:=hb
   generalize here s ⟨a,0⟩=x at *
   clear hb
   rcases hbb with rfl|rfl
   all_goals
    go_wp2_with fail
    refine hh.out.mono ?_
    rintro e w2 ⟨rfl,k2,rfl⟩
    go_wp2_with fail
    go_roundg (rem s ⟨a+1,0⟩)
    case measure=>have h1:=hg.out;have h2:=hm.out;omega
    case rel=>exact⟨⟨a+1,0⟩,rfl,e1,⟨by show a+1<=s.size;omega⟩,⟨T2.out.drewN k2⟩,⟨rfl⟩⟩
  ·have h1:here s r'≠32:=λc=>hb (.inl c)
   have h2:here s r'≠10:=λc=>hb (.inr c)
   have e1:=Zjk h1 h2
   have e2:Kp (here s r'=tok s r):=⟨by unfold tok;rw[<-ha.out,e1]⟩
   have T2:Kp (Zi w wr b (adv s r)):=⟨by rw[<-ha.out,e1];exact hT.out⟩
   have b1:(here s r'==32)=false:=Qf.2 h1
   have b2:(here s r'==10)=false:=Qf.2 h2
   clear e1 hT hb h1 h2 hg ha
   generalize here s r'=x at *
   go_wp2
   go_ret
   exact⟨by rw[e2.out];rfl,T2.out⟩
theorem Za9(b:Nat)(s:ZB)(r:Rd)(w:World)(H:Zct w b s r)(O:ZbV s r) :
  Calls prog 160 #[.pointer (some ⟨b,0,none⟩)] w λe w'=>e=.returned (.tuple #[])∧Zi w w' b (nx r):=by
 obtain⟨a,er⟩:=r
 have c1:w.cell? ⟨b,1,none⟩=some (.int .i64 a):=H.c1
 have c2:w.cell? ⟨b,2,none⟩=some (.int .i64 er):=H.c2
 have f1:=H.f1
 have sz:=O.sz
 have le:a<=s.size:=O.le
 by_cases h0:er=0
 ·subst h0
  have T:Kp (Zi w (w.setCell ⟨b,1,none⟩ (.int .i64 ((a:Int)+1))) b (nx ⟨a,0⟩)):=⟨Zi.setA H (a+1)⟩
  clear H O
  go_enter func160,ntmps160
  go_wp2_with fail
  first|go_end0|refine Qi (Qp rfl _ _ _) rfl ?_
  exact⟨rfl,T.out⟩
 ·have T:Kp (Zi w w b (nx ⟨a,er⟩)):=⟨by rw[Zpb h0];exact Zi.refl H⟩
  have hk:(er==0)=false:=Qf.2 h0
  clear H O
  go_enter func160,ntmps160
  go_wp2_with fail
  first|go_end0|refine Qi (Qp rfl _ _ _) rfl ?_
  exact⟨rfl,T.out⟩
theorem Zat(b:Nat)(s:ZB)(r:Rd)(x:Int)(w:World)(H:Zct w b s r) :
  Calls prog 159 #[.pointer (some ⟨b,0,none⟩),.int .i64 x] w λe w'=>e=.returned (.tuple #[])∧Zi w w' b (rfs r x):=by
 obtain⟨a,er⟩:=r
 have c1:w.cell? ⟨b,1,none⟩=some (.int .i64 a):=H.c1
 have c2:w.cell? ⟨b,2,none⟩=some (.int .i64 er):=H.c2
 have f1:=H.f2
 by_cases h0:er=0
 ·subst h0
  have T:Kp (Zi w (w.setCell ⟨b,2,none⟩ (.int .i64 x)) b (rfs ⟨a,0⟩ x)):=⟨Zi.setE H x⟩
  clear H
  go_enter func159,ntmps159
  go_wp2_with fail
  first|go_end0|refine Qi (Qp rfl _ _ _) rfl ?_
  exact⟨rfl,T.out⟩
 ·have T:Kp (Zi w w b (rfs ⟨a,er⟩ x)):=⟨by rw[ZiS h0];exact Zi.refl H⟩
  have hk:(er==0)=false:=Qf.2 h0
  clear H
  go_enter func159,ntmps159
  go_wp2_with fail
  first|go_end0|refine Qi (Qp rfl _ _ _) rfl ?_
  exact⟨rfl,T.out⟩
theorem ZbV.adv(O:ZbV s r):ZbV s (Go.Proofs.YtcnbifdlkalimabGreat.adv s r):=⟨O.sz,Ze O.le⟩
theorem ZbV.tk(O:ZbV s r)(hc:c≠0):ZbV s (Go.Proofs.YtcnbifdlkalimabGreat.tk s r c):=⟨O.sz,Z0 O.le hc⟩
theorem ZbV.nx(O:ZbV s r)(h:here s r≠0):ZbV s (Go.Proofs.YtcnbifdlkalimabGreat.nx r):=⟨O.sz,Zn1 h⟩
theorem Zau(b:Nat)(s:ZB)(r:Rd)(c:Int)(w:World)(H:Zct w b s r)(O:ZbV s r) :
  Calls prog 92 #[.pointer (some ⟨b,0,none⟩),.int .u8 c] w λe w'=>e=.returned (.tuple #[])∧Zi w w' b (tk s r c):=by
 have A1:=λ(w1:World) (T:Zi w w1 b (adv s r))=>H.to T
 have O1:=O.adv
 have hP:=Zac b s r w H O
 by_cases h:tok s r=c
 ·have e1:tk s r c=nx (adv s r):=by unfold tk Zbn;rw[if_pos (by rw[QL];exact h)]
  rw[e1]
  rw[h]at hP
  replace hP:=Z_ hP
  replace A1:=Z_ A1
  clear H O e1 h
  go_enter func92,ntmps92
  go_wp2_with fail
  refine hP.out.mono ?_
  rintro e w1 ⟨rfl,T1⟩
  have hS:=Za9 b s (adv s r) w1 (A1.out w1 T1) O1
  replace hS:=Z_ hS
  replace T1:=Z_ T1
  clear A1 O1
  go_wp2_with fail
  refine hS.out.mono ?_
  rintro e w2 ⟨rfl,T2⟩
  go_wp2_with fail
  first|go_end0|refine Qi (Qp rfl _ _ _) rfl ?_
  exact⟨rfl,T1.out.trans T2⟩
 ·have hk:(tok s r != c)=true:=QO.2 h
  have e1:tk s r c=rfs (adv s r) 11:=by unfold tk Zbn;rw[if_neg (by rw[QL];exact h)]
  rw[e1]
  generalize tok s r=x at *
  replace hP:=Z_ hP
  replace A1:=Z_ A1
  clear H O e1 h
  go_enter func92,ntmps92
  go_wp2_with fail
  refine hP.out.mono ?_
  rintro e w1 ⟨rfl,T1⟩
  have hS:=Zat b s (adv s r) 11 w1 (A1.out w1 T1)
  replace hS:=Z_ hS
  replace T1:=Z_ T1
  clear A1 O1
  go_wp2_with fail
  refine hS.out.mono ?_
  rintro e w2 ⟨rfl,T2⟩
  go_wp2_with fail
  first|go_end0|refine Qi (Qp rfl _ _ _) rfl ?_
  exact⟨rfl,T1.out.trans T2⟩
theorem Zdh(x:Int)(w:World):Calls prog 236 #[.int .u8 x] w λe w'=>e=.returned (.bool (decide (48<=x∧x<=57)))∧w'=w:=by
 by_cases h1:48<=x
 ·by_cases h2:x<=57
  ·rw[show decide (48<=x∧x<=57)=true from Qv ⟨h1,h2⟩]
   go_enter func236,ntmps236
   go_wp2
   go_ret
   exact⟨rfl,rfl⟩
  ·rw[show decide (48<=x∧x<=57)=false from Qx (λk=>h2 k.2)]
   go_enter func236,ntmps236
   go_wp2
   go_ret
   exact⟨rfl,rfl⟩
 ·rw[show decide (48<=x∧x<=57)=false from Qx (λk=>h1 k.1)]
  go_enter func236,ntmps236
  go_wp2
  go_ret
  exact⟨rfl,rfl⟩
theorem Zeu(x:Int)(w:World):Calls prog 161 #[.int .u8 x] w λe w'=>e=.returned (.bool (isL x))∧w'=w:=by
 unfold isL
 by_cases h1:97<=x
 ·by_cases h2:x<=104
  ·rw[show decide (97<=x∧x<=104)=true from Qv ⟨h1,h2⟩]
   go_enter func161,ntmps161
   go_wp2
   go_ret
   exact⟨rfl,rfl⟩
  ·rw[show decide (97<=x∧x<=104)=false from Qx (λk=>h2 k.2)]
   go_enter func161,ntmps161
   go_wp2
   go_ret
   exact⟨rfl,rfl⟩
 ·rw[show decide (97<=x∧x<=104)=false from Qx (λk=>h1 k.1)]
  go_enter func161,ntmps161
  go_wp2
  go_ret
  exact⟨rfl,rfl⟩
theorem Zev(b:Nat)(s:ZB)(r:Rd)(c:Int)(w:World)(H:Zct w b s r)(O:ZbV s r) :
  Calls prog 89 #[.pointer (some ⟨b,0,none⟩),.int .u8 c] w λe w'=>e=.returned (.bool (decide (r.er=0∧tok s r≠c)))∧Zi w w' b (adv s r):=by
 have hP:=Zac b s r w H O
 have he:(adv s r).er=r.er:=Zk s r
 replace hP:=Z_ hP
 replace he:=Z_ he
 obtain⟨er,her⟩:∃er,r.er=er:=⟨_,rfl⟩
 obtain⟨x,hx⟩:∃x,tok s r=x:=⟨_,rfl⟩
 rw[her]at he
 rw[her,hx]
 rw[hx]at hP
 clear H O her hx
 by_cases h0:er=0
 ·subst h0
  by_cases h1:x=c
  ·subst h1
   rw[show decide ((0:Int)=0∧x≠x)=false from Qx (λk=>k.2 rfl)]
   go_enter func89,ntmps89
   go_wp2_with fail
   refine hP.out.mono ?_
   rintro e w1 ⟨rfl,T1⟩
   have c2:=T1.c2
   rw[he.out]at c2
   replace T1:=Z_ T1
   go_wp2
   go_ret
   exact⟨rfl,T1.out⟩
  ·rw[show decide ((0:Int)=0∧x≠c)=true from Qv ⟨rfl,h1⟩]
   have hk:(x != c)=true:=QO.2 h1
   clear h1
   go_enter func89,ntmps89
   go_wp2_with fail
   refine hP.out.mono ?_
   rintro e w1 ⟨rfl,T1⟩
   have c2:=T1.c2
   rw[he.out]at c2
   replace T1:=Z_ T1
   go_wp2
   go_ret
   exact⟨rfl,T1.out⟩
 ·rw[show decide (er=0∧x≠c)=false from Qx (λk=>h0 k.1)]
  have hk:(er==0)=false:=Qf.2 h0
  clear h0
  go_enter func89,ntmps89
  go_wp2_with fail
  refine hP.out.mono ?_
  rintro e w1 ⟨rfl,T1⟩
  have c2:=T1.c2
  rw[he.out]at c2
  replace T1:=Z_ T1
  go_wp2
  go_ret
  exact⟨rfl,T1.out⟩
theorem Zfp(b:Nat)(s:ZB)(r:Rd)(w:World)(H:Zct w b s r)(O:ZbV s r) :
  Calls prog 94 #[.pointer (some ⟨b,0,none⟩)] w λe w'=>e=.returned (.bool (decide (r.er=0∧(adv s r).a<s.size)))∧Zi w w' b (adv s r):=by
 have hP:=Zac b s r w H O
 have hA:=λ(w1:World) (T:Zi w w1 b (adv s r))=>H.to T
 have he:(adv s r).er=r.er:=Zk s r
 have sz:=O.sz
 have le:=O.adv.le
 replace hP:=Z_ hP
 replace hA:=Z_ hA
 obtain⟨er,her⟩:∃er,r.er=er:=⟨_,rfl⟩
 rw[her]at he ⊢
 generalize adv s r=r1 at *
 obtain⟨a,er1⟩:=r1
 have he:er1=er:=he
 have le:a<=s.size:=le
 subst he
 generalize tok s r=x at *
 clear H O her
 show Calls _ _ _ _ λe w'=>e=.returned (.bool (decide (er1=0∧a<s.size)))∧_
 by_cases h0:er1=0
 ·subst h0
  by_cases h1:a<s.size
  ·rw[show decide ((0:Int)=0∧a<s.size)=true from Qv ⟨rfl,h1⟩]
   have d1:decide ((a:Int)<(s.size:Int))=true:=Qv (by omega)
   go_enter func94,ntmps94
   go_wp2_with fail
   refine hP.out.mono ?_
   rintro e w1 ⟨rfl,T1⟩
   have A1:=hA.out w1 T1
   have c0:=A1.c0
   have c1:w1.cell? ⟨b,1,none⟩=some (.int .i64 a):=A1.c1
   have c2:w1.cell? ⟨b,2,none⟩=some (.int .i64 0):=A1.c2
   replace T1:=Z_ T1
   clear A1 hA hP
   go_wp2_with fail
   go_quiet (fail)
   go_wp2
   go_ret
   exact⟨rfl,T1.out.drewN _⟩
  ·rw[show decide ((0:Int)=0∧a<s.size)=false from Qx (λk=>h1 k.2)]
   have d1:decide ((a:Int)<(s.size:Int))=false:=Qx (by omega)
   have h2:s.size<=a:=by omega
   clear h1 le
   go_enter func94,ntmps94
   go_wp2_with fail
   refine hP.out.mono ?_
   rintro e w1 ⟨rfl,T1⟩
   have A1:=hA.out w1 T1
   have c0:=A1.c0
   have c1:w1.cell? ⟨b,1,none⟩=some (.int .i64 a):=A1.c1
   have c2:w1.cell? ⟨b,2,none⟩=some (.int .i64 0):=A1.c2
   replace T1:=Z_ T1
   clear A1 hA hP
   go_wp2_with fail
   go_quiet (fail)
   go_wp2
   go_ret
   exact⟨by show Ending.returned (Value.bool (decide (a<s.size)))=_;rw[Qx (by omega)],T1.out.drewN _⟩
 ·rw[show decide (er1=0∧a<s.size)=false from Qx (λk=>h0 k.1)]
  have hk:(er1==0)=false:=Qf.2 h0
  clear h0
  go_enter func94,ntmps94
  go_wp2_with fail
  refine hP.out.mono ?_
  rintro e w1 ⟨rfl,T1⟩
  have A1:=hA.out w1 T1
  have c2:w1.cell? ⟨b,2,none⟩=some (.int .i64 er1):=A1.c2
  replace T1:=Z_ T1
  clear A1 hA hP
  go_wp2_with fail
  go_quiet (fail)
  go_wp2
  go_ret
  exact⟨rfl,T1.out.drewN _⟩
theorem ZdM(b:Nat)(s:ZB)(r:Rd)(lo hi:Int)(w:World)(H:Zct w b s r)(O:ZbV s r) :
  Calls prog 87 #[.pointer (some ⟨b,0,none⟩),.int .i64 lo,.int .i64 hi] w λe w'=>e=.returned (.int .i64 (dig s r lo hi))∧Zi w w' b (digR s r lo hi):=by
 have hP:=Zac b s r w H O
 have hA:=λ(w1:World) (T:Zi w w1 b (adv s r))=>H.to T
 have O1:=O.adv
 obtain⟨x0,x9⟩:=Zrr s r
 cases hd:isD s r lo hi with
 | true=>
  have e1:dig s r lo hi=tok s r-48:=by unfold dig;rw[if_pos hd]
  have e2:digR s r lo hi=nx (adv s r):=by unfold digR Zbn;rw[if_pos hd]
  have h1:=QB hd
  rw[e1,e2]
  generalize tok s r=x at *
  replace hP:=Z_ hP
  replace hA:=Z_ hA
  clear hd e1 e2 H O
  obtain⟨h1,h2⟩:=h1
  go_enter func87,ntmps87
  go_wp2_with fail
  refine hP.out.mono ?_
  rintro e w1 ⟨rfl,T1⟩
  have hS:=Za9 b s (adv s r) w1 (hA.out w1 T1) O1
  replace hS:=Z_ hS
  replace T1:=Z_ T1
  clear hA hP
  go_wp2_with fail
  refine hS.out.mono ?_
  rintro e w2 ⟨rfl,T2⟩
  go_wp2
  go_ret
  exact⟨rfl,T1.out.trans T2⟩
 | false=>
  have e1:dig s r lo hi=0:=by unfold dig;rw[if_neg (by rw[hd];simp)]
  have e2:digR s r lo hi=rfs (adv s r) 11:=by unfold digR Zbn;rw[if_neg (by rw[hd];simp)]
  have h1:=Ul hd
  rw[e1,e2]
  generalize tok s r=x at *
  replace hP:=Z_ hP
  replace hA:=Z_ hA
  clear hd e1 e2 H O
  by_cases h2:x-48<lo
  ·clear h1
   go_enter func87,ntmps87
   go_wp2_with fail
   refine hP.out.mono ?_
   rintro e w1 ⟨rfl,T1⟩
   have hS:=Zat b s (adv s r) 11 w1 (hA.out w1 T1)
   replace hS:=Z_ hS
   replace T1:=Z_ T1
   clear hA hP
   go_wp2_with fail
   refine hS.out.mono ?_
   rintro e w2 ⟨rfl,T2⟩
   go_wp2
   go_ret
   exact⟨rfl,T1.out.trans T2⟩
  ·have h3:hi<x-48:=by omega
   clear h1
   go_enter func87,ntmps87
   go_wp2_with fail
   refine hP.out.mono ?_
   rintro e w1 ⟨rfl,T1⟩
   have hS:=Zat b s (adv s r) 11 w1 (hA.out w1 T1)
   replace hS:=Z_ hS
   replace T1:=Z_ T1
   clear hA hP
   go_wp2_with fail
   refine hS.out.mono ?_
   rintro e w2 ⟨rfl,T2⟩
   go_wp2
   go_ret
   exact⟨rfl,T1.out.trans T2⟩
theorem ZfV(b:Nat)(s:ZB)(r:Rd)(w:World)(H:Zct w b s r)(O:ZbV s r) :
  Calls prog 237 #[.pointer (some ⟨b,0,none⟩)] w λe w'=>e=.returned (.int .i64 (num s r).1)∧Zi w w' b (num s r).2:=by
 have sz:=O.sz
 go_enter func237,ntmps237
 go_wp2_with fail
 refine(ZdL b s r w H O).mono ?_
 rintro e w1 ⟨rfl,k1,rfl⟩
 have T0:Kp (Zi w (w.drewN k1) b r):=⟨(Zi.refl H).drewN k1⟩
 have H':Kp _:=⟨H⟩
 have hle:Kp (r.a<=s.size):=⟨O.le⟩
 clear H O
 go_wp2_with fail
 go_loopg [3,4] (rem s r) (λg vv nv wr=>∃(r':Rd) (v:Int),vv=.int .i64 v∧nv=.int .u8 (here s r')∧0<=v∧v<=255∧Kp (num s r=ZfK s g r' v)∧Kp (r'.a<=s.size)∧Kp (Zi w wr b r')∧Kp (g=rem s r'))
 case atStart=>exact⟨r,0,rfl,rfl,by omega,by omega,⟨rfl⟩,hle,T0,⟨rfl⟩⟩
 case round=>
  clear T0 hle
  obtain⟨r',v,rfl,rfl,v0,v9,hn,hle,hT,hg⟩:=hrel
  by_cases hb:48<=here s r'∧here s r'<=57
  ·have hA:=H'.out.to hT.out
   have hp:here s r'≠0:=by omega
   have O2:ZbV s r':=⟨sz,hle.out⟩
   have O3:=O2.nx hp
   have hlt:Kp (rem s (nx r')<rem s r'):=⟨Zcv hp⟩
   have hD:=λw2=>Zdh (here s r') w2
   rw[Qv hb]at hD
   obtain⟨b1,b2⟩:=hb
   by_cases h2:255<10*v+here s r'-48
   ·have hS:=λw2 (T:Zi wr w2 b r')=>Zat b s r' 11 w2 (hA.to T)
    have e2:Kp (num s r=(0,rfs r' 11)):=⟨by
     rw[hn.out]
     have:=hg.out
     obtain⟨g,rfl⟩:∃g',gk=g'+1:=⟨gk-1,by have:=hlt.out;omega⟩
     simp only[ZfK]
     rw[if_pos ⟨b1,b2⟩,if_pos h2]⟩
    have T0:=Zi.refl hA
    replace hS:Kp _:=⟨hS wr T0⟩
    replace hD:=Z_ hD
    clear hn hA O2 O3 hp T0
    generalize here s r'=x at *
    go_wp2_with fail
    refine(hD.out _).mono ?_
    rintro e w2 ⟨rfl,hw⟩
    subst hw
    go_wp2_with fail
    refine hS.out.mono ?_
    rintro e w2 ⟨rfl,T2⟩
    go_wp2
    go_ret
    exact⟨by rw[e2.out];rfl,by rw[e2.out];exact hT.out.trans T2⟩
   ·have hS:=Za9 b s r' wr hA O2
    have hH:=λw2 (T:Zi wr w2 b (nx r'))=>ZdL b s (nx r') w2 (hA.to T) O3
    have e2:Kp (num s r=ZfK s (rem s (nx r')) (nx r') (10*v+here s r'-48)):=⟨by
     rw[hn.out]
     have h1:=hg.out
     have e0:rem s r'=rem s (nx r')+1:=by
      have hq:=ZcQ hp
      unfold rem
      rw[Zdt,if_pos hq.1,if_pos hq.1]
      unfold nx
      rw[if_pos hq.1]
      show s.size-r'.a=s.size-(r'.a+1)+1
      omega
     rw[h1,e0]
     simp only[ZfK]
     rw[if_pos ⟨b1,b2⟩,if_neg h2]⟩
    have O4:=O3.le
    replace hS:=Z_ hS
    replace hH:=Z_ hH
    replace hD:=Z_ hD
    replace O4:=Z_ O4
    clear hn hA O2 O3 hp
    generalize here s r'=x at *
    go_wp2_with fail
    refine(hD.out _).mono ?_
    rintro e w2 ⟨rfl,hw⟩
    subst hw
    go_wp2_with fail
    refine hS.out.mono ?_
    rintro e w2 ⟨rfl,T2⟩
    replace T2:=Z_ T2
    go_wp2_with fail
    refine(hH.out w2 T2.out).mono ?_
    rintro e w3 ⟨rfl,k3,rfl⟩
    go_wp2_with fail
    go_roundg (rem s (nx r'))
    case measure=>have h1:=hg.out;have h2:=hlt.out;omega
    case rel=>exact⟨nx r',10*v+x-48,by go_num,rfl,by omega,by omega,e2,O4,⟨(hT.out.trans T2.out).drewN k3⟩,⟨rfl⟩⟩
  ·have hD:=λw2=>Zdh (here s r') w2
   rw[Qx hb]at hD
   have e2:Kp (num s r=(v,r')):=⟨by
    rw[hn.out]
    cases gk with
    | zero=>rfl
    | succ g=>simp only[ZfK];rw[if_neg hb]⟩
   replace hD:=Z_ hD
   clear hb hn
   generalize here s r'=x at *
   go_wp2_with fail
   refine(hD.out _).mono ?_
   rintro e w2 ⟨rfl,hw⟩
   subst hw
   go_wp2
   go_ret
   exact⟨by rw[e2.out];rfl,by rw[e2.out];exact hT.out⟩
def stV(x:Sq):List Value:=[.int .i64 x.k,.int .i64 x.pl,.int .i64 x.ou,.int .i64 x.ta,.bool (x.rd 0),.bool (x.rd 1),.bool (x.rd 2),.bool (x.rd 3),.bool (x.rd 4),.bool (x.rd 5),.bool (x.tp 0),.bool (x.tp 1),.bool (x.tp 2),.bool (x.tp 3),.bool (x.tp 4),.bool (x.tp 5)]
def trC(j:Nat):Nat:=if j=0 then 41 else if j=1 then 42 else if j=2 then 43 else 46
def ZsN(j:Nat):TypeId:=if j=3 then 109 else 5
def ZsO(j:Nat):Nat:=if j=3 then 16 else 1
def ZjJ(q:Tq)(j:Nat):Nat:=if j=0 then q.ls.length else if j=1 then q.vs.length else if j=2 then q.cd.length else q.ss.length
def ZjK(q:Tq)(j:Nat):List Value:=if j=0 then q.ls.map (Value.int .u8) else if j=1 then q.vs.map (Value.int .u8) else if j=2 then q.cd.map (Value.int .u8) else q.ss.flatMap stV
theorem Zg5(j:Nat):trC j=41∨trC j=42∨trC j=43∨trC j=46:=by
 unfold trC
 split
 ·exact .inl rfl
 ·split
  ·exact .inr (.inl rfl)
  ·split
   ·exact .inr (.inr (.inl rfl))
   ·exact .inr (.inr (.inr rfl))
theorem Zq{e:TypeId}(h:w.ownsRow B e z v k xs)(hb:Below w.heap.size w w'):w'.ownsRow B e z v k xs:=by
 refine⟨h.1,?_⟩
 rcases h.2 with hn|⟨g,cap,cur,rfl,hbb,hgg,rest⟩
 ·exact .inl hn
 ·exact .inr ⟨g,cap,cur,rfl,hbb,by rw[hb.block g (Ug.1 hgg).1];exact hgg,rest⟩
theorem ZJ{e:TypeId}(h:w.ownsRow B e z v k xs)(hb:∀g,v.ownBlock=some g->w'.heap[g]?=w.heap[g]?):w'.ownsRow B e z v k xs:=by
 refine⟨h.1,?_⟩
 rcases h.2 with hn|⟨g,cap,cur,rfl,hbb,hgg,rest⟩
 ·exact .inl hn
 ·exact .inr ⟨g,cap,cur,rfl,hbb,by rw[hb g rfl];exact hgg,rest⟩
structure Zv(w:World)(b:Nat)(s:ZB)(q:Tq)(S:Nat->Value):Prop where
 lt:b<w.heap.size
 c0:w.cell? ⟨b,0,none⟩=some (.string s)
 c1:w.cell? ⟨b,1,none⟩=some (.int .i64 q.r.a)
 c2:w.cell? ⟨b,2,none⟩=some (.int .i64 q.r.er)
 c3:w.cell? ⟨b,3,none⟩=some (.int .i64 q.n)
 c4:w.cell? ⟨b,4,none⟩=some (.int .i64 q.pn)
 cp:∀i j:Nat,i<6->j<6->w.cell? ⟨b,5+6*i+j,none⟩=some (.bool (q.pr i j))
 ch:w.cell? ⟨b,44,none⟩=some (.int .i64 q.h)
 ci:w.cell? ⟨b,45,none⟩=some (.int .i64 q.hi)
 c:∀j:Nat,j<4->w.cell? ⟨b,trC j,none⟩=some (S j)
 o:∀j:Nat,j<4->w.ownsRow (b+1) (ZsN j) (ZsO j) (S j) (ZjJ q j) (ZjK q j)
 d:∀i j:Nat,i<4->j<4->i≠j->(S i).ownBlock=none∨(S i).ownBlock≠(S j).ownBlock
 f:∀j:Nat,j<47->w.frozen? ⟨b,j,none⟩=false
structure Zn(b g:Nat)(S S':Nat->Value)(w w':World):Prop where
 os:w'.os=w.os
 tape:w'.tape=w.tape
 output:w'.output=w.output
 size:w.heap.size<=w'.heap.size
 block:∀k,k<w.heap.size->k≠b->k≠g->(∀j,j<4->(S j).ownBlock≠some k)->w'.heap[k]?=w.heap[k]?
 rows:∀j,j<4->(S' j).ownBlock=(S j).ownBlock∨∀k,(S' j).ownBlock=some k->w.heap.size<=k
theorem Zn.refl(b g:Nat)(S:Nat->Value)(w:World):Zn b g S S w w:=⟨rfl,rfl,rfl,Qb _,λ_ _ _ _ _=>rfl,λ_ _=>.inl rfl⟩
theorem Zn.trans{S'':Nat->Value}{x y z:World}(h:Zn b g S S' x y)(k:Zn b g S' S'' y z):Zn b g S S'' x z:=by
 refine⟨k.os.trans h.os,k.tape.trans h.tape,k.output.trans h.output,Qg h.size k.size,λi hi h1 h2 h3=>?_,λj hj=>?_⟩
 ·rw[k.block i (Qq hi h.size) h1 h2 ?_,h.block i hi h1 h2 h3]
  intro j hj e
  rcases h.rows j hj with c|c
  ·exact h3 j hj (by rw[<-c];exact e)
  ·have:=c i e;omega
 ·rcases k.rows j hj with c|c
  ·rcases h.rows j hj with c2|c2
   ·exact .inl (c.trans c2)
   ·exact .inr λi e=>c2 i (by rw[<-c];exact e)
  ·exact .inr λi e=>Qg h.size (c i e)
theorem Zn.up(h:Zn b b S S' w w'):Zn b g S S' w w':=⟨h.os,h.tape,h.output,h.size,λk hk h1 _ h3=>h.block k hk h1 h1 h3,h.rows⟩
theorem Zn.below(h:Below w.heap.size w w'):Zn b g S S w w':=⟨h.os,h.tape,h.output,h.size,λk hk _ _ _=>h.block k hk,λ_ _=>.inl rfl⟩
theorem Zn.rd(h:Zi w w' b r):Zn b g S S w w':=⟨h.os,h.tape,h.output,by rw[h.size];exact Qb _,λk _ hb _ _=>h.block k hb,λ_ _=>.inl rfl⟩
theorem Zn.out(h:Zn b g S S' w w')(H:Zv w b s q S)(hg:b<=g):Below b w w':=
 ⟨h.os,h.tape,h.output,h.size,λk hk=>h.block k (Nat.lt_trans hk H.lt) (by omega) (by omega) λj hj e=>by have:=((H.o j hj).lt k e).1;omega⟩
structure Fre(w:World)(b:Nat)(S:Nat->Value)(g:Nat):Prop where
 lt:g<w.heap.size
 ne:g≠b
 no:∀j,j<4->(S j).ownBlock≠some g
theorem Fre.to{h:Nat}(F:Fre w b S g)(T:Zn b h S S' w w'):Fre w' b S' g:=
 ⟨Qq F.lt T.size,F.ne,λj hj e=>by
  rcases T.rows j hj with c|c
  ·exact F.no j hj (by rw[<-c];exact e)
  ·have:=c g e;have:=F.lt;omega⟩
theorem Fre.same(F:Fre w b S g)(T:Zn b b S S' w w'):w'.heap[g]?=w.heap[g]?:=T.block g F.lt F.ne F.ne F.no
theorem Zv.rdAt(H:Zv w b s q S):Zct w b s q.r:=⟨H.lt,H.c0,H.c1,H.c2,H.f 1 (by omega),H.f 2 (by omega)⟩
theorem Zv.rd(H:Zv w b s q S)(h:Zi w w' b r):Zv w' b s {q with r:=r} S:=by
 have hc:∀j,trC j≠1∧trC j≠2:=λj=>by have:=Zg5 j;omega
 refine⟨by rw[h.size];exact H.lt,(h.cell 0 (by omega) (by omega)).trans H.c0,h.c1,h.c2,(h.cell 3 (by omega) (by omega)).trans H.c3,(h.cell 4 (by omega) (by omega)).trans H.c4,λi j hi hj=>(h.cell _ (by omega) (by omega)).trans (H.cp i j hi hj),(h.cell 44 (by omega) (by omega)).trans H.ch,(h.cell 45 (by omega) (by omega)).trans H.ci,λj hj=>(h.cell _ (hc j).1 (hc j).2).trans (H.c j hj),λj hj=>?_,H.d,λj hj=>(h.frozen j).trans (H.f j hj)⟩
 exact ZJ (H.o j hj) λg hg=>h.block g (by have:=((H.o j hj).lt g hg).1;omega)
theorem Zv.step(H:Zv w b s q S)(h:Below w.heap.size w w'):Zv w' b s q S:=by
 have key:∀k:Nat,w'.cell? ⟨b,k,none⟩=w.cell? ⟨b,k,none⟩:=λk=>h.cell (p:=⟨b,k,none⟩) H.lt
 exact⟨Qq H.lt h.size,(key _).trans H.c0,(key _).trans H.c1,(key _).trans H.c2,(key _).trans H.c3,(key _).trans H.c4,λi j hi hj=>(key _).trans (H.cp i j hi hj),(key _).trans H.ch,(key _).trans H.ci,λj hj=>(key _).trans (H.c j hj),λj hj=>Zq (H.o j hj) h,H.d,λj hj=>by rw[h.frozen (p:=⟨b,j,none⟩) H.lt];exact H.f j hj⟩
theorem Zv.cellSet{q':Tq}{x:Value}(H:Zv w b s q S)(hk:2<k)(hr:∀j,j<4->trC j≠k)
  (h0:q'.r=q.r) (h3:(w.setCell ⟨b,k,none⟩ x).cell? ⟨b,3,none⟩=some (.int .i64 q'.n)) (h4:(w.setCell ⟨b,k,none⟩ x).cell? ⟨b,4,none⟩=some (.int .i64 q'.pn))
  (hp:∀i j:Nat,i<6->j<6->(w.setCell ⟨b,k,none⟩ x).cell? ⟨b,5+6*i+j,none⟩=some (.bool (q'.pr i j)))
  (hh:(w.setCell ⟨b,k,none⟩ x).cell? ⟨b,44,none⟩=some (.int .i64 q'.h)) (hi:(w.setCell ⟨b,k,none⟩ x).cell? ⟨b,45,none⟩=some (.int .i64 q'.hi))
  (hN:∀j,j<4->ZjJ q' j=ZjJ q j) (hV:∀j,j<4->ZjK q' j=ZjK q j):Zv (w.setCell ⟨b,k,none⟩ x) b s q' S∧Zn b b S S w (w.setCell ⟨b,k,none⟩ x):=by
 have key:∀i:Nat,i≠k->(w.setCell ⟨b,k,none⟩ x).cell? ⟨b,i,none⟩=w.cell? ⟨b,i,none⟩:=λi hi=>coff _ _ _ _ _ (by omega)
 have hb:∀g,g≠b->(w.setCell ⟨b,k,none⟩ x).heap[g]?=w.heap[g]?:=λg hg=>QH w ⟨b,k,none⟩ x g hg
 refine⟨⟨by simpa using H.lt,(key _ (by omega)).trans H.c0,by rw[h0];exact(key _ (by omega)).trans H.c1,by rw[h0];exact(key _ (by omega)).trans H.c2,h3,h4,hp,hh,hi,λj hj=>(key _ (hr j hj)).trans (H.c j hj),λj hj=>?_,H.d,λj hj=>by rw[World.frozen?_setCell];exact H.f j hj⟩,⟨rfl,rfl,rfl,by simp,λi _ h1 _ _=>hb i h1,λ_ _=>.inl rfl⟩⟩
 rw[hN j hj,hV j hj]
 exact ZJ (H.o j hj) λg hg=>hb g (by have:=((H.o j hj).lt g hg).1;omega)
theorem Zjl(h:k≠41)(h1:k≠42)(h2:k≠43)(h3:k≠46):∀j,j<4->trC j≠k:=by
 intro j hj
 match j,hj with
 | 0,_=>exact λe=>h (by rw[<-e];rfl)
 | 1,_=>exact λe=>h1 (by rw[<-e];rfl)
 | 2,_=>exact λe=>h2 (by rw[<-e];rfl)
 | 3,_=>exact λe=>h3 (by rw[<-e];rfl)
theorem Zv.setH(H:Zv w b s q S)(y:Int):Zv (w.setCell ⟨b,44,none⟩ (.int .i64 y)) b s {q with h:=y} S∧Zn b b S S w (w.setCell ⟨b,44,none⟩ (.int .i64 y)):=
 H.cellSet (by omega) (Zjl (by omega) (by omega) (by omega) (by omega)) rfl ((coff _ _ _ _ _ (by omega)).trans H.c3) ((coff _ _ _ _ _ (by omega)).trans H.c4) (λi j hi hj=>(coff _ _ _ _ _ (by omega)).trans (H.cp i j hi hj)) (Qk _ _ _ H.ch) ((coff _ _ _ _ _ (by omega)).trans H.ci) (λ_ _=>rfl) (λ_ _=>rfl)
theorem Zv.setHi(H:Zv w b s q S)(y:Int):Zv (w.setCell ⟨b,45,none⟩ (.int .i64 y)) b s {q with hi:=y} S∧Zn b b S S w (w.setCell ⟨b,45,none⟩ (.int .i64 y)):=
 H.cellSet (by omega) (Zjl (by omega) (by omega) (by omega) (by omega)) rfl ((coff _ _ _ _ _ (by omega)).trans H.c3) ((coff _ _ _ _ _ (by omega)).trans H.c4) (λi j hi hj=>(coff _ _ _ _ _ (by omega)).trans (H.cp i j hi hj)) ((coff _ _ _ _ _ (by omega)).trans H.ch) (Qk _ _ _ H.ci) (λ_ _=>rfl) (λ_ _=>rfl)
theorem Zv.setN(H:Zv w b s q S)(y:Int):Zv (w.setCell ⟨b,3,none⟩ (.int .i64 y)) b s {q with n:=y} S∧Zn b b S S w (w.setCell ⟨b,3,none⟩ (.int .i64 y)):=
 H.cellSet (by omega) (Zjl (by omega) (by omega) (by omega) (by omega)) rfl (Qk _ _ _ H.c3) ((coff _ _ _ _ _ (by omega)).trans H.c4) (λi j hi hj=>(coff _ _ _ _ _ (by omega)).trans (H.cp i j hi hj)) ((coff _ _ _ _ _ (by omega)).trans H.ch) ((coff _ _ _ _ _ (by omega)).trans H.ci) (λ_ _=>rfl) (λ_ _=>rfl)
theorem Zv.told{wa w3:World}{l:Nat}{q':Tq}{v':Value}(H:Zv w b s q S)(hl:l<4)(ha:Below w.heap.size w wa)(hg:wa.grownBy w3 (S l).ownBlock)(hown:w3.ownsRow (b+1) (ZsN l) (ZsO l) v' (ZjJ q' l) (ZjK q' l))(hat:v'.ownBlock=(S l).ownBlock∨v'.ownBlock=some wa.heap.size)
  (h0:q'.r=q.r) (hn:q'.n=q.n) (hpn:q'.pn=q.pn) (hpr:q'.pr=q.pr) (hh:q'.h=q.h) (hi:q'.hi=q.hi) (hN:∀j,j<4->j≠l->ZjJ q' j=ZjJ q j) (hV:∀j,j<4->j≠l->ZjK q' j=ZjK q j) :
  Zv (w3.setCell ⟨b,trC l,none⟩ v') b s q' (λj=>if j=l then v' else S j)∧Zn b b S (λj=>if j=l then v' else S j) w (w3.setCell ⟨b,trC l,none⟩ v'):=by
 have hsz:=ha.size
 have hlt:=H.lt
 have hne:some b≠(S l).ownBlock:=λe=>by have:=(H.o l hl).lt _ e.symm;omega
 have blk:w3.heap[b]?=w.heap[b]?:=by rw[hg.block b (by omega) hne,ha.block b hlt]
 have key0:∀k:Nat,w3.cell? ⟨b,k,none⟩=w.cell? ⟨b,k,none⟩:=λk=>Qo (w:=w) (a:=⟨b,k,none⟩) blk
 have key:∀k:Nat,k≠trC l->(w3.setCell ⟨b,trC l,none⟩ v').cell? ⟨b,k,none⟩=w.cell? ⟨b,k,none⟩:=λk hk=>(coff _ _ _ _ _ (by omega)).trans (key0 k)
 have hrc:∀k,(k<41∨k=44∨k=45)->k≠trC l:=by
  intro k hk e
  have:=Zg5 l
  omega
 have hcc:∀j,j<4->j≠l->trC j≠trC l:=by
  intro j hj hjl e
  unfold trC at e
  match j,l,hj,hl with
  | 0,0,_,_=>exact hjl rfl
  | 1,1,_,_=>exact hjl rfl
  | 2,2,_,_=>exact hjl rfl
  | 3,3,_,_=>exact hjl rfl
  | 0,1,_,_=>simp at e
  | 0,2,_,_=>simp at e
  | 0,3,_,_=>simp at e
  | 1,0,_,_=>simp at e
  | 1,2,_,_=>simp at e
  | 1,3,_,_=>simp at e
  | 2,0,_,_=>simp at e
  | 2,1,_,_=>simp at e
  | 2,3,_,_=>simp at e
  | 3,0,_,_=>simp at e
  | 3,1,_,_=>simp at e
  | 3,2,_,_=>simp at e
 have hsb:∀g,g≠b->(w3.setCell ⟨b,trC l,none⟩ v').heap[g]?=w3.heap[g]?:=λg hg=>QH w3 ⟨b,trC l,none⟩ v' g hg
 have old:∀k:Nat,k<4->(S k).ownBlock≠some wa.heap.size:=λk hk e=>by have:=(H.o k hk).lt _ e;omega
 refine⟨⟨?_,?_,?_,?_,?_,?_,λi j hi hj=>?_,?_,?_,λj hj=>?_,λj hj=>?_,λi j hi hj hij=>?_,λj hj=>?_⟩,⟨?_,?_,?_,?_,λk hk h1 _ h3=>?_,λj hj=>?_⟩⟩
 ·have:=hg.size
  simp
  omega
 ·exact(key _ (hrc 0 (by omega))).trans H.c0
 ·rw[h0];exact(key _ (hrc 1 (by omega))).trans H.c1
 ·rw[h0];exact(key _ (hrc 2 (by omega))).trans H.c2
 ·rw[hn];exact(key _ (hrc 3 (by omega))).trans H.c3
 ·rw[hpn];exact(key _ (hrc 4 (by omega))).trans H.c4
 ·rw[hpr];exact(key _ (hrc _ (by omega))).trans (H.cp i j hi hj)
 ·rw[hh];exact(key _ (hrc 44 (by omega))).trans H.ch
 ·rw[hi];exact(key _ (hrc 45 (by omega))).trans H.ci
 ·by_cases e:j=l
  ·subst e
   rw[if_pos rfl]
   exact Qk _ _ _ ((key0 _).trans (H.c j hj))
  ·rw[if_neg e,key _ (hcc j hj e)]
   exact H.c j hj
 ·by_cases e:j=l
  ·subst e
   rw[if_pos rfl]
   exact ZJ hown λg hg=>hsb g (by have:=(hown.lt g hg).1;omega)
  ·rw[if_neg e,hN j hj e,hV j hj e]
   exact ZJ ((Zq (H.o j hj) ha).kept hg (H.d j l hj hl e)) λg hg=>hsb g (by have:=((H.o j hj).lt g hg).1;omega)
 ·show (if i=l then v' else S i).ownBlock=none∨(if i=l then v' else S i).ownBlock≠(if j=l then v' else S j).ownBlock
  by_cases e:i=l
  ·subst e
   rw[if_pos rfl,if_neg (λk=>hij k.symm)]
   rcases hat with hat|hat
   ·rw[hat];exact H.d i j hi hj hij
   ·rw[hat];exact .inr (λk=>old j hj k.symm)
  ·rw[if_neg e]
   by_cases e2:j=l
   ·subst e2
    rw[if_pos rfl]
    rcases hat with hat|hat
    ·rw[hat];exact H.d i j hi hj hij
    ·rw[hat];exact .inr (old i hi)
   ·rw[if_neg e2];exact H.d i j hi hj hij
 ·rw[Qu,Qz (w:=w) (a:=⟨b,j,none⟩) blk]
  exact H.f j hj
 ·exact hg.os.trans ha.os
 ·exact hg.tape.trans ha.tape
 ·exact hg.output.trans ha.output
 ·have:=hg.size
  simp
  omega
 ·rw[hsb k h1,hg.block k (by omega) (λe=>h3 l hl e.symm),ha.block k hk]
 ·by_cases e:j=l
  ·subst e
   show (if j=j then v' else S j).ownBlock=_∨_
   rw[if_pos rfl]
   rcases hat with hat|hat
   ·exact .inl hat
   ·refine .inr λk hk=>?_
    rw[hat]at hk
    have:=Option.some.inj hk
    omega
  ·show (if j=l then v' else S j).ownBlock=_∨_
   rw[if_neg e]
   exact .inl rfl
theorem Zb{e:TypeId}(h:w.ownsRow B e z v k xs):∃(p:Option Addr) (c:Nat),v=.slice p k c:=by
 rcases h.2 with ⟨rfl,rfl⟩|⟨g,cap,cur,rfl,_⟩
 ·exact⟨none,0,rfl⟩
 ·exact⟨_,_,rfl⟩
structure Sml(q:Tq):Prop where
 cd:q.cd.length<=100000
 h0:-(q.cd.length:Int)<=q.h
 h1:q.h<=q.cd.length
 ss:q.ss.length<=100000
 ls:q.ls.length<=1000
 vs:q.vs.length=q.ls.length
theorem Zb7(b:Nat)(s:ZB)(q:Tq)(S:Nat->Value)(w:World)(H:Zv w b s q S)(M:Sml q) :
  Calls prog 42 #[.pointer (some ⟨b,0,none⟩)] w λe w'=>e=.returned (.int .i64 (plQ q))∧w'=w:=by
 have c:=H.c 2 (by omega)
 obtain⟨p,k,e⟩:=Zb (H.o 2 (by omega))
 rw[e]at c
 have c:w.cell? ⟨b,43,none⟩=some (.slice p q.cd.length k):=c
 have hl:=M.cd
 have hp:((plQ q:Nat):Int)=(q.cd.length:Int)/2:=by unfold plQ;omega
 rw[hp]
 generalize q.cd.length=n at *
 clear H M e hp
 go_enter func42,ntmps42
 go_wp2
 go_ret
 exact⟨rfl,rfl⟩
theorem i64w{x:Int}(h0:-9223372036854775808<=x)(h1:x<=9223372036854775807):IntKind.i64.wrap x=x∧wrap64 x=x:=by
 constructor
 ·rw[IntKind.wrap];simp[IntKind.signed,IntKind.bits];omega
 ·unfold wrap64;omega
theorem Zbj(b:Nat)(s:ZB)(q:Tq)(S:Nat->Value)(w:World)(H:Zv w b s q S)(O:ZbV s q.r)(hn:0<=q.n∧q.n<=6) :
  Calls prog 90 #[.pointer (some ⟨b,0,none⟩)] w λe w'=>e=.returned (.int .i64 (dig s q.r 0 (q.n-1)))∧Zi w w' b (digR s q.r 0 (q.n-1)):=by
 have c3:=H.c3
 have hT:=ZdM b s q.r 0 (q.n-1) w.drew ((Zi.refl H.rdAt).drewN 1 |> H.rdAt.to) O
 have hR:Kp (∀k,Zi w (w.drewN k) b q.r):=⟨λk=>(Zi.refl H.rdAt).drewN k⟩
 obtain⟨n0,n6⟩:=hn
 generalize q.n=n at *
 generalize dig s q.r 0 (n-1)=d at *
 generalize digR s q.r 0 (n-1)=r1 at *
 replace hT:=Z_ hT
 obtain⟨hw1,hw2⟩:=i64w (x:=n-1) (by omega) (by omega)
 clear H O
 go_enter func90,ntmps90
 go_wp2_with fail
 go_region_held (λw'=>w'.cell? ⟨b,3,none⟩=some (.int .i64 n)) (go_keep) ((go_at_call 87;refine hT.out.mono ?_;rintro e w1 ⟨rfl,T⟩;have d3:=(T.cell 3 (by omega) (by omega)).trans c3))
 all_goals
  go_wp2
  go_ret
  exact⟨rfl,(hR.out 1).trans T⟩
theorem wrap8(x:Int):IntKind.u8.wrap x=x%256:=by
 unfold IntKind.wrap
 simp[IntKind.signed,IntKind.bits]
theorem Zg6:(prog.info? 5).map (λi=>(i.zero,i.size,i.bytes))=some (some (.int .u8 0),1,1):=by kernel_rfl
theorem infoParts{t:TypeId}{z:Value}{a c:Nat}(h:(prog.info? t).map (λi=>(i.zero,i.size,i.bytes))=some (some z,a,c)):∃i,prog.info? t=some i∧i.zero=some z∧i.size=a∧i.bytes=c:=by
 cases hi:prog.info? t with
 | none=>rw[hi]at h;simp at h
 | some i=>rw[hi]at h;simp at h;exact⟨i,rfl,h.1,h.2.1,h.2.2⟩
def emC(q:Tq)(op x:Int):Tq:={q with cd:=q.cd++[op,x%256]}
theorem Za4(b:Nat)(s:ZB)(q:Tq)(S:Nat->Value)(op x:Int)(w:World)(H:Zv w b s q S)(M:Sml q)(ho:0<=op∧op<=11) :
  Calls prog 212 #[.pointer (some ⟨b,0,none⟩),.int .i64 op,.int .i64 x] w λe w'=>e=.returned (.tuple #[])∧∃S',Zv w' b s (emitQ q op x) S'∧Zn b b S S' w w':=by
 obtain⟨o0,o1⟩:=ho
 have c:=H.c 2 (by omega)
 have c:w.cell? ⟨b,43,none⟩=some (S 2):=c
 have hlt:=H.lt
 have hl:=M.cd
 have hh0:=M.h0
 have hh1:=M.h1
 obtain⟨i0,hi0,hz0,hz1,hz2⟩:=infoParts Zg6
 have hw1:IntKind.u8.wrap op=op:=by rw[wrap8];omega
 have hw2:=wrap8 x
 have hrow:w.ownsRow (b+1) 5 1 (S 2) q.cd.length (q.cd.map (Value.int .u8)):=H.o 2 (by omega)
 have hnb:some b≠(S 2).ownBlock:=λe=>by have:=(hrow.lt _ e.symm).1;omega
 have g0:0<=givesF op∧givesF op<=1:=by unfold givesF;split<;>omega
 have t0:0<=takesF op∧takesF op<=2:=by
  unfold takesF
  split
  ·omega
  ·split<;>omega
 have hPu:=λw1=>Zd4 op w1 o0 o1
 have hPo:=λw1=>ZgH op w1 o0 o1
 obtain⟨g0,g1⟩:=g0
 obtain⟨t0,t1⟩:=t0
 have hE:emitQ q op x={emC q op x with h:=q.h+givesF op-takesF op,hi:=max q.hi (q.h+givesF op-takesF op)}:=rfl
 rw[hE]
 clear hE
 generalize givesF op=gv at *
 generalize takesF op=tv at *
 obtain⟨k,hk⟩:∃k,q.cd.length=k:=⟨_,rfl⟩
 rw[hk]at hrow hl hh0 hh1
 obtain⟨h0,hh0e⟩:∃h0,q.h=h0:=⟨_,rfl⟩
 obtain⟨i1,hi1e⟩:∃i1,q.hi=i1:=⟨_,rfl⟩
 rw[hh0e,hi1e]
 rw[hh0e]at hh0 hh1
 replace hh0e:=Z_ hh0e
 replace hi1e:=Z_ hi1e
 have H':Kp _:=⟨H⟩
 replace hPu:=Z_ hPu
 replace hPo:=Z_ hPo
 replace hrow:=Z_ hrow
 replace hnb:=Z_ hnb
 replace hk:=Z_ hk
 clear H M
 go_enter func212,ntmps212
 go_wp2_with (at_builtin;refine wpList_append_own_at _ rfl _ _ 56 rfl (b+1) 5 i0 (.int .u8 0) 1 1 Tryz.underlying56 hi0 hz0 hz1 hz2 rfl (by decide) _ _ _ rfl (hrow.out.alloc _) ⟨w.heap.size,0,none⟩ 2 2 [.int .u8 op,.int .u8 (x%256)] rfl rfl ?a1 ?a2 ?a3 ?a4 ?a5 ?_)
 case a1=>
  intro j u hj
  match j,hj with
  | 0,hj=>simp at hj;subst hj;simp[Addr.add]
  | 1,hj=>simp at hj;subst hj;simp[Addr.add]
 case a2=>intro u hu;simp at hu;rcases hu with rfl|rfl<;>rfl
 case a3=>unfold maxLen;omega
 case a4=>omega
 case a5=>simp;omega
 intro v' w3 hown hgrow _ hat
 have hR:Zv (w3.setCell ⟨b,43,none⟩ v') b s (emC q op x) (λj=>if j=2 then v' else S j)∧Zn b b S (λj=>if j=2 then v' else S j) w (w3.setCell ⟨b,43,none⟩ v'):=
  Zv.told (l:=2) H'.out (by omega) ((Qh _ _).alloc (Qb _) _) hgrow (by
   have e1:ZjJ (emC q op x) 2=k+2:=by show (q.cd++[op,x%256]).length=_;rw[Qe,hk.out];rfl
   have e2:ZjK (emC q op x) 2=q.cd.map (Value.int .u8)++[.int .u8 op,.int .u8 (x%256)]:=by show (q.cd++[op,x%256]).map _=_;rw[QK];rfl
   rw[e1,e2]
   exact hown) (by simpa using hat) rfl rfl rfl rfl rfl rfl (λj hj hne=>by unfold ZjJ;rw[if_neg hne,if_neg hne];rfl) (λj hj hne=>by unfold ZjK;rw[if_neg hne,if_neg hne];rfl)
 have a1:w3.cell? ⟨b,43,none⟩=some (S 2):=by
  rw[Qo (w:=w.alloc (.cells #[.int .u8 op,.int .u8 (x%256)] 5)) (hgrow.block b (by simp;omega) hnb.out)]
  rw[((Qh _ w).alloc (Qb _) (.cells #[.int .u8 op,.int .u8 (x%256)] 5)).cell (p:=⟨b,43,none⟩) hlt]
  exact c
 have f1:w3.frozen? ⟨b,43,none⟩=false:=by
  rw[Qz (w:=w.alloc (.cells #[.int .u8 op,.int .u8 (x%256)] 5)) (hgrow.block b (by simp;omega) hnb.out)]
  rw[((Qh _ w).alloc (Qb _) (.cells #[.int .u8 op,.int .u8 (x%256)] 5)).frozen (p:=⟨b,43,none⟩) hlt]
  exact H'.out.f 43 (by omega)
 obtain⟨S1,hS1⟩:∃S1,S1=λj=>if j=2 then v' else S j:=⟨_,rfl⟩
 rw[<-hS1]at hR
 obtain⟨R1,T1⟩:=hR
 obtain⟨w4,hw4⟩:∃w4,w4=w3.setCell ⟨b,43,none⟩ v':=⟨_,rfl⟩
 obtain⟨pp,cc,hv⟩:=Zb hown
 subst hv
 clear hown hgrow hat hS1 hrow hnb hk
 obtain⟨hp1,hp2⟩:=i64w (x:=h0+gv) (by omega) (by omega)
 obtain⟨hp3,hp4⟩:=i64w (x:=h0+gv-tv) (by omega) (by omega)
 have R1h:(w3.setCell ⟨b,43,none⟩ (.slice pp (k+2) cc)).cell? ⟨b,44,none⟩=some (.int .i64 h0):=by rw[<-hh0e.out];exact R1.ch
 have R1f:=R1.f 44 (by omega)
 obtain⟨R2,T2⟩:=R1.setH (h0+gv)
 obtain⟨R3,T3⟩:=R2.setH (h0+gv-tv)
 have T13:=T1.trans (T2.trans T3)
 rw[<-hw4]at R1h R1f R3 T13
 have R2h:(w4.setCell ⟨b,44,none⟩ (.int .i64 (h0+gv))).cell? ⟨b,44,none⟩=some (.int .i64 (h0+gv)):=by rw[hw4];exact R2.ch
 clear R1 T1 R2 T2 T3
 go_wp2_with fail
 rw[<-hw4]
 clear hw4 a1 f1
 go_region_with (go_at_call 183;refine(hPu.out _).mono ?_;rintro e w9 ⟨rfl,hw9⟩;subst hw9)
 all_goals
  have R2d:(w4.setCell ⟨b,44,none⟩ (.int .i64 (h0+gv))).drew.cell? ⟨b,44,none⟩=some (.int .i64 (h0+gv)):=R2h
  clear R1h R2h hPu
  go_wp2_with fail
  go_region_with (go_at_call 182;refine(hPo.out _).mono ?_;rintro e w9 ⟨rfl,hw9⟩;subst hw9)
  all_goals
   have R4:Zv ((w4.setCell ⟨b,44,none⟩ (.int .i64 (h0+gv))).setCell ⟨b,44,none⟩ (.int .i64 (h0+gv-tv))).drew.drew b s {emC q op x with h:=h0+gv-tv} S1:=R3.step ⟨rfl,rfl,rfl,Qb _,λ_ _=>rfl⟩
   have T4:Zn b b S S1 w ((w4.setCell ⟨b,44,none⟩ (.int .i64 (h0+gv))).setCell ⟨b,44,none⟩ (.int .i64 (h0+gv-tv))).drew.drew:=T13.trans (Zn.below ⟨rfl,rfl,rfl,Qb _,λ_ _=>rfl⟩)
   generalize ((w4.setCell ⟨b,44,none⟩ (.int .i64 (h0+gv))).setCell ⟨b,44,none⟩ (.int .i64 (h0+gv-tv))).drew.drew=w6 at *
   clear R3 T13 R2d hPo
   have d1:w6.cell? ⟨b,44,none⟩=some (.int .i64 (h0+gv-tv)):=R4.ch
   have d2:w6.cell? ⟨b,45,none⟩=some (.int .i64 i1):=by rw[<-hi1e.out];exact R4.ci
   have d3:=R4.f 45 (by omega)
   obtain⟨H1,hH1⟩:∃H1,h0+gv-tv=H1:=⟨_,rfl⟩
   rw[hH1]at R4 d1
   by_cases hgt:i1<H1
   ·have R5:=R4.setHi H1
    have hfin:Kp (∃S',Zv ((w6.setCell ⟨b,45,none⟩ (.int .i64 H1)).drew) b s {emC q op x with h:=h0+gv-tv,hi:=max i1 (h0+gv-tv)} S'∧Zn b b S S' w (w6.setCell ⟨b,45,none⟩ (.int .i64 H1)).drew):=⟨S1,by
     rw[hH1,show max i1 H1=H1 from by omega]
     exact R5.1.step ⟨rfl,rfl,rfl,Qb _,λ_ _=>rfl⟩,(T4.trans R5.2).trans (Zn.below ⟨rfl,rfl,rfl,Qb _,λ_ _=>rfl⟩)⟩
    clear R5 R4 T4
    replace hH1:=Z_ hH1
    have dgt:decide (i1<H1)=true:=Qv hgt
    go_wp2_with fail
    go_quiet (fail)
    go_wp2_with fail
    first|go_end0|refine Qi (Qp rfl _ _ _) rfl ?_
    exact⟨rfl,hfin.out.choose,hfin.out.choose_spec.1.step ⟨rfl,rfl,rfl,Qb _,λ_ _=>rfl⟩,hfin.out.choose_spec.2.trans (Zn.below ⟨rfl,rfl,rfl,Qb _,λ_ _=>rfl⟩)⟩
   ·have hfin:Kp (Zv w6 b s {emC q op x with h:=h0+gv-tv,hi:=max i1 (h0+gv-tv)} S1):=⟨by
     rw[hH1,show max i1 H1=i1 from by omega,<-hi1e.out]
     exact R4⟩
    clear R4
    replace T4:=Z_ T4
    replace hH1:=Z_ hH1
    have dgt:decide (i1<H1)=false:=Qx hgt
    go_wp2_with fail
    go_quiet (fail)
    go_wp2_with fail
    first|go_end0|refine Qi (Qp rfl _ _ _) rfl ?_
    exact⟨rfl,S1,hfin.out.step ⟨rfl,rfl,rfl,Qb _,λ_ _=>rfl⟩,T4.out.trans (Zn.below ⟨rfl,rfl,rfl,Qb _,λ_ _=>rfl⟩)⟩
theorem Zfq{e:TypeId}{p:Option Addr}{c:Nat}{L:List Int}(h:w.ownsRow B e 1 (.slice p k c) k (L.map (Value.int .u8))){i:Nat}(hi:i<k):∃g,p=some ⟨g,0,none⟩∧∃x,L[i]?=some x∧w.cell? ⟨g,i,none⟩=some (.int .u8 x)∧w.frozen? ⟨g,i,none⟩=false:=by
 have hlen:=h.1
 have hl:L.length=k:=by simpa using hlen
 obtain⟨x,hx⟩:∃x,L[i]?=some x:=⟨L[i],Qn (by omega)⟩
 rcases h.2 with ⟨_,h0⟩|⟨g,cap,cur,hv,_⟩
 ·omega
 ·have hp:p=some ⟨g,0,none⟩:=by
   have:=Value.slice.inj hv
   exact this.1
  have hc:c=cap:=(Value.slice.inj hv).2.2
  subst hp
  subst hc
  refine⟨g,rfl,x,hx,?_,h.frozenAt i⟩
  rw[h.cellAt i (by omega),Ui,hx]
  rfl
def fnI(c:Int)(l:List Int):Nat:=if fnd c l<l.length then fnd c l else 0
def fnB(c:Int)(l:List Int):Bool:=decide (fnd c l<l.length)
theorem Zew{l:List Int}{i:Nat}(h:fnd c l=i)(hi:i<l.length):fnI c l=i∧fnB c l=true:=by
 subst h
 exact⟨if_pos hi,Qv hi⟩
theorem ZeE{l:List Int}(h:fnd c l=l.length):fnI c l=0∧fnB c l=false:=⟨if_neg (by omega),Qx (by omega)⟩
theorem Zkf(b:Nat)(s:ZB)(q:Tq)(S:Nat->Value)(c:Int)(w:World)(H:Zv w b s q S)(M:Sml q) :
  Calls prog 162 #[.pointer (some ⟨b,0,none⟩),.int .u8 c] w λe w'=>e=.returned (.tuple #[.int .i64 (fnI c q.ls:Nat),.bool (fnB c q.ls)])∧w'=w:=by
 have c0:=H.c 0 (by omega)
 have hrow:w.ownsRow (b+1) 5 1 (S 0) q.ls.length (q.ls.map (Value.int .u8)):=H.o 0 (by omega)
 have hl:=M.ls
 obtain⟨p,k,e⟩:=Zb hrow
 rw[e]at c0 hrow
 have c0:w.cell? ⟨b,41,none⟩=some (.slice p q.ls.length k):=c0
 generalize q.ls=L at *
 replace hrow:=Z_ hrow
 clear H M e
 obtain⟨n,hn⟩:∃n,L.length=n:=⟨_,rfl⟩
 rw[hn]at c0 hl hrow
 replace hn:=Z_ hn
 go_enter func162,ntmps162
 go_wp2_with fail
 go_loop [6] (λv=>∃i:Nat,v=.int .i64 i∧i<=n∧Kp (∀j,j<i->L[j]?≠some c)) (λv=>n-(intOf v).toNat)
 case atStart=>exact⟨0,rfl,by omega,⟨λj hj=>by omega⟩⟩
 case round=>
  obtain⟨i,rfl,hi,hb⟩:=hrel
  by_cases hin:i<n
  ·obtain⟨g,rfl,x,hx,hc,hf⟩:=Zfq hrow.out hin
   have hini:(i:Int)<(n:Int):=by omega
   replace hx:=Z_ hx
   by_cases hxc:x=c
   ·subst hxc
    have e1:Kp (fnI x L=i∧fnB x L=true):=⟨Zew (ZjT hx.out hb.out) (by rw[hn.out];exact hin)⟩
    clear hb hrow
    go_wp2
    go_ret2
    exact⟨by rw[e1.out.1,e1.out.2];rfl,rfl⟩
   ·have hk:(x==c)=false:=Qf.2 hxc
    have hb2:Kp (∀j,j<i+1->L[j]?≠some c):=⟨λj hj=>by
     by_cases e:j=i
     ·rw[e,hx.out];intro h;exact hxc (Option.some.inj h)
     ·exact hb.out j (by omega)⟩
    clear hb hxc
    go_wp2_with fail
    go_round
    case rel=>exact⟨i+1,by go_num,by omega,hb2⟩
    case measure=>simp[intOf];omega
  ·have hie:i=n:=by omega
   have e1:Kp (fnI c L=0∧fnB c L=false):=⟨ZeE (ZbF λj hj=>hb.out j (by rw[hie,<-hn.out];exact hj))⟩
   have hini:¬(i:Int)<(n:Int):=by omega
   clear hb hrow hin
   go_wp2
   go_ret2
   exact⟨by rw[e1.out.1,e1.out.2];rfl,rfl⟩
theorem Zfr(b:Nat)(s:ZB)(q:Tq)(S:Nat->Value)(v:Nat)(w:World)(H:Zv w b s q S)(M:Sml q)(hb:∀x,x∈q.vs->0<=x∧x<=255) :
  Calls prog 217 #[.pointer (some ⟨b,0,none⟩),.int .i64 v] w λe w'=>e=.returned (.int .i64 (lvOf q v))∧w'=w:=by
 have c0:=H.c 1 (by omega)
 have hrow:w.ownsRow (b+1) 5 1 (S 1) q.vs.length (q.vs.map (Value.int .u8)):=H.o 1 (by omega)
 have hl:=M.ls
 rw[<-M.vs]at hl
 obtain⟨p,k,e⟩:=Zb hrow
 rw[e]at c0 hrow
 have c0:w.cell? ⟨b,42,none⟩=some (.slice p q.vs.length k):=c0
 unfold lvOf
 generalize q.vs=L at *
 clear H M e
 by_cases hv:v<L.length
 ·obtain⟨g,rfl,x,hx,hc,hf⟩:=Zfq hrow hv
  have e1:L.getD v 0=x:=by rw[Qs,hx];rfl
  rw[e1]
  obtain⟨x0,x9⟩:=hb x (Qw hx)
  generalize L.length=n at *
  have hvi:(v:Int)<(n:Int):=by omega
  clear hrow hx e1 hb
  go_enter func217,ntmps217
  go_wp2
  go_ret
  exact⟨rfl,rfl⟩
 ·have e1:L.getD v 0=0:=by rw[Qs,Uh (by omega)];rfl
  rw[e1]
  generalize L.length=n at *
  have hvi:¬(v:Int)<(n:Int):=by omega
  clear hrow e1 hb hv
  go_enter func217,ntmps217
  go_wp2
  go_ret
  exact⟨rfl,rfl⟩
theorem Zcn(b:Nat)(s:ZB)(q:Tq)(S:Nat->Value)(w:World)(H:Zv w b s q S)(M:Sml q)(O:ZbV s q.r) :
  Calls prog 216 #[.pointer (some ⟨b,0,none⟩)] w λe w'=>e=.returned (.int .i64 (varI s q.r q.ls:Nat))∧Zi w w' b (varR s q.r q.ls):=by
 have hP:=Zac b s q.r w H.rdAt O
 have hA:Kp (∀w1 r1,Zi w w1 b r1->Zv w1 b s {q with r:=r1} S):=⟨λw1 r1 T=>H.rd T⟩
 have O1:=O.adv
 have hF:Kp (∀w1 r1,Zi w w1 b r1->Calls prog 162 #[.pointer (some ⟨b,0,none⟩),.int .u8 (tok s q.r)] w1 λe w'=>e=.returned (.tuple #[.int .i64 (fnI (tok s q.r) q.ls:Nat),.bool (fnB (tok s q.r) q.ls)])∧w'=w1):=⟨λw1 r1 T=>Zkf b s {q with r:=r1} S (tok s q.r) w1 (H.rd T) ⟨M.cd,M.h0,M.h1,M.ss,M.ls,M.vs⟩⟩
 have hL:=λw1=>Zeu (tok s q.r) w1
 replace hP:=Z_ hP
 cases hl:isL (tok s q.r) with
 | false=>
  have e1:ZaW s q.r q.ls=false:=by unfold ZaW;rw[hl];rfl
  have e2:varI s q.r q.ls=0:=by unfold varI;rw[if_neg (by rw[e1];simp)]
  have e3:varR s q.r q.ls=rfs (adv s q.r) 11:=by unfold varR Zbn;rw[if_neg (by rw[e1];simp),if_neg (by rw[hl];simp)]
  rw[e2,e3]
  rw[hl]at hL
  clear e1 e2 e3 H M O hF
  generalize tok s q.r=t at *
  replace hL:=Z_ hL
  go_enter func216,ntmps216
  go_wp2_with fail
  refine hP.out.mono ?_
  rintro e w1 ⟨rfl,T1⟩
  have A1:=hA.out w1 _ T1
  have hR:=Zat b s (adv s q.r) 11 w1 A1.rdAt
  replace hR:=Z_ hR
  replace T1:=Z_ T1
  clear A1 hA hP
  go_wp2_with fail
  refine(hL.out _).mono ?_
  rintro e w2 ⟨rfl,hw⟩
  subst hw
  go_wp2_with fail
  refine hR.out.mono ?_
  rintro e w3 ⟨rfl,T3⟩
  go_wp2
  go_ret
  exact⟨rfl,T1.out.trans T3⟩
 | true=>
  rw[hl]at hL
  by_cases hf:fnd (tok s q.r) q.ls<q.ls.length
  ·have e1:ZaW s q.r q.ls=true:=by unfold ZaW;rw[hl,Qv hf];rfl
   have e2:varI s q.r q.ls=fnd (tok s q.r) q.ls:=by unfold varI;rw[if_pos e1]
   have e3:varR s q.r q.ls=nx (adv s q.r):=by unfold varR Zbn;rw[if_pos e1]
   rw[e2,e3]
   rw[(Zew rfl hf).1,(Zew rfl hf).2]at hF
   clear e1 e2 e3 H M O hf
   generalize fnd (tok s q.r) q.ls=i at *
   generalize tok s q.r=t at *
   replace hL:=Z_ hL
   go_enter func216,ntmps216
   go_wp2_with fail
   refine hP.out.mono ?_
   rintro e w1 ⟨rfl,T1⟩
   have A1:=hA.out w1 _ T1
   have hR:=Za9 b s (adv s q.r) w1 A1.rdAt O1
   replace hR:=Z_ hR
   replace T1:=Z_ T1
   clear A1 hA hP
   go_wp2_with fail
   refine(hL.out _).mono ?_
   rintro e w2 ⟨rfl,hw⟩
   subst hw
   go_wp2_with fail
   refine(hF.out _ _ T1.out).mono ?_
   rintro e w2 ⟨rfl,hw⟩
   subst hw
   go_wp2_with fail
   refine hR.out.mono ?_
   rintro e w3 ⟨rfl,T3⟩
   go_wp2
   go_ret
   exact⟨rfl,T1.out.trans T3⟩
  ·have e1:ZaW s q.r q.ls=false:=by unfold ZaW;rw[hl,Qx hf];rfl
   have e2:varI s q.r q.ls=0:=by unfold varI;rw[if_neg (by rw[e1];simp)]
   have e3:varR s q.r q.ls=rfs (adv s q.r) 12:=by unfold varR Zbn;rw[if_neg (by rw[e1];simp),if_pos hl]
   rw[e2,e3]
   have hfe:fnd (tok s q.r) q.ls=q.ls.length:=by have:=Zf8 (tok s q.r) q.ls;omega
   rw[(ZeE hfe).1,(ZeE hfe).2]at hF
   clear hfe
   clear e1 e2 e3 H M O hf
   generalize tok s q.r=t at *
   replace hL:=Z_ hL
   go_enter func216,ntmps216
   go_wp2_with fail
   refine hP.out.mono ?_
   rintro e w1 ⟨rfl,T1⟩
   have A1:=hA.out w1 _ T1
   have hR:=Zat b s (adv s q.r) 12 w1 A1.rdAt
   replace hR:=Z_ hR
   replace T1:=Z_ T1
   clear A1 hA hP
   go_wp2_with fail
   refine(hL.out _).mono ?_
   rintro e w2 ⟨rfl,hw⟩
   subst hw
   go_wp2_with fail
   refine(hF.out _ _ T1.out).mono ?_
   rintro e w2 ⟨rfl,hw⟩
   subst hw
   go_wp2_with fail
   refine hR.out.mono ?_
   rintro e w3 ⟨rfl,T3⟩
   go_wp2
   go_ret
   exact⟨rfl,T1.out.trans T3⟩
end Go.Proofs.YtcnbifdlkalimabGreat
