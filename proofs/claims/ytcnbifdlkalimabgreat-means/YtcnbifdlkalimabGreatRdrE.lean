import Derived.Test.YtcnbifdlkalimabGreatRdr15
import Derived.Test.YtcnbifdlkalimabGreatRdr16
import Derived.Test.YtcnbifdlkalimabGreatRdr17
import Derived.Test.YtcnbifdlkalimabGreatRdr18
import Derived.Test.YtcnbifdlkalimabGreatRdr19
import Derived.Test.YtcnbifdlkalimabGreatRdr22
import Derived.Test.YtcnbifdlkalimabGreatSrcB
import Derived.OwnWalk
/- Lemmas for the statement Means; their conditions stand in each. -/
namespace Go.Proofs.YtcnbifdlkalimabGreat
open Go.RowKit Go.Proofs.Tryz
set_option linter.unusedVariables false
theorem Zim(rb sb B:Nat)(s tb:ZB)(tp:Value)(hs:s.size<=300):∀k,SGo rb sb B s tb tp k
 | 0=>λp S sv w H G h0 hk hp=>by omega
 | k+1=>by
  have ih:Kp (SGo rb sb B s tb tp k):=⟨Zim rb sb B s tb tp hs k⟩
  intro p S sv w H G h0 hk hp
  by_cases h1:tok s p.r=62
  ·exact Zqg rb sb B s tb tp hs k ih p S sv w H G hk hp h1
  ·by_cases h2:tok s p.r=63
   ·by_cases h58:tok s (blkP s (stmP s k) k (exP s {p with r:=nx (adv s p.r)}).1).1.r=58
    ·exact ZpL rb sb B s tb tp hs k ih p S sv w H G hk hp h2 h58
    ·exact ZpH rb sb B s tb tp hs k ih p S sv w H G hk hp h2 h58
   ·by_cases h3:tok s p.r=64
    ·exact ZqO rb sb B s tb tp hs k ih p S sv w H G hk hp h3
    ·exact ZpK rb sb B s tb tp hs k ih p S sv w H G hk hp h0 h1 h2 h3
set_option maxRecDepth 100000
def ZlK:Nat->Value:=λ_=>.slice none 0 0
theorem own4r(w:World)(v0 v1 v2 v3:Value)(t:TypeId):Own (w.alloc (.cells #[v0,v1,v2,v3] t)) w.heap.size [v0,v1,v2,v3]:=by
 refine⟨by simp,?_,?_⟩
 ·intro i v hv
  have hi:i<4:=by have:=(List.getElem?_eq_some_iff.1 hv).1;simpa using this
  have e:(w.alloc (.cells #[v0,v1,v2,v3] t)).cell? ⟨w.heap.size,i,none⟩=([v0,v1,v2,v3]:List Value)[i]?:=by
   match i,hi with
   | 0,_=>simp[go_sem]
   | 1,_=>simp[go_sem]
   | 2,_=>simp[go_sem]
   | 3,_=>simp[go_sem]
  rw[e]
  exact hv
 ·intro i v hv
  have hi:i<4:=by have:=(List.getElem?_eq_some_iff.1 hv).1;simpa using this
  match i,hi with
  | 0,_=>simp[go_sem]
  | 1,_=>simp[go_sem]
  | 2,_=>simp[go_sem]
  | 3,_=>simp[go_sem]
theorem Zx.start{w0 w1 w2:World}(s:ZB)(t1 t2:TypeId)(h1:w1=w0.alloc (.cells #[.int .i64 1,.string ⟨#[]⟩,.string ⟨#[]⟩,.string ⟨#[]⟩,.slice none 0 0,.slice none 0 0,.slice none 0 0] t1))(h2:w2=w1.alloc (.cells #[.string s,.int .i64 0,.int .i64 0,.pointer (some ⟨w0.heap.size,0,none⟩)] t2)) :
  Zx w2 (w0.heap.size+1) w0.heap.size (w0.heap.size+2) s ⟨⟨0,0⟩,1,[],[],[],[]⟩ ⟨#[]⟩ (.slice none 0 0) ZlK []:=by
 have O1:=own7 w0 (.int .i64 1) (.string ⟨#[]⟩) (.string ⟨#[]⟩) (.string ⟨#[]⟩) (.slice none 0 0) (.slice none 0 0) (.slice none 0 0) t1
 rw[<-h1]at O1
 have O2:=own4r w1 (.string s) (.int .i64 0) (.int .i64 0) (.pointer (some ⟨w0.heap.size,0,none⟩)) t2
 rw[<-h2]at O2
 have s1:w1.heap.size=w0.heap.size+1:=by rw[h1];simp
 rw[s1]at O2
 have s2:w2.heap.size=w0.heap.size+2:=by rw[h2];simp[s1]
 have O3:Own w2 w0.heap.size [.int .i64 1,.string ⟨#[]⟩,.string ⟨#[]⟩,.string ⟨#[]⟩,.slice none 0 0,.slice none 0 0,.slice none 0 0]:=O1.step (by rw[h2];exact(Qh _ _).alloc (Qb _) _)
 refine⟨⟨by omega,O2.c 0 _ rfl,O2.c 1 _ rfl,O2.c 2 _ rfl,O2.f 1 _ rfl,O2.f 2 _ rfl⟩,O2.c 3 _ rfl,by omega,by omega,by omega,by omega,O3.c 0 _ rfl,O3.c 1 _ rfl,O3.c 2 _ rfl,O3.c 3 _ rfl,λj hj=>?_,O3.c 6 _ rfl,λj hj=>?_,λj hj=>?_,λi j hi hj hij=>.inl rfl,rfl,λi x y hx=>by simp at hx,by omega⟩
 ·match j,hj with
  | 0,_=>exact O3.c 4 _ rfl
  | 1,_=>exact O3.c 5 _ rfl
 ·match j,hj with
  | 0,_=>exact O3.f 0 _ rfl
  | 1,_=>exact O3.f 1 _ rfl
  | 2,_=>exact O3.f 2 _ rfl
  | 3,_=>exact O3.f 3 _ rfl
  | 4,_=>exact O3.f 4 _ rfl
  | 5,_=>exact O3.f 5 _ rfl
  | 6,_=>exact O3.f 6 _ rfl
 ·match j,hj with
  | 0,_=>exact⟨rfl,.inl ⟨rfl,rfl⟩⟩
  | 1,_=>exact⟨rfl,.inl ⟨rfl,rfl⟩⟩
theorem ZW.out{rb sb B:Nat}{S':Nat->Value}{w w':World}(T:ZW rb sb ZlK S' w w')(hr:B<=rb)(hs:B<=sb)(hb:B<=w.heap.size):Below B w w':=
 ⟨T.os,T.tape,T.output,T.size,λk hk=>T.block k (by omega) (by omega) (by omega) (λj hj e=>by cases e)⟩
theorem Zky(s:ZB)(f:Rs->Rs×Nat):∀(k:Nat) (p:Rs) (l:List Nat),∃r,(loopP s f k p l).1.r=adv s r
 | 0,p,l=>⟨p.r,rfl⟩
 | k+1,p,l=>by
  simp only[loopP]
  split
  ·exact Zky s f k _ _
  ·exact⟨p.r,rfl⟩
theorem Zkz(s:ZB)(hs:s.size<=300):potP s (headP s)<=6000:=by
 have h1:=Z1 s (headP s).r
 show 0+0+Zaa s (headP s).r<=6000
 unfold Zaa
 split<;>omega
def Zq7(s:ZB)(w:World)(e:Ending)(w':World):Prop:=
 Below w.heap.size w w'∧(((endP s).er≠0∧e=.returned (.tuple #[.pointer none,.int .i64 (endP s).a,.int .i64 (endP s).er]))∨
  ((endP s).er=0∧∃rb sb B tp S sv,e=.returned (.tuple #[.pointer (some ⟨sb,0,none⟩),.int .i64 0,.int .i64 0])∧Zx w' rb sb B s (readP s).1 (tabP s) tp S sv∧ZaB w' B S tp (readP s).2))
theorem Zhm{B:Nat}{w w':World}(h:Below B w w')(k:Nat):Below B w (w'.drewN k):=⟨h.os,h.tape,h.output,h.size,h.block⟩
set_option maxHeartbeats 6400000
theorem Zin(s:ZB)(w:World)(hs:s.size<=300):Calls prog 27 #[.string s] w (Zq7 s w):=by
 obtain⟨w1,hw1⟩:∃w1,w1=w.alloc (.cells #[.int .i64 1,.string ⟨#[]⟩,.string ⟨#[]⟩,.string ⟨#[]⟩,.slice none 0 0,.slice none 0 0,.slice none 0 0] 71):=⟨_,rfl⟩
 obtain⟨w2,hw2⟩:∃w2,w2=w1.alloc (.cells #[.string s,.int .i64 0,.int .i64 0,.pointer (some ⟨w.heap.size,0,none⟩)] 159):=⟨_,rfl⟩
 have A0:=Zx.start s 71 159 hw1 hw2
 have b0:Below w.heap.size w w2:=by
  rw[hw2,hw1]
  exact((Qh _ _).alloc (Qb _) _).alloc (by simp) _
 rw[hw1]at hw2
 clear hw1
 have hout:Kp (∀(S':Nat->Value) (w':World),ZW (w.heap.size+1) w.heap.size ZlK S' w2 w'->Below w.heap.size w w'):=⟨λS' w' T=>b0.trans (T.out (by omega) (by omega) b0.size)⟩
 obtain⟨rb,hrb⟩:∃rb,w.heap.size+1=rb:=⟨_,rfl⟩
 obtain⟨sb,hsb⟩:∃sb,w.heap.size=sb:=⟨_,rfl⟩
 obtain⟨B,hB⟩:∃B,w.heap.size+2=B:=⟨_,rfl⟩
 have hH:=Zk4 (w.heap.size+1) w.heap.size (w.heap.size+2) s (.slice none 0 0) ZlK w2 hs A0
 have hH:Calls prog 72 #[.pointer (some ⟨w.heap.size+1,0,none⟩)] w2 λe w'=>e=.returned (.tuple #[])∧Zx w' rb sb B s (headP s) (tabP s) (.slice none 0 0) ZlK []∧ZW rb sb ZlK ZlK w2 w':=by rw[<-hrb,<-hsb,<-hB];exact hH
 have hout2:Kp (∀(S':Nat->Value) (w':World),ZW rb sb ZlK S' w2 w'->Below w.heap.size w w'):=⟨by rw[<-hrb,<-hsb];exact hout.out⟩
 have Gh:=Zhh s
 have ph:=Zkz s hs
 obtain⟨rp,hrp⟩:∃rp,readP s=rp:=⟨_,rfl⟩
 obtain⟨ep,hep⟩:∃ep,endP s=ep:=⟨_,rfl⟩
 have hep2:ep=if rp.1.r.er=0∧rp.1.r.a<s.size then rfs rp.1.r 11 else rp.1.r:=by rw[<-hep,<-hrp];rfl
 have hlp:loopP s (stmP s (s.size+2)) (s.size+1) (headP s) []=rp:=hrp
 have hLi:Kp (∀w3,Zx w3 rb sb B s (headP s) (tabP s) (.slice none 0 0) ZlK []->Calls prog 73 #[.pointer (some ⟨rb,0,none⟩)] w3 (Zix rb sb B s (tabP s) (.slice none 0 0) ZlK [] w3 rp)):=⟨λw3 A=>by
  rw[<-hlp]
  exact Zia rb sb B s (tabP s) (.slice none 0 0) hs (s.size+2) (s.size+1) ⟨Zim rb sb B s (tabP s) (.slice none 0 0) hs (s.size+2)⟩ (headP s) ZlK [] w3 A Gh (by have:=Z1 s (headP s).r;omega) (by have:=Z1 s (headP s).r;omega) ph⟩
 have Gr:Gp s rp.1:=by rw[<-hlp];exact Zfz (Zb8 _) _ _ _ Gh
 have hsk:skp s rp.1.r.a=rp.1.r.a∨rp.1.r.er≠0:=by
  obtain⟨r,hr⟩:=Zky s (stmP s (s.size+2)) (s.size+1) (headP s) []
  rw[hlp]at hr
  by_cases h:r.er=0
  ·left
   rw[hr,Zb0 h]
   exact Zl1 s r.a
  ·right
   rw[hr,Zk]
   exact h
 have hSk:Kp (∀w3,Zct w3 rb s rp.1.r->rp.1.r.er=0->Calls prog 74 #[.pointer (some ⟨rb,0,none⟩)] w3 λe w'=>e=.returned (.tuple #[])∧Zi w3 w' rb rp.1.r):=⟨λw3 A h=>by
  have q:=Zbv rb s rp.1.r w3 A (Gr.ok hs)
  rcases hsk with k|k
  ·rw[k]at q
   exact q
  ·exact absurd h k⟩
 have hbad:(headP s).r.er≠0->rp=(headP s,[]):=λh=>by rw[<-hlp];exact ZfB h _
 have hP:Zq7 s w=λe w'=>Below w.heap.size w w'∧((ep.er≠0∧e=.returned (.tuple #[.pointer none,.int .i64 ep.a,.int .i64 ep.er]))∨(ep.er=0∧∃rb sb B tp S sv,e=.returned (.tuple #[.pointer (some ⟨sb,0,none⟩),.int .i64 0,.int .i64 0])∧Zx w' rb sb B s rp.1 (tabP s) tp S sv∧ZaB w' B S tp rp.2)):=by
  unfold Zq7
  rw[hep,hrp]
 rw[hP]
 generalize tabP s=tb at *
 generalize headP s=hp at *
 replace hH:=Z_ hH
 replace hep2:=Z_ hep2
 replace hw2:=Z_ hw2
 replace hrb:=Z_ hrb
 replace Gr:=Z_ Gr
 replace hbad:=Z_ hbad
 have hne:rb≠sb:=by have:=hrb.out;omega
 have hne2:sb≠rb:=λe=>hne e.symm
 replace hsb:=Z_ hsb
 replace hB:=Z_ hB
 clear A0 b0 hout Gh ph hrp hep hlp hsk hP
 go_enter func27,ntmps27
 go_wp2_with fail
 rw[<-hw2.out]
 refine hH.out.mono ?_
 rintro e w3 ⟨rfl,A3,T3⟩
 simp only[hrb.out]
 have c1:=A3.rd.c1
 have c2:=A3.rd.c2
 have c3:=A3.c3
 replace A3:=Z_ A3
 replace T3:=Z_ T3
 clear hH
 by_cases he:hp.r.er=0
 ·have hL:=hLi.out w3.drew (A3.out.step (Qh _ _).drew)
  replace hL:=Z_ hL
  rw[he]at c2
  replace he:=Z_ he
  go_wp2_with fail
  go_region_held (λw'=>w'.cell? ⟨rb,3,none⟩=some (.pointer (some ⟨sb,0,none⟩))) (first|go_keep|assumption) ((go_at_call 73;refine hL.out.mono ?_;rintro e w4 ⟨v,rfl,S4,sv4,A4,T4,N4,I4,F4⟩;obtain⟨p1,q1,rfl⟩:=Zb I4.1;have d3:=A4.c3;have df:=A4.f 6 (by omega);have dp:=A4.cp;have dl:=A4.lt;have A5:=A4.setP (.slice p1 rp.2.length q1);have k3:=A5.1.c3;have I5:=I4.to A5.2 A4.b0 A4.b1;have T5:=T3.out.trans ((ZW.below (rb:=rb) (sb:=sb) (S:=ZlK) ((Qh _ _).drew)).trans (T4.trans A5.2));have k1:=A5.1.rd.c1;have k2:=A5.1.rd.c2;replace A5:Kp _:=⟨A5.1⟩;replace T5:=Z_ T5;replace I5:=Z_ I5;clear A4 T4 N4 I4 F4))
  all_goals
   obtain⟨w5,hw5⟩:∃w5,w4.setCell ⟨sb,6,none⟩ (.slice p1 rp.2.length q1)=w5:=⟨_,rfl⟩
   rw[hw5]at A5 T5 I5 k1 k2 k3 ⊢
   clear hw5 d3 df dp dl
   by_cases he2:rp.1.r.er=0
   ·rw[he2]at k2
    have hS:=hSk.out w5 A5.out.rd he2
    replace hS:=Z_ hS
    by_cases ha:rp.1.r.a<s.size
    ·have e2:Kp (ep=⟨rp.1.r.a,11⟩):=⟨by
      rw[hep2.out,if_pos ⟨he2,ha⟩]
      unfold rfs
      rw[if_pos he2]⟩
     have hai:(rp.1.r.a:Int)<(s.size:Int):=by omega
     have hd1:decide (rp.1.r.a<s.size)=true:=Qv ha
     have hd2:decide ((rp.1.r.a:Int)<(s.size:Int))=true:=Qv hai
     go_wp2_with fail
     refine hS.out.mono ?_
     rintro e w6 ⟨rfl,R6⟩
     have A6:=A5.out.rdto R6
     have T6:=T5.out.trans (ZW.rd R6)
     have m1:=A6.rd.c1
     have m2':=A6.rd.c2
     have mf:=A6.rd.f2
     have ml:=A6.rd.lt
     have m2:w6.cell? ⟨rb,2,none⟩=some (.int .i64 0):=by rw[<-he2];exact m2'
     clear m2'
     have R7:=Zi.setE A6.rd 11
     have T7:=T6.trans (ZW.rd R7)
     have n1:(w6.setCell ⟨rb,2,none⟩ (.int .i64 11)).cell? ⟨rb,1,none⟩=some (.int .i64 rp.1.r.a):=R7.c1
     have n2:=R7.c2
     replace T7:=Z_ T7
     clear R6 A6 T6 R7 A5 T5 hS
     go_wp2_with fail
     go_quiet (fail)
     go_wp2
     go_ret3
     exact⟨Zhm (hout2.out _ _ T7.out) _,.inl ⟨by rw[e2.out];show (11:Int)≠0;omega,by rw[e2.out];rfl⟩⟩
    ·have e2:Kp (ep=rp.1.r):=⟨by rw[hep2.out,if_neg (λk=>ha k.2)]⟩
     have hai:¬(rp.1.r.a:Int)<(s.size:Int):=by omega
     have hd1:decide (rp.1.r.a<s.size)=false:=Qx ha
     have hd2:decide ((rp.1.r.a:Int)<(s.size:Int))=false:=Qx hai
     have hle:Kp (ep.er=0):=⟨by rw[e2.out];exact he2⟩
     go_wp2_with fail
     refine hS.out.mono ?_
     rintro e w6 ⟨rfl,R6⟩
     have A6:=A5.out.rdto R6
     have T6:=T5.out.trans (ZW.rd R6)
     have I6:=I5.out.to (ZW.rd (sb:=sb) (S:=S4) R6) A6.b0 A6.b1
     have m1:=A6.rd.c1
     have m2':=A6.rd.c2
     have m3:=A6.c3
     have m2:w6.cell? ⟨rb,2,none⟩=some (.int .i64 0):=by rw[<-he2];exact m2'
     clear m2'
     replace A6:=Z_ A6
     replace T6:=Z_ T6
     replace I6:=Z_ I6
     clear R6 A5 T5 I5 hS
     go_wp2
     go_ret3
     exact⟨hout2.out _ _ T6.out,.inr ⟨hle.out,rb,sb,B,_,S4,sv4,rfl,A6.out,I6.out⟩⟩
   ·have e2:Kp (ep=rp.1.r):=⟨by rw[hep2.out,if_neg (λk=>he2 k.1)]⟩
    have hk:(rp.1.r.er==0)=false:=Qf.2 he2
    have hk2:(rp.1.r.er != 0)=true:=QO.2 he2
    have hle:Kp (ep.er≠0):=⟨by rw[e2.out];exact he2⟩
    go_wp2_with fail
    go_quiet (fail)
    go_wp2
    go_ret3
    exact⟨Zhm (hout2.out _ _ T5.out) _,.inl ⟨hle.out,by rw[e2.out];rfl⟩⟩
 ·have e1:=hbad.out he
  have e2:Kp (ep=hp.r):=⟨by rw[hep2.out,e1,if_neg (λk=>he k.1)]⟩
  have hk:(hp.r.er==0)=false:=Qf.2 he
  have hk2:(hp.r.er != 0)=true:=QO.2 he
  have hle:Kp (ep.er≠0):=⟨by rw[e2.out];exact he⟩
  clear e1 hbad
  go_wp2_with fail
  go_quiet (fail)
  go_wp2
  go_ret3
  exact⟨Zhm (hout2.out _ _ T3.out) _,.inl ⟨hle.out,by rw[e2.out];rfl⟩⟩
end Go.Proofs.YtcnbifdlkalimabGreat
