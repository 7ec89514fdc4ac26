/- Lemmas for the statement Means; their conditions stand in each. -/
import Derived.Test.YtcnbifdlkalimabGreatPlainR
import Derived.ProofKit
import Derived.OpenShut
import Derived.ShutString
import Derived.ChangeOld
namespace Go.Proofs.YtcnbifdlkalimabGreat
open Go.ChangeShapes Go.WideShapes Go.ChangeAt Go.RowKit Go.Proofs.Tryz
def six(s0 s1 s2 s3 s4 s5:ZB)(i:Int):ZB:=if i=0 then s0 else if i=1 then s1 else if i=2 then s2 else if i=3 then s3 else if i=4 then s4 else s5
def ZsH{H:Type}(T:Int->ZB):DataW H:=.agg [.lit (.string (T 0).data.toList),.lit (.string (T 1).data.toList),.lit (.string (T 2).data.toList),.lit (.string (T 3).data.toList),.lit (.string (T 4).data.toList),.lit (.string (T 5).data.toList)]
theorem array6{cs:Array Value}(h:cs.size=6):∃c0 c1 c2 c3 c4 c5,cs=#[c0,c1,c2,c3,c4,c5]:=by
 obtain⟨l⟩:=cs
 match l,h with
 | [c0,c1,c2,c3,c4,c5],_=>exact⟨c0,c1,c2,c3,c4,c5,rfl⟩
section
variable {H:Type} {enc:TypeId×Value->H} {P:Program} {w:World} {base:Nat} {spare:Nat->Bool} {held:Bool}
theorem list6{α:Type}{xs:List α}(h:xs.length=6):∃c0 c1 c2 c3 c4 c5,xs=[c0,c1,c2,c3,c4,c5]:=by
 match xs,h with
 | [c0,c1,c2,c3,c4,c5],_=>exact⟨c0,c1,c2,c3,c4,c5,rfl⟩
theorem Zlq{r:Go.Reach}{b0:Nat}{t e:TypeId}{v:Value}{d:DataW H}{ps:List MemPlace}(ht:P.underlying t=some (.array 6 e))(he:P.underlying e=some .string)(hc:P.cellsOf t=6)(hce:P.cellsOf e=1)
  (hval:Value.okWide P w r b0 t v) (hd:DataW.Trod enc P w base spare held t v d ps) :
  ∃T:Int->ZB,v=Zhu T∧d=ZsH T∧ps=[]∧∀l:Nat,l<6->(T l).size<=maxLen:=by
 have hv:∃cs:Array Value,v=.agg cs∧cs.size=P.cellsOf t:=by
  simp only[Value.okWide,ht]at hval
  obtain⟨cs,h1,h2,_⟩:=hval
  exact⟨cs,h1,h2⟩
 obtain⟨cs,rfl,hsz⟩:=hv
 obtain⟨c0,c1,c2,c3,c4,c5,rfl⟩:=array6 (hsz.trans hc)
 obtain⟨fuel,hf⟩:=hd
 obtain⟨xs,m,_,hx,_,hl,hi⟩:=DataW.trod_array ht hf
 obtain⟨y0,y1,y2,y3,y4,y5,rfl⟩:=list6 hl
 rw[hce]at hi
 have h0:=hi 0 (by omega)
 have h1:=hi 1 (by omega)
 have h2:=hi 2 (by omega)
 have h3:=hi 3 (by omega)
 have h4:=hi 4 (by omega)
 have h5:=hi 5 (by omega)
 obtain⟨s0,e0,x0,l0⟩:=DataW.trod_string he h0
 obtain⟨s1,e1,x1,l1⟩:=DataW.trod_string he h1
 obtain⟨s2,e2,x2,l2⟩:=DataW.trod_string he h2
 obtain⟨s3,e3,x3,l3⟩:=DataW.trod_string he h3
 obtain⟨s4,e4,x4,l4⟩:=DataW.trod_string he h4
 obtain⟨s5,e5,x5,l5⟩:=DataW.trod_string he h5
 simp[Value.cells]at e0 e1 e2 e3 e4 e5
 subst e0 e1 e2 e3 e4 e5 x0 x1 x2 x3 x4 x5
 simp only[List.map_cons,List.map_nil,List.flatMap_cons,List.flatMap_nil,List.append_nil,Prod.mk.injEq]at hx
 refine⟨six s0 s1 s2 s3 s4 s5,rfl,hx.1,hx.2,λl hl=>?_⟩
 match l,hl with
 | 0,_=>exact l0
 | 1,_=>exact l1
 | 2,_=>exact l2
 | 3,_=>exact l3
 | 4,_=>exact l4
 | 5,_=>exact l5
theorem Zlr{t e:TypeId}(ht:P.underlying t=some (.array 6 e))(he:P.underlying e=some .string)(hc:P.cellsOf t=6)(hce:P.cellsOf e=1){T:Int->ZB}(hl:∀l:Nat,l<6->(T l).size<=maxLen) :
  DataW.Trod enc P w base spare held t (Zhu T) (ZsH T) []:=by
 have l0:(T 0).size<=maxLen:=hl 0 (by omega)
 have l1:(T 1).size<=maxLen:=hl 1 (by omega)
 have l2:(T 2).size<=maxLen:=hl 2 (by omega)
 have l3:(T 3).size<=maxLen:=hl 3 (by omega)
 have l4:(T 4).size<=maxLen:=hl 4 (by omega)
 have l5:(T 5).size<=maxLen:=hl 5 (by omega)
 have r6:List.range 6=[0,1,2,3,4,5]:=rfl
 refine⟨2,?_⟩
 simp[DataW.trod,ht,he,hc,hce,r6,Value.cells,Zhu,ZsH,l0,l1,l2,l3,l4,l5]
end
end Go.Proofs.YtcnbifdlkalimabGreat
