/- Reads of the graph that made left. -/
import Derived.Test.YtobgbmfpicmpcaaGreatDoorC42
import Derived.Test.YtobgbmfpicmpcaaGreatDoorDP02
import Derived.Test.YtobgbmfpicmpcaaGreatDoorDP03
set_option maxRecDepth 100000
set_option maxHeartbeats 8000000
namespace Go.Proofs.YtobgbmfpicmpcaaGreatDoor
section
open Go.RowKit Go.Maps Go.Sort
theorem answer_len {ns:List aq} {es:List aJ} {q:au} {b:Int} (hb:0≤b∧b≤5000):(eK ns es q b).1.length≤10000:=by
 unfold eK
 split
 ·simp only
  rw[List.length_map]
  have h1:=gD ns es q.conds q.ai ⟨#[]⟩ ⟨b,jN,[]⟩ hb.1
  have h2:bH ns es q.conds q.ai ⟨#[]⟩ ⟨b,jN,[]⟩=aR ns es q b:=rfl
  rw[h2] at h1
  simp only[List.length_nil] at h1
  have h3:=Fc q.items ((aR ns es q b).rows.map (fi ns q.items))
  rw[List.length_map] at h3
  have h4:(gR q.order q.down (lJ q.items ((aR ns es q b).rows.map (fi ns q.items)))).length=(lJ q.items ((aR ns es q b).rows.map (fi ns q.items))).length:=by
   unfold gR
   rw[List.length_map,(fJ _ _).length_eq,List.length_map]
  unfold ix
  split
  ·rw[List.length_drop];omega
  ·rw[List.length_take,List.length_drop];omega
 ·simp
variable {B G b1 b2 k:Nat} {ns:List aq} {es:List aJ} {last:Int} {W0 W w:World}
theorem GS.later (h:GS B G b1 b2 ns es last k W0 W) (hb:Below W.heap.size W w):GS B G b1 b2 ns es last k W0 w:=by
 obtain⟨cs,vn,ve,ns',m,hv,hs,hok,h6,hm,hbw,hB⟩:=h
 exact⟨cs,vn,ve,ns',m,hv.later hb,hs,hok,h6,hm,hbw.trans (hb.mono hB),Nat.le_trans hB hb.size⟩
end
end Go.Proofs.YtobgbmfpicmpcaaGreatDoor
