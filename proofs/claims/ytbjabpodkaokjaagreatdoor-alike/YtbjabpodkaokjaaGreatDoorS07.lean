import Derived.Test.YtbjabpodkaokjaaGreatDoorS06
set_option linter.unusedVariables false
set_option linter.unusedSimpArgs false
set_option maxHeartbeats 4000000
set_option maxRecDepth 100000
namespace Go.Proofs.YtbjabpodkaokjaaGreatDoor
open Go.RowKit
structure BW(W:World)(g N:Nat)(B:Nat→UInt8):Prop where
 c:∀ j,j<N→W.cell?⟨g,j,none⟩=some(.int .u8(B j).toNat)
 f:∀ j,j<N→W.frozen?⟨g,j,none⟩=false
theorem BW.set {W:World} {g N:Nat} {B B':Nat→UInt8} (h:BW W g N B) {k:Nat} (hk:k<N) {x:UInt8} (e:∀ j,j<N→B' j=if j=k then x else B j):BW(W.setCell⟨g,k,none⟩(.int .u8 x.toNat))g N B':=by
 refine⟨fun j hj=>?_,fun o ho=>by simpa using h.f o ho⟩
 rw [e j hj]
 by_cases q:j=k
 ·subst q;rw [World.cell?_setCell_same _ _ _(h.c j hj)];simp
 ·rw [World.cell?_setCell_other _ _ _ _(by first|(simp;done)|(simp;omega)),h.c j hj];simp [q]
theorem bw_new(w:World)(s:ByteArray) {E:List UInt8} (hE:s=ba E):BW(Lib.bytesWorld w 5 s)w.heap.size s.size(fun j=>E.getD j 0)∧Below w.heap.size w(Lib.bytesWorld w 5 s):=by
 refine⟨⟨fun j hj=>?_,fun j hj=>?_⟩,⟨rfl,rfl,rfl,by rw [Lib.bytesWorld_size];omega,fun k hk=>Lib.bytesWorld_at_old _ _ _ _ hk⟩⟩
 ·rw [Lib.bytesWorld_cell _ _ _ _ hj,hE]
 ·simp only [World.frozen?,Lib.bytesWorld_at_new]
  have:(Lib.bytesCells w 5 s).size=s.size+(grownCap w s.size 0 5-s.size):=by simp [Lib.bytesCells]
  simp
  omega
theorem bits_xor_u8(a b:UInt8):bits .xor .u8(a.toNat:Int)(b.toNat:Int)=(((a ^^^ b).toNat:Nat):Int):=by
 have ha:=a.toNat_lt
 have hb:=b.toNat_lt
 have h1:(BitVec.ofInt 8(a.toNat:Int)).toNat=a.toNat:=by
  rw [BitVec.ofInt_natCast,BitVec.toNat_ofNat];exact Nat.mod_eq_of_lt(by omega)
 have h2:(BitVec.ofInt 8(b.toNat:Int)).toNat=b.toNat:=by
  rw [BitVec.ofInt_natCast,BitVec.toNat_ofNat];exact Nat.mod_eq_of_lt(by omega)
 have hx:a.toNat ^^^ b.toNat<256:=Nat.xor_lt_two_pow(n:=8)ha hb
 show IntKind.u8.wrap((BitVec.ofInt 8(a.toNat:Int) ^^^ BitVec.ofInt 8(b.toNat:Int)).toNat:Int)=_
 rw [BitVec.toNat_xor,h1,h2,IntKind.wrap_u8,UInt8.toNat_xor]
 omega
def chg(V:Nat→UInt8):Nat→Bool
 |0=>false
 |i+1=>chg V i||V i!=0
theorem chg_yes {V:Nat→UInt8}:∀ {i:Nat},chg V i=true→∃ j,j<i∧V j≠0
 |0,h=>by simp [chg] at h
 |i+1,h=>by
  simp only [chg,Bool.or_eq_true,bne_iff_ne] at h
  rcases h with h|h
  ·obtain⟨j,h1,h2⟩:=chg_yes h;exact⟨j,by omega,h2⟩
  ·exact⟨i,by omega,h⟩
theorem chg_no {V:Nat→UInt8}:∀ {i:Nat},chg V i=false→∀ j,j<i→V j=0
 |0,_=>fun j hj=>by omega
 |i+1,h=>fun j hj=>by
  simp only [chg,Bool.or_eq_false_iff,bne_eq_false_iff_eq] at h
  by_cases q:j=i
  ·subst q;exact h.2
  ·exact chg_no h.1 j(by omega)
def turnB(V:Nat→UInt8)(k i:Nat)(E:List UInt8)(j:Nat):UInt8:=if k≤j∧j<k+i then E.getD j 0 ^^^ V(j-k)else E.getD j 0
theorem turnB_0(V:Nat→UInt8)(k:Nat)(E:List UInt8)(j:Nat):turnB V k 0 E j=E.getD j 0:=by
 unfold turnB;rw [if_neg(by omega)]
theorem turnB_step(V:Nat→UInt8)(k i:Nat)(E:List UInt8)(j:Nat):turnB V k(i+1)E j=if j=k+i then E.getD(k+i)0 ^^^ V i else turnB V k i E j:=by
 unfold turnB
 by_cases h:j=k+i
 ·subst h
  rw [if_pos⟨by omega,by omega⟩,if_pos rfl,show k+i-k=i by omega]
 ·rw [if_neg h]
  by_cases q:k≤j∧j<k+i
  ·rw [if_pos q,if_pos⟨q.1,by omega⟩]
  ·rw [if_neg q,if_neg(by omega)]
theorem turnB_at(V:Nat→UInt8)(k i:Nat) {E:List UInt8} {j:Nat} (h:j<E.length):turnB V k i E j=(trn V k i E)[j]'(by rw [trn_len];exact h):=by
 rw [trn_at h]
 unfold turnB
 rw [getD_at h]
theorem turnB_new(V:Nat→UInt8)(k i:Nat)(E:List UInt8):turnB V k i E(k+i)=E.getD(k+i)0:=by
 unfold turnB;rw [if_neg(by omega)]
theorem BW.c_0 {W:World} {g N k:Nat} {E:List UInt8} {V:Nat→UInt8} (h:BW W g N(fun j=>E.getD j 0)):BW W g N(turnB V k 0 E):=⟨fun j hj=>by rw [turnB_0];exact h.c j hj,h.f⟩
theorem bw_text {W:World} {g cap:Nat} {B:Nat→UInt8} {L:List UInt8} (h:BW W g L.length B)(e:∀ j(hj:j<L.length),B j=L[j]):(convert 73 9(.slice(some⟨g,0,none⟩)L.length cap)).run Tryz.prog W=.ok(.string(ba L))W:=by
 refine run_convert_bytes_back W _ _ _ _ cap L Tryz.underlying73 und_byte und_str(fun j hj=>?_)
 have:=h.c j hj
 rw [e j hj] at this
 cases j with
 |zero=>simpa [Addr.add] using this
 |succ j=>simpa [Addr.add] using this
end Go.Proofs.YtbjabpodkaokjaaGreatDoor
