import Derived.Test.YtbjabpodkaokjaaGreatDoorCC01
import Derived.Deep.QuietTactic
import Derived.BigQuiet
import Derived.BigRegion
import Derived.Deep.RegionWith
set_option linter.all false
set_option maxHeartbeats 4000000
set_option maxRecDepth 100000
open List Nat Go.World Go.Proofs.Tryz
namespace Go.Proofs.YtbjabpodkaokjaaGreatDoor.Sx
open Go.RowKit
variable {w w':World}{b:Nat}{s:ByteArray}{c:UInt8}{r:List UInt8}{k off:Nat}{S:Nat->Bool}{r':List UInt8}{n x0 x1 x2 x3:Nat}{t:List UInt8}{o:Obj}{y:World}{r3 r'':List UInt8}{R:dN Nat}{z:World}{F:Nat}{S':Nat->Bool}{u0 u1 u2 u3:Nat}{r4:List UInt8}{A:Nat->Bool}{y0 y1 y2 y3:Nat}{p:Addr}{b':Nat}{d' x':Int}{r5 r6:List UInt8}{d x:Int}{least v l:Nat}{e:Int}
structure nD (w:World) (b:Nat) (s:ByteArray) (k:Nat) (d e:Int):Prop where
 c0:w.cell? ⟨b,0,none⟩=some (.string s)
 c1:w.cell? ⟨b,1,none⟩=some (.int .i64 k)
 c2:w.cell? ⟨b,2,none⟩=some (.int .i64 d)
 c3:w.cell? ⟨b,3,none⟩=some (.int .i64 e)
 fz:∀ o,w.frozen? ⟨b,o,none⟩=false
 lt:b<w.heap.size
structure Rd (b:Nat) (w w':World):Prop where
 os:w'.os=w.os
 tape:w'.tape=w.tape
 output:w'.output=w.output
 size:w.heap.size<=w'.heap.size
 block:∀ k,k<w.heap.size->k≠b->w'.heap[k]?=w.heap[k]?
theorem Rd.refl (b:Nat) (w:World):Rd b w w:=⟨rfl,rfl,rfl,zq,λ_ _ _=>rfl⟩
theorem Rd.trans {x y z:World} (h:Rd b x y) (g:Rd b y z):Rd b x z:=
 ⟨g.os.trans h.os,g.tape.trans h.tape,g.output.trans h.output,Zc h.size g.size,λk hk hb=>(g.block k (Zd hk h.size) hb).trans (h.block k hk hb)⟩
def Rd.of_below (h:Below w.heap.size w w'):Rd b w w':=⟨h.os,h.tape,h.output,h.size,λk hk _=>h.block k hk⟩
theorem Rd.drewN {x w:World} (h:Rd b x w) (n:Nat):Rd b x (w.drewN n):=⟨h.os,h.tape,h.output,h.size,h.block⟩
theorem Rd.drew {x w:World} (h:Rd b x w):Rd b x w.drew:=⟨h.os,h.tape,h.output,h.size,h.block⟩
theorem Rd.setCell {x w:World} (h:Rd b x w) (o:Nat) (v:Value):Rd b x (w.setCell ⟨b,o,none⟩ v):=
 h.trans ⟨rfl,rfl,rfl,by simp[World.setCell],λk _ hb=>Zf _ _ _ _ hb⟩
theorem Rd.alloc {x w:World} (h:Rd b x w) (o:Obj):Rd b x (w.alloc o):=
 h.trans ⟨rfl,rfl,rfl,χ,λk hk _=>Ze _ _ _ hk⟩
theorem nD.drewN (h:nD w b s k d e) (n:Nat):nD (w.drewN n) b s k d e:=⟨h.c0,h.c1,h.c2,h.c3,h.fz,h.lt⟩
theorem nD.step (h:nD w b s k d e) (j:Nat):nD (w.setCell ⟨b,1,none⟩ (.int .i64 j)) b s j d e:=by
 obtain⟨c0,c1,c2,c3,fz,lt⟩:=h
 constructor<;>(try intro o)<;>simp[c0,c1,c2,c3,fz,lt,go_sem]
abbrev Cw (w w':World) (b:Nat) (s:ByteArray) (k:Nat) (d e:Int):Prop:=nD w' b s k d e/\Rd b w w'
variable (w b s k d x) in
def nE (h:nD w b s k d x) (hs:s.size<=200) (hk:k<s.size) :
  Calls prog 172 #[.pointer (some ⟨b,0,none⟩)] w λe w'=>e=.returned (.tuple #[.int .u8 s[k].toNat,.bool true])/\Cw w w' b s k d x:=by
 have h':=h;obtain⟨c0,c1,c2,c3,fz,lt⟩:=h
 go_enter func172,ntmps172
 go_wp2
 go_quiet (fail)
 go_wp2
 go_quiet (fail)
 go_wp2
 go_ret2
 exact⟨rfl,(h'.drewN _).drewN _,((Rd.refl _ _).drewN _).drewN _⟩
variable (w b s k d x) in
def ta (h:nD w b s k d x) (hs:s.size<=200) (hk:k=s.size) :
  Calls prog 172 #[.pointer (some ⟨b,0,none⟩)] w λe w'=>e=.returned (.tuple #[.int .u8 0,.bool false])/\Cw w w' b s k d x:=by
 have h':=h;subst hk;obtain⟨c0,c1,c2,c3,fz,lt⟩:=h
 go_enter func172,ntmps172
 go_wp2
 go_quiet (fail)
 go_wp2
 go_ret2
 exact⟨rfl,h'.drewN _,(Rd.refl _ _).drewN _⟩
variable (w b s k) in
def Ez (d x c:Int) (h:nD w b s k d x) (hs:s.size<=200) (hk:k<s.size) (hc:(s[k].toNat:Int)=c) :
  Calls prog 121 #[.pointer (some ⟨b,0,none⟩),.int .u8 c] w λe w'=>e=.returned (.bool true)/\Cw w w' b s (k+1) d x:=by
 have g:((s[k].toNat:Int) != c)=false:=by simpa using hc
 have HC:=zh hc;have hp:=λw h=>nE w b s k d x h hs hk
 go_enter func121,ntmps121
 go_wp2_with (go_at_call 172;refine(hp _ h).mono ?_;rintro e w1 ⟨rfl,h1,a⟩;have f:=h1;obtain⟨c0,c1,c2,c3,fz,lt⟩:=h1)
 go_ret
 exact⟨rfl,f.step (k+1),a.setCell _ _⟩
variable (w b s k) in
def Ht (d x c:Int) (h:nD w b s k d x) (hs:s.size<=200) (hk:k<s.size) (hc:(s[k].toNat:Int)≠c) :
  Calls prog 121 #[.pointer (some ⟨b,0,none⟩),.int .u8 c] w λe w'=>e=.returned (.bool false)/\Cw w w' b s k d x:=by
 have hp:=λw h=>nE w b s k d x h hs hk
 go_enter func121,ntmps121
 go_wp2_with (go_at_call 172;refine(hp _ h).mono ?_;rintro e w1 ⟨rfl,h1,a⟩)
 go_ret
 exact⟨rfl,h1,a⟩
variable (w b s k) in
def EA (d x c:Int) (h:nD w b s k d x) (hs:s.size<=200) (hk:k=s.size) :
  Calls prog 121 #[.pointer (some ⟨b,0,none⟩),.int .u8 c] w λe w'=>e=.returned (.bool false)/\Cw w w' b s k d x:=by
 have hp:=λw h=>ta w b s k d x h hs hk
 go_enter func121,ntmps121
 go_wp2_with (go_at_call 172;refine(hp _ h).mono ?_;rintro e w1 ⟨rfl,h1,a⟩)
 go_ret
 exact⟨rfl,h1,a⟩
def SG:Array Value:=#[.int .u8 92,.int .u8 46,.int .u8 91,.int .u8 93,.int .u8 40,.int .u8 41,.int .u8 123,.int .u8 125,.int .u8 124,.int .u8 42,.int .u8 43,.int .u8 63,.int .u8 94,.int .u8 36]
def SE:Array Value:=#[.int .u8 100,.int .u8 48,.int .u8 57,.int .u8 119,.int .u8 48,.int .u8 57,.int .u8 119,.int .u8 65,.int .u8 90,.int .u8 119,.int .u8 95,.int .u8 95,.int .u8 119,.int .u8 97,.int .u8 122,.int .u8 115,.int .u8 9,.int .u8 10,.int .u8 115,.int .u8 13,.int .u8 13,.int .u8 115,.int .u8 32,.int .u8 32]
def BE:Array Value:=#[.int .u8 110,.int .u8 10,.int .u8 116,.int .u8 9]
structure iV (w:World):Prop where
 g0:∃ t fr,w.heap[2]?=some (.cells SG t fr)
 g1:∃ t fr,w.heap[3]?=some (.cells SE t fr)
 g2:∃ t fr,w.heap[4]?=some (.cells BE t fr)
def iV.lt (h:iV w):4<w.heap.size:=by
 obtain⟨t,fr,h2⟩:=h.g2;rcases Nat.lt_or_ge 4 w.heap.size with h|h
 .exact h
 .simp[Array.getElem?_eq_none h] at h2
def iV.of_block (h:iV w) (hb:∀ k,k<5->w'.heap[k]?=w.heap[k]?):iV w':=by
 obtain⟨⟨t0,f0,h0⟩,⟨t1,f1,h1⟩,⟨t2,f2,h2⟩⟩:=h;exact⟨⟨t0,f0,(hb 2 ω).trans h0⟩,⟨t1,f1,(hb 3 ω).trans h1⟩,⟨t2,f2,(hb 4 ω).trans h2⟩⟩
def Cx (w:World):(Instr.index 340 (.agg SG) (.int .i64 0)).run prog w=.ok (.int .u8 92) w:=κ
def Cy (w:World):(Instr.index 340 (.agg SG) (.int .i64 1)).run prog w=.ok (.int .u8 46) w:=κ
def Cz (w:World):(Instr.index 340 (.agg SG) (.int .i64 2)).run prog w=.ok (.int .u8 91) w:=κ
def CA (w:World):(Instr.index 340 (.agg SG) (.int .i64 3)).run prog w=.ok (.int .u8 93) w:=κ
def CC (w:World):(Instr.index 340 (.agg SG) (.int .i64 4)).run prog w=.ok (.int .u8 40) w:=κ
def CD (w:World):(Instr.index 340 (.agg SG) (.int .i64 5)).run prog w=.ok (.int .u8 41) w:=κ
def CE (w:World):(Instr.index 340 (.agg SG) (.int .i64 6)).run prog w=.ok (.int .u8 123) w:=κ
def CF (w:World):(Instr.index 340 (.agg SG) (.int .i64 7)).run prog w=.ok (.int .u8 125) w:=κ
def CG (w:World):(Instr.index 340 (.agg SG) (.int .i64 8)).run prog w=.ok (.int .u8 124) w:=κ
def CH (w:World):(Instr.index 340 (.agg SG) (.int .i64 9)).run prog w=.ok (.int .u8 42) w:=κ
def yS (w:World):(Instr.index 340 (.agg SG) (.int .i64 10)).run prog w=.ok (.int .u8 43) w:=κ
def yT (w:World):(Instr.index 340 (.agg SG) (.int .i64 11)).run prog w=.ok (.int .u8 63) w:=κ
def yU (w:World):(Instr.index 340 (.agg SG) (.int .i64 12)).run prog w=.ok (.int .u8 94) w:=κ
def yV (w:World):(Instr.index 340 (.agg SG) (.int .i64 13)).run prog w=.ok (.int .u8 36) w:=κ
def EB (k:Nat) (h:k<14) (w:World):(Instr.index 340 (.agg SG) (.int .i64 k)).run prog w=.ok (.int .u8 (fp.getD k 0)) w:=by
 match k,h with
 |0,_=>exact Cx w
 |1,_=>exact Cy w
 |2,_=>exact Cz w
 |3,_=>exact CA w
 |4,_=>exact CC w
 |5,_=>exact CD w
 |6,_=>exact CE w
 |7,_=>exact CF w
 |8,_=>exact CG w
 |9,_=>exact CH w
 |10,_=>exact yS w
 |11,_=>exact yT w
 |12,_=>exact yU w
 |13,_=>exact yV w
 |n+14,h=>exact absurd h ω
theorem pX (c:Int) (w:World) (hT:iV w) (h0:0<=c) (h1:c<=255) :
  Calls prog 207 #[.int .u8 c] w λe w'=>e=.returned (.bool (bi c))/\w'=w:=by
 obtain⟨⟨tt,fr,hg⟩,-,-⟩:=hT
 go_enter func207,ntmps207
 go_wp2_with (refine wpList_load_row rfl 340 _ rfl 2 rfl tt _ fr _ hg underlying340 rfl κ ?_)
 go_loop [6] (λi=>∃ k:Nat,k<=14/\i=.int .i64 k/\∀ j,j<k->fp.getD j 0≠c) (λi=>14-(intOf i).toNat)
 case atStart=>exact⟨0,Zk _,rfl,λj hj=>absurd hj (not_lt_zero _)⟩
 case round=>
  obtain⟨k,hk,rfl,h⟩:=hrel;have a:=zh h
  by_cases hlt:k<14
  .have g:=EB k hlt;obtain⟨z,hz⟩:=zx (fp.getD k 0);rw[<-hz] at g;have HZ:=zh hz;clear hz
   by_cases hzc:z=c
   .have f:(z==c)=true:=by simpa using hzc
    have m:=zh hzc;go_wp2
    go_ret
    exact⟨a_ (my k hlt c (by rw[<-HZ.out];exact m)).symm,rfl⟩
   .have f:(z==c)=false:=by simpa using hzc
    go_wp2
    go_round
    case rel=>
     refine⟨k+1,ω,π,λj hj=>?_⟩
     by_cases e:j=k
     .subst e;rw[<-HZ.out];exact hzc
     .exact a j ω
    case measure=>simp[intOf];omega
  .go_wp2
   go_ret
   exact⟨a_ (oA c (λj hj=>a j ω)).symm,rfl⟩
def CJ (w:World):(Instr.index 364 (.agg BE) (.int .i64 0)).run prog w=.ok (.agg #[.int .u8 110,.int .u8 10]) w:=κ
def CK (w:World):(Instr.index 364 (.agg BE) (.int .i64 1)).run prog w=.ok (.agg #[.int .u8 116,.int .u8 9]) w:=κ
def so (c:Int):Option Int:=if bi c||c==45 then some c else if c==110 then some 10 else if c==116 then some 9 else none
def ph (c:Int) (w:World) (hT:iV w) (h0:0<=c) (h1:c<=255) :
  Calls prog 238 #[.int .u8 c] w λe w'=>e=.returned (.tuple #[.int .u8 ((so c).getD 0),.bool (so c).isSome])/\Below w.heap.size w w':=by
 have j:=λw h=>pX c w h h0 h1
 obtain⟨v,hv⟩:=zx (bi c);rw[<-hv] at j;have q:=hT;obtain⟨-,-,⟨tt,fr,hg⟩⟩:=hT;have b0:=CJ;have b1:=CK
 by_cases hs:v||c==45
 .have e:so c=some c:=by simp only[so,<-hv,hs,if_true]
  have HE:=zh e;clear e hv
  cases v
  .have u:(c==45)=true:=by simpa using hs
   go_enter func238,ntmps238
   go_wp2_with (go_at_call 207;refine(j _ q).mono ?_;rintro e w' ⟨rfl,hw⟩;obtain rfl:=hw.symm)
   go_ret2
   rw[HE.out];exact⟨rfl,ZB⟩
  .go_enter func238,ntmps238
   go_wp2_with (go_at_call 207;refine(j _ q).mono ?_;rintro e w' ⟨rfl,hw⟩;obtain rfl:=hw.symm)
   go_ret2
   rw[HE.out];exact⟨rfl,ZB⟩
 .have B:v=false:=by cases v<;>simp at hs ⊢
  subst B;have u:(c==45)=false:=by simpa using hs
  have HE:Hid (so c=if c==110 then some 10 else if c==116 then some 9 else none):=by
   show so c=_;simp only[so,<-hv,u];simp
  clear hv
  go_enter func238,ntmps238
  go_wp2_with (first|(go_at_call 207;refine(j _ q).mono ?_;rintro e w' ⟨rfl,hw⟩;obtain rfl:=hw.symm)|refine wpList_load_row rfl 364 _ rfl 4 rfl tt _ fr _ hg underlying364 rfl κ ?_)
  go_loopw [14] (λi wr=>∃ k:Nat,k<=2/\i=.int .i64 k/\(0<k->c≠110)/\(1<k->c≠116)/\Below w.heap.size w wr) (λi _=>2-(intOf i).toNat)
  case atStart=>exact⟨0,Zk _,rfl,λh=>absurd h ω,λh=>absurd h ω,ZB⟩
  case round=>
   obtain⟨k,hk,rfl,ha,hb,g⟩:=hrel;have m:w.heap.size<=wr.heap.size:=g.size
   match k,hk with
   |0,_=>
    by_cases a:c=110
    .subst a;go_wp2
     go_ret2
     rw[HE.out];exact⟨rfl,g.alloc m _⟩
    .have h':((110:Int)==c)=false:=by simpa using λe=>a e.symm
     go_wp2
     go_roundw
     case rel=>exact⟨1,ω,π,λ_=>a,λh=>absurd h ω,g.alloc m _⟩
     case measure=>simp[intOf]
   |1,_=>
    have a:=ha ω
    by_cases f:c=116
    .subst f;go_wp2
     go_ret2
     rw[HE.out];exact⟨rfl,g.alloc m _⟩
    .have h':((116:Int)==c)=false:=by simpa using λe=>f e.symm
     go_wp2
     go_roundw
     case rel=>exact⟨2,ω,π,λ_=>a,λ_=>f,g.alloc m _⟩
     case measure=>simp[intOf]
   |2,_=>
    have a:=ha ω;have f:=hb ω;go_wp2
    go_ret2
    rw[HE.out];exact⟨by simp[a,f],g⟩
structure Wd (x0 x1 x2 x3:Nat) (S:Nat->Bool):Prop where
 l0:x0<18446744073709551616
 l1:x1<18446744073709551616
 l2:x2<18446744073709551616
 l3:x3<18446744073709551616
 b0:∀ n,n<64->x0.testBit n=S n
 b1:∀ n,n<64->x1.testBit n=S (64+n)
 b2:∀ n,n<64->x2.testBit n=S (128+n)
 b3:∀ n,n<64->x3.testBit n=S (192+n)
structure fg (w:World) (b off:Nat) (S:Nat->Bool) (x0 x1 x2 x3:Nat):Prop where
 wd:Wd x0 x1 x2 x3 S
 c0:w.cell? ⟨b,off,none⟩=some (.int .u64 x0)
 c1:w.cell? ⟨b,off+1,none⟩=some (.int .u64 x1)
 c2:w.cell? ⟨b,off+2,none⟩=some (.int .u64 x2)
 c3:w.cell? ⟨b,off+3,none⟩=some (.int .u64 x3)
 fz:∀ o,w.frozen? ⟨b,o,none⟩=false
structure ft (b off:Nat) (w w':World):Prop where
 os:w'.os=w.os
 tape:w'.tape=w.tape
 output:w'.output=w.output
 size:w.heap.size<=w'.heap.size
 block:∀ k,k<w.heap.size->k≠b->w'.heap[k]?=w.heap[k]?
 cell:∀ o,(o<off\/off+4<=o)->w'.cell? ⟨b,o,none⟩=w.cell? ⟨b,o,none⟩
theorem ft.refl (b off:Nat) (w:World):ft b off w w:=⟨rfl,rfl,rfl,zq,λ_ _ _=>rfl,λ_ _=>rfl⟩
theorem ft.trans {x y z:World} (h:ft b off x y) (g:ft b off y z):ft b off x z:=
 ⟨g.os.trans h.os,g.tape.trans h.tape,g.output.trans h.output,Zc h.size g.size,λk hk hb=>(g.block k (Zd hk h.size) hb).trans (h.block k hk hb),λo ho=>(g.cell o ho).trans (h.cell o ho)⟩
theorem ft.drew {x w:World} (h:ft b off x w):ft b off x w.drew:=⟨h.os,h.tape,h.output,h.size,h.block,h.cell⟩
theorem ft.setCell {x w:World} (h:ft b off x w) (o:Nat) (ho:off<=o/\o<off+4) (v:Value):ft b off x (w.setCell ⟨b,o,none⟩ v):=
 h.trans ⟨rfl,rfl,rfl,by simp[World.setCell],λk _ hb=>Zf _ _ _ _ hb,λo' ho'=>by
  have:o≠o':=ω
  exact cell?_setCell_other _ _ _ _ (λe=>this (by injection e))⟩
theorem ft.alloc {x w:World} (h:ft b off x w) (hb:b<w.heap.size) (o:Obj):ft b off x (w.alloc o):=
 h.trans ⟨rfl,rfl,rfl,χ,λk hk _=>Ze _ _ _ hk,λo' _=>by simp[cell?,Ze _ _ _ hb]⟩
def wrap_small (p:Nat) (h:p<18446744073709551616):IntKind.u64.wrap (p:Int)=(p:Int):=by
 rw[IntKind.wrap_u64];omega
def pY (x m:Nat) (hx:x<18446744073709551616) (hm:m<64):bits BinOp.or IntKind.u64 (x:Int) (IntKind.u64.wrap (2 ^ m))=((x ||| 2 ^ m:Nat):Int):=by
 have h2:=Nat.pow_lt_pow_right (a:=2) ω (show m<64 from hm);have e:((2:Int) ^ m)=((2 ^ m:Nat):Int):=(Int.natCast_pow 2 m).symm;rw[e,wrap_small _ h2,bits_or_u64_nat x (2 ^ m) hx h2]
def Bg (x m:Nat) (hx:x<18446744073709551616) (hm:m<64):x ||| 2 ^ m<18446744073709551616:=
 or_lt_two_pow (n:=64) hx (Nat.pow_lt_pow_right ω hm)
def Wd.add (h:Wd x0 x1 x2 x3 S) (m:Nat) (hm:m<64):Wd (x0 ||| 2 ^ m) x1 x2 x3 (orS S (ax m m))/\Wd x0 (x1 ||| 2 ^ m) x2 x3 (orS S (ax (64+m) (64+m)))/\Wd x0 x1 (x2 ||| 2 ^ m) x3 (orS S (ax (128+m) (128+m)))/\Wd x0 x1 x2 (x3 ||| 2 ^ m) (orS S (ax (192+m) (192+m))):=by
 obtain⟨l0,l1,l2,l3,b0,b1,b2,b3⟩:=h;refine⟨⟨Bg _ _ l0 hm,l1,l2,l3,?_,?_,?_,?_⟩,⟨l0,Bg _ _ l1 hm,l2,l3,?_,?_,?_,?_⟩,⟨l0,l1,Bg _ _ l2 hm,l3,?_,?_,?_,?_⟩,l0,l1,l2,Bg _ _ l3 hm,?_,?_,?_,?_⟩
 all_goals
  intro n hn
  try rw[testBit_or,testBit_two_pow]
  first|rw[b0 n hn]|rw[b1 n hn]|rw[b2 n hn]|rw[b3 n hn]
  simp only[orS,ax];generalize S _=s
  cases s<;>(rw[Bool.eq_iff_iff];simp<;>omega)
def Mw (h:n<256):∃ m:Nat,m<64/\(n:Int)%64=(m:Int)/\((n=m/\(n:Int) / 64=0)\/(n=64+m/\(n:Int) / 64=1)\/(n=128+m/\(n:Int) / 64=2)\/(n=192+m/\(n:Int) / 64=3)):=⟨n%64,ω,ω,ω⟩
def mB (hF:F=221\/F=78) (w:World) (b off n:Nat) (S:Nat->Bool) (x0 x1 x2 x3:Nat) (hn:n<256) (h:fg w b off S x0 x1 x2 x3) :
  Calls prog F #[.pointer (some ⟨b,off,none⟩),.int .u8 n] w λe w'=>e=.returned (.tuple #[])/\(∃ y0 y1 y2 y3,fg w' b off (orS S (ax n n)) y0 y1 y2 y3)/\ft b off w w':=by
 obtain⟨wd,c0,c1,c2,c3,fz⟩:=h;obtain⟨m,a,hm,hq⟩:=Mw hn;have H0:Hid _:=pY x0 m wd.l0 a;have H1:Hid _:=pY x1 m wd.l1 a;have H2:Hid _:=pY x2 m wd.l2 a;have H3:Hid _:=pY x3 m wd.l3 a;obtain⟨d0,d1,d2,d3⟩:=wd.add m a;have f0:=fz off;have f1:=fz (off+1);have f2:=fz (off+2);have f3:=fz (off+3);rcases hF with rfl|rfl<;>rcases hq with⟨hM,hd⟩|⟨hM,hd⟩|⟨hM,hd⟩|⟨hM,hd⟩
 all_goals
  have HM:Hid _:=hM;clear hM
  first|go_enter func221,ntmps221|go_enter func78,ntmps78
  go_region
  go_end0
  first|rw[H0.out]|rw[H1.out]|rw[H2.out]|rw[H3.out]
  rw[HM.out];refine⟨rfl,?_,((ft.refl _ _ _).setCell _ ω _).drew⟩
  first|refine⟨_,_,_,_,d0,?_,?_,?_,?_,λo=>?_⟩|refine⟨_,_,_,_,d1,?_,?_,?_,?_,λo=>?_⟩|refine⟨_,_,_,_,d2,?_,?_,?_,?_,λo=>?_⟩|refine⟨_,_,_,_,d3,?_,?_,?_,?_,λo=>?_⟩
  all_goals simp[c0,c1,c2,c3,fz,go_sem]
def fg.congr (h:fg w b off S x0 x1 x2 x3) (e:∀ n,n<256->S n=S' n):fg w b off S' x0 x1 x2 x3:=by
 obtain⟨⟨l0,l1,l2,l3,b0,b1,b2,b3⟩,c0,c1,c2,c3,fz⟩:=h;exact⟨⟨l0,l1,l2,l3,λn hn=>(b0 n hn).trans (e _ ω),λn hn=>(b1 n hn).trans (e _ ω),λn hn=>(b2 n hn).trans (e _ ω),λn hn=>(b3 n hn).trans (e _ ω)⟩,c0,c1,c2,c3,fz⟩
def kh (w:World) (b off lo hi:Nat) (S:Nat->Bool) (hhi:hi<256) (hlo:lo<256) (h:∃ x0 x1 x2 x3,fg w b off S x0 x1 x2 x3) :
  Calls prog 235 #[.pointer (some ⟨b,off,none⟩),.int .u8 lo,.int .u8 hi] w λe w'=>e=.returned (.tuple #[])/\(∃ y0 y1 y2 y3,fg w' b off (orS S (ax lo hi)) y0 y1 y2 y3)/\ft b off w w':=by
 go_enter func235,ntmps235
 go_wp2
 go_loopw [6] (λi wr=>∃ k:Nat,lo<=k/\k<=256/\i=.int .i64 k/\(k<=hi+1\/k=lo)/\(∃ y0 y1 y2 y3,fg wr b off (λn=>S n||(decide (lo<=n)&&decide (n<k))) y0 y1 y2 y3)/\ft b off w wr) (λi _=>256-(intOf i).toNat)
 case atStart=>
  obtain⟨x0,x1,x2,x3,h⟩:=h;exact⟨lo,zq,ω,rfl,.inr rfl,⟨x0,x1,x2,x3,h.congr (λn _=>by rw[Bool.eq_iff_iff];simp;omega)⟩,ft.refl _ _ _⟩
 case round=>
  obtain⟨k,q,m,rfl,j,⟨y0,y1,y2,y3,hs⟩,hf⟩:=hrel
  by_cases hlt:k<=hi
  .have hc:=λw h=>mB (.inl rfl) w b off k (λn=>S n||(decide (lo<=n)&&decide (n<k))) y0 y1 y2 y3 ω h
   have HS:=zh hs;go_wp2_with (go_at_call 221;refine(hc _ HS).mono ?_;rintro e w1 ⟨rfl,f,g⟩;have a:Hid _:=f)
   go_roundw
   case rel=>
    obtain⟨z0,z1,z2,z3,hz⟩:=a;exact⟨k+1,ω,ω,π,.inl ω,⟨z0,z1,z2,z3,hz.congr (λn _=>by simp only[orS,ax];cases S n<;>(rw[Bool.eq_iff_iff];simp<;>omega))⟩,hf.trans g⟩
   case measure=>simp[intOf];omega
  .have HS:=zh hs;go_wp2
   go_end0
   exact⟨rfl,⟨y0,y1,y2,y3,HS.congr (λn _=>by simp only[orS,ax];cases S n<;>(rw[Bool.eq_iff_iff];simp<;>omega))⟩,hf⟩
def pv (x y:Nat) (hx:x<18446744073709551616) (hy:y<18446744073709551616):bits BinOp.or IntKind.u64 (x:Int) (y:Int)=((x ||| y:Nat):Int):=bits_or_u64_nat x y hx hy
def uF (a b c d:Value) (w:World):(Instr.index 148 (.agg #[a,b,c,d]) (.int .i64 0)).run prog w=.ok a w:=κ
def uG (a b c d:Value) (w:World):(Instr.index 148 (.agg #[a,b,c,d]) (.int .i64 1)).run prog w=.ok b w:=κ
def uH (a b c d:Value) (w:World):(Instr.index 148 (.agg #[a,b,c,d]) (.int .i64 2)).run prog w=.ok c w:=κ
def uI (a b c d:Value) (w:World):(Instr.index 148 (.agg #[a,b,c,d]) (.int .i64 3)).run prog w=.ok d w:=κ
def Wd.all {S R:Nat->Bool} (h:Wd x0 x1 x2 x3 S) (g:Wd u0 u1 u2 u3 R):Wd (x0 ||| u0) (x1 ||| u1) (x2 ||| u2) (x3 ||| u3) (orS S R):=by
 obtain⟨l0,l1,l2,l3,b0,b1,b2,b3⟩:=h;obtain⟨k0,k1,k2,k3,a0,a1,a2,a3⟩:=g;refine⟨or_lt_two_pow (n:=64) l0 k0,or_lt_two_pow (n:=64) l1 k1,or_lt_two_pow (n:=64) l2 k2,or_lt_two_pow (n:=64) l3 k3,λn hn=>?_,λn hn=>?_,λn hn=>?_,λn hn=>?_⟩
 .rw[testBit_or,b0 n hn,a0 n hn];rfl
 .rw[testBit_or,b1 n hn,a1 n hn];rfl
 .rw[testBit_or,b2 n hn,a2 n hn];rfl
 .rw[testBit_or,b3 n hn,a3 n hn];rfl
structure Mid (w:World) (b off k:Nat) (x0 x1 x2 x3 y0 y1 y2 y3:Nat):Prop where
 c0:w.cell? ⟨b,off,none⟩=some (.int .u64 ((if 0<k then y0 else x0:Nat):Int))
 c1:w.cell? ⟨b,off+1,none⟩=some (.int .u64 ((if 1<k then y1 else x1:Nat):Int))
 c2:w.cell? ⟨b,off+2,none⟩=some (.int .u64 ((if 2<k then y2 else x2:Nat):Int))
 c3:w.cell? ⟨b,off+3,none⟩=some (.int .u64 ((if 3<k then y3 else x3:Nat):Int))
 fz:∀ o,w.frozen? ⟨b,o,none⟩=false
def Mid.put (h:Mid w b off k x0 x1 x2 x3 y0 y1 y2 y3) (hv:(k=0/\v=y0)\/(k=1/\v=y1)\/(k=2/\v=y2)\/(k=3/\v=y3)):Mid (w.setCell ⟨b,off+k,none⟩ (.int .u64 v)) b off (k+1) x0 x1 x2 x3 y0 y1 y2 y3:=by
 obtain⟨c0,c1,c2,c3,fz⟩:=h;rcases hv with⟨rfl,rfl⟩|⟨rfl,rfl⟩|⟨rfl,rfl⟩|⟨rfl,rfl⟩
 all_goals
  simp at c0 c1 c2 c3;refine⟨?_,?_,?_,?_,λo=>?_⟩<;>simp[c0,c1,c2,c3,fz,go_sem]
theorem Mid.drew (h:Mid w b off k x0 x1 x2 x3 y0 y1 y2 y3):Mid w.drew b off k x0 x1 x2 x3 y0 y1 y2 y3:=⟨h.c0,h.c1,h.c2,h.c3,h.fz⟩
def ki {b o:Nat} (hb:b<w.heap.size) (ob:Obj):(w.alloc ob).cell? ⟨b,o,none⟩=w.cell? ⟨b,o,none⟩:=by simp[cell?,Ze _ _ _ hb]
def EC {b o:Nat} (hb:b<w.heap.size) (ob:Obj):(w.alloc ob).frozen? ⟨b,o,none⟩=w.frozen? ⟨b,o,none⟩:=by simp[frozen?,Ze _ _ _ hb]
structure Fo (b off:Nat) (w w':World):Prop where
 four:ft b off w w'
 shp:∀ cs T fr,w.heap[b]?=some (.cells cs T fr)->∃ cs',w'.heap[b]?=some (.cells cs' T fr)/\cs'.size=cs.size
theorem Fo.refl (b off:Nat) (w:World):Fo b off w w:=⟨ft.refl _ _ _,λcs T fr h=>⟨cs,h,rfl⟩⟩
theorem Fo.drew {x w:World} (h:Fo b off x w):Fo b off x w.drew:=⟨h.four.drew,h.shp⟩
theorem Fo.setCell {x w:World} (h:Fo b off x w) (o:Nat) (ho:off<=o/\o<off+4) (v:Value):Fo b off x (w.setCell ⟨b,o,none⟩ v):=
 ⟨h.four.setCell o ho v,λcs T fr e=>by
  obtain⟨a,e1,e2⟩:=h.shp cs T fr e;refine⟨a.setIfInBounds o v,?_,by simpa using e2⟩
  simp[World.setCell,Array.getElem?_modify,e1]⟩
theorem Fo.alloc {x w:World} (h:Fo b off x w) (hb:b<w.heap.size) (o:Obj):Fo b off x (w.alloc o):=
 ⟨h.four.alloc hb o,λcs T fr e=>by
  obtain⟨a,e1,e2⟩:=h.shp cs T fr e
  exact⟨a,(Ze _ _ _ hb).trans e1,e2⟩⟩
def wt (hF:F=229\/F=125) (w:World) (b off:Nat) (x0 x1 x2 x3 u0 u1 u2 u3:Nat) (hb:b<w.heap.size) (h:Mid w b off 0 x0 x1 x2 x3 (x0 ||| u0) (x1 ||| u1) (x2 ||| u2) (x3 ||| u3)) (l:(x0<18446744073709551616/\u0<18446744073709551616)/\(x1<18446744073709551616/\u1<18446744073709551616)/\(x2<18446744073709551616/\u2<18446744073709551616)/\x3<18446744073709551616/\u3<18446744073709551616) :
  Calls prog F #[.pointer (some ⟨b,off,none⟩),.agg #[.int .u64 u0,.int .u64 u1,.int .u64 u2,.int .u64 u3]] w λe w'=>e=.returned (.tuple #[])/\Mid w' b off 4 x0 x1 x2 x3 (x0 ||| u0) (x1 ||| u1) (x2 ||| u2) (x3 ||| u3)/\Fo b off w w':=by
 have i0:=uF;have i1:=uG;have i2:=uH;have i3:=uI;have e0:=pv _ _ l.1.1 l.1.2;have e1:=pv _ _ l.2.1.1 l.2.1.2;have e2:=pv _ _ l.2.2.1.1 l.2.2.1.2;have e3:=pv _ _ l.2.2.2.1 l.2.2.2.2;generalize x0 ||| u0=z0 at *
 generalize x1 ||| u1=z1 at *
 generalize x2 ||| u2=z2 at *
 generalize x3 ||| u3=z3 at *
 have H:Hid (∀ ob,Mid (w.alloc ob) b off 0 x0 x1 x2 x3 z0 z1 z2 z3):=λob=>by
  obtain⟨c0,c1,c2,c3,fz⟩:=h;exact⟨(ki hb _).trans c0,(ki hb _).trans c1,(ki hb _).trans c2,(ki hb _).trans c3,λo=>(EC hb _).trans (fz o)⟩
 clear h l;rcases hF with rfl|rfl
 all_goals
  first|go_enter func229,ntmps229|go_enter func125,ntmps125
  go_wp2
  go_loopw [8] (λi wr=>∃ k:Nat,k<=4/\i=.int .i64 k/\Mid wr b off k x0 x1 x2 x3 z0 z1 z2 z3/\Fo b off w wr) (λi _=>4-(intOf i).toNat)
  case atStart=>exact⟨0,ω,rfl,H _,(Fo.refl _ _ _).alloc hb _⟩
  case round=>
   obtain⟨k,hk,rfl,hm,hf⟩:=hrel;have HM:=zh hm;obtain⟨c0,c1,c2,c3,fz⟩:=hm;obtain rfl|rfl|rfl|rfl|rfl:k=0\/k=1\/k=2\/k=3\/k=4:=ω
   all_goals
    simp at c0 c1 c2 c3;go_wp2
    first
    |(refine bodyPost_end (results_none rfl _ _ _) rfl ⟨rfl,HM,hf⟩)
    |(go_region
      go_wp2
      go_roundw
      case rel=>exact⟨_,ω,π,(HM.put χ).drew,(hf.setCell _ ω _).drew⟩
      case measure=>simp[intOf])
def yW (w:World) (b off:Nat) (S R:Nat->Bool) (u0 u1 u2 u3:Nat) (hu:Wd u0 u1 u2 u3 R) (hb:b<w.heap.size) (h:∃ x0 x1 x2 x3,fg w b off S x0 x1 x2 x3) :
  Calls prog 229 #[.pointer (some ⟨b,off,none⟩),.agg #[.int .u64 u0,.int .u64 u1,.int .u64 u2,.int .u64 u3]] w λe w'=>e=.returned (.tuple #[])/\(∃ y0 y1 y2 y3,fg w' b off (orS S R) y0 y1 y2 y3)/\ft b off w w':=by
 obtain⟨x0,x1,x2,x3,wd,c0,c1,c2,c3,fz⟩:=h;refine(wt (.inl rfl) w b off x0 x1 x2 x3 u0 u1 u2 u3 hb ⟨c0,c1,c2,c3,fz⟩ ⟨⟨wd.l0,hu.l0⟩,⟨wd.l1,hu.l1⟩,⟨wd.l2,hu.l2⟩,wd.l3,hu.l3⟩).mono ?_;rintro e w' ⟨rfl,⟨a0,a1,a2,a3,a4⟩,f⟩;exact⟨rfl,⟨_,_,_,_,wd.all hu,a0,a1,a2,a3,a4⟩,f.four⟩
def pw (x:Nat) (hx:x<18446744073709551616):bits BinOp.xor IntKind.u64 (if IntKind.u64.signed=true then -1 else IntKind.u64.max) (x:Int)=((18446744073709551615 ^^^ x:Nat):Int):=by
 have e:(if IntKind.u64.signed=true then -1 else IntKind.u64.max)=((18446744073709551615:Nat):Int):=Zr;rw[e,bits_xor_u64_nat _ x ω hx]
def Wd.inv (h:Wd x0 x1 x2 x3 S):Wd (18446744073709551615 ^^^ x0) (18446744073709551615 ^^^ x1) (18446744073709551615 ^^^ x2) (18446744073709551615 ^^^ x3) (λn=>!S n):=by
 obtain⟨l0,l1,l2,l3,b0,b1,b2,b3⟩:=h;have key:∀ x n,n<64->(18446744073709551615 ^^^ x).testBit n=!x.testBit n:=by
  intro x n hn;have e:(18446744073709551615:Nat)=2 ^ 64-1:=Zr;rw[testBit_xor,e,testBit_two_pow_sub_one];simp[hn]
 have lt:∀ x,x<18446744073709551616->18446744073709551615 ^^^ x<18446744073709551616:=λx hx=>xor_lt_two_pow (n:=64) Zr hx
 refine⟨lt _ l0,lt _ l1,lt _ l2,lt _ l3,λn hn=>?_,λn hn=>?_,λn hn=>?_,λn hn=>?_⟩
 .rw[key _ _ hn,b0 n hn]
 .rw[key _ _ hn,b1 n hn]
 .rw[key _ _ hn,b2 n hn]
 .rw[key _ _ hn,b3 n hn]
variable (w b off S) in
def pZ (h:∃ x0 x1 x2 x3,fg w b off S x0 x1 x2 x3) :
  Calls prog 222 #[.pointer (some ⟨b,off,none⟩)] w λe w'=>e=.returned (.tuple #[])/\(∃ y0 y1 y2 y3,fg w' b off (λn=>!S n) y0 y1 y2 y3)/\ft b off w w':=by
 obtain⟨x0,x1,x2,x3,h⟩:=h;obtain⟨wd,c0,c1,c2,c3,fz⟩:=h;have i0:=uF;have i1:=uG;have i2:=uH;have i3:=uI;have HI:=zh wd.inv;obtain⟨z0,a⟩:=zx (18446744073709551615 ^^^ x0);obtain⟨z1,f⟩:=zx (18446744073709551615 ^^^ x1);obtain⟨z2,g⟩:=zx (18446744073709551615 ^^^ x2);obtain⟨z3,j⟩:=zx (18446744073709551615 ^^^ x3);rw[<-a,<-f,<-g,<-j] at HI;have e0:bits BinOp.xor IntKind.u64 (if IntKind.u64.signed=true then -1 else IntKind.u64.max) (x0:Int)=z0:=by rw[a];exact pw _ wd.l0
 have e1:bits BinOp.xor IntKind.u64 (if IntKind.u64.signed=true then -1 else IntKind.u64.max) (x1:Int)=z1:=by rw[f];exact pw _ wd.l1
 have e2:bits BinOp.xor IntKind.u64 (if IntKind.u64.signed=true then -1 else IntKind.u64.max) (x2:Int)=z2:=by rw[g];exact pw _ wd.l2
 have e3:bits BinOp.xor IntKind.u64 (if IntKind.u64.signed=true then -1 else IntKind.u64.max) (x3:Int)=z3:=by rw[j];exact pw _ wd.l3
 clear a f g j wd
 go_enter func222,ntmps222
 go_wp2
 go_loopw [8] (λi wr=>∃ k:Nat,k<=4/\i=.int .i64 k/\Mid wr b off k x0 x1 x2 x3 z0 z1 z2 z3/\ft b off w wr) (λi _=>4-(intOf i).toNat)
 case atStart=>exact⟨0,ω,rfl,⟨by simpa using c0,by simpa using c1,by simpa using c2,by simpa using c3,fz⟩,ft.refl _ _ _⟩
 case round=>
  obtain⟨k,hk,rfl,hm,hf⟩:=hrel;have HM:=zh hm;obtain⟨c0,c1,c2,c3,fz⟩:=hm;obtain rfl|rfl|rfl|rfl|rfl:k=0\/k=1\/k=2\/k=3\/k=4:=ω
  all_goals
   simp at c0 c1 c2 c3;go_wp2
   first
   |(go_end0
     exact⟨rfl,⟨_,_,_,_,⟨HI,c0,c1,c2,c3,fz⟩⟩,hf⟩)
   |(go_roundw
     case rel=>exact⟨_,ω,π,HM.put χ,hf.setCell _ ω _⟩
     case measure=>simp[intOf])
def px (x m:Nat) (hx:x<18446744073709551616):(bits BinOp.and IntKind.u64 ((x:Int) / 2 ^ m) 1==1)=x.testBit m:=by
 have e:((x:Int) / 2 ^ m)=((x / 2 ^ m:Nat):Int):=by rw[Int.natCast_ediv,Int.natCast_pow];rfl
 have e1:(1:Int)=((1:Nat):Int):=rfl;have hd:x / 2 ^ m<18446744073709551616:=Nat.lt_of_le_of_lt (div_le_self _ _) hx;rw[e,e1,bits_and_u64_nat _ 1 hd ω,testBit_eq_decide_div_mod_eq,and_one_is_mod];rw[Bool.eq_iff_iff];simp;omega
def uJ (hF:F=177\/F=95) (w:World) (x0 x1 x2 x3 n:Nat) (S:Nat->Bool) (hn:n<256) (h:Wd x0 x1 x2 x3 S) :
  Calls prog F #[.agg #[.int .u64 x0,.int .u64 x1,.int .u64 x2,.int .u64 x3],.int .u8 n] w λe w'=>e=.returned (.bool (S n))/\Below w.heap.size w w':=by
 obtain⟨m,a,hm,hq⟩:=Mw hn;have H:=zh h;rcases hF with rfl|rfl<;>rcases hq with⟨hM,hd⟩|⟨hM,hd⟩|⟨hM,hd⟩|⟨hM,hd⟩
 all_goals
  have HM:Hid _:=hM;clear hM
  first|go_enter func177,ntmps177|go_enter func95,ntmps95
  go_wp2
  go_ret
  refine⟨a_ ?_,ZA⟩;rw[HM.out]
  first|exact(px x0 m H.l0).trans (H.b0 m a)|exact(px x1 m H.l1).trans (H.b1 m a)|exact(px x2 m H.l2).trans (H.b2 m a)|exact(px x3 m H.l3).trans (H.b3 m a)
def v_ (s:ByteArray) (k:Nat):List UInt8:=s.data.toList.drop k
def fh (h:v_ s k=c::t):∃ hk:k<s.size,s[k]=c/\v_ s (k+1)=t:=by
 have hl:k<s.data.toList.length:=by
  rcases Nat.lt_or_ge k s.data.toList.length with g|g
  .exact g
  .simp[v_,drop_eq_nil_of_le g] at h
 have hk:k<s.size:=by simpa using hl
 unfold v_ at h;rw[drop_eq_getElem_cons hl] at h;injection h with h1 h2;exact⟨hk,h1,h2⟩
def uK (hk:k<=s.size) (h:v_ s k=[]):k=s.size:=by
 unfold v_ at h;have:=drop_eq_nil_iff.1 h;simp at this;have:s.data.size=s.size:=rfl;omega
theorem mC:(v_ s k).length=s.size-k:=by simp[v_]
structure St (w:World) (b:Nat) (s:ByteArray) (r:List UInt8) (d x:Int):Prop where
 rd:∃ k,nD w b s k d x/\k<=s.size/\v_ s k=r
 tb:iV w
 b3:4<b
 sz:s.size<=200
theorem St.lt (h:St w b s r d x):b<w.heap.size:=by
 obtain⟨⟨k,h,_⟩,_⟩:=h;exact h.lt
def St.len (h:St w b s r d x):r.length<=200:=by
 obtain⟨⟨k,_,_,h⟩,_,_,hs⟩:=h;rw[<-h,mC];omega
def St.keep (h:St w b s r d x) (hb:∀ k,k<=b->w'.heap[k]?=w.heap[k]?) (hz:w.heap.size<=w'.heap.size):St w' b s r d x:=by
 have hc:∀ o,w'.cell? ⟨b,o,none⟩=w.cell? ⟨b,o,none⟩:=λo=>by simp[cell?,hb b zq]
 have hf:∀ o,w'.frozen? ⟨b,o,none⟩=w.frozen? ⟨b,o,none⟩:=λo=>by simp[frozen?,hb b zq]
 obtain⟨⟨k,⟨c0,c1,c2,c3,fz,lt⟩,hk,hs⟩,tb,b3,sz⟩:=h;exact⟨⟨k,⟨(hc 0).trans c0,(hc 1).trans c1,(hc 2).trans c2,(hc 3).trans c3,λo=>(hf o).trans (fz o),Zd lt hz⟩,hk,hs⟩,tb.of_block (λk hk=>hb k ω),b3,sz⟩
def St.below (h:St w b s r d x) (hb:Below w.heap.size w w'):St w' b s r d x:=
 h.keep (λk hk=>hb.block k (Nat.lt_of_le_of_lt hk h.lt)) hb.size
theorem St.alloc (h:St w b s r d x) (o:Obj):St (w.alloc o) b s r d x:=
 h.below ZA
theorem St.drewN (h:St w b s r d x) (n:Nat):St (w.drewN n) b s r d x:=h.keep (λ_ _=>rfl) zq
theorem St.drew (h:St w b s r d x):St w.drew b s r d x:=h.keep (λ_ _=>rfl) zq
theorem St.setCell (h:St w b s r d x)  (hp:b<p.block) (v:Value):St (w.setCell p v) b s r d x:=
 h.keep (λk hk=>Zf _ _ _ _ ω) (by simp[World.setCell])
def St.four (h:St w b s r d x) (hf:ft b' off w w') (hb:b<b'):St w' b s r d x:=
 h.keep (λk hk=>hf.block k (Nat.lt_of_le_of_lt hk h.lt) ω) hf.size
abbrev aQ (w w':World) (b:Nat) (s:ByteArray) (r:List UInt8) (d x:Int):Prop:=St w' b s r d x/\Rd b w w'
theorem aQ.trans (h:aQ w y b s r d x) (g:aQ y z b s r' d' x'):aQ w z b s r' d' x':=⟨g.1,h.2.trans g.2⟩
def St.of_rd (h:St w b s r d x) (g:Cw w w' b s k d' x') (hk:k<=s.size) (hs:v_ s k=r'):aQ w w' b s r' d' x':=
 ⟨⟨⟨k,g.1,hk,hs⟩,h.tb.of_block (λj hj=>g.2.block j (η h.tb.lt) (η h.b3)),h.b3,h.sz⟩,g.2⟩
variable (w b s c t d x) in
def eh (h:St w b s (c::t) d x) :
  Calls prog 172 #[.pointer (some ⟨b,0,none⟩)] w λe w'=>e=.returned (.tuple #[.int .u8 c.toNat,.bool true])/\aQ w w' b s (c::t) d x:=by
 obtain⟨k,hr,hk,hs⟩:=h.rd;obtain⟨a,e1,e2⟩:=fh hs;refine(nE w b s k d x hr h.sz a).mono ?_;rintro e w' ⟨he,hw⟩;exact⟨by rw[he,e1],h.of_rd hw hk hs⟩
variable (w b s d x) in
def l_ (h:St w b s [] d x) :
  Calls prog 172 #[.pointer (some ⟨b,0,none⟩)] w λe w'=>e=.returned (.tuple #[.int .u8 0,.bool false])/\aQ w w' b s [] d x:=by
 obtain⟨k,hr,hk,hs⟩:=h.rd;refine(ta w b s k d x hr h.sz (uK hk hs)).mono ?_;rintro e w' ⟨he,hw⟩;exact⟨he,h.of_rd hw hk hs⟩
def dP {a b:UInt8} (h:a≠b):(a.toNat:Int)≠b.toNat:=λe=>h (UInt8.toNat_inj.1 ω)
variable (w b s c t d x) in
def ED (h:St w b s (c::t) d x) (v:Int) (hv:v=c.toNat) :
  Calls prog 121 #[.pointer (some ⟨b,0,none⟩),.int .u8 v] w λe w'=>e=.returned (.bool true)/\aQ w w' b s t d x:=by
 obtain⟨k,hr,hk,hs⟩:=h.rd;obtain⟨a,e1,e2⟩:=fh hs;refine(Ez w b s k d x v hr h.sz a (by rw[e1,hv])).mono ?_;rintro e w' ⟨he,hw⟩;exact⟨he,h.of_rd hw a e2⟩
variable (w b s c t d x) in
def uL (h:St w b s (c::t) d x) (v:Int) (hv:(c.toNat:Int)≠v) :
  Calls prog 121 #[.pointer (some ⟨b,0,none⟩),.int .u8 v] w λe w'=>e=.returned (.bool false)/\aQ w w' b s (c::t) d x:=by
 obtain⟨k,hr,hk,hs⟩:=h.rd;obtain⟨a,e1,e2⟩:=fh hs;refine(Ht w b s k d x v hr h.sz a (by rw[e1];exact hv)).mono ?_;rintro e w' ⟨he,hw⟩;exact⟨he,h.of_rd hw hk hs⟩
variable (w b s d x) in
def EE (h:St w b s [] d x) (v:Int) :
  Calls prog 121 #[.pointer (some ⟨b,0,none⟩),.int .u8 v] w λe w'=>e=.returned (.bool false)/\aQ w w' b s [] d x:=by
 obtain⟨k,hr,hk,hs⟩:=h.rd;refine(EA w b s k d x v hr h.sz (uK hk hs)).mono ?_;rintro e w' ⟨he,hw⟩;exact⟨he,h.of_rd hw hk hs⟩
def St.open (h:St w b s (c::t) d x) :
  ∃ k:Nat,k<200/\w.cell? ⟨b,1,none⟩=some (.int .i64 k)/\w.frozen? ⟨b,1,none⟩=false/\∀ w0,Rd b w0 w->aQ w0 (w.setCell ⟨b,1,none⟩ (.int .i64 (k+1))) b s t d x:=by
 obtain⟨k,hr,hk,hs⟩:=h.rd;obtain⟨a,e1,e2⟩:=fh hs;have:=h.sz;refine⟨k,ω,hr.c1,hr.fz 1,λw0 h0=>?_⟩;have:=hr.step (k+1);have g:=h.of_rd (k:=k+1) (d':=d) (x':=x) (r':=t) ⟨by simpa using this,(Rd.refl b w).setCell 1 _⟩ a e2;exact⟨by simpa using g.1,h0.setCell _ _⟩
def nF {B:Nat}{x w:World} (h:Below B x w) (n:Nat):Below B x (w.drewN n):=⟨h.os,h.tape,h.output,h.size,h.block⟩
structure Mk (w:World) (b:Nat) (s:ByteArray) (r:List UInt8):Prop where
 pl:∃ k:Nat,w.cell? ⟨b,0,none⟩=some (.string s)/\w.cell? ⟨b,1,none⟩=some (.int .i64 k)/\k<=s.size/\v_ s k=r
 fz:∀ o,w.frozen? ⟨b,o,none⟩=false
 lt:b<w.heap.size
 sz:s.size<=200
def Mk.keep (h:Mk w b s r) (hb:w'.heap[b]?=w.heap[b]?) (hz:w.heap.size<=w'.heap.size):Mk w' b s r:=by
 have hc:∀ o,w'.cell? ⟨b,o,none⟩=w.cell? ⟨b,o,none⟩:=λo=>by simp[cell?,hb]
 have hf:∀ o,w'.frozen? ⟨b,o,none⟩=w.frozen? ⟨b,o,none⟩:=λo=>by simp[frozen?,hb]
 obtain⟨⟨k,c0,c1,hk,hs⟩,fz,lt,sz⟩:=h;exact⟨⟨k,(hc _).trans c0,(hc _).trans c1,hk,hs⟩,λo=>(hf o).trans (fz o),Zd lt hz,sz⟩
def Mk.below (h:Mk w b s r) (hb:Below w.heap.size w w'):Mk w' b s r:=h.keep (hb.block b h.lt) hb.size
theorem Mk.alloc (h:Mk w b s r) (o:Obj):Mk (w.alloc o) b s r:=
 h.keep (Ze _ _ _ h.lt) χ
theorem Mk.drewN (h:Mk w b s r) (n:Nat):Mk (w.drewN n) b s r:=h.keep rfl zq
theorem Mk.drew (h:Mk w b s r):Mk w.drew b s r:=h.keep rfl zq
def Mk.len (h:Mk w b s r):r.length<=200:=by
 obtain⟨⟨k,_,_,hk,hs⟩,_,_,sz⟩:=h;rw[<-hs,mC];omega
theorem Mk.to (h:Mk w b s r) (j:Nat) (hj:j<=s.size):Mk (w.setCell ⟨b,1,none⟩ (.int .i64 j)) b s (v_ s j):=by
 obtain⟨⟨k,c0,c1,hk,hs⟩,fz,lt,sz⟩:=h;refine⟨⟨j,?_,?_,hj,rfl⟩,?_,?_,sz⟩<;>(try intro o)<;>simp[c0,c1,fz,lt,go_sem]
abbrev nG (w w':World) (b:Nat) (s:ByteArray) (r:List UInt8):Prop:=Mk w' b s r/\Rd b w w'
abbrev EF (w w':World) (b:Nat) (s:ByteArray) (r:List UInt8):Prop:=Mk w' b s r/\Below w.heap.size w w'
def wg:List UInt8->UInt8
 |[]=>0
 |c::_=>c
def ν {P U:Prop} (h:U) (k:U->P:=by intro h;(repeat first|(with_reducible refine Below.setCell ?_ φ _)|(with_reducible refine Below.alloc ?_ θ _)|(with_reducible refine Below.drew ?_)|(with_reducible refine nF ?_ _));exact h):P:=k h
variable (w b s r) in
def dT (h:Mk w b s r) :
  Calls prog 86 #[.pointer (some ⟨b,0,none⟩)] w λe w'=>e=.returned (.int .u8 (wg r).toNat)/\EF w w' b s r:=by
 have h':=h;obtain⟨⟨k,c0,c1,hk,hs⟩,fz,lt,sz⟩:=h
 match r,hs,h' with
 |[],hs,h'=>
  have a:=uK hk hs;subst a
  go_enter func86,ntmps86
  go_wp2
  go_quiet (fail)
  go_wp2
  go_ret
  exact⟨rfl,h'.drewN _,(ν ZB)⟩
 |c::t,hs,h'=>
  obtain⟨f,e1,e2⟩:=fh hs;subst e1
  go_enter func86,ntmps86
  go_wp2
  go_quiet (fail)
  go_wp2
  go_quiet (fail)
  go_wp2
  go_ret
  exact⟨rfl,(h'.drewN _).drewN _,(ν ZB)⟩
abbrev Hu:ByteArray:=⟨#[48,49,50,51,52,53,54,55,56,57,97,98,99,100,101,102]⟩
def wu (c:UInt8):Int:=match iT c with|some v=>v|none=>-1
def p_ (p:UInt8->Bool) (h:((List.range 256).all λn=>p (UInt8.ofNat n))=true) (c:UInt8):p c=true:=by
 rw[all_eq_true] at h;have:=h c.toNat (mem_range.2 c.toNat_lt)
 rwa [UInt8.ofNat_toNat] at this
def uM (c:UInt8):firstIdx Hu c=wu c:=by
 have H:((List.range 256).all λn=>(λc=>firstIdx Hu c==wu c) (UInt8.ofNat n))=true:=κ;exact eq_of_beq (p_ (λc=>firstIdx Hu c==wu c) H c)
def Hv (s:ByteArray) (c:Int) (w:World):(callFunc 254 #[.string s,.int .u8 c]).run prog w=.ok (.value (.int .i64 (firstIdx s c.toNat.toUInt8))) w:=by
 rw[run_callFunc_indexByte func254 κ κ κ κ,run_indexByte_string];rfl
def sq (c:UInt8) (w:World) :
  Calls prog 251 #[.string Hu,.int .u8 c.toNat] w λe w'=>e=.returned (.int .i64 (wu c))/\w'=w:=by
 have hr:=Hv;have he:=uM c
 go_enter func251,ntmps251
 go_wp2
 go_ret
 exact⟨rfl,rfl⟩
def CL (h:iT c=none):wu c=-1:=by simp[wu,h]
def CM (h:iT c=some v):wu c=v:=by simp[wu,h]
def Bh (h:iT c=some v):v<16:=by
 unfold iT at h
 split at h
 .injection h with h;omega
 .split at h
  .injection h with h;omega
  .simp at h
def gZ (w w':World) (b:Nat) (s:ByteArray) (d x:Int) (e:Ending):dN Nat->Prop
 |.ok v r=>e=.returned (.tuple #[.int .u8 v,.bool true])/\v<256/\aQ w w' b s r d x
 |.bad r=>∃ v:Nat,e=.returned (.tuple #[.int .u8 v,.bool false])/\aQ w w' b s r d x
def dN.isOk {α:Type}:dN α->Bool|.ok _ _=>true|.bad _=>false
def dN.val0:dN Nat->Nat|.ok v _=>v|.bad _=>0
variable (w b s r d x least) in
def kj (hl:least<256) (h:St w b s r d x) :
  Calls prog 244 #[.pointer (some ⟨b,0,none⟩),.int .u8 least] w λe w'=>e=.returned (.tuple #[.int .u8 (bz least r).val0,.bool (bz least r).isOk])/\aQ w w' b s (bz least r).rest d x:=by
 match r with
 |[]=>
  have hp:=λw h=>l_ w b s d x h
  go_enter func244,ntmps244
  go_wp2_with (go_at_call 172;refine(hp _ h).mono ?_;rintro e w1 ⟨rfl,h1⟩)
  go_ret2
  exact⟨rfl,h1⟩
 |c::t=>
  have hp:=λw h=>eh w b s c t d x h
  have hi:=λw=>sq c w
  cases hx:iT c with
  |none=>
   rw[CL hx] at hi;have a:(-1:Int)<least:=ω;have HX:=zh hx
   go_enter func244,ntmps244
   go_wp2_with (first|(go_at_call 172;refine(hp _ h).mono ?_;rintro e w1 ⟨rfl,h1⟩)|(go_at_call 251;refine(hi _).mono ?_;rintro e w2 ⟨rfl,hw⟩;obtain rfl:=hw.symm))
   go_ret2
   simp only[bz,HX.out];exact⟨rfl,h1⟩
  |some v=>
   rw[CM hx] at hi;have hv:=Bh hx;have HX:=zh hx
   by_cases a:v<least
   .have f:(v:Int)<least:=ω
    go_enter func244,ntmps244
    go_wp2_with (first|(go_at_call 172;refine(hp _ h).mono ?_;rintro e w1 ⟨rfl,h1⟩)|(go_at_call 251;refine(hi _).mono ?_;rintro e w2 ⟨rfl,hw⟩;obtain rfl:=hw.symm))
    go_ret2
    simp only[bz,HX.out,a,if_true];exact⟨rfl,h1⟩
   .have f:¬(v:Int)<least:=ω
    go_enter func244,ntmps244
    go_wp2_with (first|(go_at_call 172;refine(hp _ h).mono ?_;rintro e w1 ⟨rfl,h1,g⟩;obtain⟨k,hk,k1,k2,kk⟩:=h1.open)|(go_at_call 251;refine(hi _).mono ?_;rintro e w2 ⟨rfl,hw⟩;obtain rfl:=hw.symm))
    go_ret2
    simp only[bz,HX.out,a,if_false];exact⟨rfl,kk _ g⟩
def mc (least:Nat) (r:List UInt8):(bz least r).val0<16:=by
 match r with
 |[]=>simp[bz,dN.val0]
 |c::t=>
  cases hx:iT c with
  |none=>simp[bz,dN.val0,hx]
  |some v=>
   by_cases hl:v<least
   .simp[bz,dN.val0,hx,hl]
   .simp only[bz,dN.val0,hx,hl,if_false];exact Bh hx
abbrev EG (b:Nat) (s:ByteArray) (d x:Int) (l:Int) (r:List UInt8) (P:Ending->World->World->Prop):Prop:=
 ∀ w,St w b s r d x->Calls prog 244 #[.pointer (some ⟨b,0,none⟩),.int .u8 l] w λe w'=>P e w w'
variable (w b s r r' d x least) in
def CN (hl:least<256) (h:St w b s r d x)
  (h1:EG b s d x ((least:Int) / 16) r λe w w'=>∃ v:Nat,e=.returned (.tuple #[.int .u8 v,.bool false])/\aQ w w' b s r' d x) :
  Calls prog 237 #[.pointer (some ⟨b,0,none⟩),.int .u8 least] w λe w'=>∃ v:Nat,e=.returned (.tuple #[.int .u8 v,.bool false])/\aQ w w' b s r' d x:=by
 go_enter func237,ntmps237
 go_wp2_with (go_at_call 244;refine(h1 _ h).mono ?_;rintro e w1 ⟨v,rfl,a⟩)
 go_ret2
 exact⟨0,rfl,a⟩
variable (w b s r r' r'' d x) in
def CO (least high low:Nat) (ok:Bool) (hl:least<256) (h:St w b s r d x) (hh:high<16) (hlw:low<16)
  (h1:EG b s d x ((least:Int) / 16) r λe w w'=>e=.returned (.tuple #[.int .u8 high,.bool true])/\aQ w w' b s r' d x)
  (hc:(least:Int) / 16<high)
  (h2:EG b s d x 0 r' λe w w'=>e=.returned (.tuple #[.int .u8 low,.bool ok])/\aQ w w' b s r'' d x) :
  Calls prog 237 #[.pointer (some ⟨b,0,none⟩),.int .u8 least] w λe w'=>e=.returned (.tuple #[.int .u8 (high*16+low:Nat),.bool ok])/\aQ w w' b s r'' d x:=by
 go_enter func237,ntmps237
 go_wp2_with (first|(go_at_call 244;refine(h2 _ a.1).mono ?_;rintro e w2 ⟨rfl,f⟩)|(go_at_call 244;refine(h1 _ h).mono ?_;rintro e w1 ⟨rfl,a⟩))
 go_ret2
 exact⟨by simp[Int.natCast_add,Int.natCast_mul],a.trans f⟩
variable (w b s r r' r'' d x) in
def CP (least high low:Nat) (ok:Bool) (hl:least<256) (h:St w b s r d x) (hh:high<16) (hlw:low<16)
  (h1:EG b s d x ((least:Int) / 16) r λe w w'=>e=.returned (.tuple #[.int .u8 high,.bool true])/\aQ w w' b s r' d x)
  (hc:¬(least:Int) / 16<high)
  (h2:EG b s d x ((least:Int)%16) r' λe w w'=>e=.returned (.tuple #[.int .u8 low,.bool ok])/\aQ w w' b s r'' d x) :
  Calls prog 237 #[.pointer (some ⟨b,0,none⟩),.int .u8 least] w λe w'=>e=.returned (.tuple #[.int .u8 (high*16+low:Nat),.bool ok])/\aQ w w' b s r'' d x:=by
 go_enter func237,ntmps237
 go_wp2_with (first|(go_at_call 244;refine(h2 _ a.1).mono ?_;rintro e w2 ⟨rfl,f⟩)|(go_at_call 244;refine(h1 _ h).mono ?_;rintro e w1 ⟨rfl,a⟩))
 go_ret2
 exact⟨by simp[Int.natCast_add,Int.natCast_mul],a.trans f⟩
variable (w b s r d x least) in
def oH (hl:least<256) (h:St w b s r d x) :
  Calls prog 237 #[.pointer (some ⟨b,0,none⟩),.int .u8 least] w λe w'=>gZ w w' b s d x e (eG least r):=by
 have h1:=λw h=>kj w b s r d x (least / 16) ω h
 have f:=mc (least / 16) r;have q:((least / 16:Nat):Int)=(least:Int) / 16:=ω;have q2:((least%16:Nat):Int)=(least:Int)%16:=ω;rw[q] at h1;unfold eG
 cases hR:bz (least / 16) r with
 |bad r'=>
  rw[hR] at h1;refine(CN w b s r r' d x least hl h (λw hw=>(h1 w hw).mono λe w' g=>⟨0,g⟩)).mono ?_;exact λe w' g=>g
 |ok high r'=>
  rw[hR] at h1 f;simp only[dN.val0,dN.isOk,dN.rest] at h1 f
  by_cases hc:least / 16<high
  .have h2:=λw h=>kj w b s r' d x 0 ω h
   have a:=mc 0 r';simp only[hc,if_true,zero_mod];refine(CO w b s r r' _ d x least high _ _ hl h f a h1 ω h2).mono ?_;intro e w' g
   cases hR2:bz 0 r' with
   |bad r''=>rw[hR2] at g;exact⟨_,g⟩
   |ok low r''=>rw[hR2] at g a;exact⟨g.1,by simp only[dN.val0] at a;omega,g.2⟩
  .have h2:=λw h=>kj w b s r' d x (least%16) ω h
   have a:=mc (least%16) r';rw[q2] at h2;simp only[hc,if_false];refine(CP w b s r r' _ d x least high _ _ hl h f a h1 ω h2).mono ?_;intro e w' g
   cases hR2:bz (least%16) r' with
   |bad r''=>rw[hR2] at g;exact⟨_,g⟩
   |ok low r''=>rw[hR2] at g a;exact⟨g.1,by simp only[dN.val0] at a;omega,g.2⟩
theorem Hw (c:UInt8):so c.toNat=(el c).map λn=>(n:Int):=by
 have H:((List.range 256).all λn=>(λc:UInt8=>so c.toNat==(el c).map λn=>(n:Int)) (UInt8.ofNat n))=true:=κ;exact eq_of_beq (p_ (λc:UInt8=>so c.toNat==(el c).map λn=>(n:Int)) H c)
def yX (c:UInt8):((el c).getD 0)<256:=by
 have H:((List.range 256).all λn=>(λc:UInt8=>decide ((el c).getD 0<256)) (UInt8.ofNat n))=true:=κ;exact of_decide_eq_true (p_ (λc:UInt8=>decide ((el c).getD 0<256)) H c)
theorem Jr (c:UInt8):(c.toNat:Int)<=255:=by have:=c.toNat_lt;omega
def sv (c:UInt8) (w:World) (hT:iV w) :
  Calls prog 238 #[.int .u8 c.toNat] w λe w'=>e=.returned (.tuple #[.int .u8 ((el c).getD 0:Nat),.bool (el c).isSome])/\Below w.heap.size w w':=by
 refine(ph c.toNat w hT ω (Jr c)).mono ?_;rintro e w' ⟨he,hb⟩;refine⟨?_,hb⟩;rw[he,Hw]
 cases el c<;>rfl
variable (w b s d x least) in
def uN (hl:least<256) (h:St w b s [] d x) :
  Calls prog 231 #[.pointer (some ⟨b,0,none⟩),.int .u8 least] w λe w'=>e=.returned (.tuple #[.int .u8 0,.bool false])/\aQ w w' b s [] d x:=by
 go_enter func231,ntmps231
 go_wp2_with (first|(go_at_call 172;refine(l_ _ b s d x h1.1).mono ?_;rintro e w2 ⟨rfl,h2⟩)|(go_at_call 121;refine(EE _ b s d x h _).mono ?_;rintro e w1 ⟨rfl,h1⟩))
 go_ret2
 exact⟨rfl,h1.trans h2⟩
variable (w b s t d x least) in
def mD (hl:least<256) (h:St w b s (120::t) d x) (Q:Nat->Prop) (ok:Bool) (r':List UInt8)
  (h1:∀ w,St w b s t d x->Calls prog 237 #[.pointer (some ⟨b,0,none⟩),.int .u8 least] w λe w'=>∃ v:Nat,Q v/\e=.returned (.tuple #[.int .u8 v,.bool ok])/\aQ w w' b s r' d x) :
  Calls prog 231 #[.pointer (some ⟨b,0,none⟩),.int .u8 least] w λe w'=>∃ v:Nat,Q v/\e=.returned (.tuple #[.int .u8 v,.bool ok])/\aQ w w' b s r' d x:=by
 go_enter func231,ntmps231
 go_wp2_with (first|(go_at_call 237;refine(h1 _ g1.1).mono ?_;rintro e w2 ⟨v,hv,rfl,g2⟩)|(go_at_call 121;refine(ED _ b s 120 t d x h 120 rfl).mono ?_;rintro e w1 ⟨rfl,g1⟩))
 go_ret2
 exact⟨_,hv,rfl,g1.trans g2⟩
abbrev J0 (c:UInt8) (v:Nat) (ok:Bool):Prop:=
 ∀ w,iV w->Calls prog 238 #[.int .u8 c.toNat] w λe w'=>e=.returned (.tuple #[.int .u8 v,.bool ok])/\Below w.heap.size w w'
variable (w b s c t d x least) in
def sw (hl:least<256) (h:St w b s (c::t) d x) (hc:(c.toNat:Int)≠120) (h3:J0 c 0 false) :
  Calls prog 231 #[.pointer (some ⟨b,0,none⟩),.int .u8 least] w λe w'=>e=.returned (.tuple #[.int .u8 0,.bool false])/\aQ w w' b s (c::t) d x:=by
 go_enter func231,ntmps231
 go_wp2_with (first|(go_at_call 238;refine(h3 _ h2.1.tb).mono ?_;rintro e w3 ⟨rfl,a⟩)|(go_at_call 172;refine(eh _ b s c t d x h1.1).mono ?_;rintro e w2 ⟨rfl,h2⟩)|(go_at_call 121;refine(uL _ b s c t d x h _ (by simpa using hc)).mono ?_;rintro e w1 ⟨rfl,h1⟩))
 go_ret2
 exact⟨rfl,h2.1.below a,(h1.trans h2).2.trans (Rd.of_below a)⟩
variable (w b s c t d x least v) in
def sA (hl:least<256) (h:St w b s (c::t) d x) (hc:(c.toNat:Int)≠120) (h3:J0 c v true) (hv:(v:Int)<least) :
  Calls prog 231 #[.pointer (some ⟨b,0,none⟩),.int .u8 least] w λe w'=>e=.returned (.tuple #[.int .u8 0,.bool false])/\aQ w w' b s (c::t) d x:=by
 go_enter func231,ntmps231
 go_wp2_with (first|(go_at_call 238;refine(h3 _ h2.1.tb).mono ?_;rintro e w3 ⟨rfl,a⟩)|(go_at_call 172;refine(eh _ b s c t d x h1.1).mono ?_;rintro e w2 ⟨rfl,h2⟩)|(go_at_call 121;refine(uL _ b s c t d x h _ (by simpa using hc)).mono ?_;rintro e w1 ⟨rfl,h1⟩))
 go_ret2
 exact⟨rfl,h2.1.below a,(h1.trans h2).2.trans (Rd.of_below a)⟩
variable (w b s c t d x least v) in
def sC (hl:least<256) (h:St w b s (c::t) d x) (hc:(c.toNat:Int)≠120) (h3:J0 c v true) (hv:¬(v:Int)<least) :
  Calls prog 231 #[.pointer (some ⟨b,0,none⟩),.int .u8 least] w λe w'=>e=.returned (.tuple #[.int .u8 v,.bool true])/\aQ w w' b s t d x:=by
 go_enter func231,ntmps231
 go_wp2_with (first|(go_at_call 238;refine(h3 _ h2.1.tb).mono ?_;rintro e w3 ⟨rfl,a⟩;have h4:=h2.1.below a;obtain⟨k,hk,k1,k2,kk⟩:=h4.open)|(go_at_call 172;refine(eh _ b s c t d x h1.1).mono ?_;rintro e w2 ⟨rfl,h2⟩)|(go_at_call 121;refine(uL _ b s c t d x h _ (by simpa using hc)).mono ?_;rintro e w1 ⟨rfl,h1⟩))
 go_ret2
 exact⟨rfl,kk _ ((h1.trans h2).2.trans (Rd.of_below a))⟩
variable (w b s r d x least) in
def kl (hl:least<256) (h:St w b s r d x) :
  Calls prog 231 #[.pointer (some ⟨b,0,none⟩),.int .u8 least] w λe w'=>gZ w w' b s d x e (aE least r):=by
 match r with
 |[]=>exact(uN w b s d x least hl h).mono λe w' g=>⟨0,g⟩
 |c::t=>
  by_cases hc:c=120
  .subst hc;simp only[aE,if_true]
   cases hR:eG least t with
   |bad r'=>
    refine(mD w b s t d x least hl h (λ_=>True) false r' (λw hw=>(oH w b s t d x least hl hw).mono λe w' g=>?_)).mono ?_
    .rw[hR] at g;obtain⟨v,g⟩:=g;exact⟨v,trivial,g⟩
    .rintro e w' ⟨v,-,g⟩;exact⟨v,g⟩
   |ok v0 r'=>
    refine(mD w b s t d x least hl h (λv=>v=v0/\v0<256) true r' (λw hw=>(oH w b s t d x least hl hw).mono λe w' g=>?_)).mono ?_
    .rw[hR] at g;exact⟨v0,⟨rfl,g.2.1⟩,g.1,g.2.2⟩
    .rintro e w' ⟨v,⟨rfl,hv⟩,g⟩;exact⟨g.1,hv,g.2⟩
  .have f:=dP (b:=120) hc;have h3:=λw hw=>sv c w hw
   have a:=yX c;simp only[aE,hc,if_false]
   cases hE:el c with
   |none=>
    rw[hE] at h3;exact(sw w b s c t d x least hl h f h3).mono λe w' g=>⟨0,g⟩
   |some v=>
    rw[hE] at h3 a;simp only[Option.getD_some] at a
    by_cases hv:v<least
    .simp only[hv,if_true];exact(sA w b s c t d x least v hl h f h3 ω).mono λe w' g=>⟨0,g⟩
    .simp only[hv,if_false];exact(sC w b s c t d x least v hl h f h3 ω).mono λe w' g=>⟨g.1,a,g.2⟩
variable (w b s r r' d x least) in
def ww (hl:least<256) (h:St w b s r d x) (Q:Nat->Prop) (ok:Bool)
  (h1:∀ w,St w b s r d x->Calls prog 231 #[.pointer (some ⟨b,0,none⟩),.int .u8 least] w λe w'=>∃ v:Nat,Q v/\e=.returned (.tuple #[.int .u8 v,.bool ok])/\aQ w w' b s r' d x) :
  Calls prog 234 #[.pointer (some ⟨b,0,none⟩),.bool true,.int .u8 least] w λe w'=>∃ v:Nat,Q v/\e=.returned (.tuple #[.int .u8 v,.bool ok])/\aQ w w' b s r' d x:=by
 go_enter func234,ntmps234
 go_wp2_with (go_at_call 231;refine(h1 _ h).mono ?_;rintro e w2 ⟨v,hv,rfl,g2⟩)
 go_ret2
 exact⟨_,hv,rfl,g2⟩
def Hx:dN Nat->Nat->Prop
 |.ok v _=>λu=>u=v/\v<256
 |.bad _=>λ_=>True
theorem gZ.q {e:Ending} (g:gZ w w' b s d x e R):∃ v:Nat,Hx R v/\e=.returned (.tuple #[.int .u8 v,.bool R.isOk])/\aQ w w' b s R.rest d x:=by
 cases R with
 |ok v r=>exact⟨v,⟨rfl,g.2.1⟩,g.1,g.2.2⟩
 |bad r=>obtain⟨v,g⟩:=g;exact⟨v,trivial,g⟩
def gZ.of_q {e:Ending} (g:∃ v:Nat,Hx R v/\e=.returned (.tuple #[.int .u8 v,.bool R.isOk])/\aQ w w' b s R.rest d x):gZ w w' b s d x e R:=by
 cases R with
 |ok v r=>obtain⟨u,⟨rfl,hu⟩,g⟩:=g;exact⟨g.1,hu,g.2⟩
 |bad r=>obtain⟨v,-,g⟩:=g;exact⟨v,g⟩
variable (w b s r d x least) in
def yY (hl:least<256) (h:St w b s r d x) :
  Calls prog 234 #[.pointer (some ⟨b,0,none⟩),.bool true,.int .u8 least] w λe w'=>gZ w w' b s d x e (aE least r):=
 (ww w b s r _ d x least hl h _ _ (λw hw=>(kl w b s r d x least hl hw).mono λ_ _ g=>g.q)).mono λ_ _ g=>gZ.of_q g
variable (w b s r d x least) in
def yZ (hl:least<256) (h:St w b s r d x) :
  Calls prog 234 #[.pointer (some ⟨b,0,none⟩),.bool false,.int .u8 least] w λe w'=>gZ w w' b s d x e (aP least r):=by
 match r with
 |[]=>
  go_enter func234,ntmps234
  go_wp2_with (go_at_call 172;refine(l_ _ b s d x h).mono ?_;rintro e w2 ⟨rfl,h2⟩)
  go_ret2
  exact⟨0,rfl,h2⟩
 |c::t=>
  by_cases hlt:c.toNat<least
  .have a:(c.toNat:Int)<least:=ω;have HR:Hid (aP least (c::t)=.bad (c::t)):=by show _=_;simp only[aP,hlt,if_true]
   go_enter func234,ntmps234
   go_wp2_with (go_at_call 172;refine(eh _ b s c t d x h).mono ?_;rintro e w2 ⟨rfl,h2⟩)
   go_ret2
   rw[HR.out];exact⟨0,rfl,h2⟩
  .have a:¬(c.toNat:Int)<least:=ω
   by_cases hs:c=92\/c=91\/c=93\/c=94\/c=45
   .have HR:Hid (aP least (c::t)=.bad (c::t)):=by show _=_;simp only[aP,hlt,hs,if_true,if_false]
    rcases hs with rfl|rfl|rfl|rfl|rfl
    all_goals
     simp at a
     go_enter func234,ntmps234
     go_wp2_with (go_at_call 172;refine(eh _ b s _ t d x h).mono ?_;rintro e w2 ⟨rfl,h2⟩)
     go_ret2
     rw[HR.out];exact⟨0,rfl,h2⟩
   .have HR:Hid (aP least (c::t)=.ok c.toNat t):=by show _=_;simp only[aP,hlt,hs,if_false]
    have n1:((c.toNat:Int)==92)=false:=by simpa using dP (b:=92) (λe=>hs (.inl e))
    have n2:((c.toNat:Int)==91)=false:=by simpa using dP (b:=91) (λe=>hs (.inr (.inl e)))
    have n3:((c.toNat:Int)==93)=false:=by simpa using dP (b:=93) (λe=>hs (.inr (.inr (.inl e))))
    have n4:((c.toNat:Int)==94)=false:=by simpa using dP (b:=94) (λe=>hs (.inr (.inr (.inr (.inl e)))))
    have n5:((c.toNat:Int)==45)=false:=by simpa using dP (b:=45) (λe=>hs (.inr (.inr (.inr (.inr e)))))
    go_enter func234,ntmps234
    go_wp2_with (go_at_call 172;refine(eh _ b s c t d x h).mono ?_;rintro e w2 ⟨rfl,h2,f⟩;obtain⟨k,hk,k1,k2,kk⟩:=h2.open)
    go_ret2
    rw[HR.out];exact⟨rfl,c.toNat_lt,kk _ f⟩
abbrev gB:List (Nat×Nat×Nat):=[(100,48,57),(119,48,57),(119,65,90),(119,95,95),(119,97,122),(115,9,10),(115,13,13),(115,32,32)]
def CQ (w:World):(Instr.index 361 (.agg SE) (.int .i64 0)).run prog w=.ok (.agg #[.int .u8 100,.int .u8 48,.int .u8 57]) w:=κ
def CS (w:World):(Instr.index 361 (.agg SE) (.int .i64 1)).run prog w=.ok (.agg #[.int .u8 119,.int .u8 48,.int .u8 57]) w:=κ
def CT (w:World):(Instr.index 361 (.agg SE) (.int .i64 2)).run prog w=.ok (.agg #[.int .u8 119,.int .u8 65,.int .u8 90]) w:=κ
def CU (w:World):(Instr.index 361 (.agg SE) (.int .i64 3)).run prog w=.ok (.agg #[.int .u8 119,.int .u8 95,.int .u8 95]) w:=κ
def CV (w:World):(Instr.index 361 (.agg SE) (.int .i64 4)).run prog w=.ok (.agg #[.int .u8 119,.int .u8 97,.int .u8 122]) w:=κ
def CX (w:World):(Instr.index 361 (.agg SE) (.int .i64 5)).run prog w=.ok (.agg #[.int .u8 115,.int .u8 9,.int .u8 10]) w:=κ
def CY (w:World):(Instr.index 361 (.agg SE) (.int .i64 6)).run prog w=.ok (.agg #[.int .u8 115,.int .u8 13,.int .u8 13]) w:=κ
def CZ (w:World):(Instr.index 361 (.agg SE) (.int .i64 7)).run prog w=.ok (.agg #[.int .u8 115,.int .u8 32,.int .u8 32]) w:=κ
def EH (k:Nat) (h:k<8) (w:World):(Instr.index 361 (.agg SE) (.int .i64 k)).run prog w=.ok (.agg #[.int .u8 ((gB.getD k (0,0,0)).1:Nat),.int .u8 ((gB.getD k (0,0,0)).2.1:Nat),.int .u8 ((gB.getD k (0,0,0)).2.2:Nat)]) w:=by
 match k,h with
 |0,_=>exact CQ w
 |1,_=>exact CS w
 |2,_=>exact CT w
 |3,_=>exact CU w
 |4,_=>exact CV w
 |5,_=>exact CX w
 |6,_=>exact CY w
 |7,_=>exact CZ w
 |n+8,h=>exact absurd h ω
def Hy (k:Nat) (h:k<8):(gB.getD k (0,0,0)).2.1<256/\(gB.getD k (0,0,0)).2.2<256:=by
 have H:∀ i:Fin 8,(gB.getD i.val (0,0,0)).2.1<256/\(gB.getD i.val (0,0,0)).2.2<256:=Zr;exact H ⟨k,h⟩
def jY (c:UInt8) (k:Nat) (n:Nat):Bool:=(gB.take k).any λe=>e.1==c.toNat&&ax e.2.1 e.2.2 n
def sD (c:UInt8) (k:Nat):Bool:=(gB.take k).any λe=>e.1==c.toNat
def iK (k:Nat) (h:k<8):gB.take (k+1)=gB.take k++[gB.getD k (0,0,0)]:=by
 have H:∀ i:Fin 8,gB.take (i.val+1)=gB.take i.val++[gB.getD i.val (0,0,0)]:=Zr;exact H ⟨k,h⟩
def Hz (c:UInt8) (k:Nat) (h:k<8) (e:(gB.getD k (0,0,0)).1=c.toNat) (n:Nat):jY c (k+1) n=orS (jY c k) (ax (gB.getD k (0,0,0)).2.1 (gB.getD k (0,0,0)).2.2) n:=by
 unfold jY;rw[iK k h];simp only[any_append,any_cons,any_nil,orS,e];simp
def J1 (c:UInt8) (k:Nat) (h:k<8) (e:(gB.getD k (0,0,0)).1≠c.toNat) (n:Nat):jY c (k+1) n=jY c k n:=by
 unfold jY;rw[iK k h];simp only[any_append,any_cons,any_nil];have:((gB.getD k (0,0,0)).1==c.toNat)=false:=by simpa using e
 rw[this];simp
def H4 (c:UInt8) (k:Nat) (h:k<8) (e:(gB.getD k (0,0,0)).1=c.toNat):sD c (k+1)=true:=by
 unfold sD;rw[iK k h];simp only[any_append,any_cons,any_nil,e];simp
def J2 (c:UInt8) (k:Nat) (h:k<8) (e:(gB.getD k (0,0,0)).1≠c.toNat):sD c (k+1)=sD c k:=by
 unfold sD;rw[iK k h];simp only[any_append,any_cons,any_nil];have:((gB.getD k (0,0,0)).1==c.toNat)=false:=by simpa using e
 rw[this];simp
def setOf (c:UInt8):Nat->Bool:=(bK c).getD λ_=>false
theorem H5 (c:UInt8):sD c 8=(bK c).isSome:=by
 have H:((List.range 256).all λn=>(λc:UInt8=>sD c 8==(bK c).isSome) (UInt8.ofNat n))=true:=κ;exact eq_of_beq (p_ (λc:UInt8=>sD c 8==(bK c).isSome) H c)
def H6 (c:UInt8) (n:Nat):jY c 8 n=setOf c n:=by
 by_cases h1:c=100
 .subst h1;simp[jY,setOf,bK]
 .by_cases h2:c=119
  .subst h2;simp[jY,setOf,bK,Bool.or_assoc]
  .by_cases h3:c=115
   .subst h3;simp[jY,setOf,bK,Bool.or_assoc]
   .have n1:¬(100=c.toNat):=λe=>h1 (UInt8.toNat_inj.1 e.symm)
    have n2:¬(119=c.toNat):=λe=>h2 (UInt8.toNat_inj.1 e.symm)
    have n3:¬(115=c.toNat):=λe=>h3 (UInt8.toNat_inj.1 e.symm)
    simp[jY,setOf,bK,h1,h2,h3,n1,n2,n3]
abbrev gU (w:World) (b off:Nat) (S:Nat->Bool):Prop:=∃ y0 y1 y2 y3,fg w b off S y0 y1 y2 y3
def fg.of_heap (h:fg w b off S x0 x1 x2 x3) (hb:w'.heap[b]?=w.heap[b]?):fg w' b off S x0 x1 x2 x3:=by
 have hc:∀ o,w'.cell? ⟨b,o,none⟩=w.cell? ⟨b,o,none⟩:=λo=>by simp[cell?,hb]
 have hf:∀ o,w'.frozen? ⟨b,o,none⟩=w.frozen? ⟨b,o,none⟩:=λo=>by simp[frozen?,hb]
 exact⟨h.wd,(hc _).trans h.c0,(hc _).trans h.c1,(hc _).trans h.c2,(hc _).trans h.c3,λo=>(hf o).trans (h.fz o)⟩
theorem gU.of_heap (h:gU w b off S) (hb:w'.heap[b]?=w.heap[b]?):gU w' b off S:=by
 obtain⟨y0,y1,y2,y3,h⟩:=h;exact⟨y0,y1,y2,y3,h.of_heap hb⟩
theorem gU.congr (h:gU w b off S) (e:∀ n,S n=S' n):gU w b off S':=by
 obtain⟨y0,y1,y2,y3,h⟩:=h;exact⟨y0,y1,y2,y3,h.congr λn _=>e n⟩
theorem gU.alloc (h:gU w b off S) (hb:b<w.heap.size) (o:Obj):gU (w.alloc o) b off S:=h.of_heap (Ze _ _ _ hb)
def Wd.congr (h:Wd x0 x1 x2 x3 S) (e:∀ n,S n=S' n):Wd x0 x1 x2 x3 S':=by
 have:S=S':=funext e;rw[<-this];exact h
abbrev wv (x0 x1 x2 x3:Nat):Value:=.agg #[.int .u64 x0,.int .u64 x1,.int .u64 x2,.int .u64 x3]
def τ {P U:Prop} (h:U) (k:U->P:=by intro h;(repeat refine Below.setCell ?_ ψ _);(repeat refine Below.alloc ?_ ψ _);exact h):P:=k h
def qa (c:UInt8) (w:World) (hT:iV w) :
  Calls prog 236 #[.int .u8 c.toNat] w λe w'=>(∃ x0 x1 x2 x3,Wd x0 x1 x2 x3 (setOf c)/\e=.returned (.tuple #[wv x0 x1 x2 x3,.bool (bK c).isSome]))/\Below w.heap.size w w':=by
 obtain⟨-,⟨tt,fr,hg⟩,-⟩:=hT;have B:((w.alloc (.cells #[.int .u64 0,.int .u64 0,.int .u64 0,.int .u64 0] 226)).alloc (.cells #[.int .u64 0,.int .u64 0,.int .u64 0,.int .u64 0] 226)).heap[3]?=some (.cells SE tt fr):=by
  have h1:3<w.heap.size:=by
   rcases Nat.lt_or_ge 3 w.heap.size with h|h
   .exact h
   .simp[Array.getElem?_eq_none h] at hg
  rw[Ze _ _ _ σ,Ze _ _ _ h1];exact hg
 go_enter func236,ntmps236
 go_wp2_with (refine wpList_load_row rfl 361 _ rfl 3 rfl tt _ fr _ B underlying361 rfl κ ?_)
 go_loopw [9,5] (λi f wr=>∃ k:Nat,k<=8/\i=.int .i64 k/\f=.bool (sD c k)/\(∃ y0 y1 y2 y3,fg wr (w.heap.size+1) 0 (jY c k) y0 y1 y2 y3)/\fg wr w.heap.size 0 (λ_=>false) 0 0 0 0/\Below w.heap.size w wr/\w.heap.size+1<wr.heap.size) (λi _ _=>8-(intOf i).toNat)
 case atStart=>
  refine⟨0,ω,rfl,rfl,⟨0,0,0,0,?_⟩,?_,(τ ZB),χ⟩
  .refine⟨⟨ω,ω,ω,ω,?_,?_,?_,?_⟩,?_,?_,?_,?_,?_⟩<;>simp[jY,go_sem]
  .refine⟨⟨ω,ω,ω,ω,?_,?_,?_,?_⟩,?_,?_,?_,?_,?_⟩<;>simp[go_sem]
 case round=>
  clear hg B;obtain⟨k,hk,rfl,rfl,hS,hZ,u,D⟩:=hrel;have HS:=zh hS;have HZ:=zh hZ;clear hS hZ
  by_cases hlt:k<8
  .have H:=EH k hlt;obtain⟨G,C⟩:=Hy k hlt;obtain⟨z1,a⟩:=zx ((gB.getD k (0,0,0)).1);obtain⟨z2,m⟩:=zx ((gB.getD k (0,0,0)).2.1);obtain⟨z3,q⟩:=zx ((gB.getD k (0,0,0)).2.2);rw[<-a,<-m,<-q] at H;rw[<-m] at G;rw[<-q] at C
   by_cases he:z1=c.toNat
   .have e1:∀ n,jY c (k+1) n=orS (jY c k) (ax z2 z3) n:=λn=>by rw[m,q];exact Hz c k hlt (a.symm.trans he) n
    have e2:=H4 c k hlt (a.symm.trans he);have E1:=zh e1;have E2:=zh e2;clear e1 e2 a m q;have K:((z1:Int)==c.toNat)=true:=by rw[he];simp
    clear he;go_wp2_with (go_at_call 235;refine(kh _ (w.heap.size+1) 0 z2 z3 (jY c k) C G (gU.alloc HS D _)).mono ?_;rintro e w1 ⟨rfl,E,g⟩;have I:Hid _:=E;clear E)
    go_roundw
    case rel=>
     refine⟨k+1,ω,π,by rw[E2.out],gU.congr I (λn=>(E1 n).symm),?_,?_,?_⟩
     .exact HZ.of_heap ((g.block _ σ ω).trans (Ze _ _ _ ω))
     .have L:Below w.heap.size (wr.alloc (.cells #[.int .u8 z1,.int .u8 z2,.int .u8 z3] 360)) w1:=⟨g.os,g.tape,g.output,g.size,λj hj=>g.block j σ ω⟩
      exact(u.alloc ω _).trans L
     .have:=g.size;simp at this;omega
    case measure=>simp[intOf];omega
   .have e1:∀ n,jY c (k+1) n=jY c k n:=λn=>J1 c k hlt (λe=>he (a.trans e)) n
    have e2:=J2 c k hlt (λe=>he (a.trans e));have E1:=zh e1;have E2:=zh e2;clear e1 e2 a m q;have K:((z1:Int)==c.toNat)=false:=σ;clear he;go_wp2
    go_roundw
    case rel=>
     refine⟨k+1,ω,π,by rw[E2.out],gU.congr (gU.alloc HS D _) (λn=>(E1 n).symm),?_,u.alloc ω _,σ⟩;exact HZ.of_heap (Ze _ _ _ ω)
    case measure=>simp[intOf];omega
  .have J:k=8:=ω;subst J;obtain⟨y0,y1,y2,y3,hw,c0,c1,c2,c3,fz⟩:=HS.out;obtain⟨-,d0,d1,d2,d3,dz⟩:=HZ.out;simp only[Nat.zero_add] at c1 c2 c3 d1 d2 d3;clear HS HZ;go_wp2
   refine Zb (v:=.tuple #[wv y0 y1 y2 y3,.bool (sD c 8)]) (by simp[results,results236,go_sem,d0,d1,d2,d3]) rfl ⟨⟨y0,y1,y2,y3,hw.congr (H6 c),by rw[H5]⟩,?_⟩;exact(((u.setCell zq _).setCell zq _).setCell zq _).setCell zq _
abbrev wy:Obj:=.cells #[.int .u64 0,.int .u64 0,.int .u64 0,.int .u64 0] 226
def K6:Wd 0 0 0 0 (λ_=>false):=⟨ω,ω,ω,ω,λ_ _=>χ,λ_ _=>χ,λ_ _=>χ,λ_ _=>χ⟩
structure Z4 (w:World) (b:Nat):Prop where
 c0:w.cell? ⟨b,0,none⟩=some (.int .u64 0)
 c1:w.cell? ⟨b,1,none⟩=some (.int .u64 0)
 c2:w.cell? ⟨b,2,none⟩=some (.int .u64 0)
 c3:w.cell? ⟨b,3,none⟩=some (.int .u64 0)
 fz:∀ o,w.frozen? ⟨b,o,none⟩=false
def wA (w:World):Z4 (w.alloc wy) w.heap.size:=by
 refine⟨?_,?_,?_,?_,λo=>?_⟩<;>simp[go_sem]
def Z4.of_heap (h:Z4 w b) (hb:w'.heap[b]?=w.heap[b]?):Z4 w' b:=by
 have hc:∀ o,w'.cell? ⟨b,o,none⟩=w.cell? ⟨b,o,none⟩:=λo=>by simp[cell?,hb]
 have hf:∀ o,w'.frozen? ⟨b,o,none⟩=w.frozen? ⟨b,o,none⟩:=λo=>by simp[frozen?,hb]
 exact⟨(hc _).trans h.c0,(hc _).trans h.c1,(hc _).trans h.c2,(hc _).trans h.c3,λo=>(hf o).trans (h.fz o)⟩
def km (w w':World) (b:Nat) (s:ByteArray) (d x:Int) (e:Ending):dN (Nat->Bool)->Prop
 |.ok S r=>(∃ x0 x1 x2 x3,Wd x0 x1 x2 x3 S/\e=.returned (.tuple #[wv x0 x1 x2 x3,.bool true]))/\aQ w w' b s r d x
 |.bad r=>(∃ x0 x1 x2 x3:Nat,e=.returned (.tuple #[wv x0 x1 x2 x3,.bool false]))/\aQ w w' b s r d x
def Rd.setNew {x w:World} (h:Rd b x w)  (hp:x.heap.size<=p.block) (v:Value):Rd b x (w.setCell p v):=
 ⟨h.os,h.tape,h.output,by simpa [World.setCell] using h.size,λk hk hb=>(Zf _ _ _ _ ω).trans (h.block k hk hb)⟩
def Rd.under {x w:World} (h:Rd b (x.alloc o) w):Rd b x w:=((Rd.refl b x).alloc o).trans h
def Rd.below {x y w:World} (h:Rd b x y) (hb:Below y.heap.size y w):Rd b x w:=h.trans (Rd.of_below hb)
def Rd.four {x y w:World} (h:Rd b x y) (hf:ft b' off y w) (hb:x.heap.size<=b'):Rd b x w:=
 ⟨hf.os.trans h.os,hf.tape.trans h.tape,hf.output.trans h.output,Zc h.size hf.size,λk hk hkb=>(hf.block k (Zd hk h.size) ω).trans (h.block k hk hkb)⟩
def du:List UInt8->dN (Nat->Bool)
 |[]=>.bad []
 |c::t=>match bK c with
  |some S=>.ok S t
  |none=>.bad (c::t)
def St.ne (h:St w b s r d x):w.heap.size≠b:=by have:=h.lt;omega
variable (w b s d x) in
def wB (h:St w b s [] d x) :
  Calls prog 230 #[.pointer (some ⟨b,0,none⟩)] w λe w'=>km w w' b s d x e (du []):=by
 have g:=h.ne
 go_enter func230,ntmps230
 go_wp2_with (go_at_call 172;refine(l_ _ b s d x (h.alloc _)).mono ?_;rintro e w1 ⟨rfl,h1,f⟩;obtain⟨d0,d1,d2,d3,dz⟩:=(wA w).of_heap (f.block w.heap.size χ g))
 refine Zb (v:=.tuple #[wv 0 0 0 0,.bool false]) (by simp[results,results230,go_sem,d0,d1,d2,d3]) rfl ⟨⟨0,0,0,0,rfl⟩,?_,?_⟩
 .have a:=h.lt;exact(((h1.setCell a _).setCell a _).setCell a _).setCell a _
 .have hr:=f.under;exact(((hr.setNew zq _).setNew zq _).setNew zq _).setNew zq _
def υ {P Q U:Prop} (a:Q) (h:U) (k:Q->U->P:=by intro a h;(repeat first|(with_reducible refine St.setCell ?_ (by first|exact a|(simp;done)|(simp;omega)) _)|(with_reducible refine St.alloc ?_ _)|(with_reducible refine St.drew ?_)|(with_reducible refine St.drewN ?_ _));exact h):P:=k a h
def ς {P U:Prop} (h:U) (k:U->P:=by intro h;(repeat first|(with_reducible refine Rd.setNew ?_ φ _)|(with_reducible refine Rd.alloc ?_ _)|(with_reducible refine Rd.drew ?_)|(with_reducible refine Rd.drewN ?_ _));exact h):P:=k h
def Γ {P Q U:Prop} (a:Q) (h:U) (k:Q->U->P:=by intro a h;(repeat (with_reducible refine St.setCell ?_ (by first|exact a|(simp;done)|(simp;omega)) _));exact h):P:=k a h
variable (w b s c t d x) in
def wC (h:St w b s (c::t) d x) :
  Calls prog 230 #[.pointer (some ⟨b,0,none⟩)] w λe w'=>km w w' b s d x e (du (c::t)):=by
 have j:=h.ne;have q:=h.lt;have hE:=λw hT=>qa c w hT
 cases hS:bK c with
 |none=>
  have HR:Hid (du (c::t)=.bad (c::t)):=by show _=_;simp only[du,hS]
  rw[hS] at hE;simp only[Option.isSome_none] at hE
  go_enter func230,ntmps230
  go_wp2_with (first|(go_at_call 236;refine(hE _ h1.tb).mono ?_;rintro e w2 ⟨⟨x0,x1,x2,x3,hw,rfl⟩,a⟩;have h2:=h1.below a;have u:=a.size;have i:w.heap.size<w2.heap.size:=ω;obtain⟨d0,d1,d2,d3,dz⟩:=hN.of_heap (a.block w.heap.size m))|(go_at_call 172;refine(eh _ b s c t d x (h.alloc _)).mono ?_;rintro e w1 ⟨rfl,h1,f⟩;have m:w.heap.size<w1.heap.size:=(Zu f.size);have hN:=(wA w).of_heap (f.block w.heap.size χ j)))
  refine Zb (v:=.tuple #[wv x0 x1 x2 x3,.bool false]) (by simp[results,results230,go_sem,d0,d1,d2,d3,i]) rfl ?_;rw[HR.out];exact⟨⟨x0,x1,x2,x3,rfl⟩,(υ q h2),(ς (f.under.below a))⟩
 |some S=>
  have HR:Hid (du (c::t)=.ok S t):=by show _=_;simp only[du,hS]
  have B:setOf c=S:=by simp[setOf,hS]
  rw[hS,B] at hE;simp only[Option.isSome_some] at hE
  go_enter func230,ntmps230
  go_wp2_with (first|(go_at_call 236;refine(hE _ h1.tb).mono ?_;rintro e w2 ⟨⟨x0,x1,x2,x3,hw,rfl⟩,a⟩;have h2:=(h1.below a).alloc (.cells #[.int .u64 x0,.int .u64 x1,.int .u64 x2,.int .u64 x3] 226);obtain⟨k,hk,k1,k2,kk⟩:=h2.open;have u:=a.size;have i:w.heap.size<w2.heap.size:=ω;obtain⟨d0,d1,d2,d3,dz⟩:=hN.of_heap (a.block w.heap.size m))|(go_at_call 172;refine(eh _ b s c t d x (h.alloc _)).mono ?_;rintro e w1 ⟨rfl,h1,f⟩;have m:w.heap.size<w1.heap.size:=(Zu f.size);have hN:=(wA w).of_heap (f.block w.heap.size χ j)))
  refine Zb (v:=.tuple #[wv x0 x1 x2 x3,.bool true]) (by simp[results,results230,go_sem,d0,d1,d2,d3,i,j.symm]) rfl ?_;rw[HR.out];have g:=kk w ((f.under.below a).alloc _);exact⟨⟨x0,x1,x2,x3,hw,rfl⟩,(Γ q g.1),(by(repeat (with_reducible refine Rd.setNew ?_ φ _));exact g.2)⟩
variable (w b s r d x) in
def gp (h:St w b s r d x) :
  Calls prog 230 #[.pointer (some ⟨b,0,none⟩)] w λe w'=>km w w' b s d x e (du r):=by
 match r with
 |[]=>exact wB w b s d x h
 |c::t=>exact wC w b s c t d x h
abbrev y_ (b:Nat) (s:ByteArray) (d x:Int) (r r':List UInt8) (Q:Nat->Nat->Nat->Nat->Prop) (ok:Bool):Prop:=
 ∀ w,St w b s r d x->Calls prog 230 #[.pointer (some ⟨b,0,none⟩)] w λe w'=>(∃ x0 x1 x2 x3,Q x0 x1 x2 x3/\e=.returned (.tuple #[wv x0 x1 x2 x3,.bool ok]))/\aQ w w' b s r' d x
abbrev K7 (b:Nat) (s:ByteArray) (d x:Int) (l:Int) (r r':List UInt8) (Q:Nat->Prop) (ok:Bool):Prop:=
 ∀ w,St w b s r d x->Calls prog 231 #[.pointer (some ⟨b,0,none⟩),.int .u8 l] w λe w'=>∃ v:Nat,Q v/\e=.returned (.tuple #[.int .u8 v,.bool ok])/\aQ w w' b s r' d x
variable (w b s r r' d x) in
def EI (h:St w b s r d x) (Q:Nat->Nat->Nat->Nat->Prop) (h1:y_ b s d x r r' Q true) :
  Calls prog 220 #[.pointer (some ⟨b,0,none⟩)] w λe w'=>(∃ x0 x1 x2 x3,Q x0 x1 x2 x3/\e=.returned (.tuple #[wv x0 x1 x2 x3,.bool true]))/\aQ w w' b s r' d x:=by
 have g:=h.ne;have f:=h.lt
 go_enter func220,ntmps220
 go_wp2_with (go_at_call 230;refine(h1 _ (h.alloc _)).mono ?_;rintro e w1 ⟨⟨x0,x1,x2,x3,hq,rfl⟩,g1,a⟩;have i:w.heap.size<w1.heap.size:=(Zu a.size);obtain⟨d0,d1,d2,d3,dz⟩:=(wA w).of_heap (a.block w.heap.size χ g))
 refine Zb (v:=.tuple #[wv x0 x1 x2 x3,.bool true]) (by simp[results,results220,go_sem,d0,d1,d2,d3,i]) rfl ⟨⟨x0,x1,x2,x3,hq,rfl⟩,(υ f g1),(ς a.under)⟩
variable (w b s r r' r'' d x) in
def EJ (h:St w b s r d x) (Q:Nat->Nat->Nat->Nat->Prop) (Q2:Nat->Prop) (h1:y_ b s d x r r' Q false) (h2:K7 b s d x 0 r' r'' Q2 false) :
  Calls prog 220 #[.pointer (some ⟨b,0,none⟩)] w λe w'=>(∃ x0 x1 x2 x3:Nat,e=.returned (.tuple #[wv x0 x1 x2 x3,.bool false]))/\aQ w w' b s r'' d x:=by
 have g:=h.ne;have j:=h.lt
 go_enter func220,ntmps220
 go_wp2_with (first|(go_at_call 231;refine(h2 _ ((g1.alloc _).alloc _)).mono ?_;rintro e w2 ⟨v,hv,rfl,g2,a⟩;have C:w1.heap.size+1<w2.heap.size:=(Zu a.size);have B:w.heap.size<w2.heap.size:=ω;have m:=u.of_heap (w':=w2) ((a.block w.heap.size σ g).trans ((Ze _ _ _ σ).trans (Ze _ _ _ q)));obtain⟨d0,d1,d2,d3,dz⟩:=m;have i:=(wA (w1.alloc (.cells #[.int .u64 x0,.int .u64 x1,.int .u64 x2,.int .u64 x3] 226))).of_heap (w':=w2) (a.block _ χ σ);simp only[size_alloc] at i;obtain⟨o0,o1,o2,o3,oz⟩:=i)|(go_at_call 230;refine(h1 _ (h.alloc _)).mono ?_;rintro e w1 ⟨⟨x0,x1,x2,x3,hq,rfl⟩,g1,f⟩;have q:w.heap.size<w1.heap.size:=(Zu f.size);have u:=(wA w).of_heap (f.block w.heap.size χ g)))
 have hr:=((f.under.alloc _).alloc _).trans a;exact Zb (v:=.tuple #[wv 0 0 0 0,.bool false]) (by simp[results,results220,go_sem,d0,d1,d2,d3]) rfl ⟨⟨0,0,0,0,rfl⟩,(υ j g2),(ς hr)⟩
variable (w b s r r' r'' d x) in
def EK (h:St w b s r d x) (Q:Nat->Nat->Nat->Nat->Prop) (Q2:Nat->Prop) (hQ2:∀ v,Q2 v->v<256) (h1:y_ b s d x r r' Q false) (h2:K7 b s d x 0 r' r'' Q2 true) :
  Calls prog 220 #[.pointer (some ⟨b,0,none⟩)] w λe w'=>(∃ v,Q2 v/\∃ x0 x1 x2 x3,Wd x0 x1 x2 x3 (ax v v)/\e=.returned (.tuple #[wv x0 x1 x2 x3,.bool true]))/\aQ w w' b s r'' d x:=by
 have i:=h.ne;have q:=h.lt
 go_enter func220,ntmps220
 go_wp2_with (first|(go_at_call 221;refine(mB (.inl rfl) w2 (w1.heap.size+1) 0 v (λ_=>false) 0 0 0 0 (hQ2 v hv) ⟨K6,o0,o1,o2,o3,oz⟩).mono ?_;rintro e w3 ⟨rfl,⟨y0,y1,y2,y3,hy⟩,f⟩;have I:=f.size;have G:w.heap.size<w3.heap.size:=ω;obtain⟨E,p0,p1,p2,p3,pz⟩:=hy;obtain⟨f0,f1,f2,f3,ff⟩:=Z4.of_heap (w':=w3) ⟨d0,d1,d2,d3,dz⟩ (f.block w.heap.size m ω);simp only[Nat.zero_add] at p1 p2 p3)|(go_at_call 231;refine(h2 _ ((g1.alloc _).alloc _)).mono ?_;rintro e w2 ⟨v,hv,rfl,g2,a⟩;have H:w1.heap.size+1<w2.heap.size:=(Zu a.size);have m:w.heap.size<w2.heap.size:=ω;have u:=C.of_heap (w':=w2) ((a.block w.heap.size σ i).trans ((Ze _ _ _ σ).trans (Ze _ _ _ B)));obtain⟨d0,d1,d2,d3,dz⟩:=u;have j:=(wA (w1.alloc (.cells #[.int .u64 x0,.int .u64 x1,.int .u64 x2,.int .u64 x3] 226))).of_heap (w':=w2) (a.block _ χ σ);simp only[size_alloc] at j;obtain⟨o0,o1,o2,o3,oz⟩:=j)|(go_at_call 230;refine(h1 _ (h.alloc _)).mono ?_;rintro e w1 ⟨⟨x0,x1,x2,x3,hq,rfl⟩,g1,g⟩;have B:w.heap.size<w1.heap.size:=(Zu g.size);have C:=(wA w).of_heap (g.block w.heap.size χ i)))
 have hr:=((g.under.alloc _).alloc _).trans a;have g3:=g2.four f ω;have D:=hr.four f ω;exact Zb (v:=.tuple #[wv y0 y1 y2 y3,.bool true]) (by simp[results,results220,go_sem,f0,f1,f2,f3]) rfl ⟨⟨v,hv,y0,y1,y2,y3,E.congr (λn=>by simp[orS]),rfl⟩,(υ q g3),(ς D)⟩
variable (w b s r d x) in
def qc (h:St w b s r d x) :
  Calls prog 220 #[.pointer (some ⟨b,0,none⟩)] w λe w'=>km w w' b s d x e (eo r):=by
 have hb:=λw hw=>kl w b s r d x 0 ω hw
 cases hS:du r with
 |ok S r'=>
  have hP:eo r=.ok S r':=by
   match r,hS with
   |[],hS=>simp[du] at hS
   |c::t,hS=>
    simp only[du] at hS;simp only[eo]
    cases hE:bK c with
    |none=>rw[hE] at hS;simp at hS
    |some S'=>rw[hE] at hS;simpa using hS
  rw[hP];refine(EI w b s r r' d x h (λx0 x1 x2 x3=>Wd x0 x1 x2 x3 S) (λw hw=>(gp w b s r d x hw).mono λe w' g=>?_)).mono λe w' g=>g
  rw[hS] at g;exact g
 |bad r'=>
  have hr:r'=r/\eo r=(match aE 0 r with|.ok v r''=>.ok (ax v v) r''|.bad r''=>.bad r''):=by
   match r,hS with
   |[],hS=>simp only[du] at hS;injection hS with e;exact⟨e.symm,rfl⟩
   |c::t,hS=>
    simp only[du] at hS;simp only[eo]
    cases hE:bK c with
    |none=>rw[hE] at hS;injection hS with e;exact⟨e.symm,rfl⟩
    |some S'=>rw[hE] at hS;simp at hS
  obtain⟨rfl,hP⟩:=hr;rw[hP];have h1:y_ b s d x r' r' (λ_ _ _ _=>True) false:=λw hw=>(gp w b s r' d x hw).mono λe w' g=>by
   rw[hS] at g;obtain⟨⟨x0,x1,x2,x3,g⟩,g'⟩:=g;exact⟨⟨x0,x1,x2,x3,trivial,g⟩,g'⟩
  cases hB:aE 0 r' with
  |bad r''=>
   exact(EJ w b s r' r' r'' d x h _ (λ_=>True) h1 (λw hw=>(hb w hw).mono λe w' g=>by rw[hB] at g;obtain⟨v,g⟩:=g;exact⟨v,trivial,g⟩)).mono λe w' g=>g
  |ok v r''=>
   refine(EK w b s r' r' r'' d x h _ (λu=>u=v/\v<256) (λu hu=>ω) h1 (λw hw=>(hb w hw).mono λe w' g=>by rw[hB] at g;exact⟨v,⟨rfl,g.2.1⟩,g.1,g.2.2⟩)).mono λe w' g=>?_
   obtain⟨⟨u,⟨rfl,hu⟩,x0,x1,x2,x3,hw,he⟩,g'⟩:=g;exact⟨⟨x0,x1,x2,x3,hw,he⟩,g'⟩
abbrev g_ (b:Nat) (s:ByteArray) (d x:Int) (c:Int) (r r':List UInt8) (ok:Bool):Prop:=
 ∀ w,St w b s r d x->Calls prog 121 #[.pointer (some ⟨b,0,none⟩),.int .u8 c] w λe w'=>e=.returned (.bool ok)/\aQ w w' b s r' d x
abbrev wD (b:Nat) (s:ByteArray) (d x:Int) (tk:Bool) (l:Int) (r r':List UInt8) (Q:Nat->Prop) (ok:Bool):Prop:=
 ∀ w,St w b s r d x->Calls prog 234 #[.pointer (some ⟨b,0,none⟩),.bool tk,.int .u8 l] w λe w'=>∃ v:Nat,Q v/\e=.returned (.tuple #[.int .u8 v,.bool ok])/\aQ w w' b s r' d x
def qd (w:World):Z4 ((w.alloc wy).alloc wy) w.heap.size/\Z4 ((w.alloc wy).alloc wy) (w.heap.size+1):=by
 refine⟨⟨?_,?_,?_,?_,λo=>?_⟩,⟨?_,?_,?_,?_,λo=>?_⟩⟩<;>simp[go_sem]
def Z4.set (h:Z4 w b):gU w b 0 (λ_=>false):=⟨0,0,0,0,K6,h.c0,h.c1,h.c2,h.c3,h.fz⟩
abbrev EL (b:Nat) (s:ByteArray) (d x:Int) (r r3:List UInt8) (Q:Nat->Prop) (ok:Bool):Prop:=(∃ r1 r2 R,g_ b s d x 92 r r1 true/\y_ b s d x r1 r2 R false/\wD b s d x true 0 r2 r3 Q ok)\/∃ r1,g_ b s d x 92 r r1 false/\wD b s d x false 0 r1 r3 Q ok
variable (w b s) in
def J3 (r r1 r2:List UInt8) (d x:Int) (h:St w b s r d x) (Q:Nat->Nat->Nat->Nat->Prop) (ht0:g_ b s d x 92 r r1 true) (hs1:y_ b s d x r1 r2 Q true) :
  Calls prog 228 #[.pointer (some ⟨b,0,none⟩)] w λe w'=>(∃ x0 x1 x2 x3,Q x0 x1 x2 x3/\e=.returned (.tuple #[wv x0 x1 x2 x3,.bool true]))/\aQ w w' b s r2 d x:=by
 have m:=h.ne;have j:=h.lt
 go_enter func228,ntmps228
 go_wp2_with (first|(go_at_call 230;refine(hs1 _ g1).mono ?_;rintro e w2 ⟨⟨x0,x1,x2,x3,hq,rfl⟩,g,a⟩;have q:=(f.trans a).alloc (.cells #[.int .u64 x0,.int .u64 x1,.int .u64 x2,.int .u64 x3] 226);have g2:=g.alloc (.cells #[.int .u64 x0,.int .u64 x1,.int .u64 x2,.int .u64 x3] 226);have u:w.heap.size+1<w2.heap.size:=(Zu ((f.trans a).size));have i:w.heap.size<w2.heap.size:=ω;obtain⟨d0,d1,d2,d3,dz⟩:=(qd w).1.of_heap ((f.trans a).block w.heap.size σ m))|(go_at_call 121;refine(ht0 _ ((h.alloc _).alloc _)).mono ?_;rintro e w1 ⟨rfl,g1,f⟩))
 exact Zb (v:=.tuple #[wv x0 x1 x2 x3,.bool true]) (by simp[results,results228,go_sem,d0,d1,d2,d3,i]) rfl ⟨⟨x0,x1,x2,x3,hq,rfl⟩,(υ j g),(by(repeat first|(with_reducible refine Rd.setNew ?_ φ _)|(with_reducible refine Rd.alloc ?_ _)|(with_reducible refine Rd.drew ?_)|(with_reducible refine Rd.drewN ?_ _));exact(f.trans a).under.under)⟩
variable (w b s r r3 d x) in
def J4 (h:St w b s r d x) (Q:Nat->Prop) (hB:EL b s d x r r3 Q false) :
  Calls prog 228 #[.pointer (some ⟨b,0,none⟩)] w λe w'=>(∃ x0 x1 x2 x3:Nat,e=.returned (.tuple #[wv x0 x1 x2 x3,.bool false]))/\aQ w w' b s r3 d x:=by
 have u:=h.ne;have q:=h.lt;rcases hB with⟨r1,r2,R,m,B,g⟩|⟨r1,m,g⟩
 all_goals
  go_enter func228,ntmps228
  go_wp2_with (first|(go_at_call 234;refine(g _ g1).mono ?_;rintro e w3 ⟨low,C,rfl,g3,j⟩;have f:=a.trans j;have E:w.heap.size+1<w3.heap.size:=(Zu f.size);have D:w.heap.size<w3.heap.size:=ω;obtain⟨d0,d1,d2,d3,dz⟩:=(qd w).1.of_heap (f.block w.heap.size σ u);obtain⟨o0,o1,o2,o3,oz⟩:=(qd w).2.of_heap (f.block (w.heap.size+1) χ ω))|(go_at_call 230;refine(B _ g1).mono ?_;rintro e w2 ⟨⟨x0,x1,x2,x3,hq,rfl⟩,g2,i⟩;have G:w.heap.size+1<w2.heap.size:=(Zu ((a.trans i).size));have a:=(a.trans i).alloc (.cells #[.int .u64 x0,.int .u64 x1,.int .u64 x2,.int .u64 x3] 226);have g1:=g2.alloc (.cells #[.int .u64 x0,.int .u64 x1,.int .u64 x2,.int .u64 x3] 226))|(go_at_call 121;refine(m _ ((h.alloc _).alloc _)).mono ?_;rintro e w1 ⟨rfl,g1,a⟩))
  exact Zb (v:=.tuple #[wv 0 0 0 0,.bool false]) (by simp[results,results228,go_sem,d0,d1,d2,d3]) rfl ⟨⟨0,0,0,0,rfl⟩,(υ q g3),(ς f.under.under)⟩
variable (w b s r r3 r4 d x) in
def J5 (h:St w b s r d x) (Q:Nat->Prop) (hQ:∀ v,Q v->v<256) (hB:EL b s d x r r3 Q true) (ht1:g_ b s d x 45 r3 r4 false) :
  Calls prog 228 #[.pointer (some ⟨b,0,none⟩)] w λe w'=>(∃ low,Q low/\∃ x0 x1 x2 x3,Wd x0 x1 x2 x3 (ax low low)/\e=.returned (.tuple #[wv x0 x1 x2 x3,.bool true]))/\aQ w w' b s r4 d x:=by
 have E:=h.ne;have D:=h.lt;rcases hB with⟨r1,r2,R,C,G,j⟩|⟨r1,C,j⟩
 all_goals
  go_enter func228,ntmps228
  go_wp2_with (first|(go_at_call 235;refine(kh w4 (w.heap.size+1) 0 low low (λ_=>false) (hQ _ a) (hQ _ a) (Z4.set ⟨o0,o1,o2,o3,oz⟩)).mono ?_;rintro e wz ⟨rfl,⟨y0,y1,y2,y3,hy⟩,i⟩;have N:=i.size;have K:w.heap.size<wz.heap.size:=ω;obtain⟨I,p0,p1,p2,p3,pz⟩:=hy;obtain⟨f0,f1,f2,f3,ff⟩:=Z4.of_heap (w':=wz) ⟨d0,d1,d2,d3,dz⟩ (i.block w.heap.size B ω);simp only[Nat.zero_add] at p1 p2 p3)|(go_at_call 121;refine(ht1 _ g3).mono ?_;rintro e w4 ⟨rfl,g4,q⟩;have f:=H.trans q;have L:w.heap.size+1<w4.heap.size:=(Zu f.size);have B:w.heap.size<w4.heap.size:=ω;obtain⟨d0,d1,d2,d3,dz⟩:=(qd w).1.of_heap (f.block w.heap.size σ E);obtain⟨o0,o1,o2,o3,oz⟩:=(qd w).2.of_heap (f.block (w.heap.size+1) χ ω))|(go_at_call 234;refine(j _ g1).mono ?_;rintro e w3 ⟨low,a,rfl,g3,u⟩;have H:=g.trans u)|(go_at_call 230;refine(G _ g1).mono ?_;rintro e w2 ⟨⟨x0,x1,x2,x3,hq,rfl⟩,g2,m⟩;have M:w.heap.size+1<w2.heap.size:=(Zu ((g.trans m).size));have g:=(g.trans m).alloc (.cells #[.int .u64 x0,.int .u64 x1,.int .u64 x2,.int .u64 x3] 226);have g1:=g2.alloc (.cells #[.int .u64 x0,.int .u64 x1,.int .u64 x2,.int .u64 x3] 226))|(go_at_call 121;refine(C _ ((h.alloc _).alloc _)).mono ?_;rintro e w1 ⟨rfl,g1,g⟩))
  have g7:=g4.four i ω;have J:=f.under.under.four i ω;exact Zb (v:=.tuple #[wv y0 y1 y2 y3,.bool true]) (by simp[results,results228,go_sem,f0,f1,f2,f3]) rfl ⟨⟨low,a,y0,y1,y2,y3,I.congr (λn=>by simp[orS]),rfl⟩,(υ D g7),(ς J)⟩
variable (w b s r r3 r4 r5 r6 d x) in
def J6 (h:St w b s r d x) (Q:Nat->Prop) (Q2:Nat->Nat->Prop) (tk:Bool) (hB:EL b s d x r r3 Q true) (ht1:g_ b s d x 45 r3 r4 true) (ht2:g_ b s d x 92 r4 r5 tk) (hi2:∀ l:Nat,Q l->wD b s d x tk l r5 r6 (Q2 l) false) :
  Calls prog 228 #[.pointer (some ⟨b,0,none⟩)] w λe w'=>(∃ x0 x1 x2 x3:Nat,e=.returned (.tuple #[wv x0 x1 x2 x3,.bool false]))/\aQ w w' b s r6 d x:=by
 have H:=h.ne;have D:=h.lt;rcases hB with⟨r1,r2,R,C,I,g⟩|⟨r1,C,g⟩
 all_goals
  go_enter func228,ntmps228
  go_wp2_with (first|(go_at_call 234;refine(hi2 low i _ g5).mono ?_;rintro e w6 ⟨L,J,rfl,g6,u⟩;have a:=G.trans u;have N:w.heap.size+1<w6.heap.size:=(Zu a.size);have M:w.heap.size<w6.heap.size:=ω;obtain⟨d0,d1,d2,d3,dz⟩:=(qd w).1.of_heap (a.block w.heap.size σ H);obtain⟨o0,o1,o2,o3,oz⟩:=(qd w).2.of_heap (a.block (w.heap.size+1) χ ω))|(go_at_call 121;refine(ht2 _ g4).mono ?_;rintro e w5 ⟨rfl,g5,B⟩;have G:=E.trans B)|(go_at_call 121;refine(ht1 _ g3).mono ?_;rintro e w4 ⟨rfl,g4,m⟩;have E:=K.trans m)|(go_at_call 234;refine(g _ g1).mono ?_;rintro e w3 ⟨low,i,rfl,g3,q⟩;have K:=f.trans q)|(go_at_call 230;refine(I _ g1).mono ?_;rintro e w2 ⟨⟨x0,x1,x2,x3,hq,rfl⟩,g2,j⟩;have O:w.heap.size+1<w2.heap.size:=(Zu ((f.trans j).size));have f:=(f.trans j).alloc (.cells #[.int .u64 x0,.int .u64 x1,.int .u64 x2,.int .u64 x3] 226);have g1:=g2.alloc (.cells #[.int .u64 x0,.int .u64 x1,.int .u64 x2,.int .u64 x3] 226))|(go_at_call 121;refine(C _ ((h.alloc _).alloc _)).mono ?_;rintro e w1 ⟨rfl,g1,f⟩))
  exact Zb (v:=.tuple #[wv 0 0 0 0,.bool false]) (by simp[results,results228,go_sem,d0,d1,d2,d3]) rfl ⟨⟨0,0,0,0,rfl⟩,(υ D g6),(ς a.under.under)⟩
variable (w b s r r3 r4 r5 r6 d x) in
def J7 (h:St w b s r d x) (Q:Nat->Prop) (Q2:Nat->Nat->Prop) (tk:Bool) (hQ:∀ v,Q v->v<256) (hQ2:∀ v,∀ u,Q2 v u->u<256) (hB:EL b s d x r r3 Q true) (ht1:g_ b s d x 45 r3 r4 true) (ht2:g_ b s d x 92 r4 r5 tk) (hi2:∀ l:Nat,Q l->wD b s d x tk l r5 r6 (Q2 l) true) :
  Calls prog 228 #[.pointer (some ⟨b,0,none⟩)] w λe w'=>(∃ low,Q low/\∃ a,Q2 low a/\∃ x0 x1 x2 x3,Wd x0 x1 x2 x3 (ax low a)/\e=.returned (.tuple #[wv x0 x1 x2 x3,.bool true]))/\aQ w w' b s r6 d x:=by
 have M:=h.ne;have J:=h.lt;rcases hB with⟨r1,r2,R,I,N,q⟩|⟨r1,I,q⟩
 all_goals
  go_enter func228,ntmps228
  go_wp2_with (first|(go_at_call 235;refine(kh w6 (w.heap.size+1) 0 low a (λ_=>false) (hQ2 _ _ g) (hQ _ f) (Z4.set ⟨o0,o1,o2,o3,oz⟩)).mono ?_;rintro e wz ⟨rfl,⟨y0,y1,y2,y3,hy⟩,m⟩;have X:=m.size;have U:w.heap.size<wz.heap.size:=ω;obtain⟨P,p0,p1,p2,p3,pz⟩:=hy;obtain⟨f0,f1,f2,f3,ff⟩:=Z4.of_heap (w':=wz) ⟨d0,d1,d2,d3,dz⟩ (m.block w.heap.size H ω);simp only[Nat.zero_add] at p1 p2 p3)|(go_at_call 234;refine(hi2 low f _ g5).mono ?_;rintro e w6 ⟨a,g,rfl,g6,E⟩;have i:=L.trans E;have V:w.heap.size+1<w6.heap.size:=(Zu i.size);have H:w.heap.size<w6.heap.size:=ω;obtain⟨d0,d1,d2,d3,dz⟩:=(qd w).1.of_heap (i.block w.heap.size σ M);obtain⟨o0,o1,o2,o3,oz⟩:=(qd w).2.of_heap (i.block (w.heap.size+1) χ ω))|(go_at_call 121;refine(ht2 _ g4).mono ?_;rintro e w5 ⟨rfl,g5,G⟩;have L:=K.trans G)|(go_at_call 121;refine(ht1 _ g3).mono ?_;rintro e w4 ⟨rfl,g4,C⟩;have K:=O.trans C)|(go_at_call 234;refine(q _ g1).mono ?_;rintro e w3 ⟨low,f,rfl,g3,D⟩;have O:=j.trans D)|(go_at_call 230;refine(N _ g1).mono ?_;rintro e w2 ⟨⟨x0,x1,x2,x3,hq,rfl⟩,g2,B⟩;have W:w.heap.size+1<w2.heap.size:=(Zu ((j.trans B).size));have j:=(j.trans B).alloc (.cells #[.int .u64 x0,.int .u64 x1,.int .u64 x2,.int .u64 x3] 226);have g1:=g2.alloc (.cells #[.int .u64 x0,.int .u64 x1,.int .u64 x2,.int .u64 x3] 226))|(go_at_call 121;refine(I _ ((h.alloc _).alloc _)).mono ?_;rintro e w1 ⟨rfl,g1,j⟩))
  have g7:=g6.four m ω;have T:=i.under.under.four m ω;exact Zb (v:=.tuple #[wv y0 y1 y2 y3,.bool true]) (by simp[results,results228,go_sem,f0,f1,f2,f3]) rfl ⟨⟨low,f,a,g,y0,y1,y2,y3,P.congr (λn=>by simp[orS]),rfl⟩,(υ J g7),(ς T)⟩
def dC (c:UInt8):List UInt8->List UInt8
 |a::t=>if a=c then t else a::t
 |[]=>[]
def gP (c:UInt8):List UInt8->Bool
 |a::_=>a==c
 |[]=>false
variable (b s d x) in
def dD (c:UInt8) (r:List UInt8):g_ b s d x c.toNat r (dC c r) (gP c r):=by
 intro w h
 match r with
 |[]=>exact EE w b s d x h _
 |a::t=>
  by_cases e:a=c
  .subst e;simp only[dC,gP,if_true,beq_self_eq_true];exact ED w b s a t d x h _ rfl
  .have e':(a==c)=false:=by simpa using e
   simp only[dC,gP,e,if_false,e'];exact uL w b s a t d x h _ (dP e)
variable (b s d x l) in
def Js (hl:l<256) (r:List UInt8):wD b s d x true l r (aE l r).rest (Hx (aE l r)) (aE l r).isOk:=
 λw hw=>(yY w b s r d x l hl hw).mono λ_ _ g=>g.q
variable (b s d x l) in
def EM (hl:l<256) (r:List UInt8):wD b s d x false l r (aP l r).rest (Hx (aP l r)) (aP l r).isOk:=
 λw hw=>(yZ w b s r d x l hl hw).mono λ_ _ g=>g.q
variable (b s d x l) in
def H7 (hl:l<256) (r:List UInt8):wD b s d x (gP 92 r) l (dC 92 r) (aw l r).rest (Hx (aw l r)) (aw l r).isOk:=by
 match r with
 |[]=>exact EM b s d x l hl []
 |a::t=>
  by_cases e:a=92
  .subst e;exact Js b s d x l hl t
  .have e':(a==92)=false:=by simpa using e
   have e2:aw l (a::t)=aP l (a::t):=by
    unfold aw
    split
    .rename_i h;injection h with h1 h2;exact absurd h1 e
    .rfl
   simp only[dC,gP,e,if_false,e',e2];exact EM b s d x l hl (a::t)
def C0 (low:Nat) (r:List UInt8) (h:gP 45 r=false):dy low r=.ok (ax low low) r/\dC 45 r=r:=by
 match r with
 |[]=>exact⟨rfl,rfl⟩
 |a::t=>
  have e:a≠45:=by simpa [gP] using h
  constructor
  .unfold dy
   split
   .rename_i h;injection h with h1 h2;exact absurd h1 e
   .rfl
  .simp[dC,e]
def zb (low:Nat) (r:List UInt8) (h:gP 45 r=true):dy low r=(match aw low (dC 45 r) with|.ok high r'=>.ok (ax low high) r'|.bad r'=>.bad r'):=by
 match r with
 |[]=>simp[gP] at h
 |a::t=>
  have e:a=45:=by simpa [gP] using h
  subst e;rfl
theorem C1 (t:List UInt8):eU (92::t)=(match du t with
  |.ok S r=>.ok S r
  |.bad _=>match aE 0 t with|.ok low r=>dy low r|.bad r=>.bad r):=by
 match t with
 |[]=>rfl
 |c::t'=>
  simp only[eU,du]
  cases bK c<;>rfl
def pi (l:Nat) (a:UInt8) (t:List UInt8) (e:a≠92):aw l (a::t)=aP l (a::t):=by
 unfold aw
 split
 .rename_i h;injection h with h1 h2;exact absurd h1 e
 .rfl
def wE (r:List UInt8) (h:gP 92 r=false):eU r=(match aP 0 r with|.ok low r'=>dy low r'|.bad r'=>.bad r')/\dC 92 r=r:=by
 match r with
 |[]=>exact⟨rfl,rfl⟩
 |a::t=>
  have e:a≠92:=by simpa [gP] using h
  constructor
  .unfold eU
   split
   .rename_i h;injection h with h1 h2;exact absurd h1 e
   .rw[pi 0 a t e]<;>(cases aP 0 (a::t)<;>rfl)
  .simp[dC,e]
def ze (h:R.isOk=true) (v:Nat) (hv:Hx R v):v<256:=by
 cases R with
 |ok u r=>obtain⟨rfl,h⟩:=hv;exact h
 |bad r=>simp[dN.isOk] at h
def Jt:dN Nat->dN (Nat->Bool)
 |.ok low r=>dy low r
 |.bad r=>.bad r
variable (w b s r d x) in
def td (h:St w b s r d x) (R:dN Nat) (hB:EL b s d x r R.rest (Hx R) R.isOk) :
  Calls prog 228 #[.pointer (some ⟨b,0,none⟩)] w λe w'=>km w w' b s d x e (Jt R):=by
 cases R with
 |bad r3=>exact(J4 w b s r r3 d x h _ hB).mono λe w' g=>g
 |ok low r3=>
  have a:=dD b s d x 45 r3;simp only[Jt]
  cases hm:gP 45 r3 with
  |false=>
   obtain⟨p1,p2⟩:=C0 low r3 hm;rw[hm,p2] at a;rw[p1];refine(J5 w b s r r3 r3 d x h _ (λv hv=>ze (R:=.ok low r3) rfl v hv) hB a).mono λe w' g=>?_
   obtain⟨⟨u,⟨rfl,hu⟩,g⟩,g'⟩:=g;exact⟨g,g'⟩
  |true=>
   rw[hm] at a;rw[zb low r3 hm];have i:=dD b s d x 92 (dC 45 r3);have f:∀ l:Nat,Hx (.ok low r3) l->wD b s d x (gP 92 (dC 45 r3)) l (dC 92 (dC 45 r3)) (aw low (dC 45 r3)).rest ((λ_=>Hx (aw low (dC 45 r3))) l) (aw low (dC 45 r3)).isOk:=by
    rintro l ⟨rfl,hl⟩;exact H7 b s d x l hl _
   cases hI:aw low (dC 45 r3) with
   |bad r6=>
    rw[hI] at f;exact(J6 w b s r r3 _ _ r6 d x h _ _ _ hB a i f).mono λe w' g=>g
   |ok high r6=>
    rw[hI] at f;refine(J7 w b s r r3 _ _ r6 d x h _ _ _ (λv hv=>ze (R:=.ok low r3) rfl v hv) (λv u hu=>ze (R:=.ok high r6) rfl u hu) hB a i f).mono λe w' g=>?_
    obtain⟨⟨u,⟨rfl,hu⟩,v,⟨rfl,hv⟩,g⟩,g'⟩:=g;exact⟨g,g'⟩
variable (w b s r d x) in
def EN (h:St w b s r d x) :
  Calls prog 228 #[.pointer (some ⟨b,0,none⟩)] w λe w'=>km w w' b s d x e (eU r):=by
 have f:=dD b s d x 92 r
 cases hk:gP 92 r with
 |true=>
  obtain⟨t,rfl⟩:∃ t,r=92::t:=by
   match r,hk with
   |a::t,hk=>exact⟨t,by have:a=92:=(by simpa [gP] using hk);rw[this]⟩
  rw[hk] at f;have e0:dC 92 (92::t)=t:=rfl;rw[e0] at f;rw[C1]
  cases hS:du t with
  |ok S r2=>
   refine(J3 w b s (92::t) t r2 d x h (λx0 x1 x2 x3=>Wd x0 x1 x2 x3 S) f (λw hw=>(gp w b s t d x hw).mono λe w' g=>?_)).mono λe w' g=>g
   rw[hS] at g;exact g
  |bad r2=>
   have j:r2=t:=by
    match t,hS with
    |[],hS=>injection hS with e;exact e.symm
    |c::t',hS=>
     simp only[du] at hS
     cases hE:bK c with
     |none=>rw[hE] at hS;injection hS with e;exact e.symm
     |some S'=>rw[hE] at hS;simp at hS
   subst j;have i:y_ b s d x r2 r2 (λ_ _ _ _=>True) false:=λw hw=>(gp w b s r2 d x hw).mono λe w' g=>by
    rw[hS] at g;obtain⟨⟨x0,x1,x2,x3,g⟩,g'⟩:=g;exact⟨⟨x0,x1,x2,x3,trivial,g⟩,g'⟩
   exact td w b s _ d x h _ (.inl ⟨_,_,_,f,i,Js b s d x 0 ω r2⟩)
 |false=>
  obtain⟨e1,e2⟩:=wE r hk;rw[hk,e2] at f;rw[e1];exact td w b s _ d x h _ (.inr ⟨_,f,EM b s d x 0 ω r⟩)
def leftOf (b:Nat) (s:ByteArray) (w:World):Nat:=s.size-(intOf ((w.cell? ⟨b,1,none⟩).getD undef)).toNat
theorem St.left (h:St w b s r d x):leftOf b s w=r.length:=by
 obtain⟨⟨k,hr,hk,hs⟩,_⟩:=h;rw[<-hs,mC];simp[leftOf,hr.c1,intOf]
def zi (h:eU r=.bad r'):bd (n+1) A r=.bad r':=by simp only[bd,h]
def zj (h:eU r=.ok S r') (e:gP 93 r'=true):bd (n+1) A r=.ok (orS A S) (dC 93 r'):=by
 match r',h,e with
 |[],h,e=>simp[gP] at e
 |a::t,h,e=>
  have:a=93:=by simpa [gP] using e
  subst this;simp only[bd,h];rfl
def tg (h:eU r=.ok S r') (e:gP 93 r'=false):bd (n+1) A r=bd n (orS A S) r'/\dC 93 r'=r':=by
 match r',h,e with
 |[],h,e=>exact⟨by simp only[bd,h],rfl⟩
 |a::t,h,e=>
  have ne:a≠93:=by simpa [gP] using e
  constructor
  .grind [bd]
  .simp[dC,ne]
structure K8 (w w':World) (b:Nat) (s:ByteArray) (d x:Int) (R0:dN (Nat->Bool)) (n:Nat) (A:Nat->Bool) (r:List UInt8):Prop where
 st:St w' b s r d x
 rd:Rd b w w'
 z:Z4 w' w.heap.size
 set:gU w' (w.heap.size+1) 0 A
 lt:w.heap.size+1<w'.heap.size
 hn:r.length<n
 heq:bd n A r=R0
def uO (y:Bool) (w:World) (b:Nat) (s:ByteArray) (r r1:List UInt8) (d x:Int) (h:St w b s r d x) (ht0:g_ b s d x 94 r r1 y) (R0:dN (Nat->Bool)) (hR0:bd (r1.length+1) (λ_=>false) r1=R0) :
  Calls prog 219 #[.pointer (some ⟨b,0,none⟩)] w λe w'=>km w w' b s d x e (JX y R0):=by
 have m:=h.ne;have E:=h.lt
 go_enter func219,ntmps219
 go_wp2
 refine ce 0 (λa' w'=>(∃ n A r',K8 w w' b s d x R0 n A r')/\∃ u6 u7 u10 u11 u12 u13 u14 u15 u16 u17 u18 u19 u20 u21 u22 u23 u24 u25,a'={tmps:=#[.pointer (some ⟨b,0,none⟩),undef,.pointer (some ⟨w.heap.size,0,none⟩),.bool false,.pointer (some ⟨w.heap.size+1,0,none⟩),.bool y,u6,u7,.pointer (some ⟨b,0,none⟩),.bool y,u10,u11,u12,u13,u14,u15,u16,u17,u18,u19,u20,u21,u22,u23,u24,u25],defers:=[]}) (λ_ w'=>leftOf b s w') rfl ?_ ?_
 .intro hp;have HP:Hid _:=hp;clear hp;go_wp2_with (go_at_call 121;refine(ht0 _ ((h.alloc _).alloc _)).mono ?_;rintro e w1 ⟨rfl,g1,q⟩)
  go_step3
  refine ‹∀ a w,Code.wp _ _ _ a w->_› _ _ (HP _ _ ⟨⟨r1.length+1,λ_=>false,r1,⟨g1,q.under.under,?_,?_,?_,lt_succ_self _,hR0⟩⟩,_,_,_,_,_,_,_,_,_,_,_,_,_,_,_,_,_,_,rfl⟩)
  .exact(qd w).1.of_heap (q.block w.heap.size σ m)
  .exact(Z4.set ((qd w).2.of_heap (q.block (w.heap.size+1) χ ω)))
  .have:=q.size;simp at this;omega
 .rintro a' w' ⟨⟨n,A,r',⟨G,P,hz,C,Q,hn,j⟩⟩,u6,u7,u10,u11,u12,u13,u14,u15,u16,u17,u18,u19,u20,u21,u22,u23,u24,u25,rfl⟩;have f:=λw hw=>EN w b s r' d x hw
  have N:=zh C;clear C;obtain⟨n',rfl⟩:∃ n',n=n'+1:=⟨n-1,ω⟩
  cases hI:eU r' with
  |bad r2=>
   rw[hI] at f;have HQ:Hid (R0=.bad r2):=by show _=_;rw[<-j,zi hI]
   clear j hI;go_wp2_with (go_at_call 228;refine(f _ G).mono ?_;rintro e w2 ⟨⟨x0,x1,x2,x3,rfl⟩,g2,g⟩;have O:w.heap.size+1<w2.heap.size:=(η g.size);have K:w.heap.size<w2.heap.size:=ω;obtain⟨z0,z1,z2,z3,zz⟩:=hz.of_heap (w':=w2) (g.block w.heap.size ω m))
   simp only[Exit.jump];refine Zb (v:=.tuple #[wv 0 0 0 0,.bool false]) (by simp[results,results219,go_sem,z0,z1,z2,z3,K]) rfl ?_;rw[HQ.out];exact⟨⟨0,0,0,0,rfl⟩,(υ E g2),(ς (P.trans g))⟩
  |ok S r2=>
   rw[hI] at f;have M:=k_ hI;have ht:=dD b s d x 93 r2;have HE:Hid (gP 93 r2=true->R0=.ok (orS A S) (dC 93 r2)):=λhk=>by rw[<-j,zj hI hk]
   have HF:Hid (gP 93 r2=false->bd n' (orS A S) r2=R0/\dC 93 r2=r2):=λhk=>⟨by rw[<-j,(tg hI hk).1],(tg (n:=0) (A:=A) hI hk).2⟩
   clear j hI
   cases hk:gP 93 r2<;>cases y
   all_goals
    rw[hk] at ht;have HK:Hid _:=hk;clear hk
    try rw[(HF.out HK.out).2] at ht
    go_wp2_with (first|(go_at_call 222;refine(pZ _ (w.heap.size+1) 0 (orS A S) I).mono ?_;rintro e w5 ⟨rfl,⟨y0,y1,y2,y3,hy⟩,B⟩;obtain⟨D,p0,p1,p2,p3,pz⟩:=hy;simp only[Nat.zero_add] at p1 p2 p3;have a1:w.heap.size<w5.heap.size:=(η B.size);obtain⟨f0,f1,f2,f3,ff⟩:=Z4.of_heap (w':=w5) ⟨k0,k1,k2,k3,kz⟩ (B.block w.heap.size X ω))|(go_at_call 121;refine(ht _ g3).mono ?_;rintro e w4 ⟨rfl,g4,i⟩;have Z:w.heap.size+1<w4.heap.size:=(η i.size);have X:w.heap.size<w4.heap.size:=ω;have Z5:=Y.of_heap (w':=w4) (i.block w.heap.size V m);obtain⟨k0,k1,k2,k3,kz⟩:=Z5;have I:=zh (U.of_heap (i.block _ T ω));obtain⟨y0,y1,y2,y3,D,p0,p1,p2,p3,pz⟩:=I.out;simp only[Nat.zero_add] at p1 p2 p3)|(go_at_call 229;refine(yW _ (w.heap.size+1) 0 A S x0 x1 x2 x3 W σ ((N.out.of_heap (g.block _ Q ω)).alloc O _)).mono ?_;rintro e w3 ⟨rfl,L,u⟩;have U:Hid (gU w3 (w.heap.size+1) 0 (orS A S)):=L;clear L;have T:w.heap.size+1<w3.heap.size:=(Zu u.size);have V:w.heap.size<w3.heap.size:=ω;have Y:=Z4.of_heap (w':=w3) ⟨z0,z1,z2,z3,zz⟩ ((u.block _ σ ω).trans (Ze _ _ _ K));have g3:=(g2.alloc _).four u ω;have H:=((P.trans g).alloc _).four u ω)|(go_at_call 228;refine(f _ G).mono ?_;rintro e w2 ⟨⟨x0,x1,x2,x3,W,rfl⟩,g2,g⟩;have O:w.heap.size+1<w2.heap.size:=(η g.size);have K:w.heap.size<w2.heap.size:=ω;obtain⟨z0,z1,z2,z3,zz⟩:=hz.of_heap (w':=w2) (g.block w.heap.size ω m)))
    first
    |(simp only[Exit.jump]
      refine Zb (v:=.tuple #[wv y0 y1 y2 y3,.bool true]) (by simp[results,results219,go_sem,f0,f1,f2,f3]) rfl ?_;rw[HE.out HK.out];have g5:=g4.four B ω;have J:=(H.trans i).four B ω
      exact⟨⟨y0,y1,y2,y3,D,rfl⟩,(υ E g5),(ς J)⟩)
    |(simp only[Exit.jump]
      refine Zb (v:=.tuple #[wv y0 y1 y2 y3,.bool true]) (by simp[results,results219,go_sem,k0,k1,k2,k3]) rfl ?_;rw[HE.out HK.out];have J:=H.trans i
      exact⟨⟨y0,y1,y2,y3,D,rfl⟩,(υ E g4),(ς J)⟩)
    |(go_step3
      refine⟨rfl,⟨⟨n',orS A S,r2,⟨g4,H.trans i,⟨k0,k1,k2,k3,kz⟩,I,Z,ω,(HF HK).1⟩⟩,_,_,_,_,_,_,_,_,_,_,_,_,_,_,_,_,_,_,rfl⟩,?_⟩
      rw[g4.left,G.left];exact M)
end Go.Proofs.YtbjabpodkaokjaaGreatDoor.Sx
namespace Go.Proofs.YtbjabpodkaokjaaGreatDoor
open Go.RowKit
def a_ {a b:Bool} (h:a=b):Ending.returned (.bool a)=.returned (.bool b):=by rw[h]
end Go.Proofs.YtbjabpodkaokjaaGreatDoor
