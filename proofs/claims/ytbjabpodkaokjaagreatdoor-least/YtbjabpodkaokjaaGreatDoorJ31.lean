import Derived.Test.YtbjabpodkaokjaaGreatDoorJ29
import Derived.Test.YtbjabpodkaokjaaGreatDoorJ30
set_option linter.unusedVariables false
set_option linter.unusedSimpArgs false
set_option maxHeartbeats 4000000
set_option maxRecDepth 100000
namespace Go.Proofs.YtbjabpodkaokjaaGreatDoor
open Go.RowKit
section
variable {w:World}{t:Tn}{va vn:Value}{w2 w0:World}{vb vo:Value}{bl:List UInt8}{olds:List Nat}{cls:List UInt8}
theorem LPre.loads {na:Option Addr}{nc n K:Nat}{va vb:Value} (h:LPre w t va (.slice na n nc) w2 w0 vb vo bl olds cls) (ht:TnOk n K t) (hbl:bl.length=n) {W:World} (hx:Exc (fun b=>b=w2.heap.size) w0 W) {i old:Nat} (hi:i<n) (ho:old<K) :
  ∃ b o b' o' c' g oo cc x,na=some ⟨b,o,none⟩∧W.cell? ⟨b,o+i,none⟩=some (.slice (some ⟨b',o',none⟩) K c')∧W.cell? ⟨b',o'+old,none⟩=some (.int .i64 ((x:Nat):Int))∧x<n∧vb=.slice (some ⟨g,oo,none⟩) n cc∧W.cell? ⟨g,oo+x,none⟩=some (byV (bl.getD x 0))∧x=(t.next.getD i []).getD old 0∧bl.getD x 0∈bl:=by
 obtain⟨-,h2,-,h4,-⟩:=h.keep hx
 have hin:i<t.next.length:=by rw[ht.nl];exact hi
 obtain⟨b,o,c,u,e1,c1,hu⟩:=h4.at (i:=i) (by rw[nxI_len];exact hin)
 rw[nxI_at t.next i hin] at hu
 obtain⟨hr1,hr2⟩:=ht.r _ (List.getElem_mem hin)
 obtain⟨b',o',c',e2,c2⟩:=hu.at (i:=old) (by simp[hr1,ho])
 have hold:old<(t.next[i]).length:=by rw[hr1];exact ho
 have hxn:=hr2 _ (List.getElem_mem hold)
 obtain⟨g,oo,cc,e3,c3⟩:=h2.at (i:=(t.next[i])[old]) (by rw[hbl];exact hxn)
 simp only[Value.slice.injEq] at e1
 have hxb:(t.next[i])[old]<bl.length:=by rw[hbl];exact hxn
 refine⟨b,o,b',o',c',g,oo,cc,(t.next[i])[old],e1.1,?_,?_,hxn,by rw[e3,hbl],?_,?_,?_⟩
 ·rw[c1,e2];simp[hr1]
 ·rw[c2];simp
 ·rw[c3];simp[List.getD_eq_getElem?_getD,hxb]
 ·simp[List.getD_eq_getElem?_getD,hin,hold]
 ·simp[List.getD_eq_getElem?_getD,hxb]
theorem olds_lt {n K:Nat}{t:Tn} (ht:TnOk n K t) {cols:List (List UInt8)} (hc:cols.length=t.cls.length):∀ x∈oldsM t.cls cols,x<K:=by
 intro x hx
 unfold oldsM at hx
 obtain⟨col,hcol,rfl⟩:=List.mem_map.1 hx
 have h1:col∈cols:=by simpa using mem_metL.1 hcol
 have h2:ixL cols col<t.cls.length:=by rw[←hc];exact ixL_lt h1
 rw[List.getD_eq_getElem?_getD,List.getElem?_eq_getElem h2,Option.getD_some]
 exact ht.ck _ (List.getElem_mem h2)
end
def ActL (a:Act) (x0 x1 x2 x3 x4 x5 x6 x7:Value):Prop:=∃ u8 u9 u10 u11 u12 u13 u14 u15 u16 u17 u18 u19 u20 u21 u22 u23 u24 u25 u26 u27 u28 u29 u30 u31 u32 u33 u34 u35 u36 u37 u38 u39 u40 u41 u42 u43 u44 u45 u46 u47 u48 u49 u50 u51 u52 u53 u54 u55 u56 u57 u58 u59 u60 u61 u62 u63 u64 u65 u66 u67 u68 u69 u70 u71 u72 u73 u74 u75 u76 u77 u78 u79 u80 u81 u82 u83 u84 u85 u86 u87 u88 u89 u90,a={tmps:=#[x0,x1,x2,x3,x4,x5,x6,x7,u8,u9,u10,u11,u12,u13,u14,u15,u16,u17,u18,u19,u20,u21,u22,u23,u24,u25,u26,u27,u28,u29,u30,u31,u32,u33,u34,u35,u36,u37,u38,u39,u40,u41,u42,u43,u44,u45,u46,u47,u48,u49,u50,u51,u52,u53,u54,u55,u56,u57,u58,u59,u60,u61,u62,u63,u64,u65,u66,u67,u68,u69,u70,u71,u72,u73,u74,u75,u76,u77,u78,u79,u80,u81,u82,u83,u84,u85,u86,u87,u88,u89,u90],defers:=[]}
theorem actL_mk {x0 x1 x2 x3 x4 x5 x6 x7 u8 u9 u10 u11 u12 u13 u14 u15 u16 u17 u18 u19 u20 u21 u22 u23 u24 u25 u26 u27 u28 u29 u30 u31 u32 u33 u34 u35 u36 u37 u38 u39 u40 u41 u42 u43 u44 u45 u46 u47 u48 u49 u50 u51 u52 u53 u54 u55 u56 u57 u58 u59 u60 u61 u62 u63 u64 u65 u66 u67 u68 u69 u70 u71 u72 u73 u74 u75 u76 u77 u78 u79 u80 u81 u82 u83 u84 u85 u86 u87 u88 u89 u90:Value}:ActL {tmps:=#[x0,x1,x2,x3,x4,x5,x6,x7,u8,u9,u10,u11,u12,u13,u14,u15,u16,u17,u18,u19,u20,u21,u22,u23,u24,u25,u26,u27,u28,u29,u30,u31,u32,u33,u34,u35,u36,u37,u38,u39,u40,u41,u42,u43,u44,u45,u46,u47,u48,u49,u50,u51,u52,u53,u54,u55,u56,u57,u58,u59,u60,u61,u62,u63,u64,u65,u66,u67,u68,u69,u70,u71,u72,u73,u74,u75,u76,u77,u78,u79,u80,u81,u82,u83,u84,u85,u86,u87,u88,u89,u90],defers:=[]} x0 x1 x2 x3 x4 x5 x6 x7:=⟨_,_,_,_,_,_,_,_,_,_,_,_,_,_,_,_,_,_,_,_,_,_,_,_,_,_,_,_,_,_,_,_,_,_,_,_,_,_,_,_,_,_,_,_,_,_,_,_,_,_,_,_,_,_,_,_,_,_,_,_,_,_,_,_,_,_,_,_,_,_,_,_,_,_,_,_,_,_,_,_,_,_,_,rfl⟩
@[elab_as_elim] theorem actL_el {a:Act}{x0 x1 x2 x3 x4 x5 x6 x7:Value}{P:Act→Prop} (h:ActL a x0 x1 x2 x3 x4 x5 x6 x7) (k:∀ u8 u9 u10 u11 u12 u13 u14 u15 u16 u17 u18 u19 u20 u21 u22 u23 u24 u25 u26 u27 u28 u29 u30 u31 u32 u33 u34 u35 u36 u37 u38 u39 u40 u41 u42 u43 u44 u45 u46 u47 u48 u49 u50 u51 u52 u53 u54 u55 u56 u57 u58 u59 u60 u61 u62 u63 u64 u65 u66 u67 u68 u69 u70 u71 u72 u73 u74 u75 u76 u77 u78 u79 u80 u81 u82 u83 u84 u85 u86 u87 u88 u89 u90,P {tmps:=#[x0,x1,x2,x3,x4,x5,x6,x7,u8,u9,u10,u11,u12,u13,u14,u15,u16,u17,u18,u19,u20,u21,u22,u23,u24,u25,u26,u27,u28,u29,u30,u31,u32,u33,u34,u35,u36,u37,u38,u39,u40,u41,u42,u43,u44,u45,u46,u47,u48,u49,u50,u51,u52,u53,u54,u55,u56,u57,u58,u59,u60,u61,u62,u63,u64,u65,u66,u67,u68,u69,u70,u71,u72,u73,u74,u75,u76,u77,u78,u79,u80,u81,u82,u83,u84,u85,u86,u87,u88,u89,u90],defers:=[]}):P a:=by
 obtain⟨u8,u9,u10,u11,u12,u13,u14,u15,u16,u17,u18,u19,u20,u21,u22,u23,u24,u25,u26,u27,u28,u29,u30,u31,u32,u33,u34,u35,u36,u37,u38,u39,u40,u41,u42,u43,u44,u45,u46,u47,u48,u49,u50,u51,u52,u53,u54,u55,u56,u57,u58,u59,u60,u61,u62,u63,u64,u65,u66,u67,u68,u69,u70,u71,u72,u73,u74,u75,u76,u77,u78,u79,u80,u81,u82,u83,u84,u85,u86,u87,u88,u89,u90,rfl⟩:=h
 exact k _ _ _ _ _ _ _ _ _ _ _ _ _ _ _ _ _ _ _ _ _ _ _ _ _ _ _ _ _ _ _ _ _ _ _ _ _ _ _ _ _ _ _ _ _ _ _ _ _ _ _ _ _ _ _ _ _ _ _ _ _ _ _ _ _ _ _ _ _ _ _ _ _ _ _ _ _ _ _ _ _ _ _
end Go.Proofs.YtbjabpodkaokjaaGreatDoor
