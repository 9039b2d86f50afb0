import Derived.Test.YtjlfibhbfdckpaaGreatDoorV48
import Derived.Test.YtjlfibhbfdckpaaGreatDoorCards
import Derived.Test.YtjlfibhbfdckpaaGreatDoorTie
import Derived.ProofKit
import Derived.OpenShut
import Derived.ShutString
import Derived.Deep.DeepHandedRow
import Derived.Lib.LaidU8T
namespace Go.Proofs.YtjlfibhbfdckpaaGreatDoor
set_option maxHeartbeats 64000000
set_option maxRecDepth 100000
end Go.Proofs.YtjlfibhbfdckpaaGreatDoor
namespace Go.Proofs.YtjlfibhbfdckpaaGreatDoor.desks
set_option maxHeartbeats 64000000
set_option maxRecDepth 100000
open Go.ChangeShapes Go.WideShapes Go.ChangeAt Go.RowKit
open Go.ChangeMaps (open_string shut_string)
theorem own:ownKnob Tryz.prog.godebug=none:=by kernel_rfl
theorem zb6:laidOutB Tryz.prog=true:=by kernel_rfl
def ren:Go.Shelf.Ren:=⟨λx=>x,λx=>if x=5 then 5 else if x=119 then 269 else if x=138 then 271 else 272,λx=>if x=3 then 0 else 1⟩
theorem types:U8Types Tryz.prog ren:=⟨by kernel_rfl,by kernel_rfl,by kernel_rfl,by kernel_rfl⟩
theorem extra:U8Extra Tryz.prog ren:=⟨by kernel_rfl,by kernel_rfl,by kernel_rfl,by kernel_rfl,by kernel_rfl,by kernel_rfl,by kernel_rfl⟩
theorem zfy:Rows.laid_unicode_utf8_first=Lib.firstData:=by kernel_rfl
theorem zeQ:(Rows.laid_unicode_utf8_acceptRanges:DataW Unit)=Lib.acceptData:=by kernel_rfl
theorem zgq {W:World} (h:Lib.Utf8Tabs 0 1 W):2<=W.heap.size:=World.block_lt_of_cell? _ _ (h.2 0 (by omega)).1
theorem zw8 {α:Type} {l:List α} (h:l.length=9):∃a b c d e f g i j,l=[a,b,c,d,e,f,g,i,j]:=by
 match l,h with
 |[a,b,c,d,e,f,g,i,j],_=>exact⟨a,b,c,d,e,f,g,i,j,rfl⟩
theorem zwu {α:Type} {l:List α} (h:l.length=5):∃a b c d e,l=[a,b,c,d,e]:=by
 match l,h with
 |[a,b,c,d,e],_=>exact⟨a,b,c,d,e,rfl⟩
theorem zrF {α:Type} {l:List α} (h:l.length=13):∃a b c d e f g i j k m n o,l=[a,b,c,d,e,f,g,i,j,k,m,n,o]:=by
 match l,h with
 |[a,b,c,d,e,f,g,i,j,k,m,n,o],_=>exact⟨a,b,c,d,e,f,g,i,j,k,m,n,o,rfl⟩
theorem ztn:Tryz.prog.cellsOf 3=1:=by kernel_rfl
theorem zu8:Tryz.prog.cellsOf 9=1:=by kernel_rfl
theorem zwv:Tryz.prog.cellsOf 4=1:=by kernel_rfl
theorem zww:Tryz.prog.cellsOf 33=5:=by kernel_rfl
theorem cCa:Tryz.prog.cellsOf 35=13:=by kernel_rfl
section
variable {H : Type} {enc : TypeId × Value → H} {base : Nat} {sp : Nat → Bool} {held : Bool} {W : World} {a : Option Addr} {n cap : Nat} {d : DataW H} {p : List MemPlace}
theorem zu9 {fuel:Nat} {cs:List Value} {y:DataW H × List MemPlace} (h:DataW.trod enc Tryz.prog W base sp held fuel 33 cs=some y):∃q:Pn,cs=[.int .i64 q.f,.int .i64 q.b,.bool q.bo,.bool q.un,.bool q.re]:=by
 obtain⟨xs,m,_,_,hl,hz,he⟩:=DataW.trod_struct Tryz.underlying33 h;rw[zww] at hl;have hz':xs.length=5:=by simpa using hz
 obtain⟨x0,x1,x2,x3,x4,rfl⟩:=zwu hz';obtain⟨c0,c1,c2,c3,c4,rfl⟩:=zwu hl;have g0:=he 0 _ rfl;have g1:=he 1 _ rfl;have g2:=he 2 _ rfl;have g3:=he 3 _ rfl;have g4:=he 4 _ rfl;simp[ztn,zwv] at g0 g1 g2 g3 g4;obtain⟨k0,e0,_,_⟩:=DataW.trod_int Tryz.underlying3 g0;obtain⟨k1,e1,_,_⟩:=DataW.trod_int Tryz.underlying3 g1;obtain⟨k2,e2,_⟩:=DataW.trod_bool Tryz.underlying4 g2;obtain⟨k3,e3,_⟩:=DataW.trod_bool Tryz.underlying4 g3;obtain⟨k4,e4,_⟩:=DataW.trod_bool Tryz.underlying4 g4;simp only[List.cons.injEq,and_true] at e0 e1 e2 e3 e4;subst e0 e1 e2 e3 e4;exact⟨⟨k0,k1,k2,k3,k4⟩,rfl⟩
theorem zwx {fuel:Nat} {cs:List Value} {y:DataW H × List MemPlace} (h:DataW.trod enc Tryz.prog W base sp held fuel 35 cs=some y):
 ∃o:Ca,cs=[Value.int .i64 o.kd,.int .i64 o.on,.int .i64 o.a,.int .i64 o.b,.int .i64 o.c,.int .i64 o.d,.int .i64 o.e,.string o.s,.int .i64 o.p.f,.int .i64 o.p.b,.bool o.p.bo,.bool o.p.un,.bool o.p.re]/\(Lit.int .i64 o.on).wf=true:=by
 obtain⟨xs,m,_,_,hl,hz,he⟩:=DataW.trod_struct Tryz.underlying35 h;rw[cCa] at hl;have hz':xs.length=9:=by simpa using hz
 obtain⟨x0,x1,x2,x3,x4,x5,x6,x7,x8,rfl⟩:=zw8 hz';obtain⟨c0,c1,c2,c3,c4,c5,c6,c7,c8,c9,c10,c11,c12,rfl⟩:=zrF hl;have g0:=he 0 _ rfl;have g1:=he 1 _ rfl;have g2:=he 2 _ rfl;have g3:=he 3 _ rfl;have g4:=he 4 _ rfl;have g5:=he 5 _ rfl;have g6:=he 6 _ rfl;have g7:=he 7 _ rfl;have g8:=he 8 _ rfl;simp[ztn,zu8,zww] at g0 g1 g2 g3 g4 g5 g6 g7 g8;obtain⟨k0,e0,_,_⟩:=DataW.trod_int Tryz.underlying3 g0;obtain⟨k1,e1,_,w1⟩:=DataW.trod_int Tryz.underlying3 g1;obtain⟨k2,e2,_,_⟩:=DataW.trod_int Tryz.underlying3 g2;obtain⟨k3,e3,_,_⟩:=DataW.trod_int Tryz.underlying3 g3;obtain⟨k4,e4,_,_⟩:=DataW.trod_int Tryz.underlying3 g4;obtain⟨k5,e5,_,_⟩:=DataW.trod_int Tryz.underlying3 g5;obtain⟨k6,e6,_,_⟩:=DataW.trod_int Tryz.underlying3 g6;obtain⟨s7,e7,_,_⟩:=DataW.trod_string Tryz.underlying9 g7;obtain⟨q,e8⟩:=zu9 g8;simp only[List.cons.injEq,and_true] at e0 e1 e2 e3 e4 e5 e6 e7 e8;obtain⟨f0,f1,f2,f3,f4⟩:=e8;subst e0 e1 e2 e3 e4 e5 e6 e7 f0 f1 f2 f3 f4;exact⟨⟨k0,k1,k2,k3,k4,k5,k6,s7,q⟩,rfl,w1⟩
theorem zmX (h:DataW.Trod enc Tryz.prog W base (λ_=>true) held 22 (.slice a n cap) d p):∃cs,zgR W a n cs/\n<=9223372036854775807:=by
 obtain⟨fuel,hf⟩:=h;rcases DataW.trod_slice Tryz.underlying22 hf with⟨hcs,_⟩|⟨x,l,c,elems,rest,m,_,hcs,hx,_,hl,hm,hlen,hel,_,_⟩
 ·simp[Value.cells] at hcs;obtain⟨rfl,rfl,rfl⟩:=hcs;exact⟨[],λk hk=>by omega,by omega⟩
 ·simp[Value.cells] at hcs;obtain⟨rfl,rfl,rfl⟩:=hcs;unfold maxLen at hm;rw[cCa] at hel;have each:∀i,i<n->∃o:Ca,(∀j,j<13->W.cell? ((x.add (i*13)).add j)=([Value.int .i64 o.kd,.int .i64 o.on,.int .i64 o.a,.int .i64 o.b,.int .i64 o.c,.int .i64 o.d,.int .i64 o.e,.string o.s,.int .i64 o.p.f,.int .i64 o.p.b,.bool o.p.bo,.bool o.p.un,.bool o.p.re]:List Value)[j]?)/\(Lit.int .i64 o.on).wf=true:=by
   intro i hi;have hi':i<elems.length:=by omega
   have h2:=hel i hi;rw[List.getElem?_eq_getElem hi',Option.bind_eq_some_iff] at h2;obtain⟨cs,h3,h4⟩:=h2;obtain⟨o,rfl,hw⟩:=zwx h4;exact⟨o,λj hj=>(World.cells?_some h3).2.2 j hj,hw⟩
  classical
  have hget:∀(k:Nat) (hk:k<n),((List.range n).map (λi=>if h:i<n then Classical.choose (each i h) else zd9)).getD k zd9=Classical.choose (each k hk):=by
   intro k hk;rw[List.getD_eq_getElem?_getD,List.getElem?_map,List.getElem?_range hk];simp[hk]
  refine⟨(List.range n).map (λi=>if h:i<n then Classical.choose (each i h) else zd9),λk hk=>?_,by omega⟩;obtain⟨hc,hw⟩:=Classical.choose_spec (each k hk);have h00:=(Classical.choose_spec (each 0 (by omega))).1 0 (by omega);rw[hget k hk];clear hget;generalize Classical.choose (each k hk)=o at hc hw ⊢;obtain⟨b,off,spot⟩:=x;have hspot:spot=none:=by simpa[Addr.add] using World.cell?_spot h00
  subst hspot;have hcc:=λj hj=>by
   have:=hc j hj;rw[Go.WideShapes.add_plain,Go.WideShapes.add_plain] at this;exact this
  have hb:=bounds_i64 hw;exact⟨b,off,rfl,World.block_lt_of_cell? _ _ (hcc 0 (by omega)),hcc 0 (by omega),hcc 1 (by omega),hcc 2 (by omega),hcc 3 (by omega),hcc 4 (by omega),hcc 5 (by omega),hcc 6 (by omega),hcc 7 (by omega),hcc 8 (by omega),hcc 9 (by omega),hcc 10 (by omega),hcc 11 (by omega),hcc 12 (by omega),hb.1,hb.2⟩
end
def zwy:DataW Unit->List Value
 |.agg l=>l.flatMap λd=>match d with
  |.lit (.int k z)=>[.int k z]
  |.agg m=>m.map λd=>match d with
   |.lit (.int k z)=>.int k z
   |_=>.bool false
  |_=>[]
 |_=>[]
def lay (d:DataW Unit):Obj->Obj
 |.cells _ t frozen=>.cells (zwy d).toArray t frozen
 |o=>o
noncomputable def laidWorld (os:Os):World:=
 {World.holding Tryz.prog os ⟨#[],#[],[]⟩ with heap:=(((((World.holding Tryz.prog os ⟨#[],#[],[]⟩).heap.modify 0 (lay Rows.laid_unicode_utf8_first)).modify 1 (lay Rows.laid_unicode_utf8_acceptRanges)).modify 3 (lay Rows.laid_internal_strconv_uint64pow10)).modify 4 (lay Rows.laid_math_bits_deBruijn32tab)).modify 5 (lay Rows.laid_math_bits_deBruijn64tab)}
end Go.Proofs.YtjlfibhbfdckpaaGreatDoor.desks
namespace Go.Proofs.YtjlfibhbfdckpaaGreatDoor
set_option maxHeartbeats 64000000
set_option maxRecDepth 100000
end Go.Proofs.YtjlfibhbfdckpaaGreatDoor
namespace Go.Proofs.YtjlfibhbfdckpaaGreatDoor
set_option maxHeartbeats 64000000
set_option maxRecDepth 100000
end Go.Proofs.YtjlfibhbfdckpaaGreatDoor
