import Derived.Test.YtjlfibhbfdckpaaGreatDoorV48
import Derived.Test.YtjlfibhbfdckpaaGreatDoorCards
import Derived.Test.YtjlfibhbfdckpaaGreatDoorTie
import Derived.ProofKit
import Derived.OpenShut
import Derived.ShutString
import Derived.Deep.DeepHandedRow
import Derived.Lib.LaidU8T
namespace Go.Proofs.YtjlfibhbfdckpaaGreatDoor
set_option maxHeartbeats 64000000
set_option maxRecDepth 100000
end Go.Proofs.YtjlfibhbfdckpaaGreatDoor
namespace Go.Proofs.YtjlfibhbfdckpaaGreatDoor.desks
set_option maxHeartbeats 64000000
set_option maxRecDepth 100000
open Go.ChangeShapes Go.WideShapes Go.ChangeAt Go.RowKit
open Go.ChangeMaps (open_string shut_string)
theorem own:ownKnob Tryz.prog.godebug=none:=by kernel_rfl
theorem zb6:laidOutB Tryz.prog=true:=by kernel_rfl
def ren:Go.Shelf.Ren:=⟨λx=>x,λx=>if x=5 then 5 else if x=119 then 269 else if x=138 then 271 else 272,λx=>if x=3 then 0 else 1⟩
theorem types:U8Types Tryz.prog ren:=⟨by kernel_rfl,by kernel_rfl,by kernel_rfl,by kernel_rfl⟩
theorem extra:U8Extra Tryz.prog ren:=⟨by kernel_rfl,by kernel_rfl,by kernel_rfl,by kernel_rfl,by kernel_rfl,by kernel_rfl,by kernel_rfl⟩
theorem zfy:Rows.laid_unicode_utf8_first=Lib.firstData:=by kernel_rfl
theorem zeQ:(Rows.laid_unicode_utf8_acceptRanges:DataW Unit)=Lib.acceptData:=by kernel_rfl
theorem zu7 {W:World} (h:laidMetH Tryz.prog Rows.desksRow.laid W):Lib.Utf8Tabs 0 1 W:=by
 have h':laidMet Tryz.prog Rows.desksRow.laid W:=h;refine utf8Tabs_of_readsT types extra ?_ ?_
 ·rw[←zfy];exact Lib.laidMet.reads h' (by simp[Rows.desksRow])
 ·rw[←zeQ];exact Lib.laidMet.reads h' (by simp[Rows.desksRow])
theorem zgq {W:World} (h:Lib.Utf8Tabs 0 1 W):2<=W.heap.size:=World.block_lt_of_cell? _ _ (h.2 0 (by omega)).1
theorem zw8 {α:Type} {l:List α} (h:l.length=9):∃a b c d e f g i j,l=[a,b,c,d,e,f,g,i,j]:=by
 match l,h with
 |[a,b,c,d,e,f,g,i,j],_=>exact⟨a,b,c,d,e,f,g,i,j,rfl⟩
theorem zwu {α:Type} {l:List α} (h:l.length=5):∃a b c d e,l=[a,b,c,d,e]:=by
 match l,h with
 |[a,b,c,d,e],_=>exact⟨a,b,c,d,e,rfl⟩
theorem zrF {α:Type} {l:List α} (h:l.length=13):∃a b c d e f g i j k m n o,l=[a,b,c,d,e,f,g,i,j,k,m,n,o]:=by
 match l,h with
 |[a,b,c,d,e,f,g,i,j,k,m,n,o],_=>exact⟨a,b,c,d,e,f,g,i,j,k,m,n,o,rfl⟩
theorem ztn:Tryz.prog.cellsOf 3=1:=by kernel_rfl
theorem zu8:Tryz.prog.cellsOf 9=1:=by kernel_rfl
theorem zwv:Tryz.prog.cellsOf 4=1:=by kernel_rfl
theorem zww:Tryz.prog.cellsOf 33=5:=by kernel_rfl
theorem cCa:Tryz.prog.cellsOf 35=13:=by kernel_rfl
section
variable {H : Type} {enc : TypeId × Value → H} {base : Nat} {sp : Nat → Bool} {held : Bool} {W : World} {a : Option Addr} {n cap : Nat} {d : DataW H} {p : List MemPlace}
theorem zu9 {fuel:Nat} {cs:List Value} {y:DataW H × List MemPlace} (h:DataW.trod enc Tryz.prog W base sp held fuel 33 cs=some y):∃q:Pn,cs=[.int .i64 q.f,.int .i64 q.b,.bool q.bo,.bool q.un,.bool q.re]:=by
 obtain⟨xs,m,_,_,hl,hz,he⟩:=DataW.trod_struct Tryz.underlying33 h;rw[zww] at hl;have hz':xs.length=5:=by simpa using hz
 obtain⟨x0,x1,x2,x3,x4,rfl⟩:=zwu hz';obtain⟨c0,c1,c2,c3,c4,rfl⟩:=zwu hl;have g0:=he 0 _ rfl;have g1:=he 1 _ rfl;have g2:=he 2 _ rfl;have g3:=he 3 _ rfl;have g4:=he 4 _ rfl;simp[ztn,zwv] at g0 g1 g2 g3 g4;obtain⟨k0,e0,_,_⟩:=DataW.trod_int Tryz.underlying3 g0;obtain⟨k1,e1,_,_⟩:=DataW.trod_int Tryz.underlying3 g1;obtain⟨k2,e2,_⟩:=DataW.trod_bool Tryz.underlying4 g2;obtain⟨k3,e3,_⟩:=DataW.trod_bool Tryz.underlying4 g3;obtain⟨k4,e4,_⟩:=DataW.trod_bool Tryz.underlying4 g4;simp only[List.cons.injEq,and_true] at e0 e1 e2 e3 e4;subst e0 e1 e2 e3 e4;exact⟨⟨k0,k1,k2,k3,k4⟩,rfl⟩
theorem zwx {fuel:Nat} {cs:List Value} {y:DataW H × List MemPlace} (h:DataW.trod enc Tryz.prog W base sp held fuel 35 cs=some y):
 ∃o:Ca,cs=[Value.int .i64 o.kd,.int .i64 o.on,.int .i64 o.a,.int .i64 o.b,.int .i64 o.c,.int .i64 o.d,.int .i64 o.e,.string o.s,.int .i64 o.p.f,.int .i64 o.p.b,.bool o.p.bo,.bool o.p.un,.bool o.p.re]/\(Lit.int .i64 o.on).wf=true:=by
 obtain⟨xs,m,_,_,hl,hz,he⟩:=DataW.trod_struct Tryz.underlying35 h;rw[cCa] at hl;have hz':xs.length=9:=by simpa using hz
 obtain⟨x0,x1,x2,x3,x4,x5,x6,x7,x8,rfl⟩:=zw8 hz';obtain⟨c0,c1,c2,c3,c4,c5,c6,c7,c8,c9,c10,c11,c12,rfl⟩:=zrF hl;have g0:=he 0 _ rfl;have g1:=he 1 _ rfl;have g2:=he 2 _ rfl;have g3:=he 3 _ rfl;have g4:=he 4 _ rfl;have g5:=he 5 _ rfl;have g6:=he 6 _ rfl;have g7:=he 7 _ rfl;have g8:=he 8 _ rfl;simp[ztn,zu8,zww] at g0 g1 g2 g3 g4 g5 g6 g7 g8;obtain⟨k0,e0,_,_⟩:=DataW.trod_int Tryz.underlying3 g0;obtain⟨k1,e1,_,w1⟩:=DataW.trod_int Tryz.underlying3 g1;obtain⟨k2,e2,_,_⟩:=DataW.trod_int Tryz.underlying3 g2;obtain⟨k3,e3,_,_⟩:=DataW.trod_int Tryz.underlying3 g3;obtain⟨k4,e4,_,_⟩:=DataW.trod_int Tryz.underlying3 g4;obtain⟨k5,e5,_,_⟩:=DataW.trod_int Tryz.underlying3 g5;obtain⟨k6,e6,_,_⟩:=DataW.trod_int Tryz.underlying3 g6;obtain⟨s7,e7,_,_⟩:=DataW.trod_string Tryz.underlying9 g7;obtain⟨q,e8⟩:=zu9 g8;simp only[List.cons.injEq,and_true] at e0 e1 e2 e3 e4 e5 e6 e7 e8;obtain⟨f0,f1,f2,f3,f4⟩:=e8;subst e0 e1 e2 e3 e4 e5 e6 e7 f0 f1 f2 f3 f4;exact⟨⟨k0,k1,k2,k3,k4,k5,k6,s7,q⟩,rfl,w1⟩
theorem zmX (h:DataW.Trod enc Tryz.prog W base (λ_=>true) held 22 (.slice a n cap) d p):∃cs,zgR W a n cs/\n<=9223372036854775807:=by
 obtain⟨fuel,hf⟩:=h;rcases DataW.trod_slice Tryz.underlying22 hf with⟨hcs,_⟩|⟨x,l,c,elems,rest,m,_,hcs,hx,_,hl,hm,hlen,hel,_,_⟩
 ·simp[Value.cells] at hcs;obtain⟨rfl,rfl,rfl⟩:=hcs;exact⟨[],λk hk=>by omega,by omega⟩
 ·simp[Value.cells] at hcs;obtain⟨rfl,rfl,rfl⟩:=hcs;unfold maxLen at hm;rw[cCa] at hel;have each:∀i,i<n->∃o:Ca,(∀j,j<13->W.cell? ((x.add (i*13)).add j)=([Value.int .i64 o.kd,.int .i64 o.on,.int .i64 o.a,.int .i64 o.b,.int .i64 o.c,.int .i64 o.d,.int .i64 o.e,.string o.s,.int .i64 o.p.f,.int .i64 o.p.b,.bool o.p.bo,.bool o.p.un,.bool o.p.re]:List Value)[j]?)/\(Lit.int .i64 o.on).wf=true:=by
   intro i hi;have hi':i<elems.length:=by omega
   have h2:=hel i hi;rw[List.getElem?_eq_getElem hi',Option.bind_eq_some_iff] at h2;obtain⟨cs,h3,h4⟩:=h2;obtain⟨o,rfl,hw⟩:=zwx h4;exact⟨o,λj hj=>(World.cells?_some h3).2.2 j hj,hw⟩
  classical
  have hget:∀(k:Nat) (hk:k<n),((List.range n).map (λi=>if h:i<n then Classical.choose (each i h) else zd9)).getD k zd9=Classical.choose (each k hk):=by
   intro k hk;rw[List.getD_eq_getElem?_getD,List.getElem?_map,List.getElem?_range hk];simp[hk]
  refine⟨(List.range n).map (λi=>if h:i<n then Classical.choose (each i h) else zd9),λk hk=>?_,by omega⟩;obtain⟨hc,hw⟩:=Classical.choose_spec (each k hk);have h00:=(Classical.choose_spec (each 0 (by omega))).1 0 (by omega);rw[hget k hk];clear hget;generalize Classical.choose (each k hk)=o at hc hw ⊢;obtain⟨b,off,spot⟩:=x;have hspot:spot=none:=by simpa[Addr.add] using World.cell?_spot h00
  subst hspot;have hcc:=λj hj=>by
   have:=hc j hj;rw[Go.WideShapes.add_plain,Go.WideShapes.add_plain] at this;exact this
  have hb:=bounds_i64 hw;exact⟨b,off,rfl,World.block_lt_of_cell? _ _ (hcc 0 (by omega)),hcc 0 (by omega),hcc 1 (by omega),hcc 2 (by omega),hcc 3 (by omega),hcc 4 (by omega),hcc 5 (by omega),hcc 6 (by omega),hcc 7 (by omega),hcc 8 (by omega),hcc 9 (by omega),hcc 10 (by omega),hcc 11 (by omega),hcc 12 (by omega),hb.1,hb.2⟩
end
theorem zio (H:Type) (enc:TypeId × Value->H) (W:World) (base:Nat) (args:Array Value) (ds gs:List (DataW H)) (before:List MemPlace)
 (hval:∀(j:Nat) t v,Tryz.f4.params[j]?=some t->args[j]?=some v->Value.okWide Tryz.prog W .any base t v)
 (hW:DataW.Whole enc Tryz.prog Tryz.f4.params.toList Rows.desksSpec.vars false W args.toList ds gs before) (hT:Lib.Utf8Tabs 0 1 W):
 Calls Tryz.prog 4 args W λe W'=>∃v,e=.returned v/\Rows.desksSpec.post enc Tryz.prog Tryz.f4 false true false false W args v W':=by
 have hW':=hW;obtain⟨p,q,hA0,hV,rfl,hfz,hnd⟩:=hW;have hA:=hA0;rw[Tryz.params4] at hA hval;obtain⟨v0,vs0,d0,ds0,p0,q0,hargs,rfl,rfl,h0,r0⟩:=trodAll_cons hA;obtain⟨v1,vs1,d1,ds1,p1,q1,hargs1,rfl,rfl,h1,r1⟩:=trodAll_cons r0;obtain⟨v2,vs2,d2,ds2,p2,q2,hargs2,rfl,rfl,h2,r2⟩:=trodAll_cons r1;obtain⟨v3,vs3,d3,ds3,p3,q3,hargs3,rfl,rfl,h3,r3⟩:=trodAll_cons r2;obtain⟨v4,vs4,d4,ds4,p4,q4,hargs4,rfl,rfl,h4,r4⟩:=trodAll_cons r3;obtain⟨rfl,rfl,rfl⟩:=trodAll_nil r4;subst hargs4 hargs3 hargs2 hargs1;obtain rfl:args=#[v0,v1,v2,v3,v4]:=by cases args;simp_all
 obtain⟨rfl,rfl⟩:=trodVars_none hV;have k0:=h0;have k1:=h1;have k2:=h2;have k3:=h3;have k4:=h4;have lt0:∀x∈p0,x.block<W.heap.size:=by obtain⟨m,hm⟩:=k0;exact DataW.trod_lt m _ _ _ hm
 have lt1:∀x∈p1,x.block<W.heap.size:=by obtain⟨m,hm⟩:=k1;exact DataW.trod_lt m _ _ _ hm
 have lt2:∀x∈p2,x.block<W.heap.size:=by obtain⟨m,hm⟩:=k2;exact DataW.trod_lt m _ _ _ hm
 have lt3:∀x∈p3,x.block<W.heap.size:=by obtain⟨m,hm⟩:=k3;exact DataW.trod_lt m _ _ _ hm
 have lt4:∀x∈p4,x.block<W.heap.size:=by obtain⟨m,hm⟩:=k4;exact DataW.trod_lt m _ _ _ hm
 obtain⟨x,rfl,_,_,hx⟩:=open_int Tryz.underlying3 (hval 0 3 v0 rfl rfl) h0;obtain⟨y,rfl,_,_,hy⟩:=open_int Tryz.underlying3 (hval 1 3 v1 rfl rfl) h1;obtain⟨z,rfl,_,_,hz⟩:=open_int Tryz.underlying3 (hval 2 3 v2 rfl rfl) h2;obtain⟨u,rfl,_,_,hu⟩:=open_int Tryz.underlying3 (hval 3 3 v3 rfl rfl) h3;obtain⟨ta,tn,tc,rfl⟩:=okWide_slice Tryz.underlying22 (hval 4 22 v4 rfl rfl);obtain⟨cs,hF,hn⟩:=zmX h4;refine(zrE x y z u ta tn tc cs W (zgq hT) hF hT hn).mono λe W' ⟨he,bel⟩=>?_;subst he;exact⟨_,rfl,_,_,_,[],_,[],hW',trodAll_mk1 (shut_bool Tryz.underlying4 _),
  (trodAll_cons_mk (Below.trod zb6 (by kernel_rfl) (of_decide_eq_true (by kernel_rfl)) k0 bel lt0) (trodAll_cons_mk (Below.trod zb6 (by kernel_rfl) (of_decide_eq_true (by kernel_rfl)) k1 bel lt1) (trodAll_cons_mk (Below.trod zb6 (by kernel_rfl) (of_decide_eq_true (by kernel_rfl)) k2 bel lt2) (trodAll_cons_mk (Below.trod zb6 (by kernel_rfl) (of_decide_eq_true (by kernel_rfl)) k3 bel lt3) (trodAll_cons_mk (Below.trod zb6 (by kernel_rfl) (of_decide_eq_true (by kernel_rfl)) k4 bel lt4) trodAll_mk0))))),rfl,bel.frame _,λh=>by cases h⟩
def zwy:DataW Unit->List Value
 |.agg l=>l.flatMap λd=>match d with
  |.lit (.int k z)=>[.int k z]
  |.agg m=>m.map λd=>match d with
   |.lit (.int k z)=>.int k z
   |_=>.bool false
  |_=>[]
 |_=>[]
def lay (d:DataW Unit):Obj->Obj
 |.cells _ t frozen=>.cells (zwy d).toArray t frozen
 |o=>o
noncomputable def laidWorld (os:Os):World:=
 {World.holding Tryz.prog os ⟨#[],#[],[]⟩ with heap:=(((((World.holding Tryz.prog os ⟨#[],#[],[]⟩).heap.modify 0 (lay Rows.laid_unicode_utf8_first)).modify 1 (lay Rows.laid_unicode_utf8_acceptRanges)).modify 3 (lay Rows.laid_internal_strconv_uint64pow10)).modify 4 (lay Rows.laid_math_bits_deBruijn32tab)).modify 5 (lay Rows.laid_math_bits_deBruijn64tab)}
theorem zip (os:Os):laidMet Tryz.prog Rows.desksRow.laid ((laidWorld os).forCall (λ_ _=>0) ⟨#[],#[.int .i64 0,.int .i64 0,.int .i64 0,.int .i64 0,.slice none 0 0],[]⟩).memory:=
 laidMet_of_run' 8 (by kernel_rfl) (by kernel_rfl)
theorem reads (os:Os) {H:Type} (enc:TypeId × Value->H):∃places,DataW.whole enc Tryz.prog ((laidWorld os).forCall (λ_ _=>0) ⟨#[],#[.int .i64 0,.int .i64 0,.int .i64 0,.int .i64 0,.slice none 0 0],[]⟩).memory Tryz.f4.params.toList Rows.desksSpec.vars false #[Value.int .i64 0,.int .i64 0,.int .i64 0,.int .i64 0,.slice none 0 0].toList 8=some ([.lit (.int .i64 0),.lit (.int .i64 0),.lit (.int .i64 0),.lit (.int .i64 0),.nil],[],places):=
 ⟨[],by kernel_rfl⟩
theorem zmY (os:Os) (started:os.Started) (H:Type) (enc:TypeId × Value->H) (F:Stop.Interp):
 ReturnsInHanded {} Tryz.checked os 4 .any ((OpenSpec.ofChange Rows.desksSpec).preRow enc Tryz.prog Tryz.f4 Rows.desksRow.domain false Rows.desksRow.laid) (((OpenSpec.ofChange Rows.desksSpec).at F).post enc Tryz.prog Tryz.f4 false true false false):=by
 obtain⟨places,hx⟩:=reads os enc;refine returnsInHanded_of_row (C:=Tryz.checked) (s:=OpenSpec.ofChange Rows.desksSpec) own started (by kernel_rfl) Tryz.func4
  (witness_row_at (enc:=enc) (C:=Tryz.checked) false (laidWorld os) #[.int .i64 0,.int .i64 0,.int .i64 0,.int .i64 0,.slice none 0 0] rfl (by kernel_rfl) (by kernel_rfl) (by kernel_rfl)
    (OpenSpec.preRow_of_cond 8 hx (by kernel_rfl) (λk hk=>by cases hk) (by kernel_rfl) (zip os))) ?_
 intro W base args ds gs before hval hW _ _ _ hL _ _;exact zio H enc W base args ds gs before hval hW (zu7 hL)
theorem zva:Rows.DesksSaid:=
 OpenClaim.holds_of_cond 4 Tryz.f4 rfl rfl rfl rfl rfl rfl rfl ⟨rfl,rfl,rfl,rfl,rfl⟩ rfl rfl rfl rfl rfl (by kernel_rfl) Tryz.func4 (by kernel_rfl)
  (of_decide_eq_true (by kernel_rfl)) (by unfold Func.isWrapper;first|(rw[if_pos (by decide +kernel)];kernel_rfl)|(rw[if_neg (by decide +kernel)];exact⟨rfl,rfl⟩))
  (λos started H enc _ F=>by rw[OpenClaim.pre_eq_preRow];exact zmY os started H enc F)
theorem plain (f : FuncId) (fn : Func) (hf : Tryz.pinned.checked.prog.funcNamed "casement/casementlaw.Desks" = some f) (hfn : Tryz.pinned.checked.prog.funcs[f]? = some fn) :
 true=Tryz.pinned.checked.prog.looks []/\∀(j:Nat) t,fn.params[j]?=some t->Tryz.pinned.checked.prog.wantsStandIn t=false:=by
 obtain rfl : f = 4 := Option.some.inj ((show Tryz.prog.funcNamed "casement/casementlaw.Desks" = some 4 by kernel_rfl).symm.trans hf) |>.symm
 obtain rfl:fn=Tryz.f4:=(Option.some.inj (Tryz.func4.symm.trans hfn)).symm;refine⟨by kernel_rfl,λj t ht=>?_⟩;rw[Tryz.params4] at ht;have hm:t=3\/t=22:=by simpa using Array.mem_of_getElem? ht
 rcases hm with rfl|rfl
 ·exact(show Tryz.prog.wantsStandIn 3=false by kernel_rfl)
 ·exact(show Tryz.prog.wantsStandIn 22=false by kernel_rfl)
theorem card:Rows.DesksCardSaid:=
 Claim7.holds_tied_plain_at .later [] _ _ _ _ zva (λ_ h=>by cases h) (by kernel_rfl) (λ_ h=>by cases h) desks_row_tie rfl ⟨rfl,rfl⟩ (by kernel_rfl) rfl plain (by kernel_rfl)
end Go.Proofs.YtjlfibhbfdckpaaGreatDoor.desks
namespace Go.Proofs.YtjlfibhbfdckpaaGreatDoor
set_option maxHeartbeats 64000000
set_option maxRecDepth 100000
theorem desks_holds:Rows.DesksCardSaid:=desks.card
#print axioms desks_holds
end Go.Proofs.YtjlfibhbfdckpaaGreatDoor
namespace Go.Proofs.YtjlfibhbfdckpaaGreatDoor
set_option maxHeartbeats 64000000
set_option maxRecDepth 100000
end Go.Proofs.YtjlfibhbfdckpaaGreatDoor
