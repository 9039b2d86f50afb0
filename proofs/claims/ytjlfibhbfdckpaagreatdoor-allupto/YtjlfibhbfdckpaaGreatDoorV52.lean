import Derived.Test.YtjlfibhbfdckpaaGreatDoorV49
import Derived.Test.YtjlfibhbfdckpaaGreatDoorV51
namespace Go.Proofs.YtjlfibhbfdckpaaGreatDoor
set_option maxHeartbeats 64000000
set_option maxRecDepth 100000
end Go.Proofs.YtjlfibhbfdckpaaGreatDoor
namespace Go.Proofs.YtjlfibhbfdckpaaGreatDoor.all
set_option maxHeartbeats 64000000
set_option maxRecDepth 100000
open Go.ChangeShapes Go.WideShapes Go.ChangeAt Go.RowKit
open Go.ChangeMaps (open_string shut_string)
open Go.Proofs.YtjlfibhbfdckpaaGreatDoor.Wd hiding ZY
open Go.Proofs.YtjlfibhbfdckpaaGreatDoor.desks (own zb6 types extra zfy zeQ zgq zmX laidWorld)
def zrK (k:IntKind) (w:World) (a:Option Addr) (len cap:Nat) (zs:List Int):Prop:=
 (a=none/\len=0/\cap=0/\zs=[]) ∨
 ∃x,a=some x/\len<=cap/\cap<=maxLen/\zs.length=cap/\(∀i,i<zs.length->w.cell? (x.add i)=some (.int k (zs.getD i 0)))/\∀n∈zs,(Lit.int k n).wf=true
theorem zxb (a0:Option Addr) (len0 cap0:Nat) (z0:List Int) (w:World) (w0:zrK .i32 w a0 len0 cap0 z0):
 Calls Tryz.prog 24 #[.slice a0 len0 cap0] w λe w'=>e=.returned (.bool true)/\Below w.heap.size w w':=by
 have ha:wd 97=1:=by decide
 have hb:wd 20013=2:=by decide
 have key:∀k,k<len0->∃b off,a0=some ⟨b,off,none⟩/\b<w.heap.size/\w.cell? ⟨b,off+k,none⟩=some (.int .i32 (z0.getD k 0))/\-2147483648<=z0.getD k 0/\z0.getD k 0<=2147483647:=by
  intro k hk;rcases w0 with⟨rfl,rfl,_,_⟩|⟨x,rfl,hl,hm,hz,hcell,hwz⟩
  ·omega
  ·obtain⟨b,off,rfl,hc⟩:=ints_at hcell (by omega);refine⟨b,off,rfl,World.block_lt_of_cell? _ _ (hc 0 (by omega)),hc k (by omega),?_⟩;have hmem:z0.getD k 0∈z0:=by
    rw[List.getD_eq_getElem?_getD,List.getElem?_eq_getElem (by omega)];exact List.getElem_mem _
   have:=hwz _ hmem;have b:=bounds_i32 this;omega
 have hlen:len0<=maxLen:=by
  rcases w0 with⟨rfl,rfl,_,_⟩|⟨x,rfl,hl,hm,hz,hcell,hwz⟩<;>omega
 unfold maxLen at hlen;clear w0;have Key:Hid (∀k,k<len0->∃b off,a0=some ⟨b,off,none⟩/\b<w.heap.size/\w.cell? ⟨b,off+k,none⟩=some (.int .i32 (z0.getD k 0))/\-2147483648<=z0.getD k 0/\z0.getD k 0<=2147483647):=key;clear key;go_in;go_wp2_with fail;go_loopw[3] (λi w'=>∃k:Nat,k<=len0/\i=.int .i64 k/\Below w.heap.size w w') (λi _=>len0-(intOf i).toNat)
 case atStart=>exact⟨0,by omega,rfl,Below.refl _ _⟩
 case round=>
  obtain⟨k,hk,rfl,hB⟩:=hrel;by_cases hlt:k<len0
  ·obtain⟨b,off,rfl,hbs,hcell,hz1,hz2⟩:=Key.out k hlt;have hc:wr.cell? ⟨b,off+k,none⟩=some (.int .i32 (z0.getD k 0)):=(hB.cell (p:=⟨b,off+k,none⟩) hbs).trans hcell;clear hcell;generalize z0.getD k 0=n at *;go_wp2_with fail;go_at_call 64;refine(zdp n _).mono ?_;rintro e w' ⟨rfl,rfl⟩;go_wp2_with fail;go_at_call 65;refine(refWidth n _ hz1 hz2).mono ?_;rintro e w' ⟨rfl,hB2⟩;go_wp2_with fail;have hB3:Below w.heap.size w w':=hB.trans (hB2.mono hB.size);go_roundw
   case rel=>exact⟨k+1,by omega,by go_num,hB3⟩
   case measure=>simp[intOf];omega
  ·go_wp2_with fail;go_at_call 64;refine(zdp _ _).mono ?_;rintro e w' ⟨rfl,rfl⟩;go_wp2_with fail;go_at_call 64;refine(zdp _ _).mono ?_;rintro e w' ⟨rfl,rfl⟩;go_wp2_with fail;go_ret;exact⟨by simp,hB⟩
theorem six {α:Type} {l:List α} (h:l.length=6):∃a b c d e f,l=[a,b,c,d,e,f]:=by
 match l,h with
 |[a,b,c,d,e,f],_=>exact⟨a,b,c,d,e,f,rfl⟩
section
variable {H : Type} {enc : TypeId × Value → H} {base : Nat} {sp : Nat → Bool} {held : Bool} {W : World} {a : Option Addr} {n cap : Nat} {d : DataW H} {p : List MemPlace}
def dOf (f:FdS):DataW H:=.agg [.lit (.int .i64 f.on),.lit (.int .i64 f.sz),.lit (.int .i64 f.W),.lit (.int .i64 f.H),.lit (.int .i64 f.lk),.lit (.string f.tx.data.toList)]
def zdR (y:DataW H × List MemPlace):FdS:=match y.1 with
 |.agg [.lit (.int _ a),.lit (.int _ b),.lit (.int _ c),.lit (.int _ d),.lit (.int _ e),.lit (.string bs)]=>⟨a,b,c,d,e,⟨bs.toArray⟩⟩
 |_=>zcl
theorem ztp (f:FdS) (ps:List MemPlace):zdR ((dOf f,ps):DataW H × List MemPlace)=f:=by
 obtain⟨a,b,c,d,e,⟨s⟩⟩:=f;simp[zdR,dOf]
theorem ztn:Tryz.prog.cellsOf 3=1:=by kernel_rfl
theorem zu8:Tryz.prog.cellsOf 9=1:=by kernel_rfl
theorem cFd:Tryz.prog.cellsOf 99=6:=by kernel_rfl
theorem zrL {fuel:Nat} {cs:List Value} {y:DataW H × List MemPlace} (h:DataW.trod enc Tryz.prog W base sp held fuel 99 cs=some y):
 y.1=dOf (zdR y)/\cs=[.int .i64 (zdR y).on,.int .i64 (zdR y).sz,.int .i64 (zdR y).W,.int .i64 (zdR y).H,.int .i64 (zdR y).lk,.string (zdR y).tx]/\(Lit.int .i64 (zdR y).on).wf=true:=by
 obtain⟨xs,m,rfl,rfl,hl,hz,he⟩:=DataW.trod_struct Tryz.underlying99 h;rw[cFd] at hl;have hz':xs.length=6:=by simpa using hz
 obtain⟨x0,x1,x2,x3,x4,x5,rfl⟩:=six hz';obtain⟨c0,c1,c2,c3,c4,c5,rfl⟩:=six hl;have g0:=he 0 _ rfl;have g1:=he 1 _ rfl;have g2:=he 2 _ rfl;have g3:=he 3 _ rfl;have g4:=he 4 _ rfl;have g5:=he 5 _ rfl;simp[ztn,zu8] at g0 g1 g2 g3 g4 g5;obtain⟨k0,e0,rfl,w0⟩:=DataW.trod_int Tryz.underlying3 g0;obtain⟨k1,e1,rfl,_⟩:=DataW.trod_int Tryz.underlying3 g1;obtain⟨k2,e2,rfl,_⟩:=DataW.trod_int Tryz.underlying3 g2;obtain⟨k3,e3,rfl,_⟩:=DataW.trod_int Tryz.underlying3 g3;obtain⟨k4,e4,rfl,_⟩:=DataW.trod_int Tryz.underlying3 g4;obtain⟨s5,e5,rfl,_⟩:=DataW.trod_string Tryz.underlying9 g5;simp only[List.cons.injEq,and_true] at e0 e1 e2 e3 e4 e5;subst e0 e1 e2 e3 e4 e5;have e:∀ps,zdR ((.agg [.lit (.int .i64 k0),.lit (.int .i64 k1),.lit (.int .i64 k2),.lit (.int .i64 k3),.lit (.int .i64 k4),.lit (.string s5.data.toList)],ps):DataW H × List MemPlace)=⟨k0,k1,k2,k3,k4,s5⟩:=λps=>ztp ⟨k0,k1,k2,k3,k4,s5⟩ ps;simp only[List.map_cons,List.map_nil];rw[e];exact⟨rfl,rfl,w0⟩
theorem ztq (l:List (DataW H × List MemPlace)) (h:∀y∈l,y.1=dOf (zdR y)):((l.map zdR).map λf=>f.tx.size).sum<=Rows.uptoBulkAll (l.map (·.1)):=by
 induction l with
 |nil=>simp[Rows.uptoBulkAll]
 |cons y l ih=>
  have h1:=ih (λz hz=>h z (List.mem_cons_of_mem _ hz));have h2:(zdR y).tx.size<=Rows.uptoBulk y.1:=by
   rw[h y (List.mem_cons_self ..)];simp only[dOf,Rows.uptoBulk,Rows.uptoBulkAll,Array.length_toList];show(zdR y).tx.data.size<=_;omega
  simp only[List.map_cons,List.sum_cons,Rows.uptoBulkAll];omega
theorem zvl {x:Addr} {fs:List FdS} (h:∀i,i<fs.length->∀j,j<6->W.cell? ((x.add (i*6)).add j)=[Value.int .i64 (fs.getD i zcl).on,.int .i64 (fs.getD i zcl).sz,.int .i64 (fs.getD i zcl).W,.int .i64 (fs.getD i zcl).H,.int .i64 (fs.getD i zcl).lk,.string (fs.getD i zcl).tx][j]?) (hp:0<fs.length):
 ∃b off,x=⟨b,off,none⟩/\∀i,i<fs.length->∀j,j<6->W.cell? ⟨b,off+i*6+j,none⟩=[Value.int .i64 (fs.getD i zcl).on,.int .i64 (fs.getD i zcl).sz,.int .i64 (fs.getD i zcl).W,.int .i64 (fs.getD i zcl).H,.int .i64 (fs.getD i zcl).lk,.string (fs.getD i zcl).tx][j]?:=by
 obtain⟨b,off,spot⟩:=x;have h00:W.cell? (((⟨b,off,spot⟩:Addr).add (0*6)).add 0)=some (Value.int .i64 (fs.getD 0 zcl).on):=h 0 hp 0 (by omega);have hspot:spot=none:=by simpa[Addr.add] using World.cell?_spot h00
 subst hspot;exact⟨b,off,rfl,λi hi j hj=>by have:=h i hi j hj;rw[Go.WideShapes.add_plain,Go.WideShapes.add_plain] at this;exact this⟩
theorem zvm (h:DataW.Trod enc Tryz.prog W base (λ_=>true) held 64 (.slice a n cap) d p):∃fs,zlL W a n fs/\n<=9223372036854775807/\zca fs n<=Rows.uptoBulk d:=by
 obtain⟨fuel,hf⟩:=h;rcases DataW.trod_slice Tryz.underlying64 hf with⟨hcs,_⟩|⟨x,l,c,elems,rest,m,_,hcs,hx,_,hl,hm,hlen,hel,_,_⟩
 ·simp[Value.cells] at hcs;obtain⟨rfl,rfl,rfl⟩:=hcs;exact⟨[],λk hk=>by omega,by omega,by simp[zca]⟩
 ·simp[Value.cells] at hcs;obtain⟨rfl,rfl,rfl⟩:=hcs;unfold maxLen at hm;rw[cFd] at hel;have each:∀i y,elems[i]?=some y->∃cs,W.cells? base (x.add (i*6)) 6=some cs/\DataW.trod enc Tryz.prog W base (λ_=>true) held m 99 cs=some y:=by
   intro i y hy;have hi:i<n:=by have:=(List.getElem?_eq_some_iff.1 hy).1;omega
   have:=hel i hi;rw[hy,Option.bind_eq_some_iff] at this;exact this
  have hfs:∀i (hi:i<elems.length),(elems.map zdR).getD i zcl=zdR elems[i]:=by
   intro i hi;simp[List.getD_eq_getElem?_getD,List.getElem?_eq_getElem hi]
  have hz:(elems.map zdR).length=n:=by simpa using hlen
  refine⟨elems.map zdR,λk hk=>?_,by omega,?_⟩
  ·obtain⟨b,off,rfl,hc⟩:=zvl (W:=W) (x:=x) (fs:=elems.map zdR) (λi hi j hj=>by
    have hi':i<elems.length:=by omega
    obtain⟨cs,h1,h2⟩:=each i elems[i] (List.getElem?_eq_getElem hi');obtain⟨_,rfl,_⟩:=zrL h2;rw[hfs i hi'];exact(World.cells?_some h1).2.2 j hj) (by omega)
   have hk':k<elems.length:=by omega
   obtain⟨cs,h1,h2⟩:=each k elems[k] (List.getElem?_eq_getElem hk');have hw:=bounds_i64 (zrL h2).2.2;refine⟨b,off,rfl,World.block_lt_of_cell? _ _ (hc k (by omega) 0 (by omega)),hc k (by omega) 0 (by omega),hc k (by omega) 1 (by omega),hc k (by omega) 2 (by omega),hc k (by omega) 3 (by omega),hc k (by omega) 4 (by omega),hc k (by omega) 5 (by omega),?_,?_⟩
   ·rw[hfs k hk'];exact hw.1
   ·rw[hfs k hk'];exact hw.2
  ·obtain⟨rfl,_⟩:=Prod.mk.inj hx;unfold zca;rw[List.take_of_length_le (by omega)];have:=ztq elems (λy hy=>by
    obtain⟨i,hi⟩:=List.getElem?_of_mem hy;obtain⟨cs,h1,h2⟩:=each i y hi;exact(zrL h2).1)
   simp only[Rows.uptoBulk];omega
end
theorem zps {w w':World} {a:Option Addr} {n:Nat} {fs:List FdS} (h:zlL w a n fs) (hb:Below w.heap.size w w'):zlL w' a n fs:=λk hk=>by
 obtain⟨b,off,e,l,c0,c1,c2,c3,c4,c5,o0,o1⟩:=h k hk;exact⟨b,off,e,Nat.lt_of_lt_of_le l hb.size,(hb.cells l _).trans c0,(hb.cells l _).trans c1,(hb.cells l _).trans c2,(hb.cells l _).trans c3,(hb.cells l _).trans c4,(hb.cells l _).trans c5,o0,o1⟩
theorem zxc (a0:Option Addr) (len0 cap0:Nat) (z0:List Int) (x y:Int) (fa:Option Addr) (fn fc:Nat) (fs:List FdS) (ca:Option Addr) (cn cc:Nat) (cs:List Ca) (w:World) (hw:2<=w.heap.size) (T:ZY w) (h0:zrK .i32 w a0 len0 cap0 z0) (hF:zlL w fa fn fs) (hn:fn<=9223372036854775807) (hs:zca fs fn<=10000000000) (hC:zgR w ca cn cs) (hm:cn<=9223372036854775807):
 Calls Tryz.prog 7 #[.slice a0 len0 cap0,.int .i64 x,.int .i64 y,.slice fa fn fc,.slice ca cn cc] w λe w'=>e=.returned (.bool true)/\Below w.heap.size w w':=by
 have Q:=zH (And.intro T (And.intro h0 (And.intro hF hC)));clear T h0 hF hC;go_in;go_wp2_with fail;go_at_call 24;refine(zxb a0 len0 cap0 z0 _ Q.out.2.1).mono ?_;rintro e w1 ⟨rfl,b1⟩;go_wp2_with fail;go_at_call 25;refine(zrJ x y 5 3 fa fn fc fs w1 (Q.out.1.below b1) (Nat.le_trans hw b1.size) (zps Q.out.2.2.1 b1) hn hs).mono ?_;rintro e w2 ⟨rfl,b2⟩;have b3:Below w.heap.size w w2:=b1.trans (b2.mono b1.size);clear b1 b2;go_wp2_with fail;go_at_call 4;refine(zrE x y 6 4 ca cn cc cs w2 (Nat.le_trans hw b3.size) (Q.out.2.2.2.below b3) (Q.out.1.below b3) hm).mono ?_;rintro e w4 ⟨rfl,b4⟩;have b5:Below w.heap.size w w4:=b3.trans (b4.mono b3.size);clear b3 b4;go_wp2_with fail;go_ret;exact⟨rfl,b5⟩
theorem zu7 {W:World} (h:laidMetH Tryz.prog Rows.allUptoRow.laid W):Lib.Utf8Tabs 0 1 W:=by
 have h':laidMet Tryz.prog Rows.allUptoRow.laid W:=h;refine utf8Tabs_of_readsT types extra ?_ ?_
 ·rw[←zfy];exact Lib.laidMet.reads h' (by simp[Rows.allUptoRow])
 ·rw[←zeQ];exact Lib.laidMet.reads h' (by simp[Rows.allUptoRow])
theorem zio (H:Type) (enc:TypeId × Value->H) (W:World) (base:Nat) (args:Array Value) (ds gs:List (DataW H)) (before:List MemPlace)
 (hval:∀(j:Nat) t v,Tryz.f7.params[j]?=some t->args[j]?=some v->Value.okWide Tryz.prog W .any base t v)
 (hW:DataW.Whole enc Tryz.prog Tryz.f7.params.toList Rows.allSpec.vars false W args.toList ds gs before) (hb:Rows.uptoSmall H (ds++gs)=true) (T:Lib.Utf8Tabs 0 1 W):
 Calls Tryz.prog 7 args W λe W'=>∃v,e=.returned v/\Rows.allSpec.post enc Tryz.prog Tryz.f7 false true false false W args v W':=by
 have hW':=hW;obtain⟨p,q,hA0,hV,rfl,hfz,hnd⟩:=hW;have hA:DataW.TrodAll enc Tryz.prog W 0 (λ_=>true) true Tryz.f7.params.toList args.toList ds p:=hA0;rw[Tryz.params7] at hA hval;obtain⟨v0,vs0,d0,ds0,p0,q0,hargs,rfl,rfl,h0,r0⟩:=trodAll_cons hA;obtain⟨v1,vs1,d1,ds1,p1,q1,hargs1,rfl,rfl,h1,r1⟩:=trodAll_cons r0;obtain⟨v2,vs2,d2,ds2,p2,q2,hargs2,rfl,rfl,h2,r2⟩:=trodAll_cons r1;obtain⟨v3,vs3,d3,ds3,p3,q3,hargs3,rfl,rfl,h3,r3⟩:=trodAll_cons r2;obtain⟨v4,vs4,d4,ds4,p4,q4,hargs4,rfl,rfl,h4,r4⟩:=trodAll_cons r3;obtain⟨rfl,rfl,rfl⟩:=trodAll_nil r4;subst hargs4 hargs3 hargs2 hargs1;obtain rfl:args=#[v0,v1,v2,v3,v4]:=by cases args;simp_all
 obtain⟨rfl,rfl⟩:=trodVars_none hV;have k0:=h0;have k1:=h1;have k2:=h2;have k3:=h3;have k4:=h4;have lt0:∀x∈p0,x.block<W.heap.size:=by obtain⟨m,hm⟩:=k0;exact DataW.trod_lt m _ _ _ hm
 have lt1:∀x∈p1,x.block<W.heap.size:=by obtain⟨m,hm⟩:=k1;exact DataW.trod_lt m _ _ _ hm
 have lt2:∀x∈p2,x.block<W.heap.size:=by obtain⟨m,hm⟩:=k2;exact DataW.trod_lt m _ _ _ hm
 have lt3:∀x∈p3,x.block<W.heap.size:=by obtain⟨m,hm⟩:=k3;exact DataW.trod_lt m _ _ _ hm
 have lt4:∀x∈p4,x.block<W.heap.size:=by obtain⟨m,hm⟩:=k4;exact DataW.trod_lt m _ _ _ hm
 have hbulk:Rows.uptoBulk d3<=1048576:=by
  have hb':=of_decide_eq_true hb;simp only[List.append_nil,Rows.uptoBulkAll] at hb';omega
 clear hb;obtain⟨a0,len0,cap0,rfl⟩:=okWide_slice Tryz.underlying63 (hval 0 63 v0 rfl rfl);obtain⟨x,rfl,_,_,hx⟩:=open_int Tryz.underlying3 (hval 1 3 v1 rfl rfl) h1;obtain⟨y,rfl,_,_,hy⟩:=open_int Tryz.underlying3 (hval 2 3 v2 rfl rfl) h2;obtain⟨fa,fn,fc,rfl⟩:=okWide_slice Tryz.underlying64 (hval 3 64 v3 rfl rfl);obtain⟨ca,cn,cc,rfl⟩:=okWide_slice Tryz.underlying22 (hval 4 22 v4 rfl rfl);obtain⟨z0,w0⟩:∃zs,zrK .i32 W a0 len0 cap0 zs:=by
  obtain⟨fuel,hf⟩:=h0;rcases open_ints Tryz.underlying63 Tryz.underlying21 (by kernel_rfl) hf with⟨hcs,_⟩|⟨x,l,c,zs,hcs,_,hl,hm,hz,_,hcell,hwz⟩
  ·simp[Value.cells] at hcs;obtain⟨rfl,rfl,rfl⟩:=hcs;exact⟨[],.inl ⟨rfl,rfl,rfl,rfl⟩⟩
  ·simp[Value.cells] at hcs;obtain⟨rfl,rfl,rfl⟩:=hcs;exact⟨zs,.inr ⟨_,rfl,hl,hm,by simpa using hz,hcell,hwz⟩⟩
 obtain⟨fs,hF,hn,hs⟩:=zvm h3;obtain⟨cs,hC,hm⟩:=zmX h4;refine(zxc a0 len0 cap0 z0 x y fa fn fc fs ca cn cc cs W (zgq T) T w0 hF hn (by omega) hC hm).mono λe W' ⟨he,bel⟩=>?_;subst he;exact⟨_,rfl,_,_,_,[],_,[],hW',trodAll_mk1 (shut_bool Tryz.underlying4 _),
  (trodAll_cons_mk (Below.trod zb6 (by kernel_rfl) (of_decide_eq_true (by kernel_rfl)) k0 bel lt0) (trodAll_cons_mk (Below.trod zb6 (by kernel_rfl) (of_decide_eq_true (by kernel_rfl)) k1 bel lt1) (trodAll_cons_mk (Below.trod zb6 (by kernel_rfl) (of_decide_eq_true (by kernel_rfl)) k2 bel lt2) (trodAll_cons_mk (Below.trod zb6 (by kernel_rfl) (of_decide_eq_true (by kernel_rfl)) k3 bel lt3) (trodAll_cons_mk (Below.trod zb6 (by kernel_rfl) (of_decide_eq_true (by kernel_rfl)) k4 bel lt4) trodAll_mk0))))),rfl,bel.frame _,λh=>by cases h⟩
theorem zip (os:Os):laidMet Tryz.prog Rows.allUptoRow.laid ((laidWorld os).forCall (λ_ _=>0) ⟨#[],#[.slice none 0 0,.int .i64 0,.int .i64 0,.slice none 0 0,.slice none 0 0],[]⟩).memory:=
 laidMet_of_run' 8 (by kernel_rfl) (by kernel_rfl)
theorem reads (os:Os) {H:Type} (enc:TypeId × Value->H):∃places,DataW.whole enc Tryz.prog ((laidWorld os).forCall (λ_ _=>0) ⟨#[],#[.slice none 0 0,.int .i64 0,.int .i64 0,.slice none 0 0,.slice none 0 0],[]⟩).memory Tryz.f7.params.toList Rows.allSpec.vars false #[Value.slice none 0 0,.int .i64 0,.int .i64 0,.slice none 0 0,.slice none 0 0].toList 8=some ([.nil,.lit (.int .i64 0),.lit (.int .i64 0),.nil,.nil],[],places):=
 ⟨[],by kernel_rfl⟩
theorem zmY (os:Os) (started:os.Started) (H:Type) (enc:TypeId × Value->H) (F:Stop.Interp):
 ReturnsInHanded {} Tryz.checked os 7 .any ((Rows.OpenSpec.upto Rows.allSpec).preRow enc Tryz.prog Tryz.f7 Rows.allUptoRow.domain false Rows.allUptoRow.laid) (((Rows.OpenSpec.upto Rows.allSpec).at F).post enc Tryz.prog Tryz.f7 false true false false):=by
 obtain⟨places,hx⟩:=reads os enc;refine returnsInHanded_of_row (C:=Tryz.checked) (s:=Rows.OpenSpec.upto Rows.allSpec) own started (by kernel_rfl) Tryz.func7
  (witness_row_at (enc:=enc) (C:=Tryz.checked) false (laidWorld os) #[.slice none 0 0,.int .i64 0,.int .i64 0,.slice none 0 0,.slice none 0 0] rfl (by kernel_rfl) (by kernel_rfl) (by kernel_rfl)
    (OpenSpec.preRow_of_cond 8 hx (by kernel_rfl) (λk hk=>by cases hk;kernel_rfl) (by kernel_rfl) (zip os))) ?_
 intro W base args ds gs before hval hW _ hcond _ hL _ _;exact zio H enc W base args ds gs before hval hW (hcond _ rfl) (zu7 hL)
theorem zva:Rows.AllUptoSaid:=
 OpenClaim.holds_of_cond 7 Tryz.f7 rfl rfl rfl rfl rfl rfl rfl ⟨rfl,rfl,rfl,rfl,rfl⟩ rfl rfl rfl rfl rfl (by kernel_rfl) Tryz.func7 (by kernel_rfl)
  (of_decide_eq_true (by kernel_rfl)) (by unfold Func.isWrapper;first|(rw[if_pos (by decide +kernel)];kernel_rfl)|(rw[if_neg (by decide +kernel)];exact⟨rfl,rfl⟩))
  (λos started H enc _ F=>by rw[OpenClaim.pre_eq_preRow];exact zmY os started H enc F)
theorem plain (f : FuncId) (fn : Func) (hf : Tryz.pinned.checked.prog.funcNamed "casement/casementlaw.All" = some f) (hfn : Tryz.pinned.checked.prog.funcs[f]? = some fn) :
 true=Tryz.pinned.checked.prog.looks []/\∀(j:Nat) t,fn.params[j]?=some t->Tryz.pinned.checked.prog.wantsStandIn t=false:=by
 obtain rfl : f = 7 := Option.some.inj ((show Tryz.prog.funcNamed "casement/casementlaw.All" = some 7 by kernel_rfl).symm.trans hf) |>.symm
 obtain rfl:fn=Tryz.f7:=(Option.some.inj (Tryz.func7.symm.trans hfn)).symm;refine⟨by kernel_rfl,λj t ht=>?_⟩;rw[Tryz.params7] at ht;have hm:t=63\/t=3\/t=64\/t=22:=by simpa using Array.mem_of_getElem? ht
 rcases hm with rfl|rfl|rfl|rfl
 ·exact(show Tryz.prog.wantsStandIn 63=false by kernel_rfl)
 ·exact(show Tryz.prog.wantsStandIn 3=false by kernel_rfl)
 ·exact(show Tryz.prog.wantsStandIn 64=false by kernel_rfl)
 ·exact(show Tryz.prog.wantsStandIn 22=false by kernel_rfl)
theorem card:Rows.AllUptoCardSaid:=
 Claim7.holds_tied_plain_at .later [] _ _ _ _ zva (λ_ h=>by cases h) (by kernel_rfl) (λ_ h=>by cases h) allUpto_row_tie rfl ⟨rfl,rfl⟩ (by kernel_rfl) rfl plain (by kernel_rfl)
end Go.Proofs.YtjlfibhbfdckpaaGreatDoor.all
namespace Go.Proofs.YtjlfibhbfdckpaaGreatDoor
set_option maxHeartbeats 64000000
set_option maxRecDepth 100000
theorem all_holds:Rows.AllUptoCardSaid:=all.card
#print axioms all_holds
end Go.Proofs.YtjlfibhbfdckpaaGreatDoor
namespace Go.Proofs.YtjlfibhbfdckpaaGreatDoor
set_option maxHeartbeats 64000000
set_option maxRecDepth 100000
end Go.Proofs.YtjlfibhbfdckpaaGreatDoor
