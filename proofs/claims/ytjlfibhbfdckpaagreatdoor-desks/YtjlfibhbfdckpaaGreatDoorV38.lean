import Derived.Test.YtjlfibhbfdckpaaGreatDoorV37
namespace Go.Proofs.YtjlfibhbfdckpaaGreatDoor
set_option maxHeartbeats 64000000
set_option maxRecDepth 100000
section
open Go.RowKit
attribute [local go_sem ↓] Go.wp_at_zero Go.wp_at_succ
structure zal (w:World) (bo base g cap:Nat) (L:List Wy):Prop where
 box:w.heap[bo]?=some (.cells #[.slice (some ⟨g,0,none⟩) L.length cap] 240)
 row:zcA w base g L.length cap L
 ne:g≠bo
 hb:base<=bo
section
variable {w w':World} {bo base g cap:Nat} {L:List Wy}
theorem zal.lt (h:zal w bo base g cap L):bo<w.heap.size:=(Array.getElem?_eq_some_iff.1 h.box).1
theorem zal.glt (h:zal w bo base g cap L):g<w.heap.size:=by
 obtain⟨cur,hg,_⟩:=zeK h.row;exact(Array.getElem?_eq_some_iff.1 hg).1
theorem zal.same (h:zal w bo base g cap L) (h1:w'.heap[bo]?=w.heap[bo]?) (h2:w'.heap[g]?=w.heap[g]?):zal w' bo base g cap L:=
 ⟨h1.trans h.box,ZH h.row (λi hi=>by
  obtain rfl:g=i:=by simpa[Value.ownBlock] using hi
  exact h2),h.ne,h.hb⟩
theorem zal.keep {F:Nat->Prop} (h:zal w bo base g cap L) (k:zd F w w') (h1:¬F bo) (h2:¬F g):zal w' bo base g cap L:=h.same (k.block _ h.lt h1) (k.block _ h.glt h2)
theorem zal.c0 (h:zal w bo base g cap L):w.cell? ⟨bo,0,none⟩=some (.slice (some ⟨g,0,none⟩) L.length cap):=za h.box 0
end
theorem zvR (a:Option Addr) (n c:Nat) (w:World):Calls Tryz.prog 281 #[.slice a n c] w λe w'=>e=.returned (.int .i64 n)/\w'=w:=by
 go_in;go_wp2;go_ret;exact⟨rfl,rfl⟩
theorem ztL (g cap base n:Nat) (L:List Wy) (i j:Nat) (w:World) (h:zcA w base g n cap L) (hi:i<n) (hj:j<n):
 Calls Tryz.prog 282 #[.slice (some ⟨g,0,none⟩) n cap,.int .i64 i,.int .i64 j] w λe w'=>e=.returned (.bool (decide ((gW L i).b.length<(gW L j).b.length)))/\∃q,w'=w.drewN q:=by
 have ci:w.cell? ⟨g,i*10,none⟩=some (zaD (gW L i).b):=zbt h hi 0 _ rfl;have cj:w.cell? ⟨g,j*10,none⟩=some (zaD (gW L j).b):=zbt h hj 0 _ rfl;have hi':(i:Int)<(n:Int):=by omega
 have hj':(j:Int)<(n:Int):=by omega
 clear h;go_in;go_wp2_with fail;go_quiet (fail);go_wp2_with fail;go_ret;exact⟨rfl,nq,rfl⟩
theorem zvS:(Tryz.prog.info? 237).map (·.size)=some 10:=by kernel_rfl
theorem zh2 {w:World} {g k:Nat} {v:Wy} (h:w.rangeAt g k v.vals):w.cell? ⟨g,k,none⟩=some (zaD v.b)/\w.cell? ⟨g,k+1,none⟩=some (.int .i64 v.k)/\w.cell? ⟨g,k+2,none⟩=some (.int .i64 v.e.x)/\w.cell? ⟨g,k+3,none⟩=some (.int .i64 v.e.y)/\w.cell? ⟨g,k+4,none⟩=some (.bool v.e.pend)/\w.cell? ⟨g,k+5,none⟩=some (.int .i64 v.e.pen.f)/\w.cell? ⟨g,k+6,none⟩=some (.int .i64 v.e.pen.b)/\w.cell? ⟨g,k+7,none⟩=some (.bool v.e.pen.bo)/\w.cell? ⟨g,k+8,none⟩=some (.bool v.e.pen.un)/\w.cell? ⟨g,k+9,none⟩=some (.bool v.e.pen.re):=
 ⟨h 0 _ rfl,h 1 _ rfl,h 2 _ rfl,h 3 _ rfl,h 4 _ rfl,h 5 _ rfl,h 6 _ rfl,h 7 _ rfl,h 8 _ rfl,h 9 _ rfl⟩
theorem ztM {w:World} {base g n cap:Nat} {L:List Wy} (h:zcA w base g n cap L):∀o,w.frozen? ⟨g,o,none⟩=false:=by
 obtain⟨cur,hg,_⟩:=zeK h;exact ze hg
abbrev zdO (w:World) (g o:Nat) (v:Wy):World:=((((((((((w.setCell ⟨g,o,none⟩ (.string ⟨v.b.toArray⟩)).setCell ⟨g,o+1,none⟩ (.int .i64 v.k)).setCell ⟨g,o+2,none⟩ (.int .i64 v.e.x)).setCell ⟨g,o+3,none⟩ (.int .i64 v.e.y)).setCell ⟨g,o+4,none⟩ (.bool v.e.pend)).setCell ⟨g,o+5,none⟩ (.int .i64 v.e.pen.f)).setCell ⟨g,o+6,none⟩ (.int .i64 v.e.pen.b)).setCell ⟨g,o+7,none⟩ (.bool v.e.pen.bo)).setCell ⟨g,o+8,none⟩ (.bool v.e.pen.un)).setCell ⟨g,o+9,none⟩ (.bool v.e.pen.re))
theorem zld (w:World) (g o:Nat) (v:Wy):zdO w g o v=w.setCells g o v.vals:=by
 simp only[World.setCells,Nat.add_assoc,Nat.reduceAdd]
theorem zi7 {w:World} {base g n cap:Nat} {L:List Wy} (h:zcA w base g n cap L) {k:Nat} (hk:k<n) (v:Wy):zcA (zdO w g (k*10) v) base g n cap (L.set k v):=by
 rw[zld];exact zqS h hk v
theorem zh3 {F:Nat->Prop} {a w:World} (h:zd F a w) (g o:Nat) (v:Wy) (hF:F g):zd F a (zdO w g o v):=by
 rw[zld];exact zd.setCells g (λ_=>hF) _ _ h
theorem zle {w:World} {base g n cap:Nat} {L:List Wy} (h:zcA w base g n cap L) {i j:Nat} (hi:i<n) (hj:j<n):zcA (zdO (zdO w g (i*10) (gW L j)) g (j*10) (gW L i)).drew base g n cap (swL L i j):=by
 have h2:=zi7 (zi7 h hi (gW L j)) hj (gW L i);have h3:((L.set i (gW L j)).set j (gW L i))=swL L i j:=rfl;rw[h3] at h2;revert h2;generalize zdO (zdO w g (i*10) (gW L j)) g (j*10) (gW L i)=W;intro h2;exact ZH h2 (λ_ _=>rfl)
theorem zi8 (w:World) (g i j:Nat) (u v:Wy):zd (λk=>k=g) w (zdO (zdO w g i u) g j v).drew:=
 (zh3 (zh3 (zd.refl (λk=>k=g) w) g i u rfl) g j v rfl).drew
theorem zqT (g cap base n:Nat) (L:List Wy) (i:Nat) (w:World) (h:zcA w base g n cap L) (hi:i<n):
 Calls Tryz.prog 285 #[.slice (some ⟨g,0,none⟩) n cap,.int .i64 i,.int .i64 i] w λe w'=>e=.returned (.tuple #[])/\zcA w' base g n cap (swL L i i)/\zd (λk=>k=g) w w':=by
 obtain⟨a0,a1,a2,a3,a4,a5,a6,a7,a8,a9⟩:=zh2 (zbt h hi);have fz:=ztM h;have hi':(i:Int)<(n:Int):=by omega
 have HW:=zH<|zle h hi hi
 have HK:Hid (zd (λk=>k=g) w (zdO (zdO w g (i*10) (gW L i)) g (i*10) (gW L i)).drew):=zi8 w g _ _ _ _;clear h;go_in;go_wp2_with fail;go_region;all_goals
  go_wp2_with fail;go_end0;exact⟨rfl,HW.out,HK.out⟩
theorem zoM (g cap base n:Nat) (L:List Wy) (i j:Nat) (w:World) (h:zcA w base g n cap L) (hi:i<n) (hj:j<n) (hne:i≠j):
 Calls Tryz.prog 285 #[.slice (some ⟨g,0,none⟩) n cap,.int .i64 i,.int .i64 j] w λe w'=>e=.returned (.tuple #[])/\zcA w' base g n cap (swL L i j)/\zd (λk=>k=g) w w':=by
 obtain⟨a0,a1,a2,a3,a4,a5,a6,a7,a8,a9⟩:=zh2 (zbt h hi);obtain⟨b0,b1,b2,b3,b4,b5,b6,b7,b8,b9⟩:=zh2 (zbt h hj);have fz:=ztM h;have hi':(i:Int)<(n:Int):=by omega
 have hj':(j:Int)<(n:Int):=by omega
 have n1:¬i*10=j*10:=by omega
 have n2:∀d,d<10->¬i*10=j*10+d:=by omega
 have n3:∀c,c<10->¬i*10+c=j*10:=by omega
 have n4:∀c d,c<10->d<10->¬i*10+c=j*10+d:=by omega
 have m1:¬j*10=i*10:=by omega
 have m2:∀d,d<10->¬j*10=i*10+d:=by omega
 have m3:∀c,c<10->¬j*10+c=i*10:=by omega
 have m4:∀c d,c<10->d<10->¬j*10+c=i*10+d:=by omega
 have HW:=zH<|zle h hi hj
 have HK:Hid (zd (λk=>k=g) w (zdO (zdO w g (i*10) (gW L j)) g (j*10) (gW L i)).drew):=zi8 w g _ _ _ _;clear h;go_in;go_wp2_with fail;go_region;all_goals
  go_wp2_with fail;go_end0;exact⟨rfl,HW.out,HK.out⟩
theorem zvT (g cap base n:Nat) (L:List Wy) (i j:Nat) (w:World) (h:zcA w base g n cap L) (hi:i<n) (hj:j<n):
 Calls Tryz.prog 285 #[.slice (some ⟨g,0,none⟩) n cap,.int .i64 i,.int .i64 j] w λe w'=>e=.returned (.tuple #[])/\zcA w' base g n cap (swL L i j)/\zd (λk=>k=g) w w':=by
 by_cases e:i=j
 ·subst e;exact zqT g cap base n L i w h hi
 ·exact zoM g cap base n L i j w h hi hj e
theorem zmC:(Tryz.prog.info? 237).bind (·.zero)=some (Wy.agg ⟨[],0,⟨0,0,false,⟨0,0,false,false,false⟩⟩⟩):=by kernel_rfl
theorem zlf:(Tryz.prog.info? 237).map (·.bytes)=some 72:=by kernel_rfl
theorem zlg:∃(i:TypeInfo),Tryz.prog.info? 237=some i/\i.zero=some (Wy.agg ⟨[],0,⟨0,0,false,⟨0,0,false,false,false⟩⟩⟩)/\i.size=10/\i.bytes=72:=by
 have h1:=zmC;have h2:=zvS;have h3:=zlf;cases h:Tryz.prog.info? 237 with
 |none=>rw[h] at h2;simp at h2
 |some i=>rw[h] at h1 h2 h3;exact⟨i,rfl,by simpa using h1,by simpa using h2,by simpa using h3⟩
theorem znz (v:Wy) (w:World):(Instr.typeAssert (.iface 237 v.agg) 20 237 false).run Tryz.prog w=.ok v.agg w:=by kernel_rfl
theorem zux {w:World} {bo base g cap n:Nat} {L:List Wy} (h:zal w bo base g cap L) (hn:L.length=n+1) (o:Obj):zal ((w.setCell ⟨bo,0,none⟩ (.slice (some ⟨g,0,none⟩) n cap)).alloc o) bo base g cap (L.take n):=by
 have hl:(L.take n).length=n:=by rw[List.length_take];omega
 have hs:(w.setCell ⟨bo,0,none⟩ (.slice (some ⟨g,0,none⟩) n cap)).heap.size=w.heap.size:=by simp[World.setCell]
 refine⟨?_,?_,h.ne,h.hb⟩
 ·rw[zN _ _ (by rw[hs];exact h.lt),hl];exact zg h.box 0 _
 ·have hr:=zoL h.row (m:=n) (by omega);rw[hl];refine ZH hr (λi hi=>?_);obtain rfl:g=i:=by simpa[Value.ownBlock] using hi
  rw[zN _ _ (by rw[hs];exact h.glt)];exact Below.heap_setCell _ _ _ _ h.ne
theorem zvU (bo base g cap:Nat) (L:List Wy) (w:World) (h:zal w bo base g cap L) (hn:1<=L.length) (hz:L.length<=100000):
 Calls Tryz.prog 283 #[.pointer (some ⟨bo,0,none⟩)] w λe w'=>e=.returned (.iface 237 (gW L (L.length-1)).agg)/\zal w' bo base g cap (L.take (L.length-1))/\zd (λi=>i=bo) w w':=by
 have hlt:=h.lt;have hglt:=h.glt;have c0:=h.c0;have fz:=ze h.box;have HH:=zH h;obtain⟨n,hn'⟩:∃n,L.length=n+1:=⟨L.length-1,by omega⟩;have e1:L.length-1=n:=by omega
 rw[e1];rw[hn'] at c0;have hr:=h.row;rw[hn'] at hr;obtain⟨a0,a1,a2,a3,a4,a5,a6,a7,a8,a9⟩:=zh2 (zbt hr (k:=n) (by omega));have hcap:n+1<=cap:=by obtain⟨_,_,_,q,_⟩:=zeK hr;exact q
 have hnz:n<=100000:=by omega
 have HL:=zH hn';clear h hr hn' e1 hn hz;go_in;go_wp2_with fail;go_ret;exact⟨rfl,zux HH.out HL.out _,((zd.refl (λi=>i=bo) w).setCell _ _ (λ_=>rfl)).alloc _⟩
theorem zsR {w W w7:World} {bo base g cap g7 cap7:Nat} {L:List Wy} {v:Wy} (h:zal w bo base g cap L) (hW:w.heap.size<=W.heap.size) (hb:w7.heap[bo]?=some (.cells #[.slice (some ⟨g,0,none⟩) L.length cap] 240)) (hK:zd (λi=>i=bo\/i=g) w W) (hg:W.grownBy w7 (some g)) (hr:w7.ownsRow base 237 10 (.slice (some ⟨g7,0,none⟩) (L.length+1) cap7) (L.length+1) (ZG L++v.vals)) (ho:some g=some g7\/g7=W.heap.size):
 zal (w7.setCell ⟨bo,0,none⟩ (.slice (some ⟨g7,0,none⟩) (L.length+1) cap7)) bo base g7 cap7 (L ++ [v])/\zd (λi=>i=bo\/i=g) w (w7.setCell ⟨bo,0,none⟩ (.slice (some ⟨g7,0,none⟩) (L.length+1) cap7))/\(g7=g\/w.heap.size<=g7):=by
 have hl:=h.lt;have hg7:g7≠bo:=by
  rcases ho with e|e
  ·cases e;exact h.ne
  ·omega
 refine⟨⟨?_,?_,hg7,h.hb⟩,(hK.grown hg (λk hk _=>by cases hk;exact .inr rfl)).setCell _ _ (λ_=>.inl rfl),?_⟩
 ·rw[List.length_append];exact zg hb 0 _
 ·have e:ZG L++v.vals=ZG (L ++ [v]):=by rw[zdM,zc9];simp[ZG]
  rw[e] at hr;rw[List.length_append];refine ZH hr (λi hi=>?_);obtain rfl:g7=i:=by simpa[Value.ownBlock] using hi
  exact Below.heap_setCell _ _ _ _ hg7
 ·rcases ho with e|e
  ·cases e;exact .inl rfl
  ·exact .inr (by omega)
theorem zuy (bo base g cap:Nat) (L:List Wy) (v:Wy) (w:World) (h:zal w bo base g cap L) (hz:L.length<=100000):
 Calls Tryz.prog 284 #[.pointer (some ⟨bo,0,none⟩),.iface 237 v.agg] w λe w'=>∃g' cap',e=.returned (.tuple #[])/\zal w' bo base g' cap' (L ++ [v])/\zd (λi=>i=bo\/i=g) w w'/\(g'=g\/w.heap.size<=g'):=by
 obtain⟨ti,i1,i2,i3,i4⟩:=zlg;have hta:=znz v;have hlt:=h.lt;have hbs:=h.hb;have c0:=h.c0;have fr:=ze h.box;have HH:=zH h;have Hrow:Hid (w.ownsRow base 237 10 (.slice (some ⟨g,0,none⟩) L.length cap) L.length (ZG L)):=h.row;clear h;go_in;go_wp2_with fail;go_region_law (refine step_append_lies _ (by rfl) (.tmp 7) (.tmp 10) 240 (by rfl) base 237 ti _ 10 72 Tryz.underlying240 i1 i2 i3 i4 rfl (by decide) (.slice (some ⟨g,0,none⟩) L.length cap) L.length (ZG L) (by simp[Act.eval]) (ZH Hrow.out (λi hi=>Below.heap_alloc w _ _ (Hrow.out.lt i hi).2)) ⟨w.heap.size,0,none⟩ 1 1 v.vals (by simp[Act.eval]) rfl (World.news_of_block (zf w _)) (zdN v) (by decide) (by unfold maxLen;omega) (by omega) (by simp;omega) _ rfl ?_;intro g7 cap7 w7 hr7 hg7 ho7 hl7;have hbk:=(hg7.block _ (by simp;omega) (λe=>HH.out.ne (by simpa[Value.ownBlock] using e.symm))).trans ((Below.heap_alloc w _ _ hlt).trans HH.out.box);have c7:w7.cell? ⟨bo,0,none⟩=some (.slice (some ⟨g,0,none⟩) L.length cap):=za hbk 0;have f7:=ze hbk 0);all_goals
  obtain⟨T8,K8,O8⟩:=zsR (W:=(w.alloc (.cells #[.string ⟨v.b.toArray⟩,.int .i64 v.k,.int .i64 v.e.x,.int .i64 v.e.y,.bool v.e.pend,.int .i64 v.e.pen.f,.int .i64 v.e.pen.b,.bool v.e.pen.bo,.bool v.e.pen.un,.bool v.e.pen.re] 237)).drew) HH.out (by simp) hbk ((zd.refl _ w).alloc _).drew hg7 hr7 ho7;have HT8:=zH T8;have HK8:=zH K8;have HO8:=zH O8;clear T8 K8 O8 hg7 hr7 ho7;go_wp2_with fail;go_end0;exact⟨g7,cap7,rfl,HT8.out,HK8.out,HO8.out⟩
abbrev hpV (bo:Nat):Value:=.iface 238 (.pointer (some ⟨bo,0,none⟩))
theorem zoN : ((Tryz.prog.info? 238).bind (fun i => i.methods.find? (·.name == "Len"))).map (fun m => (m.path.toList, m.func)) = some ([], some (281, false)) := by kernel_rfl
theorem zmD : ((Tryz.prog.info? 238).bind (fun i => i.methods.find? (·.name == "Less"))).map (fun m => (m.path.toList, m.func)) = some ([], some (282, false)) := by kernel_rfl
theorem zmE : ((Tryz.prog.info? 238).bind (fun i => i.methods.find? (·.name == "Swap"))).map (fun m => (m.path.toList, m.func)) = some ([], some (285, false)) := by kernel_rfl
theorem zfs {name:String} {f:Nat} (hm:((Tryz.prog.info? 238).bind (λi=>i.methods.find? (·.name==name))).map (λm=>(m.path.toList,m.func))=some ([],some (f,false))) {w:World} {bo:Nat} {a:Option Addr} {n c:Nat} (hc:w.cell? ⟨bo,0,none⟩=some (.slice a n c)) (fuel:Nat):
 (method (fuel+1) 238 (.pointer (some ⟨bo,0,none⟩)) name).run Tryz.prog w=.ok (f,.slice a n c) w:=by
 cases hi:Tryz.prog.info? 238 with
 |none=>rw[hi] at hm;simp at hm
 |some i=>
  rw[hi] at hm;simp only[Option.bind_some] at hm;cases hf:i.methods.find? (·.name==name) with
  |none=>rw[hf] at hm;simp at hm
  |some m=>
   rw[hf] at hm;simp at hm;obtain⟨h1,h2⟩:=hm;have hu:=Tryz.underlying238;unfold method;simp[Sem.run_bind,typeInfo,hi,hf,h1,h2,follow,receiverAt,run_underlying hu,Place.get,Sem.run_pure]
   have e : Sem.run Tryz.prog (Builtin.ssaWrapNilChk_ #[238] 238 #[Value.pointer (some { block := bo, off := 0 }), strVal "", strVal ((name.splitOn ".").getLast?.getD name)]) w = .ok (.pointer (some ⟨bo, 0, none⟩)) w := rfl
   rw[e];go_simp
theorem zal.mLen {w : World} {bo base g cap : Nat} {L : List Wy} (h : zal w bo base g cap L) : Sem.run Tryz.prog (method 404 238 (.pointer (some ⟨bo, 0, none⟩)) "Len") w = .ok (281, .slice (some ⟨g, 0, none⟩) L.length cap) w := zfs zoN h.c0 403
theorem zal.mLess {w : World} {bo base g cap : Nat} {L : List Wy} (h : zal w bo base g cap L) : Sem.run Tryz.prog (method 404 238 (.pointer (some ⟨bo, 0, none⟩)) "Less") w = .ok (282, .slice (some ⟨g, 0, none⟩) L.length cap) w := zfs zmD h.c0 403
theorem zal.mSwap {w : World} {bo base g cap : Nat} {L : List Wy} (h : zal w bo base g cap L) : Sem.run Tryz.prog (method 404 238 (.pointer (some ⟨bo, 0, none⟩)) "Swap") w = .ok (285, .slice (some ⟨g, 0, none⟩) L.length cap) w := zfs zmE h.c0 403
theorem zal.swap {w w':World} {bo base g cap i j:Nat} {L:List Wy} (h:zal w bo base g cap L) (hr:zcA w' base g L.length cap (swL L i j)) (k:zd (λx=>x=g) w w'):zal w' bo base g cap (swL L i j):=
 ⟨by rw[zc6];exact(k.block _ h.lt (λe=>h.ne e.symm)).trans h.box,by rw[zc6];exact hr,h.ne,h.hb⟩
theorem zal.drewN {w:World} {bo base g cap:Nat} {L:List Wy} (h:zal w bo base g cap L) (n:Nat):zal (w.drewN n) bo base g cap L:=h.same rfl rfl
section
variable {W:World} {bo base g cap:Nat} {K:List Wy} {A B:Int}
theorem zlh (h:zal W bo base g cap K) (a b:Nat) (hA:A=a) (hB:B=b) (ha:a<K.length) (hb:b<K.length) (hl:(gW K a).b.length<(gW K b).b.length):
 Calls Tryz.prog 282 #[.slice (some ⟨g,0,none⟩) K.length cap,.int .i64 A,.int .i64 B] W λe w'=>e=.returned (.bool true)/\∃q,w'=W.drewN q:=by
 subst hA hB;have:=ztL g cap base K.length K a b W h.row ha hb;rw[decide_eq_true hl] at this;exact this
theorem zli (h:zal W bo base g cap K) (a b:Nat) (hA:A=a) (hB:B=b) (ha:a<K.length) (hb:b<K.length) (hl:¬(gW K a).b.length<(gW K b).b.length):
 Calls Tryz.prog 282 #[.slice (some ⟨g,0,none⟩) K.length cap,.int .i64 A,.int .i64 B] W λe w'=>e=.returned (.bool false)/\∃q,w'=W.drewN q:=by
 subst hA hB;have:=ztL g cap base K.length K a b W h.row ha hb;rw[decide_eq_false hl] at this;exact this
theorem zh4 (h:zal W bo base g cap K) (a b:Nat) (hA:A=a) (hB:B=b) (ha:a<K.length) (hb:b<K.length):
 Calls Tryz.prog 285 #[.slice (some ⟨g,0,none⟩) K.length cap,.int .i64 A,.int .i64 B] W λe w'=>e=.returned (.tuple #[])/\zal w' bo base g cap (swL K a b)/\zd (λx=>x=g) W w':=by
 subst hA hB;refine(zvT g cap base K.length K a b W h.row ha hb).mono ?_;rintro e w' ⟨he,hr,hk⟩;exact⟨he,h.swap hr hk,hk⟩
end
theorem zeZ {K:List Wy} {i n:Nat} (h:¬(2*i+1<n/\(gW K (zb2 K i n)).b.length<(gW K i).b.length)):zeg K i n=K:=by rw[zeg,dif_neg h]
theorem zj0 {K:List Wy} {i n:Nat} (h:2*i+1<n/\(gW K (zb2 K i n)).b.length<(gW K i).b.length):zeg K i n=zeg (swL K i (zb2 K i n)) (zb2 K i n) n:=by rw[zeg,dif_pos h]
def zuz (bo base g cap:Nat) (L:List Wy) (w:World) (e:Ending) (w':World):Prop:=(∃b,e=.returned (.bool b))/\zal w' bo base g cap L/\zd (λx=>x=g) w w'
theorem zvV (bo base g cap n:Nat) (L:List Wy) (w:World) (h:zal w bo base g cap L) (hn:n<=L.length) (hz:L.length<=100000):
 Calls Tryz.prog 237 #[hpV bo,.int .i64 0,.int .i64 n] w (zuz bo base g cap (zeg L 0 n) w):=by
 have HH:=zH h;clear h;go_in;go_wp2_with fail;go_loopw[7] (λvi wr=>∃(i:Nat) (K:List Wy),vi=.int .i64 i/\i<=n/\zal wr bo base g cap K/\K.length=L.length/\zeg K i n=zeg L 0 n/\zd (λx=>x=g) w wr) (λvi _=>n-(intOf vi).toNat)
 case atStart=>exact⟨0,L,rfl,Nat.zero_le _,HH.out,rfl,rfl,zd.refl _ _⟩
 case round=>
  obtain⟨i,K,rfl,hin,hK,hlen,hdn,hkp⟩:=hrel;have HK:=zH hK;have Hdn:=zH hdn;have Hkp:=zH hkp;have Hlen:=zH hlen;have hl1:K.length<=100000:=by omega
  have hl2:n<=K.length:=by omega
  clear hK hdn hkp hlen HH;by_cases c1:2*i+1<n
  ·have ml:=HK.out.mLess;by_cases c2:2*i+2<n
   ·have c2':(2*(i:Int)+1+1<(n:Int)):=by omega
    by_cases l2:(gW K (2*i+2)).b.length<(gW K (2*i+1)).b.length
    ·have HJ:Hid (zb2 K i n=2*i+2):=by show zb2 K i n=_;unfold zb2;rw[if_pos ⟨c2,l2⟩]
     have Hl2:=zH l2;clear l2;go_wp2_with fail;go_at_call 282;refine(zlh HK.out (2*i+2) (2*i+1) (by omega) (by omega) (by omega) (by omega) Hl2.out).mono ?_;rintro e w1 ⟨rfl,q1,rfl⟩;have ml2:=(HK.out.drewN q1).mLess;by_cases l3:(gW K (2*i+2)).b.length<(gW K i).b.length
     ·have Hl3:=zH l3;clear l3;go_wp2_with fail;go_at_call 282;refine(zlh (HK.out.drewN q1) (2*i+2) i (by omega) rfl (by omega) (by omega) Hl3.out).mono ?_;rintro e w2 ⟨rfl,q2,rfl⟩;have ms:=(HK.out.drewN (q1+q2)).mSwap;go_wp2_with fail;go_at_call 285;refine(zh4 (HK.out.drewN (q1+q2)) i (2*i+2) rfl (by omega) (by omega) (by omega)).mono ?_;rintro e w3 ⟨rfl,h3,k3⟩;have H3:=zH h3;have K3:=zH<|(Hkp.out.drewN (q1+q2)).trans k3 (λ_ _ e=>e)
      clear h3 k3;go_wp2_with fail;go_roundw
      case rel=>exact⟨2*i+2,swL K i (2*i+2),by go_num,by omega,H3.out,by rw[zc6];exact Hlen.out,by rw[←Hdn.out,zj0 ⟨c1,by rw[HJ.out];exact Hl3.out⟩,HJ.out],K3.out⟩
      case measure=>simp[intOf];omega
     ·have Hl3:=zH l3;clear l3;go_wp2_with fail;go_at_call 282;refine(zli (HK.out.drewN q1) (2*i+2) i (by omega) rfl (by omega) (by omega) Hl3.out).mono ?_;rintro e w2 ⟨rfl,q2,rfl⟩;go_wp2_with fail;go_ret;refine⟨⟨_,rfl⟩,?_,Hkp.out.drewN (q1+q2)⟩;rw[←Hdn.out,zeZ (λq=>Hl3.out (by have:=q.2;rw[HJ.out] at this;exact this))];exact HK.out.drewN (q1+q2)
    ·have HJ:Hid (zb2 K i n=2*i+1):=by show zb2 K i n=_;unfold zb2;rw[if_neg (λq=>l2 q.2)]
     have Hl2:=zH l2;clear l2;go_wp2_with fail;go_at_call 282;refine(zli HK.out (2*i+2) (2*i+1) (by omega) (by omega) (by omega) (by omega) Hl2.out).mono ?_;rintro e w1 ⟨rfl,q1,rfl⟩;have ml2:=(HK.out.drewN q1).mLess;by_cases l3:(gW K (2*i+1)).b.length<(gW K i).b.length
     ·have Hl3:=zH l3;clear l3;go_wp2_with fail;go_at_call 282;refine(zlh (HK.out.drewN q1) (2*i+1) i (by omega) rfl (by omega) (by omega) Hl3.out).mono ?_;rintro e w2 ⟨rfl,q2,rfl⟩;have ms:=(HK.out.drewN (q1+q2)).mSwap;go_wp2_with fail;go_at_call 285;refine(zh4 (HK.out.drewN (q1+q2)) i (2*i+1) rfl (by omega) (by omega) (by omega)).mono ?_;rintro e w3 ⟨rfl,h3,k3⟩;have H3:=zH h3;have K3:=zH<|(Hkp.out.drewN (q1+q2)).trans k3 (λ_ _ e=>e)
      clear h3 k3;go_wp2_with fail;go_roundw
      case rel=>exact⟨2*i+1,swL K i (2*i+1),by go_num,by omega,H3.out,by rw[zc6];exact Hlen.out,by rw[←Hdn.out,zj0 ⟨c1,by rw[HJ.out];exact Hl3.out⟩,HJ.out],K3.out⟩
      case measure=>simp[intOf];omega
     ·have Hl3:=zH l3;clear l3;go_wp2_with fail;go_at_call 282;refine(zli (HK.out.drewN q1) (2*i+1) i (by omega) rfl (by omega) (by omega) Hl3.out).mono ?_;rintro e w2 ⟨rfl,q2,rfl⟩;go_wp2_with fail;go_ret;refine⟨⟨_,rfl⟩,?_,Hkp.out.drewN (q1+q2)⟩;rw[←Hdn.out,zeZ (λq=>Hl3.out (by have:=q.2;rw[HJ.out] at this;exact this))];exact HK.out.drewN (q1+q2)
   ·have c2':¬(2*(i:Int)+1+1<(n:Int)):=by omega
    have HJ:Hid (zb2 K i n=2*i+1):=by show zb2 K i n=_;unfold zb2;rw[if_neg (λq=>c2 q.1)]
    by_cases l3:(gW K (2*i+1)).b.length<(gW K i).b.length
    ·have Hl3:=zH l3;clear l3;go_wp2_with fail;go_at_call 282;refine(zlh HK.out (2*i+1) i (by omega) rfl (by omega) (by omega) Hl3.out).mono ?_;rintro e w2 ⟨rfl,q2,rfl⟩;have ms:=(HK.out.drewN q2).mSwap;go_wp2_with fail;go_at_call 285;refine(zh4 (HK.out.drewN q2) i (2*i+1) rfl (by omega) (by omega) (by omega)).mono ?_;rintro e w3 ⟨rfl,h3,k3⟩;have H3:=zH h3;have K3:=zH<|(Hkp.out.drewN q2).trans k3 (λ_ _ e=>e)
     clear h3 k3;go_wp2_with fail;go_roundw
     case rel=>exact⟨2*i+1,swL K i (2*i+1),by go_num,by omega,H3.out,by rw[zc6];exact Hlen.out,by rw[←Hdn.out,zj0 ⟨c1,by rw[HJ.out];exact Hl3.out⟩,HJ.out],K3.out⟩
     case measure=>simp[intOf];omega
    ·have Hl3:=zH l3;clear l3;go_wp2_with fail;go_at_call 282;refine(zli HK.out (2*i+1) i (by omega) rfl (by omega) (by omega) Hl3.out).mono ?_;rintro e w2 ⟨rfl,q2,rfl⟩;go_wp2_with fail;go_ret;refine⟨⟨_,rfl⟩,?_,Hkp.out.drewN q2⟩;rw[←Hdn.out,zeZ (λq=>Hl3.out (by have:=q.2;rw[HJ.out] at this;exact this))];exact HK.out.drewN q2
  ·go_wp2_with fail;go_ret;refine⟨⟨_,rfl⟩,?_,Hkp.out⟩;rw[←Hdn.out,zeZ (λq=>c1 q.1)];exact HK.out
theorem znA {K:List Wy} {j:Nat} (h:¬(j≠0/\(gW K j).b.length<(gW K ((j-1)/2)).b.length)):upL K j=K:=by rw[upL,dif_neg h]
theorem zvW {K:List Wy} {j:Nat} (h:j≠0/\(gW K j).b.length<(gW K ((j-1)/2)).b.length):upL K j=upL (swL K ((j-1)/2) j) ((j-1)/2):=by rw[upL,dif_pos h]
theorem zuA {K L:List Wy} {m j0:Nat} (hl:(gW K (m+1)).b.length<(gW K (m/2)).b.length) (h:upL K (m+1)=upL L j0):upL (swL K (m/2) (m+1)) (m/2)=upL L j0:=by
 have e:(m+1-1)/2=m/2:=by omega
 have:=zvW (K:=K) (j:=m+1) ⟨by omega,by rw[e];exact hl⟩;rw[e] at this;rw[←this,h]
theorem zwM (bo : Nat) (w : World) : Sem.run Tryz.prog (method 404 238 (.pointer (some ⟨bo, 0, none⟩)) "Pop") w = .ok (283, .pointer (some ⟨bo, 0, none⟩)) w := by kernel_rfl
theorem zvX (bo : Nat) (w : World) : Sem.run Tryz.prog (method 404 238 (.pointer (some ⟨bo, 0, none⟩)) "Push") w = .ok (284, .pointer (some ⟨bo, 0, none⟩)) w := by kernel_rfl
theorem qUp (bo base g cap j0:Nat) (L:List Wy) (w:World) (h:zal w bo base g cap L) (hj:j0<L.length) (hz:L.length<=100000):
 Calls Tryz.prog 242 #[hpV bo,.int .i64 j0] w λe w'=>e=.returned (.tuple #[])/\zal w' bo base g cap (upL L j0)/\zd (λx=>x=g) w w':=by
 have HH:=zH h;clear h;go_in;go_wp2_with fail;go_loopw[1] (λvj wr=>∃(j:Nat) (K:List Wy),vj=.int .i64 j/\j<L.length/\zal wr bo base g cap K/\K.length=L.length/\upL K j=upL L j0/\zd (λx=>x=g) w wr) (λvj _=>(intOf vj).toNat)
 case atStart=>exact⟨j0,L,rfl,hj,HH.out,rfl,rfl,zd.refl _ _⟩
 case round=>
  obtain⟨j,K,rfl,hjl,hK,hlen,hup,hkp⟩:=hrel;have HK:=zH hK;have Hup:=zH hup;have Hkp:=zH hkp;have Hlen:=zH hlen;have hl1:K.length<=100000:=by omega
  have hl2:j<K.length:=by omega
  clear hK hup hkp hlen HH;by_cases c1:j=0
  ·subst c1;go_wp2_with fail;go_end0;refine⟨rfl,?_,Hkp.out⟩;rw[←Hup.out,znA (λq=>q.1 rfl)];exact HK.out
  ·obtain⟨m,rfl⟩:∃m,j=m+1:=⟨j-1,by omega⟩;have e1:((m+1:Nat):Int)-1=(m:Int):=by omega
   have ml:=HK.out.mLess;have hne:¬((m:Int)/2=(m:Int)+1):=by omega
   have hbe:((m:Int)/2==(m:Int)+1)=false:=by simp;omega
   have e2:(m+1-1)/2=m/2:=by omega
   by_cases l2:(gW K (m+1)).b.length<(gW K (m/2)).b.length
   ·have Hl2:=zH l2;clear l2 e2;go_wp2_with fail;go_at_call 282;refine(zlh HK.out (m+1) (m/2) (by omega) (by omega) (by omega) (by omega) Hl2.out).mono ?_;rintro e w1 ⟨rfl,q1,rfl⟩;have ms:=(HK.out.drewN q1).mSwap;go_wp2_with fail;go_at_call 285;refine(zh4 (HK.out.drewN q1) (m/2) (m+1) (by omega) (by omega) (by omega) (by omega)).mono ?_;rintro e w3 ⟨rfl,h3,k3⟩;have H3:=zH h3;have K3:=zH<|(Hkp.out.drewN q1).trans k3 (λ_ _ e=>e)
    clear h3 k3;go_wp2_with fail;go_roundw
    case rel=>exact⟨m/2,swL K (m/2) (m+1),by go_num,by omega,H3.out,by rw[zc6];exact Hlen.out,zuA Hl2.out Hup.out,K3.out⟩
    case measure=>simp[intOf];omega
   ·have Hl2:=zH l2;have HE2:=zH e2;clear l2 e2;go_wp2_with fail;go_at_call 282;refine(zli HK.out (m+1) (m/2) (by omega) (by omega) (by omega) (by omega) Hl2.out).mono ?_;rintro e w1 ⟨rfl,q1,rfl⟩;go_wp2_with fail;go_end0;refine⟨rfl,?_,Hkp.out.drewN q1⟩;rw[←Hup.out,znA (λq=>Hl2.out (by have:=q.2;rw[HE2.out] at this;exact this))];exact HK.out.drewN q1
theorem zvY (bo base g cap:Nat) (L:List Wy) (w:World) (h:zal w bo base g cap L) (hne:L≠[]) (hz:L.length<=100000):
 Calls Tryz.prog 223 #[hpV bo] w λe w'=>e=.returned (.iface 237 (zbD L).agg)/\zal w' bo base g cap (zcL L)/\zd (λi=>i=bo\/i=g) w w':=by
 have HH:=zH h;have ml:=h.mLen;have ms:=h.mSwap;have hl:1<=L.length:=List.length_pos_iff.2 hne;have mp:=zwM bo;have e1:((L.length-1:Nat):Int)=(L.length:Int)-1:=by omega
 have HE:=zH e1;clear h hne e1;go_in;go_wp2_with (go_at_call 281;refine sM (zvR _ _ _ _) ?_);go_at_call 285;refine(zh4 HH.out 0 (L.length-1) (by omega) (by omega) (by omega) (by omega)).mono ?_;rintro e w1 ⟨rfl,h1,k1⟩;have H1:=zH h1;have K1:=zH k1;clear h1 k1 ml ms;go_wp2_with fail;go_at_call 237;have hd:=zvV bo base g cap (L.length-1) (swL L 0 (L.length-1)) w1 H1.out (by rw[zc6];omega) (by rw[zc6];omega);rw[HE.out] at hd;refine hd.mono ?_;rintro e w2 ⟨⟨b2,rfl⟩,h2,k2⟩;have H2:Hid (zal w2 bo base g cap (zix L)):=h2;have K2:=zH<|K1.out.trans k2 (λ_ _ e=>e)
 clear h2 k2 hd;go_wp2_with fail;go_at_call 283;have hpl:(zix L).length=L.length:=(zi1 (by intro e;rw[e] at hl;simp at hl)).length_eq;refine(zvU bo base g cap (zix L) w2 H2.out (by omega) (by omega)).mono ?_;rintro e w3 ⟨rfl,h3,k3⟩;rw[hpl] at h3 ⊢;have H3:Hid (zal w3 bo base g cap (zcL L)):=h3;have K3:Hid (zd (λi=>i=bo\/i=g) w w3):=(K2.out.mono (λi e=>.inr e)).trans k3 (λ_ _ e=>.inl e);clear h3 k3 hpl;go_wp2_with fail;go_ret;exact⟨rfl,H3.out,K3.out⟩
theorem zuB (bo base g cap:Nat) (L:List Wy) (v:Wy) (w:World) (h:zal w bo base g cap L) (hz:L.length<100000):
 Calls Tryz.prog 227 #[hpV bo,.iface 237 v.agg] w λe w'=>∃g' cap',e=.returned (.tuple #[])/\zal w' bo base g' cap' (zfc L v)/\zd (λi=>i=bo\/i=g) w w'/\(g'=g\/w.heap.size<=g'):=by
 have HH:=zH h;have mp:=zvX bo;clear h;go_in;go_wp2_with fail;go_at_call 284;refine(zuy bo base g cap L v w HH.out (by omega)).mono ?_;rintro e w1 ⟨g1,cap1,rfl,h1,k1,o1⟩;have H1:=zH h1;have K1:=zH k1;have O1:=zH o1;have ml:=h1.mLen;clear h1 k1 o1;have hl:(L ++ [v]).length=L.length+1:=by simp
 rw[hl] at ml;go_wp2_with (go_at_call 281;refine sM (zvR _ _ _ _) ?_);go_at_call 242;refine(qUp bo base g1 cap1 L.length (L ++ [v]) _ H1.out (by omega) (by omega)).mono ?_;rintro e w2 ⟨rfl,h2,k2⟩;have H2:Hid (zal w2 bo base g1 cap1 (zfc L v)):=h2;have K2:=zH<|K1.out.trans k2 (λi hi e=>by
  rcases O1.out with q|q
  ·exact .inr (e.trans q)
  ·omega)
 clear h2 k2;go_wp2_with fail;go_end0;exact⟨g1,cap1,rfl,H2.out,K2.out,O1.out⟩
end
section
open Go.RowKit
open Wd (wd)
attribute [local go_sem ↓] Go.wp_at_zero Go.wp_at_succ
def zj5 (w:World) (L:List Wy) (e:Ending) (w':World):Prop:=∃v,e=.returned v/\w'.ownsRow w.heap.size 237 10 v L.length (ZG L)/\Below w.heap.size w w'
theorem zq9 (r:Int):(⟨(zdd r).toArray⟩:ByteArray)=Utf8.encode r:=by unfold zdd;simp
abbrev zeO (p:Sp):Array Value:=#[.int .i64 p.x,.int .i64 p.y,.bool p.pend,.int .i64 p.pen.f,.int .i64 p.pen.b,.bool p.pen.bo,.bool p.pen.un,.bool p.pen.re]
abbrev zs1 (w:World) (D:Nat) (p:Sp):World:=((((((((w.setCell ⟨D,0,none⟩ (.int .i64 p.x)).setCell ⟨D,1,none⟩ (.int .i64 p.y)).setCell ⟨D,2,none⟩ (.bool p.pend)).setCell ⟨D,3,none⟩ (.int .i64 p.pen.f)).setCell ⟨D,4,none⟩ (.int .i64 p.pen.b)).setCell ⟨D,5,none⟩ (.bool p.pen.bo)).setCell ⟨D,6,none⟩ (.bool p.pen.un)).setCell ⟨D,7,none⟩ (.bool p.pen.re))
theorem zw1 (a0 a1 a2 a3 a4 a5 a6 a7 x0 x1 x2 x3 x4 x5 x6 x7:Value):((((((((#[a0,a1,a2,a3,a4,a5,a6,a7]:Array Value).setIfInBounds 0 x0).setIfInBounds 1 x1).setIfInBounds 2 x2).setIfInBounds 3 x3).setIfInBounds 4 x4).setIfInBounds 5 x5).setIfInBounds 6 x6).setIfInBounds 7 x7=#[x0,x1,x2,x3,x4,x5,x6,x7]:=by simp
theorem zo4 {w:World} {D:Nat} {a0 a1 a2 a3 a4 a5 a6 a7:Value} {T:TypeId} (p:Sp) (h:w.heap[D]?=some (.cells #[a0,a1,a2,a3,a4,a5,a6,a7] T)):(zs1 w D p).heap[D]?=some (.cells (zeO p) T):=by
 have h8:=zg (zg (zg (zg (zg (zg (zg (zg h 0 (.int .i64 p.x)) 1 (.int .i64 p.y)) 2 (.bool p.pend)) 3 (.int .i64 p.pen.f)) 4 (.int .i64 p.pen.b)) 5 (.bool p.pen.bo)) 6 (.bool p.pen.un)) 7 (.bool p.pen.re);rw[zw1] at h8;exact h8
theorem zgm {F:Nat->Prop} {a w:World} (h:zd F a w) (D:Nat) (p:Sp) (hF:D<a.heap.size->F D):zd F a (zs1 w D p):=
 (((((((h.setCell ⟨D,0,none⟩ _ hF).setCell ⟨D,1,none⟩ _ hF).setCell ⟨D,2,none⟩ _ hF).setCell ⟨D,3,none⟩ _ hF).setCell ⟨D,4,none⟩ _ hF).setCell ⟨D,5,none⟩ _ hF).setCell ⟨D,6,none⟩ _ hF).setCell ⟨D,7,none⟩ _ hF
theorem znD (w:World) (v:Wy) (B:Nat) (hB:B<=w.heap.size):(w.alloc (.cells #[.string ⟨v.b.toArray⟩,.int .i64 v.k,.int .i64 v.e.x,.int .i64 v.e.y,.bool v.e.pend,.int .i64 v.e.pen.f,.int .i64 v.e.pen.b,.bool v.e.pen.bo,.bool v.e.pen.un,.bool v.e.pen.re] 237)).ownsRow B 237 10 (.slice (some ⟨w.heap.size,0,none⟩) 1 1) [v].length (ZG [v]):=
 ⟨rfl,.inr ⟨w.heap.size,1,_,rfl,hB,zf _ _,Nat.le_refl _,by decide,rfl,rfl⟩⟩
theorem zlu {w wC w5 wE:World} (h:Below w.heap.size w5 wE) (h1:Below w.heap.size w wC) (h2:Below wC.heap.size wC w5):Below w.heap.size w wE:=
 (h1.trans (h2.mono h1.size)).trans h
theorem zh.keepC {wC w5 wE:World} {bs bg g N C:Nat} {s:Rs} {t:Pt} (h:zh w5 bs bg g N s t) (k:zd (λi=>i=C+1) w5 wE) (hC:zh wC bs bg g N s t) (zC:wC.heap.size=C+1):zh wE bs bg g N s t:=by
 have l1:=hC.lt;have l2:=hC.gr.lt;have l3:=hC.gr.glt;exact h.same (k.block _ h.lt (by omega)) (k.block _ h.gr.lt (by omega)) (k.block _ h.gr.glt (by omega))
theorem zuO (bs bg g N:Nat) (s:Rs) (t:Pt) (f:Sp) (w:World) (h:zh w bs bg g N s t) (ok:s.Ok) (hf:f.In s):
 Calls Tryz.prog 241 #[.pointer (some ⟨bs,0,none⟩),f.agg] w (zj5 w (zaZ s f)):=by
 have HP:=zH h;have y0:=hf.y0;have y1:f.y<=1000:=by have:=hf.y1;have:=ok.h2;omega
 obtain⟨M,hM⟩:∃M,w.heap.size=M:=⟨_,rfl⟩;have HM:=zH hM;clear h;go_in;go_wp2_with fail;have hA:∃wA,w.alloc (.cells (zeO f) 235)=wA/\wA.heap.size=M+1/\wA.heap[M]?=some (.cells (zeO f) 235)/\Below w.heap.size w wA:=by
  subst hM;exact⟨_,rfl,by simp,zf _ _,(Below.refl _ _).alloc (Nat.le_refl _) _⟩
 obtain⟨wA,hwA,zA,bA,belA⟩:=hA;rw[hwA];have HbA:=zH bA;have HbelA:=zH belA;clear hwA bA belA;go_at_call 238;refine(zhY f wA y0 y1).mono ?_;rintro e w1 ⟨rfl,hb1⟩;have HB1:=zH<|HbelA.out.trans (hb1.mono (by have:=HM.out;omega))
 have Hb1:=zH<|(hb1.block M (by omega)).trans HbA.out
 have z1:M<w1.heap.size:=by have:=hb1.size;omega
 have HP1:=zH<|HP.out.below HB1.out
 clear hb1 HbA HbelA;cases hin:inG s.W s.H f.lx f.ly with
 |false=>
  have e:zaZ s f=[]:=by unfold zaZ;rw[if_neg (by rw[hin];decide)]
  go_wp2_with (go_at_call 121;refine sM (zlt bs bg g N s t _ _ _ HP1.out) ?_);go_ret;refine⟨.slice none 0 0,rfl,?_,HB1.out⟩;rw[e];exact World.ownsRow_nil _ _ _ _
 |true=>
  obtain⟨a0,a1,b0,b1⟩:=zu.1 hin;have HCell:Hid (Calls Tryz.prog 122 #[.pointer (some ⟨bs,0,none⟩),.int .i64 f.lx,.int .i64 f.ly] w1 λe w'=>e=.returned (s.G f.lx.toNat f.ly.toNat).agg/\Below w1.heap.size w1 w'):=by
   have:=znC bs bg g N s t f.lx.toNat f.ly.toNat w1 HP1.out (by omega) (by omega);rw[Int.toNat_of_nonneg a0,Int.toNat_of_nonneg b0] at this;exact this
  have hag:zaZ s f=if (s.G f.lx.toNat f.ly.toNat).p=2\/(s.G f.lx.toNat f.ly.toNat).n.eqB f.pen=false then[] else[⟨zdd (s.G f.lx.toNat f.ly.toNat).r,0,zcH s f f.lx f.ly (wd (s.G f.lx.toNat f.ly.toNat).r)⟩]:=by unfold zaZ;rw[if_pos hin]
  have HAG:Hid _:=hag;clear hag;go_wp2_with (go_at_call 121;refine sM (zlt bs bg g N s t _ _ _ HP1.out) ?_);go_at_call 122;refine HCell.out.mono ?_;rintro e w2 ⟨rfl,hb2⟩;have HB2:=zH<|HB1.out.trans (hb2.mono (HB1.out.size))
  have Hb2:=zH<|(hb2.block M z1).trans Hb1.out
  have z2:=Nat.lt_of_lt_of_le z1 hb2.size;have HP2:=zH<|HP1.out.below hb2
  clear hb2 HCell HB1 Hb1 HP1;generalize s.G f.lx.toNat f.ly.toNat=c at *;obtain⟨C,hC⟩:∃C,w2.heap.size=C:=⟨_,rfl⟩;have hA2:∃wC,w2.alloc (.cells #[.int .i32 c.r,.int .i64 c.p,.int .i64 c.n.f,.int .i64 c.n.b,.bool c.n.bo,.bool c.n.un,.bool c.n.re] 38)=wC/\wC.heap.size=C+1/\wC.heap[M]?=some (.cells (zeO f) 235)/\wC.heap[C]?=some (.cells #[.int .i32 c.r,.int .i64 c.p,.int .i64 c.n.f,.int .i64 c.n.b,.bool c.n.bo,.bool c.n.un,.bool c.n.re] 38)/\Below w.heap.size w wC/\zh wC bs bg g N s t:=by
   refine⟨_,rfl,by simp[hC],?_,?_,HB2.out.alloc HB2.out.size _,HP2.out.below ((Below.refl _ _).alloc (Nat.le_refl _) _)⟩
   ·rw[zN _ _ z2];exact Hb2.out
   ·rw[←hC];exact zf _ _
  obtain⟨wC,hwC,zC,bM,bC,belC,PC⟩:=hA2;have HBC:=zH belC;have HPC:=zH PC;have HbM:=zH bM;have HbC:=zH bC;have m0:=za bM 0;have m1:=za bM 1;have m2:=za bM 2;have m3:=za bM 3;have m4:=za bM 4;have m5:=za bM 5;have m6:=za bM 6;have m7:=za bM 7;have k0:=za bC 0;have k1:=za bC 1;have k2:=za bC 2;have k3:=za bC 3;have k4:=za bC 4;have k5:=za bC 5;have k6:=za bC 6;simp only[List.getElem?_toArray,List.getElem?_cons_zero,List.getElem?_cons_succ] at m0 m1 m2 m3 m4 m5 m6 m7 k0 k1 k2 k3 k4 k5 k6;have hpe:=λw=>zny c.n f.pen w;clear belC PC bM bC Hb2 HP2;have HwC:=zH hwC;by_cases hp2:c.p=2
  ·have HE:Hid (zaZ s f=[]):=by show zaZ s f=[];rw[HAG.out,if_pos (.inl hp2)]
   go_wp2_with fail;go_ret;refine⟨.slice none 0 0,rfl,?_,HB2.out.alloc HB2.out.size _⟩;rw[HE.out];exact World.ownsRow_nil _ _ _ _
  ·cases hq:c.n.eqB f.pen with
   |false=>
    have HE:Hid (zaZ s f=[]):=by show zaZ s f=[];rw[HAG.out,if_pos (.inr hq)]
    simp only[hq,Bool.not_false] at hpe;go_wp2_with fail;go_ret;refine⟨.slice none 0 0,rfl,?_,HBC.out⟩;rw[HE.out];exact World.ownsRow_nil _ _ _ _
   |true=>
    have HE:Hid (zaZ s f=[⟨zdd c.r,0,zcH s f f.lx f.ly (wd c.r)⟩]):=by show zaZ s f=_;rw[HAG.out,if_neg (by rintro(q|q);exact hp2 q;rw[hq] at q;cases q)]
    simp only[hq,Bool.not_true] at hpe;have w01:0<=wd c.r/\wd c.r<=2:=by rcases Wd.wd_cases c.r with q|q|q<;>omega
    have w2':=ok.w2;go_wp2_with fail;have HPD:=zH HPC.out.drew;have zM:M<C+1:=by omega
    have zM1:M<C:=by omega
    have nM1:¬M=C+1:=by omega
    have nM2:¬C+1=M:=by omega
    have hw1:IntKind.i64.wrap (f.lx+wd c.r)=f.lx+wd c.r:=zm _ (by omega) (by omega);go_region_held3 (λw'=>w'.cell? ⟨M,0,none⟩=some (.int .i64 f.x)/\w'.cell? ⟨M,1,none⟩=some (.int .i64 f.y)/\w'.cell? ⟨M,2,none⟩=some (.bool f.pend)/\w'.cell? ⟨M,3,none⟩=some (.int .i64 f.pen.f)/\w'.cell? ⟨M,4,none⟩=some (.int .i64 f.pen.b)/\w'.cell? ⟨M,5,none⟩=some (.bool f.pen.bo)/\w'.cell? ⟨M,6,none⟩=some (.bool f.pen.un)/\w'.cell? ⟨M,7,none⟩=some (.bool f.pen.re)/\w'.cell? ⟨C,0,none⟩=some (.int .i32 c.r)) (simp[*,zdL,World.cell?_setCell_far]) (first|(go_at_call 129;refine sM (Wd.lettersWidth _ _) ?_)|(go_at_call 239;refine(zhX f _ _ _).mono ?_;rintro e w5 ⟨rfl,hb5⟩;have hb6:=zL hb5;have e1:=hb6.cells (b:=M) (by first|omega|(simp;omega));have e2:=hb6.cells (b:=C) (by first|omega|(simp;omega));have HB6:Hid (Below wC.heap.size wC w5):=(by first|exact hb6|exact((Below.refl _ _).alloc (Nat.le_refl _) _).trans (hb6.mono (by simp)));have z6:C<w5.heap.size:=(by have:=HB6.out.size;omega);have z7:M<w5.heap.size:=(by omega);(first|(have e3:=hb6.cells (b:=C+1) (by simp;omega);have e4:=hb6.marks (b:=C+1) (by simp;omega);have HD:Hid (w5.heap[C+1]?=some (.cells #[.int .i64 0,.int .i64 0,.bool false,.int .i64 0,.int .i64 0,.bool false,.bool false,.bool false] 235)):=(hb6.block (C+1) (by simp;omega)).trans (ZM _ _ (by omega)))|skip);clear hb5));all_goals
     first
      |(have hd:=HD.out
        obtain⟨wE,hwE⟩:∃wE,zs1 w5 (C+1) (f.move (f.lx+wd c.r) f.ly)=wE:=⟨_,rfl⟩;have E1:=hwE ▸ zo4 _ hd;have E2:=hwE ▸ ((zgm (zd.refl (λi=>i=C+1) w5) (C+1) (f.move (f.lx+wd c.r) f.ly) (λ_=>rfl)).block C z6 (by omega)).trans ((HB6.out.block C (by omega)).trans HbC.out);have E3:=hwE ▸ zlu ((zgm (zd.refl (λi=>i=C+1) w5) (C+1) (f.move (f.lx+wd c.r) f.ly) (λ_=>rfl)).toBelow (B:=w.heap.size) (by omega) (λi hi e=>by have:=HM.out;omega)) HBC.out HB6.out;have E4:=hwE ▸ (HPC.out.below HB6.out).keepC (zgm (zd.refl (λi=>i=C+1) w5) (C+1) (f.move (f.lx+wd c.r) f.ly) (λ_=>rfl)) HPC.out zC;unfold zs1 at hwE;rw[hwE];obtain⟨D,hD⟩:∃D,C+1=D:=⟨_,rfl⟩;have hCD:C<D:=by omega
        rw[hD] at E1 ⊢;clear hwE hD hd HD e3 e4)
      |(obtain⟨wE,hwE⟩:∃wE,w5.alloc (.cells (zeO (f.move (f.lx+wd c.r) f.ly)) 235)=wE:=⟨_,rfl⟩
        have E1:=hwE ▸ zf _ _;have E2:=hwE ▸ (zN _ _ z6).trans ((HB6.out.block C (by omega)).trans HbC.out);have E3:=hwE ▸ (HBC.out.trans (HB6.out.mono HBC.out.size)).alloc (Nat.le_trans HBC.out.size HB6.out.size) _;have E4:=hwE ▸ (HPC.out.below HB6.out).below ((Below.refl _ _).alloc (Nat.le_refl _) _);rw[hwE];obtain⟨D,hD⟩:∃D,w5.heap.size=D:=⟨_,rfl⟩;have hCD:C<D:=by omega
        rw[hD] at E1 ⊢;clear hwE hD)
     clear m0 m1 m2 m3 m4 m5 m6 m7 k0 k1 k2 k3 k4 k5 k6 hpe hw1 e1 e2 hwC;have d0:wE.cell? ⟨D,0,none⟩=some (.int .i64 (f.lx+wd c.r)):=za E1 0;have d1:wE.cell? ⟨D,1,none⟩=some (.int .i64 f.ly):=za E1 1;have d2:wE.cell? ⟨D,2,none⟩=some (.bool false):=za E1 2;have d3:wE.cell? ⟨D,3,none⟩=some (.int .i64 f.pen.f):=za E1 3;have d4:wE.cell? ⟨D,4,none⟩=some (.int .i64 f.pen.b):=za E1 4;have d5:wE.cell? ⟨D,5,none⟩=some (.bool f.pen.bo):=za E1 5;have d6:wE.cell? ⟨D,6,none⟩=some (.bool f.pen.un):=za E1 6;have d7:wE.cell? ⟨D,7,none⟩=some (.bool f.pen.re):=za E1 7;have fD:=ze E1;have kc:wE.cell? ⟨C,0,none⟩=some (.int .i32 c.r):=za E2 0;have nCD:¬C=D:=by omega
     have nDC:¬D=C:=by omega
     have HE3:=zH E3;have HE4:=zH E4;clear E1 E2 E3 E4;cases hin2:inG s.W s.H (f.lx+wd c.r) f.ly with
     |true=>
      have HN:Hid (zcH s f f.lx f.ly (wd c.r)=⟨f.lx+wd c.r,f.ly,false,f.pen⟩):=by show zcH s f f.lx f.ly (wd c.r)=_;unfold zcH;rw[if_pos hin2]
      go_wp2_with (go_at_call 121;refine sM (zlt bs bg g N s t _ _ _ HE4.out) ?_);go_ret;refine⟨.slice (some ⟨wE.heap.size,0,none⟩) 1 1,rfl,?_,HE3.out.alloc HE3.out.size _⟩;rw[HE.out,HN.out];have ho:=znD wE ⟨zdd c.r,0,⟨f.lx+wd c.r,f.ly,false,f.pen⟩⟩ w.heap.size HE3.out.size;rw[zq9] at ho;exact ho
     |false=>
      have HN:Hid (zcH s f f.lx f.ly (wd c.r)=⟨f.lx+wd c.r-1,f.ly,true,f.pen⟩):=by show zcH s f f.lx f.ly (wd c.r)=_;unfold zcH;rw[if_neg (by rw[hin2];decide)]
      go_wp2_with (go_at_call 121;refine sM (zlt bs bg g N s t _ _ _ HE4.out) ?_);go_ret;have hbl:Below w.heap.size w ((wE.setCell ⟨D,0,none⟩ (.int .i64 (f.lx+wd c.r-1))).setCell ⟨D,2,none⟩ (.bool true)):=(HE3.out.setCell (by show w.heap.size<=D;have:=HM.out;omega) _).setCell (by show w.heap.size<=D;have:=HM.out;omega) _;have ho:=znD ((wE.setCell ⟨D,0,none⟩ (.int .i64 (f.lx+wd c.r-1))).setCell ⟨D,2,none⟩ (.bool true)) ⟨zdd c.r,0,⟨f.lx+wd c.r-1,f.ly,true,f.pen⟩⟩ w.heap.size hbl.size;have hsz:((wE.setCell ⟨D,0,none⟩ (.int .i64 (f.lx+wd c.r-1))).setCell ⟨D,2,none⟩ (.bool true)).heap.size=wE.heap.size:=by simp[World.setCell]
      refine⟨.slice (some ⟨wE.heap.size,0,none⟩) 1 1,rfl,?_,hbl.alloc hbl.size _⟩;rw[HE.out,HN.out];rw[zq9,hsz] at ho;exact ho
end
end Go.Proofs.YtjlfibhbfdckpaaGreatDoor
