import Derived.Test.YtjlfibhbfdckpaaGreatDoorV09
import Derived.Test.YtjlfibhbfdckpaaGreatDoorV30
namespace Go.Proofs.YtjlfibhbfdckpaaGreatDoor
set_option maxHeartbeats 64000000
set_option maxRecDepth 100000
section
open Go.RowKit
structure Dv where
 M:Mm
 N:Nat
 s:Rs
 t:Pt
 R:Rm
 L:List Wn
 last:Int
 bs:Nat
 bc:Nat
 g:Nat
 cap:Nat
 n:Nat
 q:Rs
def Dv.own (D:Dv) (i:Nat):Prop:=D.M.own D.L i\/D.R.own D.L i\/i=D.bs\/i=D.bc\/i=D.g
structure zc2 (w:World) (D:Dv):Prop where
 x:zI w D.M D.L D.last D.N D.s D.t
 y:Zq w D.R D.L D.last
 z:zi w D.bs D.bc D.g D.cap D.n D.q
 ok:ZK D.L D.last
 so:D.s.Ok
 qo:D.q.Ok
 l0:0<=D.last
 xy:∀i,D.M.own D.L i->¬D.R.own D.L i
 xz:∀i,D.M.own D.L i->¬(i=D.bs\/i=D.bc\/i=D.g)
 yz:∀i,D.R.own D.L i->¬(i=D.bs\/i=D.bc\/i=D.g)
theorem zI.keep' {F:Nat->Prop} {w w':World} {M:Mm} {L:List Wn} {last:Int} {N:Nat} {s:Rs} {t:Pt} (h:zI w M L last N s t) (k:zd F w w') (hF:∀i,M.own L i->¬F i):zI w' M L last N s t:=h.same (λi hi=>k.block i (h.lt hi) (hF i hi))
section
variable {w w':World} {D:Dv}
theorem zc2.lt (h:zc2 w D) {i:Nat} (hi:D.own i):i<w.heap.size:=by
 rcases hi with hi|hi|rfl|rfl|rfl
 ·exact h.x.lt hi
 ·exact h.y.lt hi
 ·exact h.z.lt
 ·exact h.z.cels.lt
 ·exact h.z.cels.glt
theorem zc2.keep {F:Nat->Prop} (h:zc2 w D) (k:zd F w w') (hF:∀i,D.own i->¬F i):zc2 w' D:=
 ⟨h.x.keep' k (λi hi=>hF i (.inl hi)),h.y.keep k (λi hi=>hF i (.inr (.inl hi))),h.z.same (k.block _ h.z.lt (hF _ (.inr (.inr (.inl rfl))))) (k.block _ h.z.cels.lt (hF _ (.inr (.inr (.inr (.inl rfl)))))) (k.block _ h.z.cels.glt (hF _ (.inr (.inr (.inr (.inr rfl)))))),h.ok,h.so,h.qo,h.l0,h.xy,h.xz,h.yz⟩
theorem zc2.below (h:zc2 w D) (b:Below w.heap.size w w'):zc2 w' D:=h.keep (zd.below (λ_=>False) b) (λ_ _ f=>f)
abbrev Dv.xp (D:Dv):Option Addr:=some ⟨D.M.t 0,0,none⟩
abbrev Dv.yp (D:Dv):Option Addr:=some ⟨D.R.d,0,none⟩
abbrev Dv.sp (D:Dv):Option Addr:=some ⟨D.bs,0,none⟩
structure ZP (w:World) (D D':Dv) (w':World):Prop where
 dv:zc2 w' D'
 xp:D'.xp=D.xp
 yp:D'.yp=D.yp
 sp:D'.sp=D.sp
 keep:zd D.own w w'
 own:∀i,D'.own i->D.own i\/w.heap.size<=i
end
structure Tot (fx fy:Nat) (a:Option Addr->Array Value) (L:List Wn) (last:Int) (L':List Wn) (last':Int) (r:Value):Prop where
 ok:ZK L' last'
 le:last<=last'/\last'<=last+1
 x:∀(w:World) (M:Mm) (N:Nat) (s:Rs) (t:Pt),s.Ok->zI w M L last N s t->Calls Tryz.prog fx (a (some ⟨M.t 0,0,none⟩)) w λe w'=>∃s' t',s'.Ok/\zbZ M L L' last' s' t' w r e w'
 y:∀(w:World) (R:Rm),Zq w R L last->Calls Tryz.prog fy (a (some ⟨R.d,0,none⟩)) w (Zr R L L' last' w r)
def zb0 (fx fy:Nat) (a:Option Addr->Array Value) (x y:Option Addr) (w:World) (r:Value) (F:Nat->Prop) (Q:World->Prop):Prop:=
 Calls Tryz.prog fx (a x) w λe w1=>e=.returned r/\zd F w w1/\Calls Tryz.prog fy (a y) w1 λe w2=>e=.returned r/\zd F w w2/\Q w2
end
section
theorem zkQ (a:UInt8) (h:128<=a.toNat):(zQ a.toNat=0/\(a.toNat<194\/244<a.toNat))\/(zQ a.toNat=2/\194<=a.toNat/\a.toNat<=223)\/(zQ a.toNat=3/\224<=a.toNat/\a.toNat<=239)\/(zQ a.toNat=4/\240<=a.toNat/\a.toNat<=244):=by
 unfold zQ;have:=a.toNat_lt
 repeat' split
 all_goals omega
def zdq (n:Nat) (b0 b1 b2 b3:Nat):Nat × Nat:=
 if b0<128 then(b0,1)
 else if 1<n/\b0/32=6/\b1/64=2 then(if 128<=(b0%32)*64+b1%64 then((b0%32)*64+b1%64,2) else(65533,1))
 else if 2<n/\b0/16=14/\b1/64=2/\b2/64=2 then(if 2048<=(b0%16)*4096+(b1%64)*64+b2%64/\¬(55296<=(b0%16)*4096+(b1%64)*64+b2%64/\(b0%16)*4096+(b1%64)*64+b2%64<57344) then((b0%16)*4096+(b1%64)*64+b2%64,3) else(65533,1))
 else if 3<n/\b0/8=30/\b1/64=2/\b2/64=2/\b3/64=2 then(if 65536<=(b0%8)*262144+(b1%64)*4096+(b2%64)*64+b3%64/\(b0%8)*262144+(b1%64)*4096+(b2%64)*64+b3%64<1114112 then((b0%8)*262144+(b1%64)*4096+(b2%64)*64+b3%64,4) else(65533,1))
 else(65533,1)
theorem zgH (s:ByteArray) (i:Nat):Utf8.decode s i=zdq (s.size-i) (s.get! i).toNat (s.get! (i+1)).toNat (s.get! (i+2)).toNat (s.get! (i+3)).toNat:=by
 have e1:(i+1<s.size)↔1<s.size-i:=by omega
 have e2:(i+2<s.size)↔2<s.size-i:=by omega
 have e3:(i+3<s.size)↔3<s.size-i:=by omega
 obtain⟨b0,hb0⟩:∃b,(s.get! i).toNat=b:=⟨_,rfl⟩;obtain⟨b1,hb1⟩:∃b,(s.get! (i+1)).toNat=b:=⟨_,rfl⟩;obtain⟨b2,hb2⟩:∃b,(s.get! (i+2)).toNat=b:=⟨_,rfl⟩;obtain⟨b3,hb3⟩:∃b,(s.get! (i+3)).toNat=b:=⟨_,rfl⟩;obtain⟨n,hn⟩:∃n,s.size-i=n:=⟨_,rfl⟩;simp only[Utf8.decode,Nat.add_zero,e1,e2,e3,hb0,hb1,hb2,hb3,hn];clear e1 e2 e3 hb0 hb1 hb2 hb3 hn;unfold zdq;by_cases h0:b0<128
 ·rw[if_pos h0,if_pos h0]
 rw[if_neg h0,if_neg h0];have c1:((b0/32==6&&(decide (1<n)&&b1/64==2))=true)↔(1<n/\b0/32=6/\b1/64=2):=by simp;omega
 have c2:((b0/16==14&&(decide (1<n)&&b1/64==2)&&(decide (2<n)&&b2/64==2))=true)↔(2<n/\b0/16=14/\b1/64=2/\b2/64=2):=by simp;omega
 have c3:((b0/8==30&&(decide (1<n)&&b1/64==2)&&(decide (2<n)&&b2/64==2)&&(decide (3<n)&&b3/64==2))=true)↔(3<n/\b0/8=30/\b1/64=2/\b2/64=2/\b3/64=2):=by simp;omega
 have hre:Utf8.runeError=65533:=rfl;have v3:∀c:Nat,((decide (c ≥ 2048)&&Utf8.valid c)=true)↔(2048<=c/\¬(55296<=c/\c<57344)/\c<1114112):=λc=>by unfold Utf8.valid;simp only[Bool.and_eq_true,Bool.or_eq_true,decide_eq_true_eq];omega
 have v4:∀c:Nat,((decide (c ≥ 65536)&&Utf8.valid c)=true)↔(65536<=c/\c<1114112):=λc=>by unfold Utf8.valid;simp only[Bool.and_eq_true,Bool.or_eq_true,decide_eq_true_eq];omega
 simp only[c1,c2,c3,hre,v3,v4];by_cases d1:1<n/\b0/32=6/\b1/64=2
 ·rw[if_pos d1,if_pos d1]
 rw[if_neg d1,if_neg d1];by_cases d2:2<n/\b0/16=14/\b1/64=2/\b2/64=2
 ·rw[if_pos d2,if_pos d2];have e:∀c:Nat,c<1114112->((2048<=c/\¬(55296<=c/\c<57344)/\c<1114112)↔(2048<=c/\¬(55296<=c/\c<57344))):=λc h=>by omega
  simp only[e _ (by omega:b0%16*4096+b1%64*64+b2%64<1114112)]
 rw[if_neg d2,if_neg d2]
theorem zom {n b0 b1 b2 b3:Nat} (h:b0<128):zdq n b0 b1 b2 b3=(b0,1):=by unfold zdq;rw[if_pos h]
theorem zqk {n b0 b1 b2 b3:Nat} (h:128<=b0) (h2:b0<194\/244<b0) (h3:b0<256):zdq n b0 b1 b2 b3=(65533,1):=by
 unfold zdq
 repeat' split
 all_goals first|rfl|(exfalso;omega)
theorem zhD {n b0 b1 b2 b3:Nat} (h:194<=b0) (h2:b0<=223) (h3:n<2\/b1<128\/191<b1):zdq n b0 b1 b2 b3=(65533,1):=by
 unfold zdq
 repeat' split
 all_goals first|rfl|(exfalso;omega)
theorem zsp {n b0 b1 b2 b3:Nat} (h:194<=b0) (h2:b0<=223) (h3:2<=n) (h4:128<=b1) (h5:b1<=191):zdq n b0 b1 b2 b3=(64*(b0-192)+(b1-128),2):=by
 unfold zdq;rw[if_neg (by omega),if_pos (by omega),if_pos (by omega)];exact congrArg (·,2) (by omega)
theorem zfn {n b0 b1 b2 b3:Nat} (h:224<=b0) (h2:b0<=239) (h3:n<3\/b1<(if b0=224 then 160 else 128)\/(if b0=237 then 159 else 191)<b1\/b2<128\/191<b2):zdq n b0 b1 b2 b3=(65533,1):=by
 unfold zdq;rw[if_neg (by omega),if_neg (by omega)];split
 ·rw[if_neg];split at h3<;>split at h3<;>omega
 ·rw[if_neg (by omega)]
theorem zon {n b0 b1 b2 b3:Nat} (h:224<=b0) (h2:b0<=239) (h3:3<=n) (h4:(if b0=224 then 160 else 128)<=b1) (h5:b1<=(if b0=237 then 159 else 191)) (h6:128<=b2) (h7:b2<=191):zdq n b0 b1 b2 b3=(4096*(b0-224)+64*(b1-128)+(b2-128),3):=by
 unfold zdq;have a:b1/64=2:=by split at h4<;>split at h5<;>omega
 rw[if_neg (by omega),if_neg (by omega),if_pos (by omega),if_pos]
 ·exact congrArg (·,3) (by omega)
 ·split at h4<;>split at h5<;>omega
theorem zd4 {n b0 b1 b2 b3:Nat} (h:240<=b0) (h2:b0<=244) (h3:n<4\/b1<(if b0=240 then 144 else 128)\/(if b0=244 then 143 else 191)<b1\/b2<128\/191<b2\/b3<128\/191<b3):zdq n b0 b1 b2 b3=(65533,1):=by
 unfold zdq;rw[if_neg (by omega),if_neg (by omega),if_neg (by omega)];split
 ·rw[if_neg];split at h3<;>split at h3<;>omega
 ·rfl
theorem zql {n b0 b1 b2 b3:Nat} (h:240<=b0) (h2:b0<=244) (h3:4<=n) (h4:(if b0=240 then 144 else 128)<=b1) (h5:b1<=(if b0=244 then 143 else 191)) (h6:128<=b2) (h7:b2<=191) (h8:128<=b3) (h9:b3<=191):zdq n b0 b1 b2 b3=(262144*(b0-240)+4096*(b1-128)+64*(b2-128)+(b3-128),4):=by
 unfold zdq;have a:b1/64=2:=by split at h4<;>split at h5<;>omega
 rw[if_neg (by omega),if_neg (by omega),if_neg (by omega),if_pos (by omega),if_pos]
 ·exact congrArg (·,4) (by omega)
 ·split at h4<;>split at h5<;>omega
end
section
open Go.RowKit
open Wd (wd)
attribute [local go_sem ↓] Go.wp_at_zero Go.wp_at_succ
theorem zjP (s:ByteArray) (i n:Nat) (l:List UInt8) (hl:l.length=n) (_h:i+n<=s.size) (hv:∀k (hk:k<n),s[i+k]?=some (l[k]'(by omega))):s.extract i (i+n)=⟨l.toArray⟩:=by
 apply ByteArray.ext;rw[ByteArray.data_extract];apply Array.toList_inj.1;have hs:s.data.toList.length=s.size:=rfl;rw[Array.toList_extract,List.extract_eq_take_drop,show i+n-i=n by omega];apply List.ext_getElem?;intro k;by_cases hk:k<n
 ·rw[List.getElem?_take_of_lt hk,List.getElem?_drop];have:=hv k hk;have e:s[i+k]?=s.data.toList[i+k]?:=by
   rw[Array.getElem?_toList];rfl
  rw[←e,this];simp[hl,hk]
 ·rw[List.getElem?_eq_none (by simp;omega),List.getElem?_eq_none (by simp;omega)]
theorem zsq (s:ByteArray) (i:Nat) (h:i<s.size):s.extract i (i+1)=⟨#[s[i]]⟩:=by
 refine zjP s i 1 [s[i]] rfl (by omega) (λk hk=>?_);obtain rfl:k=0:=by omega
 simp[getElem?_pos,h]
theorem zui (s:ByteArray) (i:Nat) (h:i+1<s.size):s.extract i (i+2)=⟨#[s[i],s[i+1]]⟩:=by
 refine zjP s i 2 [s[i],s[i+1]] rfl (by omega) (λk hk=>?_);match k,hk with
 |0,_=>simp[getElem?_pos,show i<s.size by omega]
 |1,_=>simp[getElem?_pos,h]
theorem zvI (s:ByteArray) (i:Nat) (h:i+2<s.size):s.extract i (i+3)=⟨#[s[i],s[i+1],s[i+2]]⟩:=by
 refine zjP s i 3 [s[i],s[i+1],s[i+2]] rfl (by omega) (λk hk=>?_);match k,hk with
 |0,_=>simp[getElem?_pos,show i<s.size by omega]
 |1,_=>simp[getElem?_pos,show i+1<s.size by omega]
 |2,_=>simp[getElem?_pos,h]
theorem zwF (s:ByteArray) (i:Nat) (h:i+3<s.size):s.extract i (i+4)=⟨#[s[i],s[i+1],s[i+2],s[i+3]]⟩:=by
 refine zjP s i 4 [s[i],s[i+1],s[i+2],s[i+3]] rfl (by omega) (λk hk=>?_);match k,hk with
 |0,_=>simp[getElem?_pos,show i<s.size by omega]
 |1,_=>simp[getElem?_pos,show i+1<s.size by omega]
 |2,_=>simp[getElem?_pos,show i+2<s.size by omega]
 |3,_=>simp[getElem?_pos,h]
theorem zc4 (s:ByteArray) (i:Nat) (h:i<s.size):s.get! i=s[i]:=by
 unfold ByteArray.get!;exact getElem!_pos s.data i h
theorem zhK:(Tryz.prog.info? 21).bind (·.zero)=some (.int .i32 0):=by kernel_rfl
theorem zhL:(Tryz.prog.info? 21).map (·.size)=some 1:=by kernel_rfl
theorem zgW:(Tryz.prog.info? 21).map (·.bytes)=some 4:=by kernel_rfl
theorem zoo:∃i:TypeInfo,Tryz.prog.info? 21=some i/\i.zero=some (.int .i32 0)/\i.size=1/\i.bytes=4:=by
 have h1:=zhK;have h2:=zhL;have h3:=zgW;cases h:Tryz.prog.info? 21 with
 |none=>rw[h] at h2;simp at h2
 |some i=>rw[h] at h1 h2 h3;exact⟨i,rfl,by simpa using h1,by simpa using h2,by simpa using h3⟩
def zbM (l:List Int):List Value:=l.map (Value.int .i32)
theorem zf7 {ops:Array Oper} {rest:List Oper} {o:Oper} {a:Act} {Q:Exit->Act->World->Prop} (w:World) (hgd:o.guard=none) (s x:Operand)
 (ho:o.op=.call {callee:=.builtin .append,args:=#[s,x],argTypes:=#[63,63]}) (base:Nat) (v:Value) (l:List Int) (c:Int) (k:Nat) (hk:l.length=k) (hs:a.eval s=v)
 (hown:w.ownsRow base 21 1 v k (zbM l)) (b:Nat) (hx:a.eval x=.slice (some ⟨b,0,none⟩) 1 1) (hb:w.heap[b]?=some (.cells #[.int .i32 c] 21)) (hL:k<=1000000000000) (hbase:base<=w.heap.size)
 (h:∀g cap w',w'.ownsRow base 21 1 (.slice (some ⟨g,0,none⟩) (k+1) cap) (k+1) (zbM (l ++ [c]))->w.grownBy w' v.ownBlock->(v.ownBlock=some g\/g=w.heap.size)->g<w'.heap.size->wpList Tryz.prog ops Q rest (a.put o.dst (.slice (some ⟨g,0,none⟩) (k+1) cap)) w'):
 wpList Tryz.prog ops Q (o::rest) a w:=by
 obtain⟨ti,i1,i2,i3,i4⟩:=zoo;refine wpList_append_lies w hgd s x 63 ho base 21 ti _ 1 4 Tryz.underlying63 i1 i2 i3 i4 rfl (by decide) v k (zbM l) hs hown ⟨b,0,none⟩ 1 1 [.int .i32 c] hx rfl (World.news_of_block hb) (by simp[Value.oneCell']) (by decide) (by unfold maxLen;omega) (by omega) hbase w.heap.size rfl ?_;intro g cap w' h1 h2 h3 h4;have e:zbM l ++ [.int .i32 c]=zbM (l ++ [c]):=by simp[zbM]
 rw[e] at h1;exact h g cap w' h1 h2 h3 h4
theorem zop {w:World} {base g n cap:Nat} {l:List Int} {t:TypeId} (h:w.ownsRow base t 1 (.slice (some ⟨g,0,none⟩) n cap) n (zbM l)) (i:Nat) (c:Int) (hi:l[i]?=some c):w.cell? ⟨g,i,none⟩=some (.int .i32 c):=by
 obtain⟨hl,h|⟨g',cap',cur,hv,hb,hg,hn,hm,hs,ht⟩⟩:=h
 ·simp at h
 ·obtain⟨rfl,rfl⟩:g=g'/\cap=cap':=by simpa using hv
  have hil:=(List.getElem?_eq_some_iff.1 hi).1;have hll:(zbM l).length=l.length:=by simp[zbM]
  rw[za hg];have e:(zbM l)[i]?=some (.int .i32 c):=by unfold zbM;rw[List.getElem?_map,hi];rfl
  rw[←ht,List.getElem?_take_of_lt (by omega),Array.getElem?_toList] at e;exact e
structure Let (s:ByteArray) (w:World) (u:Value) (pos f:Nat) (rs:List Int) (w':World):Prop where
 le:pos<=s.size
 row:w'.ownsRow w.heap.size 21 1 u rs.length (zbM rs)
 all:rs++Zh s f pos=Zh s s.size 0
 fuel:s.size<=pos+f
 short:rs.length<=pos
 bel:Below w.heap.size w w'
def znp (r:Int):Int:=if wd r=0 then 65533 else r
theorem Let.step {s:ByteArray} {w w' w2:World} {u u2:Value} {pos f:Nat} {rs:List Int} (h:Let s w u pos f rs w') (hlt:pos<s.size) {r:Int} {n:Nat} (hd:((Utf8.decode s pos).1:Int)=r/\(Utf8.decode s pos).2=n)
 (hr:w2.ownsRow w.heap.size 21 1 u2 (rs.length+1) (zbM (rs ++ [znp r]))) (hb:Below w.heap.size w w2) (hn:pos+n<=s.size):∃f' rs',Let s w u2 (pos+n) f' rs' w2:=by
 obtain⟨f,rfl⟩:∃f',f=f'+1:=⟨f-1,by have:=h.fuel;omega⟩;have hn1:=ziM s pos hlt;rw[hd.2] at hn1;have e:=h.all;rw[zgC s f hlt,hd.1,hd.2] at e;refine⟨f,rs ++ [znp r],hn,by rw[List.length_append];exact hr,?_,by have:=h.fuel;omega,by rw[List.length_append];have:=h.short;simp;omega,hb⟩;rw[List.append_assoc];exact e
theorem zb1 (s:ByteArray) (pos n b0 b1 b2 b3:Nat) (hn:s.size-pos=n) (h0:(s.get! pos).toNat=b0) (h1:(s.get! (pos+1)).toNat=b1) (h2:(s.get! (pos+2)).toNat=b2) (h3:(s.get! (pos+3)).toNat=b3):Utf8.decode s pos=zdq n b0 b1 b2 b3:=by
 rw[zgH,hn,h0,h1,h2,h3]
end
end Go.Proofs.YtjlfibhbfdckpaaGreatDoor
