import Derived.Test.YtjlfibhbfdckpaaGreatDoorV04
namespace Go.Proofs.YtjlfibhbfdckpaaGreatDoor
set_option maxHeartbeats 64000000
set_option maxRecDepth 100000
section
open Go.RowKit
def Z0 (l:List Int) (v:Int):List Int:=l.set (l.length-1) v
def zbh (l:List Int):Int:=l.getD (l.length-1) 0
def zf4 (n:Int):Int:=if 9999<n then 9999 else n
def zz (l:List Int):List Int:=if l=[] then[0] else l
def Z2 (l:List Int) (c:Int):Option (List Int):=
 if c=59 then some (zz l ++ [0]) else if 48<=c/\c<=57 then some (Z0 (zz l) (zf4 (10*zbh (zz l)+(c-48)))) else none
def Zm:List UInt8->List Int->Option (List Int)
 |[],l=>some l
 |c::r,l=>match Z2 l c.toNat with
  |none=>none
  |some k=>Zm r k
def zel (b:ByteArray):Option (List Int):=Zm b.data.toList []
theorem zbB (a b:List UInt8) (l:List Int):Zm (a++b) l=match Zm a l with
 |none=>none
 |some k=>Zm b k:=by
 induction a generalizing l with
 |nil=>rfl
 |cons c r ih=>
  simp only[List.cons_append,Zm];cases Z2 l c.toNat with
  |none=>rfl
  |some k=>exact ih k
theorem zav (a:List UInt8) (c:UInt8) (l k:List Int) (h:Zm a l=some k):Zm (a ++ [c]) l=Z2 k c.toNat:=by
 rw[zbB,h];simp only[Zm];cases Z2 k c.toNat<;>rfl
theorem zbK (s:ByteArray) (k:Nat) (h:k<s.size):s.data.toList.take (k+1)=s.data.toList.take k ++ [s[k]]:=by
 rw[List.take_succ_eq_append_getElem (by simpa using h)];rfl
theorem zko (b:ByteArray) (k:Nat) (hk:k<b.size) (l:List Int) (h:Zm (b.data.toList.take k) []=some l) (hb:Z2 l b[k].toNat=none):zel b=none:=by
 unfold zel;rw[←List.take_append_drop (k+1) b.data.toList,zbK b k hk,zbB,zav _ _ _ _ h,hb]
def zaV (l:List Int):Prop:=∀i,0<=l.getD i 0/\l.getD i 0<=9999
theorem zcP:zaV []:=λi=>by simp
theorem zcu {l:List Int} (h:zaV l):zaV (zz l):=by
 unfold zz;split
 ·intro i;cases i<;>simp
 ·exact h
theorem zfi {l:List Int} (h:zaV l):zaV (l ++ [0]):=by
 intro i;have:=h i;simp only[List.getD_eq_getElem?_getD] at *;by_cases hi:i<l.length
 ·rw[List.getElem?_append_left hi];exact this
 ·rw[List.getElem?_append_right (by omega)];cases i-l.length<;>simp
theorem zeT {l:List Int} (h:zaV l) (j:Nat) (v:Int) (h0:0<=v) (h1:v<=9999):zaV (l.set j v):=by
 intro i;have:=h i;simp only[List.getD_eq_getElem?_getD,List.getElem?_set] at *;by_cases e:j=i
 ·subst e;by_cases hj:j<l.length
  ·simp[hj,h0,h1]
  ·simp[hj]
 ·simp[e];exact this
def zaW (l:List Int):List Value:=l.map (λn=>Value.int .i64 n)
theorem zcc {w:World} {base g n cap:Nat} {l:List Int} {t:TypeId} (h:w.ownsRow base t 1 (.slice (some ⟨g,0,none⟩) n cap) n (zaW l)) (i:Nat) (hi:i<l.length):w.cell? ⟨g,i,none⟩=some (.int .i64 (l.getD i 0)):=by
 obtain⟨hl,h|⟨g',cap',cur,hv,hb,hg,hn,hm,hs,ht⟩⟩:=h
 ·simp at h
 ·simp at hv;obtain⟨rfl,rfl⟩:=hv;rw[za hg];have a:(zaW l)[i]?=some (.int .i64 (l.getD i 0)):=by
   simp[zaW,hi]
  rw[←ht] at a;have hlt:i<n*1:=by simp[zaW] at hl;omega
  rw[List.getElem?_take_of_lt hlt] at a;simpa using a
theorem zeU {w:World} {base g n cap:Nat} {xs:List Value} {t:TypeId} (h:w.ownsRow base t 1 (.slice (some ⟨g,0,none⟩) n cap) n xs) (o:Nat):w.frozen? ⟨g,o,none⟩=false:=by
 obtain⟨hl,h|⟨g',cap',cur,hv,hb,hg,hn,hm,hs,ht⟩⟩:=h
 ·simp at h
 ·simp at hv;obtain⟨rfl,rfl⟩:=hv;exact ze hg o
theorem zhl {w:World} {base g n cap:Nat} {l:List Int} {t:TypeId} (h:w.ownsRow base t 1 (.slice (some ⟨g,0,none⟩) n cap) n (zaW l)) (i:Nat) (v:Int):(w.setCell ⟨g,i,none⟩ (.int .i64 v)).ownsRow base t 1 (.slice (some ⟨g,0,none⟩) n cap) n (zaW (l.set i v)):=by
 obtain⟨hl,h|⟨g',cap',cur,hv,hb,hg,hn,hm,hs,ht⟩⟩:=h
 ·simp at h
 ·simp at hv;obtain⟨rfl,rfl⟩:=hv;refine⟨by simp[zaW] at hl ⊢;exact hl,.inr ⟨g,cap,cur.setIfInBounds i (.int .i64 v),rfl,hb,zg hg _ _,hn,hm,by simpa using hs,?_⟩⟩;have e:zaW (l.set i v)=(zaW l).set i (.int .i64 v):=by simp[zaW,List.map_set]
  rw[e,←ht];simp[List.take_set]
theorem zcd {w w':World} {base:Nat} {v:Value} {n:Nat} {xs:List Value} {t:TypeId} (h:w.ownsRow base t 1 v n xs) (hb:∀g,v.ownBlock=some g->w'.heap[g]?=w.heap[g]?):w'.ownsRow base t 1 v n xs:=by
 obtain⟨hl,h|⟨g',cap',cur,rfl,hb',hg,rest⟩⟩:=h
 ·exact⟨hl,.inl h⟩
 ·exact⟨hl,.inr ⟨g',cap',cur,rfl,hb',by rw[hb g' rfl];exact hg,rest⟩⟩
end
section
open Go.RowKit
attribute [local go_sem ↓] Go.wp_at_zero Go.wp_at_succ
theorem zis:(Tryz.prog.info? 3).bind (·.zero)=some (.int .i64 0):=by kernel_rfl
theorem zit:(Tryz.prog.info? 3).map (·.size)=some 1:=by kernel_rfl
theorem zhm:(Tryz.prog.info? 3).map (·.bytes)=some 8:=by kernel_rfl
theorem zpB:∃i:TypeInfo,Tryz.prog.info? 3=some i/\i.zero=some (.int .i64 0)/\i.size=1/\i.bytes=8:=by
 have h1:=zis;have h2:=zit;have h3:=zhm;cases h:Tryz.prog.info? 3 with
 |none=>rw[h] at h2;simp at h2
 |some i=>rw[h] at h1 h2 h3;exact⟨i,rfl,by simpa using h1,by simpa using h2,by simpa using h3⟩
theorem zaK {ops:Array Oper} {rest:List Oper} {o:Oper} {a:Act} {Q:Exit->Act->World->Prop} (w:World) (hgd:o.guard=none) (s x:Operand)
 (ho:o.op=.call {callee:=.builtin .append,args:=#[s,x],argTypes:=#[45,45]}) (base:Nat) (v:Value) (l:List Int) (c:Int) (k:Nat) (hk:l.length=k) (hs:a.eval s=v)
 (hown:w.ownsRow base 3 1 v k (zaW l)) (b:Nat) (hx:a.eval x=.slice (some ⟨b,0,none⟩) 1 1) (hb:w.heap[b]?=some (.cells #[.int .i64 c] 3)) (hL:k<=1000000000000) (hbase:base<=w.heap.size)
 (h:∀g cap w',w'.ownsRow base 3 1 (.slice (some ⟨g,0,none⟩) (k+1) cap) (k+1) (zaW (l ++ [c]))->w.grownBy w' v.ownBlock->(v.ownBlock=some g\/g=w.heap.size)->g<w'.heap.size->wpList Tryz.prog ops Q rest (a.put o.dst (.slice (some ⟨g,0,none⟩) (k+1) cap)) w'):
 wpList Tryz.prog ops Q (o::rest) a w:=by
 obtain⟨ti,i1,i2,i3,i4⟩:=zpB;refine wpList_append_lies w hgd s x 45 ho base 3 ti _ 1 8 Tryz.underlying45 i1 i2 i3 i4 rfl (by decide) v k (zaW l) hs hown ⟨b,0,none⟩ 1 1 [.int .i64 c] hx rfl (World.news_of_block hb) (by simp[Value.oneCell']) (by decide) (by unfold maxLen;omega) (by omega) hbase w.heap.size rfl ?_;intro g cap w' h1 h2 h3 h4;have e:zaW l ++ [.int .i64 c]=zaW (l ++ [c]):=by simp[zaW]
 rw[e] at h1;exact h g cap w' h1 h2 h3 h4
def zrR (b:ByteArray) (w:World) (e:Ending) (w':World):Prop:=Below w.heap.size w w'/\match zel b with
 |none=>e=.returned (.tuple #[.slice none 0 0,.bool false])
 |some l=>∃v,e=.returned (.tuple #[v,.bool (decide (l.length<=8))])/\w'.ownsRow w.heap.size 3 1 v l.length (zaW l)/\zaV l
theorem zhn (b:ByteArray) (w:World) (hb:b.size<=100000000000):
 Calls Tryz.prog 191 #[.string b] w (zrR b w):=by
 go_in;go_wp2_with fail;go_loopw[4,5] (λv i w'=>∃(k:Nat) (l:List Int),k<=b.size/\i=.int .i64 k/\Hid (Zm (b.data.toList.take k) []=some l)/\Hid (zaV l/\l.length<=k+1/\(l=[]->v=.slice none 0 0))/\w'.ownsRow w.heap.size 3 1 v l.length (zaW l)/\Below w.heap.size w w') (λ_ i _=>b.size-(intOf i).toNat)
 case atStart=>exact⟨0,[],by omega,rfl,rfl,⟨zcP,by simp,λ_=>rfl⟩,World.ownsRow_nil _ _ _ _,Below.refl _ _⟩
 case round=>
  obtain⟨k,l,hk,rfl,hn,hs,hr,hB⟩:=hrel;have HR:=zH hr;clear hr;by_cases hlt:k<b.size
  ·by_cases hl0:l=[]
   ·have hu:=hs.out.2.2 hl0;subst hu;have hbk:b[k].toNat<256:=b[k].toNat_lt;have Hn0:Hid (Zm (b.data.toList.take k) []=some []):=by rw[hl0] at hn;exact hn
    have hne:zz []=[0]:=rfl;have Hne:=zH hne;clear hne;by_cases hc:(b[k].toNat:Int)=59
    ·have c59:((b[k].toNat:Int)==59)=true:=by simp[hc]
     have Hst:Hid (Zm (b.data.toList.take (k+1)) []=some ([0] ++ [0])):=by
      show Zm _ _=_;rw[zbK b k hlt,zav _ _ _ _ Hn0.out];unfold Z2;rw[if_pos hc,Hne.out]
     clear hc hl0 HR;go_wp2_with (first|(at_builtin;refine zaK _ (by rfl) (.tmp 17) (.tmp 18) (by rfl) w.heap.size (.slice none 0 0) [] 0 0 rfl (by rfl) (World.ownsRow_nil _ _ _ _) wr.heap.size (by rfl) (zae _ _ _ (by simp)) (by omega) (by have:=hB.size;simp;omega) ?_;intro g7 cap7 w7 hr7 hg7 ho7 hl7;have c7:w7.cell? ⟨g7,0,none⟩=some (.int .i64 0):=zcc hr7 0 (by simp);have fr7:=zeU hr7;have B7:=(hB.alloc hB.size _).grown hg7 (by have:=hB.size;simp;omega) (λi hi=>by cases hi);have HR7:Hid (w7.ownsRow w.heap.size 3 1 (.slice (some ⟨g7,0,none⟩) 1 cap7) 1 (zaW [0])):=hr7;clear hr7 hg7 ho7)|(at_builtin;refine zaK _ (by rfl) (.tmp 26) (.tmp 27) (by rfl) w.heap.size (.slice (some ⟨g7,0,none⟩) 1 cap7) [0] 0 1 rfl (by rfl) (zcd HR7.out (λi hi=>Below.heap_alloc _ _ _ (HR7.out.lt i hi).2)) w7.heap.size (by rfl) (zae _ _ _ (by simp)) (by omega) (by have:=B7.size;simp;omega) ?_;intro g9 cap9 w9 hr9 hg9 ho9 hl9));have B9:=(B7.alloc B7.size _).grown hg9 (by have:=B7.size;simp;omega) (λi hi=>(HR7.out.lt i hi).1);have HR9:=zH hr9;clear hr9 hg9 ho9;go_wp2_with fail;go_roundw
     case rel=>exact⟨k+1,[0] ++ [0],by omega,by go_num,Hst.out,⟨zfi (l:=[0]) (zcu zcP),by simp,λe=>by simp at e⟩,HR9.out,B9⟩
     case measure=>simp[intOf];omega
    by_cases hd:48<=(b[k].toNat:Int)/\(b[k].toNat:Int)<=57
    ·obtain⟨hd1,hd2⟩:=hd;have c59:((b[k].toNat:Int)==59)=false:=by simp;omega
     have Hst:Hid (Zm (b.data.toList.take (k+1)) []=some [(b[k].toNat:Int)-48]):=by
      show Zm _ _=_;rw[zbK b k hlt,zav _ _ _ _ Hn0.out];unfold Z2;rw[if_neg (by omega),if_pos (by omega),Hne.out];unfold zf4;rw[if_neg (by simp[zbh];omega)];simp[Z0,zbh]
     clear hl0 HR;go_wp2_with (first|(at_builtin;refine zaK _ (by rfl) (.tmp 17) (.tmp 18) (by rfl) w.heap.size (.slice none 0 0) [] 0 0 rfl (by rfl) (World.ownsRow_nil _ _ _ _) wr.heap.size (by rfl) (zae _ _ _ (by simp)) (by omega) (by have:=hB.size;simp;omega) ?_;intro g7 cap7 w7 hr7 hg7 ho7 hl7;have c7:w7.cell? ⟨g7,0,none⟩=some (.int .i64 0):=zcc hr7 0 (by simp);have fr7:=zeU hr7;have B7:=(hB.alloc hB.size _).grown hg7 (by have:=hB.size;simp;omega) (λi hi=>by cases hi);have HR7:Hid (w7.ownsRow w.heap.size 3 1 (.slice (some ⟨g7,0,none⟩) 1 cap7) 1 (zaW [0])):=hr7;clear hr7 hg7 ho7));go_roundw
     case rel=>
      refine⟨k+1,[(b[k].toNat:Int)-48],by omega,by go_num,Hst.out,⟨zeT (l:=[0]) (zcu zcP) 0 _ (by omega) (by omega),by simp,λe=>by simp at e⟩,zhl HR7.out 0 _,B7.setCell (p:=⟨g7,0,none⟩) (HR7.out.lt g7 rfl).1 _⟩
     case measure=>simp[intOf];omega
    ·have c59:((b[k].toNat:Int)==59)=false:=by simp;omega
     have Hbad:=zH<|zko b k hlt [] Hn0.out (by unfold Z2;rw[if_neg (by omega),if_neg (by omega)])
     have hcc:(b[k].toNat:Int)<48\/57<(b[k].toNat:Int):=by omega
     clear hd hl0 HR;rcases hcc with hcc|hcc;all_goals
      go_wp2_with (first|(at_builtin;refine zaK _ (by rfl) (.tmp 17) (.tmp 18) (by rfl) w.heap.size (.slice none 0 0) [] 0 0 rfl (by rfl) (World.ownsRow_nil _ _ _ _) wr.heap.size (by rfl) (zae _ _ _ (by simp)) (by omega) (by have:=hB.size;simp;omega) ?_;intro g7 cap7 w7 hr7 hg7 ho7 hl7;have c7:w7.cell? ⟨g7,0,none⟩=some (.int .i64 0):=zcc hr7 0 (by simp);have fr7:=zeU hr7;have B7:=(hB.alloc hB.size _).grown hg7 (by have:=hB.size;simp;omega) (λi hi=>by cases hi);have HR7:Hid (w7.ownsRow w.heap.size 3 1 (.slice (some ⟨g7,0,none⟩) 1 cap7) 1 (zaW [0])):=hr7;clear hr7 hg7 ho7));go_ret2;refine⟨B7,?_⟩;rw[Hbad.out];rfl
   ·obtain⟨r,hr1⟩:∃r,l.length=r+1:=⟨l.length-1,by cases l with|nil=>exact absurd rfl hl0|cons=>simp⟩;have Hr1:=zH hr1;rw[hr1] at HR;obtain⟨g,cap,rfl⟩:=zam HR (by omega);have Hl0:=zH hl0;have hll:r+1<=k+1:=by rw[←hr1];exact hs.out.2.1
    have c0:wr.cell? ⟨g,r,none⟩=some (.int .i64 (zbh l)):=by
     have:=zcc HR r (by omega);unfold zbh;rw[hr1];exact this
    have fr:=zeU HR;have hs0:=hs.out.1 (l.length-1);have hl1:0<=zbh l:=hs0.1;have hl2:zbh l<=9999:=hs0.2;have hbk:b[k].toNat<256:=b[k].toNat_lt;have HR:=HR;clear hs0 hr1 hl0;by_cases hc:(b[k].toNat:Int)=59
    ·have c59:((b[k].toNat:Int)==59)=true:=by simp[hc]
     have Hst:Hid (Zm (b.data.toList.take (k+1)) []=some (l ++ [0])):=by
      show Zm _ _=_;rw[zbK b k hlt,zav _ _ _ _ hn.out];unfold Z2;rw[if_pos hc];simp[zz,Hl0.out]
     clear hc;go_wp2_with ((at_builtin;refine zaK _ (by rfl) (.tmp 26) (.tmp 27) (by rfl) w.heap.size (.slice (some ⟨g,0,none⟩) (r+1) cap) l 0 (r+1) Hr1.out (by rfl) (zcd HR.out (λi hi=>Below.heap_alloc _ _ _ (HR.out.lt i hi).2)) _ (by rfl) (zae _ _ _ (by simp)) (by omega) (by have:=hB.size;simp;omega) ?_;intro g9 cap9 w9 hr9 hg9 ho9 hl9));have B9:=(hB.alloc hB.size _).grown hg9 (by have:=hB.size;simp;omega) (λi hi=>(HR.out.lt i hi).1);have HR9:=zH hr9;clear hr9 hg9 ho9;go_wp2_with fail;go_roundw
     case rel=>
      refine⟨k+1,l ++ [0],by omega,by go_num,Hst.out,⟨zfi hs.out.1,by have:=hs.out.2.1;have:=Hr1.out;simp;omega,λe=>by simp at e⟩,?_,B9⟩;have e:(l ++ [0]).length=(r+1)+1:=by have:=Hr1.out;simp;omega
      rw[e];exact HR9.out
     case measure=>simp[intOf];omega
    by_cases hd:48<=(b[k].toNat:Int)/\(b[k].toNat:Int)<=57
    ·obtain⟨hd1,hd2⟩:=hd;by_cases hbig:9999<10*zbh l+((b[k].toNat:Int)-48)
     ·have hbig':=hbig;have c59:((b[k].toNat:Int)==59)=false:=by simp;omega
      have Hst:Hid (Zm (b.data.toList.take (k+1)) []=some (Z0 l (9999))):=by
       show Zm _ _=_;rw[zbK b k hlt,zav _ _ _ _ hn.out];unfold Z2;rw[if_neg (by omega),if_pos (by omega)];simp[zz,Hl0.out];unfold zf4;rw[if_pos (by omega)]
      go_wp2_with (fail);go_roundw
      case rel=>
       refine⟨k+1,Z0 l (9999),by omega,by go_num,Hst.out,⟨zeT hs.out.1 _ _ (by omega) (by omega),by unfold Z0;rw[List.length_set];have:=hs.out.2.1;omega,λe=>by have q:=congrArg List.length e;unfold Z0 at q;rw[List.length_set,Hr1.out] at q;simp at q⟩,?_,hB.setCell (p:=⟨g,r,none⟩) (HR.out.lt g rfl).1 _⟩;have e:(Z0 l (9999)).length=(r+1):=by unfold Z0;rw[List.length_set];exact Hr1.out
       have e2:l.length-1=r:=by have:=Hr1.out;omega
       rw[e];unfold Z0;rw[e2];exact zhl HR.out r _
      case measure=>simp[intOf];omega
     ·have hbig':10*zbh l+((b[k].toNat:Int)-48)<=9999:=by omega
      have c59:((b[k].toNat:Int)==59)=false:=by simp;omega
      have Hst:Hid (Zm (b.data.toList.take (k+1)) []=some (Z0 l (10*zbh l+((b[k].toNat:Int)-48)))):=by
       show Zm _ _=_;rw[zbK b k hlt,zav _ _ _ _ hn.out];unfold Z2;rw[if_neg (by omega),if_pos (by omega)];simp[zz,Hl0.out];unfold zf4;rw[if_neg (by omega)]
      go_wp2_with (fail);go_roundw
      case rel=>
       refine⟨k+1,Z0 l (10*zbh l+((b[k].toNat:Int)-48)),by omega,by go_num,Hst.out,⟨zeT hs.out.1 _ _ (by omega) (by omega),by unfold Z0;rw[List.length_set];have:=hs.out.2.1;omega,λe=>by have q:=congrArg List.length e;unfold Z0 at q;rw[List.length_set,Hr1.out] at q;simp at q⟩,?_,hB.setCell (p:=⟨g,r,none⟩) (HR.out.lt g rfl).1 _⟩;have e:(Z0 l (10*zbh l+((b[k].toNat:Int)-48))).length=(r+1):=by unfold Z0;rw[List.length_set];exact Hr1.out
       have e2:l.length-1=r:=by have:=Hr1.out;omega
       rw[e];unfold Z0;rw[e2];exact zhl HR.out r _
      case measure=>simp[intOf];omega
    ·have c59:((b[k].toNat:Int)==59)=false:=by simp;omega
     have Hbad:=zH<|zko b k hlt l hn.out (by unfold Z2;rw[if_neg (by omega),if_neg (by omega)])
     have hcc:(b[k].toNat:Int)<48\/57<(b[k].toNat:Int):=by omega
     clear hd;rcases hcc with hcc|hcc;all_goals
      go_wp2_with (fail);go_ret2;refine⟨hB,?_⟩;rw[Hbad.out];rfl
  ·obtain hke:k=b.size:=by omega
   have Hn:Hid (zel b=some l):=by
    show zel b=some l;unfold zel;rw[←hn.out,hke,List.take_of_length_le (by simp)]
   clear hke;obtain⟨q,hq⟩:∃q,l.length=q:=⟨_,rfl⟩;have Hq:=zH hq;have HR':Hid (wr.ownsRow w.heap.size 3 1 u4 q (zaW l)):=by show wr.ownsRow w.heap.size 3 1 u4 q (zaW l);rw[←hq];exact HR.out
   clear hq HR;rcases HR'.out.2 with⟨rfl,h0⟩|⟨g,cap,cur,rfl,_⟩
   ·have h0':=zH h0;clear h0;go_wp2_with fail;go_ret2;refine⟨hB,?_⟩;rw[Hn.out];refine⟨.slice none 0 0,?_,by rw[Hq.out];exact HR'.out,hs.out.1⟩;have:l.length=0:=by rw[Hq.out];exact h0'.out
    simp[this]
   ·go_wp2_with fail;go_ret2;refine⟨hB,?_⟩;rw[Hn.out];refine⟨.slice (some ⟨g,0,none⟩) q cap,?_,by rw[Hq.out];exact HR'.out,hs.out.1⟩;rw[Hq.out];have e:decide ((q:Int)<=8)=decide (q<=8):=by rw[decide_eq_decide];omega
    rw[←e];rfl
end
end Go.Proofs.YtjlfibhbfdckpaaGreatDoor
