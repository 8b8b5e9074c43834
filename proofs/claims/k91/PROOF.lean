import PyProof.Rows.All
import Wide.All
import OpenK.AllK
import Wide.FinOn
import Lean
import PyProof.EqAt
import PyProof.EqKinds
import PyProof.TupleCall
import PySem.Challenge.RW_roundcall_k91_rows_read
/-! THE HAND LAYER, for ints, bools, texts, own classes, LISTS and tuples (index, slices, in, append, pop ..), calls, loops. Paste it whole ahead of your own text; what your proof does not reach may be deleted. -/
set_option Elab.async false
set_option linter.all false
set_option maxRecDepth 100000
set_option maxHeartbeats 4000000
set_option bootstrap.genMatcherCode false
namespace L2
local macro_rules | `(tactic| omega) => `(tactic| lia)
open PySem PySem.Spec PyProof.Rows
abbrev aN:=@wpAny_bind
abbrev a6:=@wpAny_pure
abbrev bt:=@List.getElem?_eq_some_iff
abbrev bD:=@Heap.get?_push_of_some
abbrev cI:=@List.mem_of_getElem?
abbrev c4:=@Heap.get?_push_size
abbrev dm:=@List.mem_cons_self
abbrev dr:=@Nat.le_refl
abbrev dI:=@Heap.lt_size
abbrev d0:=@Option.map_eq_some_iff
abbrev d3:=@List.mem_cons_of_mem
abbrev ed:=@List.getElem?_eq_getElem
abbrev en:=@Nat.le_trans
abbrev eo:=@Option.some.inj
abbrev eu:=@List.mem_cons
abbrev eH:=@Heap.get?_update_other
abbrev eI:=@Nat.ne_of_lt
abbrev fe:=@List.mem_map
abbrev ft:=@Bool.false_ne_true
abbrev fx:=@Nat.lt_of_lt_of_le
abbrev fy:=@List.mem_append
abbrev fC:=@wpAny_holding
abbrev fO:=@wpAny_seqItems
abbrev gd:=@List.mem_append_right
abbrev gv:=@List.mem_append_left
abbrev gy:=@List.mem_iff_getElem?
abbrev gK:=@Heap.get?_update_self
abbrev gR:=@wpAny_newObj_type
abbrev g0:=@wpAny_call_entry
abbrev g6:=@Heap.SameBut.update
abbrev hH:=@wpAny_mono
abbrev il:=@wpAny_truthy_bool
abbrev iv:=@Nat.lt_or_ge
abbrev i0:=@List.mem_singleton
abbrev i3:=@Int.mul_le_mul_of_nonneg_left
abbrev la:=@Int.lt_of_le_of_lt
abbrev ll:=@Array.getElem?_eq_some_iff
abbrev l7:=@PassesOwn.never
abbrev me:=@decide_eq_false
abbrev ml:=@Nat.zero_le
abbrev mr:=@W.mg_of
abbrev mu:=@W.mg_none_of
abbrev mv:=@Int.le_of_dvd
abbrev mY:=@Int.ediv_nonneg
abbrev mZ:=@wpAny_isInstance
abbrev m8:=@wpAny_rule
abbrev nf:=@plainId_quiet
abbrev nP:=@Nat.not_lt_zero
abbrev nX:=@Nat.le_of_lt
abbrev n4:=@Nat.lt_of_le_of_lt
abbrev oa:=@List.getElem_mem
abbrev oe:=@wpAny_callSpecial?_slot
abbrev ov:=@wpAny_attempt
abbrev oD:=@Int.le_trans
abbrev oI:=@Int.emod_nonneg
abbrev oP:=@List.mem_range
abbrev pa:=@List.mem_filter
abbrev pb:=@Int.emod_lt_of_pos
abbrev pP:=Value->Shared->Prop
abbrev qQ:=List Int
abbrev q3:=Option Int
abbrev q4:=Shared
abbrev q5:=Value
abbrev q7:=Program
abbrev rd:=Around
abbrev ri:=FuncData
abbrev ro:=World
abbrev rr:=PyData
abbrev Dw:=Sum Int Str
def Hu:Dw->q5->Bool
 | .inl k,v=>Value.isInt k v
 | .inr x,v=>Value.isStrOf x v
def xu(w:ro):Dw->Int
 | .inl k=>hashInt k
 | .inr x=>hashStr w x
theorem C4:∀{k:Dw}{v:q5},Hu k v=true->(∃i t,k=Sum.inl i/\v=Value.int i t)\/(∃x t,k=Sum.inr x/\v=Value.str x t)
 | .inl i,v,h=>by
  obtain⟨t,e⟩:=Value.isInt_shape (k:=i) (v:=v) h;exact .inl ⟨i,t,rfl,e⟩
 | .inr x,v,h=>by
  obtain⟨t,e⟩:=Value.isStrOf_shape (x:=x) (v:=v) h;exact .inr ⟨x,t,rfl,e⟩
theorem Wf(i:Int)(t:Tok):Hu (.inl i) (.int i t)=true:=by simp[Hu,Value.isInt]
theorem Wg(x:Str)(t:Tok):Hu (.inr x) (.str x t)=true:=by simp[Hu,Value.isStrOf]
theorem ke(a b:Int):decide ((Sum.inl a:Dw)=Sum.inl b)=(a==b):=by
 by_cases e:a=b
 ·subst e;simp
 ·have h:¬(Sum.inl a:Dw)=Sum.inl b:=λq=>e (Sum.inl.inj q);rw[decide_eq_false h];exact(beq_eq_false_iff_ne.mpr e).symm
theorem kh(a b:Str):decide ((Sum.inr a:Dw)=Sum.inr b)=decide (a=b):=by
 by_cases e:a=b
 ·subst e;simp
 ·have h:¬(Sum.inr a:Dw)=Sum.inr b:=λq=>e (Sum.inr.inj q);rw[decide_eq_false h,decide_eq_false e]
theorem kf(a:Int)(b:Str):decide ((Sum.inl a:Dw)=Sum.inr b)=false:=me (λq=>nomatch q)
theorem kg(a:Str)(b:Int):decide ((Sum.inr a:Dw)=Sum.inl b)=false:=me (λq=>nomatch q)
def Dc(prog:q7)(w:ro):PySem.KeyKind prog w Dw where
 is:=Hu
 hash:=xu w
 inj:=λv a b g f=>by
  rcases C4 g with⟨i,t,rfl,rfl⟩|⟨x,t,rfl,rfl⟩
  ·rcases C4 f with⟨j,u,rfl,e⟩|⟨y,u,rfl,e⟩
   ·injection e with c _;rw[c]
   ·exact nomatch e
  ·rcases C4 f with⟨j,u,rfl,e⟩|⟨y,u,rfl,e⟩
   ·exact nomatch e
   ·injection e with c _;rw[c]
 byValue:=λk v h=>by
  rcases C4 h with⟨i,t,rfl,rfl⟩|⟨x,t,rfl,rfl⟩<;>rfl
 pyHash:=λd h=>by
  rcases C4 d with⟨i,t,rfl,rfl⟩|⟨x,t,rfl,rfl⟩
  ·exact wpAny_pyHash_int h
  ·exact wpAny_pyHash_str h
 eqBool:=λl d h=>by
  rcases C4 l with⟨i,t,rfl,rfl⟩|⟨x,t,rfl,rfl⟩
  ·rcases C4 d with⟨j,u,rfl,rfl⟩|⟨y,u,rfl,rfl⟩
   ·rw[ke]at h;exact wpAny_eqBool_int h
   ·rw[kf]at h;exact SeqAt.EqAt.int_str i t y u _ _ _ _ h
  ·rcases C4 d with⟨j,u,rfl,rfl⟩|⟨y,u,rfl,rfl⟩
   ·rw[kg]at h;exact SeqAt.EqAt.str_int x t j u _ _ _ _ h
   ·rw[kh]at h;exact wpAny_eqBool_str h
 «strs»:=λk x t v h=>by
  rcases C4 h with⟨i,u,rfl,e⟩|⟨y,u,rfl,e⟩
  ·exact nomatch e
  ·injection e with c _;subst c;cases v<;>rfl
theorem R6(prog:q7)(w:ro)(i:Int)(t:Tok):(Dc prog w).is (.inl i) (.int i t)=true:=Wf i t
theorem R7(prog:q7)(w:ro)(x:Str)(t:Tok):(Dc prog w).is (.inr x) (.str x t)=true:=Wg x t
inductive V where
 |aX|bl (b:Bool)|int (i:Int)|str (x:Str)|sZ (b:Array UInt8)|FD (b:UInt64)|ref (a:Addr)|ty (n:String)
 deriving DecidableEq
def Aw:V->q5->Prop
 | .aX,u=>u=Value.none
 | .bl b,u=>u=Value.bool b
 | .int i,u=>∃t,u=Value.int i t
 | .str x,u=>∃t,u=Value.str x t
 | .sZ b,u=>∃t,u=Value.bytes b t
 | .FD b,u=>∃t,u=Value.float b t
 | .ref a,u=>u=Value.ref a
 | .ty n,u=>u=Value.type n
abbrev As:List V->List q5->Prop:=Paired Aw
theorem As.length(r:As xs us):xs.length=us.length:=Paired.length r
theorem As.get:∀{xs:List V}{us:List q5}{i:Nat}{x:V},As xs us->xs[i]?=some x->∃u,us[i]?=some u/\Aw x u
 |_,_,_,_,.nil,e=>by simp at e
 |_,_,0,_,.cons r _,e=>by simp at e;subst e;exact⟨_,rfl,r⟩
 |_,_,i+1,x,.cons _ t,e=>by
  obtain⟨u,a,b⟩:=As.get (i:=i) (x:=x) t (by simpa using e);exact⟨u,by simpa using a,b⟩
theorem As.set(r:Aw x u):∀{xs:List V}{us:List q5} (i:Nat),As xs us->As (xs.set i x) (us.set i u)
 |_,_,_,.nil=>.nil
 |_,_,0,.cons _ t=>.cons r t
 |_,_,i+1,.cons q t=>.cons q (As.set r i t)
theorem As.append(h:As xs us)(s:As ys ws):As (xs++ys) (us++ws):=by
 induction h with
 |nil=>exact s
 |cons r t a=>exact .cons r a
theorem As.take:∀{xs:List V}{us:List q5} (n:Nat),As xs us->As (xs.take n) (us.take n)
 |_,_,0,_=>.nil
 |_,_,_+1,.nil=>.nil
 |_,_,n+1,.cons r t=>.cons r (As.take n t)
theorem As.drop:∀{xs:List V}{us:List q5} (n:Nat),As xs us->As (xs.drop n) (us.drop n)
 |_,_,0,r=>r
 |_,_,_+1,.nil=>.nil
 |_,_,n+1,.cons _ t=>As.drop n t
def F2:Option V->Option q5->Prop
 |some v,some u=>Aw v u
 |none,none=>True
 |_,_=>False
def KV:List (a×V)->List (a×q5)->Prop:=Paired λ(p:a×V) (q:a×q5)=>p.1=q.1/\Aw p.2 q.2
def kV:Dw->V
 | .inl i=>.int i
 | .inr x=>.str x
section
variable {prog:q7}{w:ro}
def Cv(prog:q7)(w:ro)(h:Heap)(k:qQ×Int)(a:Addr):Prop:=
 ∃o n u t,h.get? a=some o/\o.cls=.type "tuple"/\o.data=.seq #[.ref u,.int k.2 t] n/\IsTupleKey (intKind prog w) h k.1 u
theorem Cv.typeIs{s:q4}{k:qQ×Int}{a:Addr}(x:Cv prog w s.heap k a):s.TypeIs (.ref a) "tuple":=let⟨o,_,_,_,c,b,_⟩:=x;⟨o,c,b⟩
theorem Cv.inj(i:Cv prog w h x a)(j:Cv prog w h y a):x=y:=by
 obtain⟨o,n,u,t,g,_,e,f⟩:=i;obtain⟨m,q,s,r,l,_,b,p⟩:=j;obtain rfl:o=m:=eo (g.symm.trans l);rw[e]at b;injection b with c _;simp only[Array.mk.injEq,List.cons.injEq,Value.ref.injEq,Value.int.injEq,and_true]at c;obtain⟨rfl,d,_⟩:=c;exact Prod.ext (f.inj p) d
theorem Cv.keeps{k:qQ×Int}{es ep}(x:Cv prog w h k a)(c:h.get? d=some o)(hd:o.data=.dict es ep)(e:Heap.SameBut d h h'):Cv prog w h' k a:=by
 obtain⟨g,n,u,t,f,j,b,l⟩:=x
 have i:a≠d:=by
  rintro rfl;obtain rfl:g=o:=eo (f.symm.trans c);rw[hd]at b;exact nomatch b
 exact⟨g,n,u,t,(e.2 a i).trans f,j,b,l.keeps c hd e⟩
def Jq(prog:q7)(w:ro)(k:qQ×Int):Int:=reduceHash (Builtin.Tuple.tupleHashOf [tupleKeyHash (intKind prog w) k.1,(intKind prog w).hash k.2])
theorem To{A:rd}{E:pP}{s:q4}{k:qQ×Int}{a:Addr}{Q:Int->q4->Prop}(l:A.units+8<cLine)(d:Cv prog w s.heap k a)(h:Q (Jq prog w k) {s with toks:=s.toks+(k.1.length+3) }):
  wpAny (model prog w) A (pyHash (.ref a)) Q E s:=by
 have b:=d.typeIs;obtain⟨o,n,u,t,i,_,f,g⟩:=d;unfold pyHash
 first|unfold pyHashByItsType|skip
 first|refine aN (wpAny_cRoomFor_or (.inr (by omega)) ?_)|skip
 refine aN (wpAny_specialOf b F.slot_tuple_hash.lookup ?_);show wpAny _ _ (if(some (Value.builtin "tuple.__hash__")==some Value.none)=true then _ else _) Q E s;rw[if_neg (by rw[beq_builtin_none];exact Bool.false_ne_true)];refine aN (wpAny_specialOf b F.slot_tuple_hash.lookup ?_);show wpAny _ _ (callSpecialIfBoundUnlessNone? (.ref a) "__hash__" _>>=_) Q E s;refine aN (wpAny_callSpecialIfBoundUnlessNone?_slot b F.slot_tuple_hash (g0 F.slot_tuple_hash b F.entry_tuple_hash ?_ (F.args_tuple_hash_1 _)));show wpAny _ _ (Builtin.Tuple.tupleItemsOf (.ref a)>>=_) _ _ s;refine aN (wpAny_tupleItemsOf i f ?_);refine aN ?_;rw[<- Array.forIn_toList];show wpAny _ _ (forIn [Value.ref u,Value.int k.2 t] _ _) _ _ _;rw[List.forIn_cons]
 have j:A.in1.units<cLine:=by
  first|(show A.units+1<cLine;omega)|(show A.units<cLine;omega)|(simp only[Around.in1];omega)
 refine aN (aN (wpAny_pyHash_tuple (knd:=intKind prog w) j g ?_));refine a6 ?_;show wpAny _ _ (forIn [Value.int k.2 t] _ _) _ _ _;rw[List.forIn_cons];refine aN (aN ((intKind prog w).pyHash (k:=k.2) (by simp[intKind,Value.isInt]) ?_));refine a6 ?_;show wpAny _ _ (forIn [] _ _) _ _ _;rw[List.forIn_nil];refine a6 ?_;show wpAny _ _ (retInt (Builtin.Tuple.tupleHashOf [tupleKeyHash (intKind prog w) k.1,(intKind prog w).hash k.2])) _ _ _;refine wpAny_ret_mkInt ?_;generalize e:Builtin.Tuple.tupleHashOf [tupleKeyHash (intKind prog w) k.1,(intKind prog w).hash k.2]=z;show wpAny _ _ (if(decide (-(2:Int)^63<=z)&&decide (z<2^63))=true then _ else _) Q E _;unfold Jq reduceHash at h;rw[e]at h;by_cases c:(decide (-(2:Int)^63<=z)&&decide (z<2^63))=true
 ·rw[if_pos c];rw[if_pos c]at h;exact a6 (by simpa[Nat.add_assoc]using h)
 ·rw[if_neg c];rw[if_neg c]at h;exact aN (m8 (a6 (by simpa[Nat.add_assoc]using h)))
theorem cx{A:rd}{E:pP}{s:q4}{x y:qQ×Int}{a b:Addr}{Q:Bool->q4->Prop}(D:A.units+8<cLine)(f:Cv prog w s.heap x a)(g:Cv prog w s.heap y b)(h:Q (decide (x=y)) s):
  wpAny (model prog w) A (eqBool (.ref a) (.ref b)) Q E s:=by
 unfold eqBool
 try with_reducible refine fC ?_
 show wpAny _ _ (if(Value.ref a==Value.ref b)=true then _ else _) Q E s;by_cases i:(Value.ref a==Value.ref b)=true
 ·rw[if_pos i];have e:a=b:=by have:=eq_of_beq i;injection this
  subst e;obtain rfl:=f.inj g;exact aN (m8 (a6 (by simpa using h)))
 ·rw[if_neg i]
  refine aN (wpAny_richCompare_same_room (op:=.Eq) f.typeIs g.typeIs F.slot_tuple_eq
   (g0 F.slot_tuple_eq f.typeIs F.entry_tuple_eq ?_ (F.args_tuple_eq_2 _ _)) (by omega))
  have j:=g.typeIs;obtain⟨I,G,B,o,m,_,l,q⟩:=f;obtain⟨J,H,C,p,n,_,v,r⟩:=g;show wpAny _ _ (isInstance (.ref b) (.type "tuple")>>=_) _ _ s;refine aN (mZ j isSubtype_tuple_tuple ?_);simp only[Bool.not_true,Bool.false_eq_true,if_false];refine aN (wpAny_tupleItemsOf m l ?_);refine aN (wpAny_tupleItemsOf n v ?_);refine aN ?_;show wpAny _ _ (forIn [(Value.ref B,Value.ref C),(Value.int x.2 o,Value.int y.2 p)] _ _) _ _ _;rw[List.forIn_cons]
  have u:A.in1.units<cLine:=by
   first|(show A.units+1<cLine;omega)|(show A.units<cLine;omega)|(simp only[Around.in1];omega)
  refine aN (aN (wpAny_eqBool_tuple (knd:=intKind prog w) u q r ?_));by_cases c:x.1=y.1
  ·rw[decide_eq_true c];simp only[Bool.not_true,Bool.false_eq_true,if_false];refine a6 ?_;show wpAny _ _ (forIn [(Value.int x.2 o,Value.int y.2 p)] _ _) _ _ _;rw[List.forIn_cons];refine aN (aN ((intKind prog w).eqBool (a:=x.2) (b:=y.2) (by simp[intKind,Value.isInt]) (by simp[intKind,Value.isInt]) ?_));by_cases d:x.2=y.2
   ·rw[decide_eq_true d];simp only[Bool.not_true,Bool.false_eq_true,if_false];refine a6 ?_;show wpAny _ _ (forIn [] _ _) _ _ _;rw[List.forIn_nil];refine a6 ?_;have e:decide (x=y)=true:=decide_eq_true (Prod.ext c d);rw[e]at h;exact a6 ⟨_,rfl,(λe=>nomatch e),il h⟩
   ·rw[decide_eq_false d];simp only[Bool.not_false,if_true];have e:decide (x=y)=false:=me λz=>d (by rw[z]);rw[e]at h;exact aN (a6 (a6 (a6 (a6 ⟨_,rfl,(λe=>nomatch e),il h⟩))))
  ·rw[decide_eq_false c];simp only[Bool.not_false,if_true];have e:decide (x=y)=false:=me λz=>c (by rw[z]);rw[e]at h;exact aN (a6 (a6 (a6 (a6 ⟨_,rfl,(λe=>nomatch e),il h⟩))))
theorem oi(j:IsTupleKey (intKind prog w) s.heap q a)(h:Q true s):wpAny (model prog w) A (eqIsQuiet 7 (.ref a)) Q E s:=by
 have i:=j.typeIs;obtain⟨o,d,n,p,_,l,m⟩:=j;unfold eqIsQuiet;refine aN (wpAny_specialOf i F.slot_tuple_eq.lookup ?_);show wpAny _ _ (isInstance (.ref a) (.type "tuple")>>=_) _ _ s;refine aN (mZ i isSubtype_tuple_tuple ?_);simp only[Bool.not_true,Bool.false_eq_true,if_false];refine aN (fO p l ?_);refine aN ?_;show wpAny _ _ (forIn d _ _) _ _ s;rw[<- Array.forIn_toList];refine wpAny_forIn_list _ (λc r g=>r.1=none/\g=s/\∀v∈c,carriedByValue v=true) _ ?_ ?_ _ _ ⟨rfl,rfl,m.byValue⟩
 ·rintro v c r g ⟨e,rfl,b⟩;rw[eqIsQuiet_byValue _ (b v List.mem_cons_self)];refine aN (a6 ?_);simp only[Bool.not_true,Bool.false_eq_true,if_false];exact a6 ⟨rfl,rfl,λu f=>b u (d3 _ f)⟩
 ·rintro⟨x,y⟩ g ⟨e,rfl,_⟩;simp only at e;subst e;exact a6 h
theorem Rq{A:rd}{E:pP}{s:q4}{k:qQ×Int}{a:Addr}{Q:Bool->q4->Prop}(c:Cv prog w s.heap k a)(h:Q true s):wpAny (model prog w) A (eqIsQuiet 8 (.ref a)) Q E s:=by
 have b:=c.typeIs;obtain⟨o,n,u,t,f,_,d,e⟩:=c;unfold eqIsQuiet;refine aN (wpAny_specialOf b F.slot_tuple_eq.lookup ?_);show wpAny _ _ (isInstance (.ref a) (.type "tuple")>>=_) _ _ s;refine aN (mZ b isSubtype_tuple_tuple ?_);simp only[Bool.not_true,Bool.false_eq_true,if_false];refine aN (fO f d ?_);refine aN ?_;show wpAny _ _ (forIn #[Value.ref u,Value.int k.2 t] _ _) _ _ s;rw[<- Array.forIn_toList];show wpAny _ _ (forIn [Value.ref u,Value.int k.2 t] _ _) _ _ s;rw[List.forIn_cons];refine aN (aN (oi e ?_));simp only[Bool.not_true,Bool.false_eq_true,if_false];refine a6 ?_;show wpAny _ _ (forIn [Value.int k.2 t] _ _) _ _ s;rw[List.forIn_cons,eqIsQuiet_byValue _ rfl];refine aN (aN (a6 ?_));simp only[Bool.not_true,Bool.false_eq_true,if_false];refine a6 ?_;show wpAny _ _ (forIn [] _ _) _ _ s;rw[List.forIn_nil];exact a6 (a6 h)
def Cz(prog:q7)(w:ro):HeapKind prog w (qQ×Int)where
 is:=Cv prog w
 hash:=Jq prog w
 draws:=λk=>k.1.length+3
 room:=λA=>A.units+8<cLine
 inj:=λc d=>c.inj d
 keeps:=λx f e g=>x.keeps f e g
 pyHash:=λb a h=>To b a h
 eqBool:=λb c d h=>cx b c d h
 quiet:=λa h=>Rq a h
end
set_option genInjectivity false in
set_option genSizeOf false in
inductive HO where
  |lst (xs:List V)
  |tup (xs:List V)
  |dK (kvs:List (Dw×V))|dT (kvs:List ((List Int×Int)×V))
  |set (S:Int->Bool) (n:Nat)
  |ins (C dx:Addr) (fs:List (Str×V))
  |own (x:Addr)
  |xd (fs:List (Str×V))
  |met (f x:Addr)
  |vR (lo hi:Int)
  |fA (o:Obj) (u:HO)
  |zr (ps:Array q5)
 |tab (q:Str) (pos:Pos)
  |ext (φ:Heap->Prop)
abbrev qs:=List ((List Int×Int)×V)
abbrev Hp:=Addr->Option HO
def Jt(H:Hp)(b:Addr)(k:qQ×Int):Prop:=∃u,H b=some (.tup [.ref u,.int k.2])/\H u=some (.tup (k.1.map V.int))
theorem Jt.up{k:qQ×Int}(c:∀b xs,H b=some (.tup xs)->a b=some (.tup xs))(h:Jt H b k):Jt a b k:=let⟨u,d,e⟩:=h;⟨u,c _ _ d,c _ _ e⟩
def upd(H:Hp)(a:Addr)(o:HO):Hp:=λb=>if b=a then some o else H b
theorem A2:upd H a o a=some o:=by unfold upd;rw[if_pos rfl]
theorem A9(h:b≠a):upd H a o b=H b:=by unfold upd;rw[if_neg h]
theorem Ir:upd (upd H a o) a u=upd H a u:=by
 funext b;unfold upd;split<;>rfl
theorem Bj{H:Hp}{a b:Addr}{o u:HO}(h:H a=some o)(h':H b=some u)(d:o≠u):a≠b:=by
 intro e;subst e;rw[h]at h';exact d (eo h')
theorem Ag{H:Hp}{a b:Addr}{o:HO}(h:H a=some o)(h':H b=none):a≠b:=by
 intro e;subst e;rw[h]at h';cases h'
section
variable (P:q7) (w:ro)
def B8(H:Hp)(h:Heap)(a:Addr):HO->Prop
 | .lst d=>d.length<=sizeLine/\∃(g:List q5) (n:Nat),As d g/\h.get? a=some {cls:=.type "list",data:=.seq g.toArray n}
 | .tup d=>(d.length<=sizeLine/\∃o,h.get? a=some o/\o.dict=none)/\∃g:List q5,As d g/\IsTup h a g.toArray
 | .dK b=>b.length<=sizeLine/\(a==sysModules)=false/\∃s,KV b s/\h.DictOf (Dc P w) a s
 | .dT b => b.length <= sizeLine /\ (a == sysModules) = false /\ ∃ d : List ((qQ × Int) × Addr × q5),
   Paired (λ(p:(qQ×Int)×V) (q:(qQ×Int)×Addr×q5)=>p.1=q.1/\Jt H q.2.1 p.1/\Aw p.2 q.2.2) b d/\
   ∃o l y,h.get? a=some o/\o.ExactDict/\o.data=.dict l y/\l.toList=d.map (entryOfKey (Cz P w))/\(d.map (·.1)).Nodup
 | .set S n=>h.SetOf (intKind P w) a S n
 | .ins C i fs => H i = some (.own a) /\ fs.length <= 1000 /\ i ≠ a /\ h.get? a = some (W.instObj C i) /\
   ∃e,h.Ns1 i e/\(∀f,F2 (fs.lookup f) (e f))/\PySem.Within e (fs.map (·.1))
 | .own _=>∃o,h.get? a=some o
 | .xd fs=>∃e,h.Ns1 a e/\∀f,F2 (fs.lookup f) (e f)
 | .vR A z=>∃t u v,h.get? a=some {cls:=.type "range",data:=.fields #[.int A t,.int z u,.int 1 v] }
 | .fA o u=>h.get? a=some o/\B8 H h a u
 | .zr B=>h.get? a=some {cls:=.none,data:=.fields B}
 | .tab q pos=>h.get? a=some (W.tabObj #[])\/∃c:Addr,H c=some (.own a)/\c≠a/\h.get? a=some (W.tabObj #[rawInt pos.line,rawInt pos.col,.ref c])/\h.CodeRec (.ref c) q
 | .met f x=>h.get? a=some (W.methodObj (.ref f) (.ref x))
 | .ext j=>j h/\(∃o,h.get? a=some o)/\∀m r:Heap,j m->(∀o,m.get? a=some o->r.get? a=some o)->j r
def Fj(H:Hp)(h:Heap):Prop:=∀a o,H a=some o->B8 P w H h a o
end
section
variable {P:q7}{w:ro}{H H':Hp}{h h':Heap}{a:Addr}{o:HO}
theorem B8.lt(x:B8 P w H h a o):a<h.objs.size:=by
 cases o with
 |lst c=>obtain⟨_,_,_,_,e⟩:=x;exact dI e
 |tup c=>obtain⟨_,_,_,p⟩:=x;exact p.lt
 |dK b=>obtain⟨_,_,_,_,o,_,_,e,_⟩:=x;exact dI e
 |dT b=>obtain⟨_,_,_,_,o,_,_,e,_⟩:=x;exact dI e
 |set S n=>obtain⟨o,_,_,_,e,_⟩:=x;exact dI e
 |ins C d fs=>obtain⟨_,_,_,e,_⟩:=x;exact dI e
 |own y=>obtain⟨_,e⟩:=x;exact dI e
 |xd fs=>obtain⟨_,⟨_,_,_,e,_⟩,_⟩:=x;exact dI e
 |vR i g=>obtain⟨_,_,_,e⟩:=x;exact dI e
 |fA j u=>obtain⟨e,_⟩:=x;exact dI e
 |zr l=>exact dI (show h.get? a=some _ from x)
 |tab q pos=>
  rcases x with e|⟨_,_,_,e,_⟩
  ·exact dI e
  ·exact dI e
 |met f y=>exact dI (show h.get? a=some _ from x)
 |ext m=>obtain⟨_,⟨_,e⟩,_⟩:=x;exact dI e
theorem Paired.ME(h:Paired F c d)(f:∀a b,F a b->G a b):Paired G c d:=by
 induction h with
 |nil=>exact .nil
 |cons r t i=>exact .cons (f _ _ r) i
theorem B8.gY(x:B8 P w H h a o)(k:∀b u,(b=a\/H b=some (.own a))->h.get? b=some u->h'.get? b=some u)
  (F:∀b,H b=some (.own a)->H' b=some (.own a))(K:∀b xs,H b=some (.tup xs)->H' b=some (.tup xs)):B8 P w H' h' a o:=by
 induction o with
 |lst xs=>obtain⟨z,m,n,r,e⟩:=x;exact⟨z,m,n,r,k _ _ (.inl rfl) e⟩
 |tup xs=>obtain⟨z,m,r,g,e,c⟩:=x;exact⟨⟨z.1,let⟨o,l,d⟩:=z.2;⟨o,k _ _ (.inl rfl) l,d⟩⟩,m,r,g,k _ _ (.inl rfl) e,c⟩
 |dK s=>obtain⟨z,y,E,r,g,j,i,e,c⟩:=x;exact⟨z,y,E,r,g,j,i,k _ _ (.inl rfl) e,c⟩
 |dT s=>
  obtain⟨z,y,xs,r,g,j,i,e,c⟩:=x;exact⟨z,y,xs,Paired.ME r λp q z=>⟨z.1,z.2.1.up K,z.2.2⟩,g,j,i,k _ _ (.inl rfl) e,c⟩
 |set S n=>obtain⟨g,j,i,t,e,c⟩:=x;exact⟨g,j,i,t,k _ _ (.inl rfl) e,c⟩
 |ins C Q fs=>
  obtain⟨d,z,B,e,A,⟨D,j,i,l,c⟩,r⟩:=x;exact⟨F _ d,z,B,k _ _ (.inl rfl) e,A,⟨D,j,i,k _ _ (.inr d) l,c⟩,r⟩
 |own y=>obtain⟨g,e⟩:=x;exact⟨g,k _ _ (.inl rfl) e⟩
 |xd fs=>obtain⟨A,⟨D,j,i,e,c⟩,r⟩:=x;exact⟨A,⟨D,j,i,k _ _ (.inl rfl) e,c⟩,r⟩
 |vR T R=>obtain⟨t,u,v,e⟩:=x;exact⟨t,u,v,k _ _ (.inl rfl) e⟩
 |fA g u L=>obtain⟨e,q⟩:=x;exact⟨k _ _ (.inl rfl) e,L q⟩
 |tab q pos=>
  rcases x with e|⟨c,d,B,e,O,M,E,N,l,J,r⟩
  ·exact .inl (k _ _ (.inl rfl) e)
  ·cases l;exact .inr ⟨c,F _ d,B,k _ _ (.inl rfl) e,c,M,E,N,rfl,k _ _ (.inr d) J,r⟩
 |zr G=>
  have e:h.get? a=some {cls:=.none,data:=.fields G}:=x;show h'.get? a=some {cls:=.none,data:=.fields G};exact k a _ (.inl rfl) e
 |met f y=>
  have e:h.get? a=some (W.methodObj (.ref f) (.ref y)):=x;show h'.get? a=some (W.methodObj (.ref f) (.ref y));exact k a _ (.inl rfl) e
 |ext U=>obtain⟨p,⟨o,e⟩,I⟩:=x;exact⟨I _ _ p λo q=>k _ _ (.inl rfl) q,⟨o,k _ _ (.inl rfl) e⟩,I⟩
theorem Fj.lt(x:Fj P w H h)(e:H a=some o):a<h.objs.size:=(x a o e).lt
theorem Fj.fresh(x:Fj P w H h)(e:h.objs.size<=a):H a=none:=by
 cases q:H a with
 |none=>rfl
 |some u=>exact absurd (fx (x.lt q) e) (Nat.lt_irrefl _)
theorem Fj.kept(x:Fj P w H h)(k:∀b u,h.get? b=some u->h'.get? b=some u):Fj P w H h':=λa o e=>
 (x a o e).gY (λb u _ q=>k b u q) (λ_ q=>q) λ_ _ q=>q
theorem Fj.laid(x:Fj P w H h)(k:∀b u,h.get? b=some u->h'.get? b=some u)(g:h.objs.size<=a)(new:B8 P w (upd H a o) h' a o):Fj P w (upd H a o) h':=λb u e=>by
 have f:=x.fresh g;by_cases d:b=a
 ·subst d;rw[A2]at e;cases e;exact new
 ·rw[A9 d]at e;exact(x b u e).gY (λc v _ q=>k c v q) (λc q=>by rw[A9 (Ag q f)];exact q) λc i q=>by rw[A9 (Ag q f)];exact q
end
def Rd(H:Hp)(a:Addr)(u:HO):Prop:=H a=some u\/∃o,H a=some (.fA o u)
theorem Rd.ok(r:Rd H a u)(x:Fj P w H h):B8 P w H h a u:=by
 rcases r with r|⟨o,r⟩
 ·exact x a u r
 ·obtain⟨_,q⟩:=x a _ r;exact q
def rl:Option HO->Prop
 |some (.lst _)=>True
 |some (.dK _)=>True
 |some (.dT _)=>True
 |some (.set _ _)=>True
 |some (.ins _ _ _)=>True
 |some (.ext _)=>True
 |some (.tab _ _)=>True
 |_=>False
section
variable {P:q7}{w:ro}{H:Hp}{h h':Heap}{x e:Addr}{o':HO}
theorem Fj.write(ok:Fj P w H h)(f:rl (H x))(he:e=x\/H e=some (.own x))(k:∀b u,b≠e->h.get? b=some u->h'.get? b=some u)(m:∃u,h'.get? e=some u)
  (new:B8 P w (upd H x o') h' x o'):Fj P w (upd H x o') h':=λb u q=>by
 have j:∀c y,H c=some (.own y)->c≠x:=λc y r z=>by subst z;rw[r]at f;exact f
 have n:∀c g,H c=some (.tup g)->c≠x:=λc g r z=>by subst z;rw[r]at f;exact f
 by_cases a:b=x
 ·subst a;rw[A2]at q;cases q;exact new
 ·rw[A9 a]at q;by_cases i:b=e
  ·have l:H b=some (.own x):=by
    rcases he with z|z
    ·exact absurd (i.trans z) a
    ·rw[i];exact z
   rw[q]at l;cases l;obtain⟨v,o⟩:=m;exact⟨v,by rw[i];exact o⟩
  ·refine(ok b u q).gY (λc v d r=>k c v ?_ r) (λc r=>by rw[A9 (j c b r)];exact r) λc g r=>by rw[A9 (n c g r)];exact r
   rcases d with rfl|d
   ·exact i
   ·rintro rfl;rcases he with z|z
    ·exact j c b d z
    ·rw[d]at z;cases z;exact a rfl
end
structure Un(fs ex:List Addr)(H H':Hp)(h h':Heap):Prop where
 keep:∀b o,h.get? b=some o->H b=none->b∉fs->b∉ex->h'.get? b=some o
 slot:∀b o,h.get? b=some o->H b=none->b∈fs->b∉ex->∃sl,h'.get? b=some {o with slots:=sl}
 free:∀b o,h.get? b=some o->H b=none->b∉ex->H' b=none
 there:∀b o,h.get? b=some o->b∉ex->∃o',h'.get? b=some o'
 iK:∀b xs,H b=some (.tup xs)->H' b=some (.tup xs)
 gQ:∀b o u,H b=some (.fA o u)->H' b=some (.fA o u)
 iL:∀b ps,H b=some (.zr ps)->∃more,H' b=some (.zr (ps++more))
section
variable {fs fs' ex ZC:List Addr}{H H1 H2:Hp}{h h1 h2 h':Heap}{a x e:Addr}{o:HO}
theorem Un.any(u:Un fs ex H H1 h h1)(q:h.get? b=some c)(n:H b=none)(f:b∉ex):∃g,h1.get? b=some {c with slots:=g}:=by
 by_cases d:b∈fs
 ·exact u.slot b c q n d f
 ·exact⟨c.slots,u.keep b c q n d f⟩
theorem Un.trans(a:Un fs ex H H1 h h1)(b:Un fs ex H1 H2 h1 h2):Un fs ex H H2 h h2 where
 keep:=λc f q n i d=>b.keep c f (a.keep c f q n i d) (a.free c f q n d) i d
 slot:=λc f q n i d=>by
  obtain⟨u,g⟩:=a.slot c f q n i d;obtain⟨p,l⟩:=b.slot c _ g (a.free c f q n d) i d;exact⟨p,l⟩
 free:=λc f q n d=>by
  obtain⟨m,g⟩:=a.there c f q d;exact b.free c m g (a.free c f q n d) d
 there:=λc f q d=>by
  obtain⟨m,g⟩:=a.there c f q d;exact b.there c m g d
 iK:=λc j q=>b.iK c j (a.iK c j q)
 gQ:=λc f j q=>b.gQ c f j (a.gQ c f j q)
 iL:=λc s q=>by
  obtain⟨m1,g⟩:=a.iL c s q;obtain⟨r,l⟩:=b.iL c _ g;exact⟨m1++r,by rw[l,Array.append_assoc]⟩
theorem Un.kept(k:∀b u,h.get? b=some u->h'.get? b=some u):Un fs ex H H h h':=
 ⟨λb c q _ _ _=>k b c q,λb c q _ _ _=>⟨c.slots,k b c q⟩,λ_ _ _ n _=>n,λb c q _=>⟨c,k b c q⟩,λ_ _ q=>q,λ_ _ _ q=>q,λ_ d q=>⟨#[],by rw[q];simp⟩⟩
theorem Un.refl:Un fs ex H H h h:=Un.kept λ_ _ q=>q
theorem Un.laid(k:∀b u,h.get? b=some u->h'.get? b=some u)(d:h.objs.size<=a)(c:H a=none):Un fs ex H (upd H a o) h h' where
 keep:=λb u q _ _ _=>k b u q
 slot:=λb u q _ _ _=>⟨u.slots,k b u q⟩
 free:=λb u q n _=>by rw[A9 (Nat.ne_of_lt (Nat.lt_of_lt_of_le (Heap.lt_size q) d))];exact n
 there:=λb u q _=>⟨u,k b u q⟩
 iK:=λb f q=>by rw[A9 (Ag q c)];exact q
 gQ:=λb u f q=>by rw[A9 (Ag q c)];exact q
 iL:=λb g q=>⟨#[],by rw[A9 (Ag q c),q];simp⟩
theorem Un.write(c:rl (H x))(he:e=x\/H e=some (.own x))(k:∀b u,b≠e->h.get? b=some u->h'.get? b=some u)(j:∃u,h'.get? e=some u):Un fs ex H (upd H x o) h h':=by
 have g:∀b,H b=none->b≠x:=λb n z=>by subst z;rw[n]at c;exact c
 have f:∀b,H b=none->b≠e:=λb n z=>by
  subst z;rcases he with r|r
  ·exact g b n r
  ·rw[n]at r;cases r
 have d:∀b u,H b=some u->¬rl (some u)->b≠x:=λb u q l z=>by subst z;rw[q]at c;exact l c
 refine⟨λb u q n _ _=>k b u (f b n) q,λb u q n _ _=>⟨u.slots,k b u (f b n) q⟩,λb u q n _=>by rw[A9 (g b n)];exact n,λb u q _=>?_,
  λb m q=>by rw[A9 (d b _ q λz=>z)];exact q,λb u m q=>by rw[A9 (d b _ q λz=>z)];exact q,λb p q=>⟨#[],by rw[A9 (d b _ q λz=>z),q];simp⟩⟩
 by_cases i:b=e
 ·subst i;exact j
 ·exact⟨u,k b u i q⟩
end
def wq(h:Heap)(H:Hp):List Addr:=(List.range h.objs.size).filter λa=>(H a).isSome
def Mu(h:Heap)(H:Hp):Heap:=W.hideAll h (wq h H)
theorem Wa(h:Heap)(H:Hp):(Mu h H).objs.size=h.objs.size:=W.hideAll_size _ _
theorem Yd(e:h.get? b=some o)(n:H b=none):(Mu h H).get? b=some o:=
 W.hideAll_get _ e λa=>by
  have q:(H b).isSome=true:=(pa.mp a).2;rw[n]at q;simp at q
theorem g9(e:(Mu h H).get? b=some o):h.get? b=some o/\H b=none:=by
 have a:h.get? b=some o:=W.of_hideAll (wq h H) e;refine⟨a,?_⟩;cases q:H b with
 |none=>rfl
 |some x=>
  have c:b∈wq h H:=pa.mpr ⟨oP.mpr (dI a),by simp[q]⟩;have z:(Mu h H).get? b=none:=W.hideAll_none (wq h H) c;rw[z]at e;cases e
def G6(g h:Heap)(L:Addr):List (Addr×Obj):=(List.range h.objs.size).filterMap λa=>if a=L\/(g.get? a).isSome=true then none else(h.get? a).map λo=>(a,o)
theorem K1(h1:a≠L)(c:g.get? a=none)(b:h.get? a=some o):(a,o)∈G6 g h L:=
 List.mem_filterMap.mpr ⟨a,oP.mpr (dI b),by simp[h1,c,b]⟩
theorem M0(c:p∈G6 g h L):p.1≠L/\g.get? p.1=none/\h.get? p.1=some p.2:=by
 obtain⟨b,_,e⟩:=List.mem_filterMap.mp c;split at e
 ·cases e
 ·rename_i a;cases q:h.get? b with
  |none=>rw[q]at e;simp at e
  |some u=>
   rw[q]at e;simp only[Option.map_some,Option.some.injEq]at e;subst e;refine⟨λz=>a (.inl z),?_,q⟩;show g.get? b=none;cases r:g.get? b with
   |none=>rfl
   |some v=>exact(a (.inr (by simp[r]))).elim
theorem Yw:News g L h (G6 g h L):=λp d=>let⟨a,b,c⟩:=M0 d;⟨c,a,b⟩
structure Mod(K:W.Frag)(mg:Str->Option q5)(base:Heap):Prop where
 fB:K.In base
 glob:base.Ns mainGlobals mg
 blt:∃mb,base.Ns builtinsNs mb/\∀x:Str,x≠"__name__"->mb x=bootBuiltins x
 nolimit:base.NoLimit
set_option genInjectivity false in
set_option genSizeOf false in
structure Cx where
 prog:q7
 w:ro
 K:W.Frag
 mg:Str->Option q5
 base:Heap
 A:rd
 N:List Str
 s₀:q4
 H₀:Hp
 env:Env
 outer:List Env
 stack:List Env
 ex:List Addr
 fn:Str->Bool
 calm:Bool
 pn:List (Addr×Obj)
 xe:pP
def jR(l:List Env):List Addr:=l.filterMap (·.frame)
abbrev Cx.fs(X:Cx):List Addr:=jR X.outer
def sf(a:Scope)(x:Str):Prop:=a.names.lookup x=some .local\/a.names.lookup x=some .cell\/a.names.lookup x=some .free
def rk(a:Scope)(x:Str):Prop:=a.names.lookup x=some .local\/a.names.lookup x=some .cell
def xg(env:Env)(h:Heap)(m:Str->Option q5)(x:Str)(u:q5):Prop:=
 (env.kindOf x=some .local/\m x=some u)\/((env.kindOf x=some .cell\/env.kindOf x=some .free)/\∃c,env.cells.lookup x=some c/\h.IsCell c (some u))
structure Cx.Ok(X:Cx):Prop where
 mod:Mod X.K X.mg X.base
 kind:X.env.scope.kind=.function
 glob:X.env.globals=mainGlobals
 blt:X.env.builtins=builtinsNs
 above:X.s₀.heap.objs.size<=X.env.locals
 inj:∀x y c,X.env.cells.lookup x=some c->X.env.cells.lookup y=some c->x=y
 has:∀x,(X.env.kindOf x=some .cell\/X.env.kindOf x=some .free)->∃c,X.env.cells.lookup x=some c
 FG:∀x c,X.fn x=true->X.env.cells.lookup x=some c->X.s₀.heap.objs.size<=c
 hd:X.calm=true->X.A.handled=none
 frames:X.A.frames=some X.stack
 LI:X.stack=X.outer\/(X.stack=X.env::X.outer/\X.env.frame=some X.env.locals)
 MH:∀b∈X.ex,b≠X.env.locals/\∀x c,X.env.cells.lookup x=some c->c≠b
 bs:∀b o,X.base.get? b=some o->X.s₀.heap.get? b=some o/\X.H₀ b=none
 vS:X.base.objs.size<=X.s₀.heap.objs.size
 rA:∀b o,X.base.get? b=some o->b∉X.ex
 rB:∀b∈X.ex,b∉X.fs
 iM:X.s₀.heap.FunFrames X.base X.outer
 zL:∀b∈X.fs,X.H₀ b=none
structure Ak(X:Cx)(pins:List (Addr×Obj))(σ:List (Option V))(H:Hp)(s:q4):Prop where
 ok:X.Ok
 os:s.os=X.s₀.os
 bare:AllBare s.gens
 base:Un X.fs X.ex X.H₀ H X.s₀.heap s.heap
 loc:∃m,s.heap.Ns X.env.locals m/\∀(i:Nat) (x:Str) (v:V),X.N[i]?=some x->σ[i]?=some (some v)->sf X.env.scope x->∃u,Aw v u/\xg X.env s.heap m x u
 cell:∀x c,X.env.cells.lookup x=some c->∃v,s.heap.IsCell c v
 free:H X.env.locals=none
 cA:∀x c,X.env.cells.lookup x=some c->H c=none
 pin:∀p∈X.pn++pins,s.heap.get? p.1=some p.2/\H p.1=none/\p.1≠X.env.locals/\p.1∉X.fs/\∀v,p.2.data≠ .cell v
 aP:Fj X.prog X.w H s.heap
 len:σ.length=X.N.length
section
variable {X:Cx}{pins:List (Addr×Obj)}{σ:List (Option V)}{H H':Hp}{s:q4}{h':Heap}
theorem Cx.Ok.ZD(ok:X.Ok){b:Addr}{o:Obj}(e:X.base.get? b=some o):b∉X.fs:=λa=>by
 have:=(ok.iM.mem a).1;rw[e]at this;cases this
theorem Ak.bs(I:Ak X pins σ H s):∀b o,X.base.get? b=some o->s.heap.get? b=some o/\H b=none:=λb o e=>
 ⟨I.base.keep b o (I.ok.bs b o e).1 (I.ok.bs b o e).2 (I.ok.ZD e) (I.ok.rA b o e),I.base.free b o (I.ok.bs b o e).1 (I.ok.bs b o e).2 (I.ok.rA b o e)⟩
theorem Ak.bk(I:Ak X pins σ H s):∀b o,X.base.get? b=some o->s.heap.get? b=some o:=λb o e=>(I.bs b o e).1
theorem Ak.mod(I:Ak X pins σ H s):Mod X.K X.mg X.base:=I.ok.mod
theorem Ak.iG(I:Ak X pins σ H s):X.K.In s.heap:=I.ok.mod.fB.keeps I.bk
theorem Ak.lt(I:Ak X pins σ H s):X.env.locals<s.heap.objs.size:=let⟨_,a,_⟩:=I.loc;a.lt
theorem Ak.sz(I:Ak X pins σ H s):X.s₀.heap.objs.size<=s.heap.objs.size:=en I.ok.above (nX I.lt)
theorem Ak.ZE(I:Ak X pins σ H s)(h:s.heap.objs.size<=a):a∉X.fs:=λb=>by
 obtain⟨_,o,c,_⟩:=I.ok.iM.mem b;exact absurd (fx (dI c) (en I.sz h)) (Nat.lt_irrefl _)
theorem Ak.zM(I:Ak X pins σ H s):∀x c,X.env.cells.lookup x=some c->c≠X.env.locals:=λx c e z=>by
 obtain⟨v,o,b,a⟩:=I.cell x c e;obtain⟨m,⟨i,h,g,f,d,_⟩,_⟩:=I.loc;rw[z,f]at b;cases b;rw[d]at a;cases a
theorem Ak.iM(I:Ak X pins σ H s):s.heap.FunFrames X.base X.outer:=by
 have all:∀(l:List Env),(∀b∈jR l,b∈X.fs)->X.s₀.heap.FunFrames X.base l->s.heap.FunFrames X.base l:=by
  intro l
  induction l with
  |nil=>intro _ _;trivial
  |cons g r q=>
   intro f j;obtain⟨i,⟨L,o,d,m,n,h⟩,p⟩:=j;have a:L∈X.fs:=f L (by unfold jR;rw[List.filterMap_cons,d];exact dm);obtain⟨u,e⟩:=I.base.slot L o n (I.ok.zL L a) a λz=>I.ok.rB L z a;exact⟨i,⟨L,_,d,m,e,h⟩,q (λb c=>f b (by unfold jR;rw[List.filterMap_cons,d];exact d3 _ c)) p⟩
 exact all X.outer (λ_ c=>c) I.ok.iM
theorem Ak.stack(I:Ak X pins σ H s):s.heap.FunFrames X.base X.stack:=by
 rcases I.ok.LI with e|⟨e,a⟩
 ·rw[e];exact I.iM
 ·rw[e];obtain⟨m,b,_⟩:=I.loc;refine .cons (by rw[I.ok.kind];decide) a b ?_ I.iM;exact Heap.get?_none_of_le (en I.ok.vS I.ok.above)
theorem Ak.rC(I:Ak X pins σ H s):∀b∈jR X.stack,b∈X.env.locals::X.fs:=λb a=>by
 rcases I.ok.LI with e|⟨e,c⟩
 ·rw[e]at a;exact d3 _ a
 ·rw[e]at a;unfold jR at a;rw[List.filterMap_cons,c]at a;exact a
theorem Ak.gM(I:Ak X pins σ H s):∀b∈jR X.stack,H b=none:=λb a=>by
 rcases eu.mp (I.rC b a)with e|a
 ·rw[e];exact I.free
 ·obtain⟨_,o,c,_⟩:=I.ok.iM.mem a;exact I.base.free b o c (I.ok.zL b a) λz=>I.ok.rB b z a
theorem Ak.step{g':Array GenState}{t':Nat}{d':Drawn}{ch:List Addr}(I:Ak X pins σ H s)
  (C:∀b∈ch,(b∈X.ex\/X.s₀.heap.objs.size<=b)/\b≠X.env.locals/\(∀x c,X.env.cells.lookup x=some c->c≠b)/\∀p∈X.pn++pins,p.1≠b)
  (keep:∀b o,b≠X.env.locals->b∉X.fs->b∉ch->s.heap.get? b=some o->H b=none->h'.get? b=some o)
  (h:∀b o,b≠X.env.locals->b∈X.fs->b∉ch->s.heap.get? b=some o->H b=none->∃G,h'.get? b=some {o with slots:=G})(free:∀b o,b∉ch->s.heap.get? b=some o->H b=none->H' b=none)
  (w:∀b o,b∉ch->s.heap.get? b=some o->∃D,h'.get? b=some D)
  (Y:∀b xs,H b=some (.tup xs)->H' b=some (.tup xs))(R:∀b o u,H b=some (.fA o u)->H' b=some (.fA o u))(Z:∀b ps,H b=some (.zr ps)->∃more,H' b=some (.zr (ps++more)))
  (ns:∀m,s.heap.Ns X.env.locals m->h'.Ns X.env.locals m)(P:Fj X.prog X.w H' h')(S:AllBare g'):
  Ak X pins σ H' {s with heap:=h',gens:=g',drawn:=d',toks:=t'}:=by
 have J:∀b o,X.s₀.heap.get? b=some o->b≠X.env.locals:=λb o e=>eI (fx (dI e) I.ok.above)
 have E:∀b o,X.s₀.heap.get? b=some o->b∉X.ex->b∉ch:=λb o e a j=>by
  rcases(C b j).1 with z|z
  ·exact a z
  ·exact absurd (fx (dI e) z) (Nat.lt_irrefl _)
 have f:∀x c,X.env.cells.lookup x=some c->∀v,s.heap.IsCell c v->h'.IsCell c v:=λx c e v ⟨o,y,F⟩=>by
  have A:c∉ch:=λz=>(C c z).2.2.1 x c e rfl;by_cases K:c∈X.fs
  ·obtain⟨G,q⟩:=h c o (I.zM x c e) K A y (I.cA x c e);exact⟨_,q,F⟩
  ·exact⟨o,keep c o (I.zM x c e) K A y (I.cA x c e),F⟩
 refine⟨I.ok,I.os,S,⟨λb o e n j a=>?_,λb o e n j a=>?_,λb o e n a=>?_,λb o e a=>?_,λb xs e=>Y b xs (I.base.iK b xs e),λb o xs e=>R b o xs (I.base.gQ b o xs e),λb ps e=>?_⟩,?_,λx c e=>?_,?_,λx c e=>?_,λp L=>?_,P,I.len⟩
 ·exact keep b o (J b o e) j (E b o e a) (I.base.keep b o e n j a) (I.base.free b o e n a)
 ·obtain⟨G,g⟩:=I.base.slot b o e n j a;obtain⟨O,B⟩:=h b _ (J b o e) j (E b o e a) g (I.base.free b o e n a);exact⟨O,B⟩
 ·obtain⟨D,g⟩:=I.base.there b o e a;exact free b D (E b o e a) g (I.base.free b o e n a)
 ·obtain⟨D,g⟩:=I.base.there b o e a;exact w b D (E b o e a) g
 ·obtain⟨m1,g⟩:=I.base.iL b ps e;obtain⟨m2,B⟩:=Z b _ g;exact⟨m1++m2,by rw[B,Array.append_assoc]⟩
 ·obtain⟨m,U,T⟩:=I.loc;refine⟨m,ns m U,λi x v g B Q=>?_⟩;obtain⟨u,r,l⟩:=T i x v g B Q;refine⟨u,r,?_⟩;rcases l with l|⟨k,c,e,z⟩
  ·exact .inl l
  ·exact .inr ⟨k,c,e,f x c e _ z⟩
 ·obtain⟨v,z⟩:=I.cell x c e;exact⟨v,f x c e v z⟩
 ·obtain⟨m,⟨o,_,_,y,_⟩,_⟩:=I.loc;exact free _ o (λz=>(C _ z).2.1 rfl) y I.free
 ·obtain⟨v,o,y,F⟩:=I.cell x c e;exact free c o (λz=>(C c z).2.2.1 x c e rfl) y (I.cA x c e)
 ·obtain⟨e,n,M,N,d⟩:=I.pin p L;have A:p.1∉ch:=λz=>(C p.1 z).2.2.2 p L rfl;exact⟨keep p.1 p.2 M N A e n,free p.1 p.2 A e n,M,N,d⟩
theorem Ak.un{t':Nat}(I:Ak X pins σ H s)(u:Un X.fs [] H H' s.heap h')(f:Fj X.prog X.w H' h'):Ak X pins σ H' {s with heap:=h',toks:=t'}:=by
 obtain⟨m,⟨o,q,p,c,r⟩,_⟩:=id I.loc;obtain⟨x,g⟩:=u.any c I.free (by simp)
 exact I.step (g':=s.gens) (d':=s.drawn) (ch:=[]) (λ_ z=>nomatch z) (λb o _ a _ e n=>u.keep b o e n a (by simp)) (λb o _ a _ e n=>u.slot b o e n a (by simp)) (λb o _ e n=>u.free b o e n (by simp)) (λb o _ e=>u.there b o e (by simp)) u.iK u.gQ u.iL (λv h=>by
  obtain⟨w,l,j,d,i⟩:=h;rw[c]at d;cases d;exact⟨_,l,j,g,i⟩) f I.bare
theorem Ak.call{g':Array GenState}{t':Nat}{d':Drawn}{ch:List Addr}(I:Ak X pins σ H s)(u:Un (jR X.stack) ch H H' s.heap h')(i:Fj X.prog X.w H' h')(l:AllBare g')
  (f:∀b∈ch,(b∈X.ex\/X.s₀.heap.objs.size<=b)/\b≠X.env.locals/\(∀x c,X.env.cells.lookup x=some c->c≠b)/\∀p∈X.pn++pins,p.1≠b):
  Ak X pins σ H' {s with heap:=h',gens:=g',drawn:=d',toks:=t'}:=by
 obtain⟨m,⟨o,B,A,g,r⟩,_⟩:=id I.loc;obtain⟨E,d⟩:=u.any g I.free λz=>(f _ z).2.1 rfl
 exact I.step (ch:=ch) f (λb o d j a e n=>u.keep b o e n (λz=>(eu.mp (I.rC b z)).elim d j) a) (λb o _ _ a e n=>u.any e n a) (λb o a e n=>u.free b o e n a) (λb o a e=>u.there b o e a) u.iK u.gQ u.iL (λC q=>by
  obtain⟨D,y,w,h,v⟩:=q;rw[g]at h;cases h;exact⟨_,y,w,d,v⟩) i l
theorem Ak.turned{t':Nat}{it:Addr}(I:Ak X pins σ H s)(k:∀b o,b≠it->s.heap.get? b=some o->h'.get? b=some o)(y:H it=none)(f:it≠X.env.locals)
  (h1:it∈X.ex\/X.s₀.heap.objs.size<=it)(i:∀x c,X.env.cells.lookup x=some c->c≠it)(j:∀p∈X.pn++pins,p.1≠it):Ak X pins σ H {s with heap:=h',toks:=t'}:=by
 have d:∀b u,H b=some u->b≠it:=λb u e z=>by rw[z,y]at e;cases e
 refine I.step (g':=s.gens) (d':=s.drawn) (ch:=[it]) (λb l=>?_) (λb o _ _ a e _=>k b o (λz=>a (by simp[z])) e) (λb o _ _ a e _=>⟨o.slots,k b o (λz=>a (by simp[z])) e⟩) (λ_ _ _ _ n=>n)
  (λb o a e=>⟨o,k b o (λz=>a (by simp[z])) e⟩) (λ_ _ e=>e) (λ_ _ _ e=>e) (λb B e=>⟨#[],by rw[e];simp⟩) (λm w=>?_) (λb u e=>?_) I.bare
 ·have e:b=it:=by simpa using l
  subst e;exact⟨h1,f,i,j⟩
 ·obtain⟨o,h,g,A,r⟩:=w;exact⟨o,h,g,k _ o (Ne.symm f) A,r⟩
 ·refine(I.aP b u e).gY (λc v a q=>k c v ?_ q) (λ_ q=>q) λ_ _ q=>q;rcases a with z|z
  ·rw[z];exact d b u e
  ·exact d c _ z
theorem Ak.tok(I:Ak X pins σ H s)(t:Nat):Ak X pins σ H {s with toks:=t}:=I.un (h':=s.heap) (t':=t) Un.refl I.aP
theorem Ak.kept{t':Nat}(I:Ak X pins σ H s)(k:∀b u,s.heap.get? b=some u->h'.get? b=some u):Ak X pins σ H {s with heap:=h',toks:=t'}:=I.un (Un.kept k) (I.aP.kept k)
theorem Ak.laid{t':Nat}(I:Ak X pins σ H s)(k:∀b u,s.heap.get? b=some u->h'.get? b=some u)(c:s.heap.objs.size<=a)(new:B8 X.prog X.w (upd H a o) h' a o):
  Ak X pins σ (upd H a o) {s with heap:=h',toks:=t'}:=I.un (Un.laid k c (I.aP.fresh c)) (I.aP.laid k c new)
theorem Ak.write{t':Nat}(I:Ak X pins σ H s)(c:rl (H x))(he:e=x\/H e=some (.own x))(k:∀b u,b≠e->s.heap.get? b=some u->h'.get? b=some u)(a:∃u,h'.get? e=some u)
  (new:B8 X.prog X.w (upd H x o) h' x o):Ak X pins σ (upd H x o) {s with heap:=h',toks:=t'}:=I.un (Un.write c he k a) (I.aP.write c he k a new)
theorem Ak.weak(I:Ak X pins σ H s)(f:a.length=σ.length)(w:∀(i:Nat) v,a[i]?=some (some v)->σ[i]?=some (some v)):Ak X pins a H s:=
 ⟨I.ok,I.os,I.bare,I.base,let⟨m,g,b⟩:=I.loc;⟨m,g,λi x v c d e=>b i x v c (w i v d) e⟩,I.cell,I.free,I.cA,I.pin,I.aP,f.trans I.len⟩
theorem Ak.tE(I:Ak X pins σ H s)(h:∀p∈a,s.heap.get? p.1=some p.2/\H p.1=none/\p.1≠X.env.locals/\p.1∉X.fs/\∀v,p.2.data≠ .cell v):Ak X a σ H s:=
 ⟨I.ok,I.os,I.bare,I.base,I.loc,I.cell,I.free,I.cA,λp b=>(fy.mp b).elim (λz=>I.pin p (gv _ z)) (h p),I.aP,I.len⟩
theorem Lz{N:List Str}(e:N.Nodup){i j:Nat}{x:Str}(a:N[i]?=some x)(b:N[j]?=some x):i=j:=by
 obtain⟨f,c⟩:=bt.mp a;obtain⟨g,d⟩:=bt.mp b;exact(List.getElem_inj e).mp (c.trans d.symm)
theorem O5{M:Model}{A:rd}{E:pP}{i:Nat}{x:Str}{v:V}{u:q5}{Q:Unit->q4->Prop}(I:Ak X pins σ H s)(hN:X.N.Nodup)(hi:X.N[i]?=some x)(B:rk X.env.scope x)(r:Aw v u)
  (h:∀s',Ak X pins (σ.set i (some v)) H s'->(∃a,Heap.SameBut a s.heap s'.heap/\(a=X.env.locals\/X.env.cells.lookup x=some a))->Q () s')(hf:X.fn x=true\/X.env.scope.names.lookup x=some .local:=by first|exact .inl rfl|exact .inr rfl|assumption):wpAny M A (storeName X.env x u) Q E s:=by
 obtain⟨m,R,hl⟩:=id I.loc;have ZF:(X.env.scope.kind== .class||(X.env.scope.kind== .module&&X.env.locals != X.env.globals))=false:=by rw[I.ok.kind];rfl
 have D:i<σ.length:=by rw[I.len];exact(bt.mp hi).1
 have zM:=I.zM
 have l:∀{a:Addr}{h':Heap},(∃o,s.heap.get? a=some o/\H a=none)->Heap.SameBut a s.heap h'->Fj X.prog X.w H h':=λ{a h'} ha f b ob e=>by
  obtain⟨_,_,mX⟩:=ha;refine(I.aP b ob e).gY (λc N w q=>(f.2 c ?_).trans q) (λ_ q=>q) λ_ _ q=>q;rintro rfl;rcases w with rfl|w
  ·rw[mX]at e;cases e
  ·rw[mX]at w;cases w
 rcases B with F|F
 ·refine wpAny_storeName_local F R (λh' ZG f=>?_) ZF;obtain⟨oL,_,_,vU,_⟩:=id R;refine h _ ⟨I.ok,I.os,I.bare,⟨λb o e n G B=>?_,λb o e n G B=>?_,I.base.free,λb o e B=>?_,I.base.iK,I.base.gQ,I.base.iL⟩,⟨_,ZG,λj y v' g C P=>?_⟩,λy c e=>?_,I.free,I.cA,λp S=>?_,l ⟨oL,vU,I.free⟩ f,by simpa using I.len⟩ ⟨_,f,.inl rfl⟩
  ·exact(f.2 b (eI (fx (dI e) I.ok.above))).trans (I.base.keep b o e n G B)
  ·obtain⟨Z,g⟩:=I.base.slot b o e n G B;exact⟨Z,(f.2 b (eI (fx (dI e) I.ok.above))).trans g⟩
  ·obtain⟨U,g⟩:=I.base.there b o e B;exact⟨U,(f.2 b (eI (fx (dI e) I.ok.above))).trans g⟩
  ·by_cases J:j=i
   ·subst J;rw[hi]at g;cases g;rw[List.getElem?_set_self D]at C;cases C;exact⟨u,r,.inl ⟨F,by simp⟩⟩
   ·rw[List.getElem?_set_ne (Ne.symm J)]at C;obtain⟨u',Y,q⟩:=hl j y v' g C P;refine⟨u',Y,?_⟩;rcases q with⟨k,e⟩|⟨k,c,e,z⟩
    ·refine .inl ⟨k,?_⟩;have:y≠x:=λe=>J (Lz hN g (e▸hi));simp[this,e]
    ·exact .inr ⟨k,c,e,z.sameBut f (zM y c e)⟩
  ·obtain⟨N,z⟩:=I.cell y c e;exact⟨N,z.sameBut f (zM y c e)⟩
  ·obtain⟨e,n,L,T,d⟩:=I.pin p S;exact⟨(f.2 p.1 L).trans e,n,L,T,d⟩
 ·have O:X.fn x=true:=by
   rcases hf with z|z
   ·exact z
   ·rw[z]at F;cases F
  obtain⟨c,w⟩:=I.ok.has x (.inl F);obtain⟨N,z⟩:=I.cell x c w;refine wpAny_storeName_cell I.ok.kind F w z (λh' nH f=>?_);obtain⟨oc,vW,ZH⟩:=id z;refine h {s with heap:=h'} ⟨I.ok,I.os,I.bare,⟨λb o e n G B=>?_,λb o e n G B=>?_,I.base.free,λb o e B=>?_,I.base.iK,I.base.gQ,I.base.iL⟩,⟨m,R.sameBut f (Ne.symm (zM x c w)),λj y v' g C P=>?_⟩,λy K e=>?_,I.free,I.cA,λp S=>?_,l ⟨oc,vW,I.cA x c w⟩ f,by simpa using I.len⟩ ⟨c,f,.inr w⟩
  ·exact(f.2 b (eI (fx (dI e) (I.ok.FG x c O w)))).trans (I.base.keep b o e n G B)
  ·obtain⟨Z,g⟩:=I.base.slot b o e n G B;exact⟨Z,(f.2 b (eI (fx (dI e) (I.ok.FG x c O w)))).trans g⟩
  ·obtain⟨U,g⟩:=I.base.there b o e B;exact⟨U,(f.2 b (eI (fx (dI e) (I.ok.FG x c O w)))).trans g⟩
  ·by_cases J:j=i
   ·subst J;rw[hi]at g;cases g;rw[List.getElem?_set_self D]at C;cases C;exact⟨u,r,.inr ⟨.inl F,c,w,nH⟩⟩
   ·rw[List.getElem?_set_ne (Ne.symm J)]at C;obtain⟨u',Y,q⟩:=hl j y v' g C P;refine⟨u',Y,?_⟩;rcases q with q|⟨k,K,e,z'⟩
    ·exact .inl q
    ·refine .inr ⟨k,K,e,z'.sameBut f ?_⟩;rintro rfl;exact J (Lz hN g (I.ok.inj _ _ _ e w▸hi))
  ·by_cases MK:K=c
   ·subst MK;exact⟨_,nH⟩
   ·obtain⟨w2,z2⟩:=I.cell y K e;exact⟨w2,z2.sameBut f MK⟩
  ·obtain⟨e,n,L,T,d⟩:=I.pin p S;refine⟨(f.2 p.1 ?_).trans e,n,L,T,d⟩;intro q;rw[q,vW]at e;have q':oc=p.2:=eo e;exact d N (by rw[<- q'];exact ZH)
theorem Il(I:Ak X pins σ H s)(b:X.N.Nodup)(hi:X.N[i]?=some x)(d:rk X.env.scope x)(r:Aw v u)
  (h:∀s',Ak X pins (σ.set i (some v)) H s'->Q () s')(c:X.fn x=true\/X.env.scope.names.lookup x=some .local:=by first|exact .inl rfl|exact .inr rfl|assumption):wpAny M A (storeName X.env x u) Q E s:=
 O5 I b hi d r (λs' a _=>h s' a) c
theorem Ak.BI(I:Ak X pins σ H s)(i:s'.os=s.os)(u:Un (jR X.stack) ch H H' s.heap s'.heap)(a:Fj X.prog X.w H' s'.heap)(h:AllBare s'.gens)
  (g:∀b∈ch,(b∈X.ex\/X.s₀.heap.objs.size<=b)/\b≠X.env.locals/\(∀x c,X.env.cells.lookup x=some c->c≠b)/\∀p∈X.pn++pins,p.1≠b):Ak X pins σ H' s':=by
 obtain⟨h',f,d,l,j⟩:=s';have e:j=s.os:=i;subst e;exact I.call (g':=f) (t':=l) (d':=d) u a h g
end
abbrev XK:=q5->Option Addr->Hp->Prop
abbrev St:=List (Option V)
abbrev VK:=V->Hp->Prop
abbrev TE:=St->Hp->VK->Prop
abbrev TT:=St->Hp->(Bool->Hp->Prop)->Prop
abbrev TA:=St->Hp->(List V->Hp->Prop)->Prop
set_option genInjectivity false in
set_option genSizeOf false in
structure Hj where
 nx:St->Hp->Prop
 rt:VK
 bk:St->Hp->Prop:=λ_ _=>False
 ct:St->Hp->Prop:=λ_ _=>False
abbrev TS:=Hj->St->Hp->Prop
def EP(X:Cx)(a:List (Addr×Obj))(c:St)(Q:VK)(u:q5)(s':q4):Prop:=∃v b,Ak X a c b s'/\Aw v u/\Q v b
def TP(X:Cx)(a:List (Addr×Obj))(d:St)(Q:Bool->Hp->Prop)(b:Bool)(s':q4):Prop:=∃c,Ak X a d c s'/\Q b c
def AP(X:Cx)(a:List (Addr×Obj))(d:St)(Q:List V->Hp->Prop)(us:List q5)(s':q4):Prop:=∃c b,Ak X a d b s'/\As c us/\Q c b
def SP(X:Cx)(b:List (Addr×Obj))(D:Hj)(f:Flow)(s':q4):Prop:=
 match f with
 | .next=>∃a c,Ak X b a c s'/\D.nx a c
 | .brk=>∃a c,Ak X b a c s'/\D.bk a c
 | .cont=>∃a c,Ak X b a c s'/\D.ct a c
 | .ret u=>∃v a c,Ak X b a c s'/\Aw v u/\D.rt v c
def PE(X:Cx)(e:Expr)(t:TE):Prop:=
 ∀(a:List (Addr×Obj)) (s:q4) (b:St) (H:Hp) (Q:VK),Ak X a b H s->t b H Q->wpAny (model X.prog X.w) X.A (eval e X.env) (EP X a b Q) X.xe s
def PT(X:Cx)(e:Expr)(t:TT):Prop:=
 ∀(a:List (Addr×Obj)) (s:q4) (b:St) (H:Hp) (Q:Bool->Hp->Prop),Ak X a b H s->t b H Q->wpAny (model X.prog X.w) X.A (isTrue e X.env (eval e X.env)) (TP X a b Q) X.xe s
def PW(X:Cx)(e:Expr)(t:TT):Prop:=
 ∀(b:Sem q5) (a:List (Addr×Obj)) (s:q4) (c:St) (H:Hp) (Q:Bool->Hp->Prop),Ak X a c H s->t c H Q->wpAny (model X.prog X.w) X.A (isTrue e X.env b) (TP X a c Q) X.xe s
theorem PW.pt{t:TT}(h:PW X e t):PT X e t:=h _
def PA(X:Cx)(es:List Expr)(t:TA):Prop:=
 ∀(pos:Pos) (a:List (Addr×Obj)) (s:q4) (b:St) (H:Hp) (Q:List V->Hp->Prop),Ak X a b H s->t b H Q->wpAny (model X.prog X.w) X.A (spliced (backTo pos (starEach es X.env))) (AP X a b Q) X.xe s
def PS(X:Cx)(st:Stmt)(t:TS):Prop:=
 ∀(a:List (Addr×Obj)) (s:q4) (b:St) (H:Hp) (D:Hj),Ak X a b H s->t D b H->wpAny (model X.prog X.w) X.A (exec st X.env) (SP X a D) X.xe s
def Mo(X:Cx)(st:List Stmt)(t:TS):Prop:=
 ∀(a:List (Addr×Obj)) (s:q4) (b:St) (H:Hp) (D:Hj),Ak X a b H s->t D b H->wpAny (model X.prog X.w) X.A (execs st X.env) (SP X a D) X.xe s
theorem Bh{t:Sem c}(h:wpAny M A t Q E s)(d:∀a s,Q a s->b a s):wpAny M A t b E s:=hH h d λ_ _ x=>x
section
variable {X:Cx}
def wa(i:Nat):TE:=λa H Q=>∃v,a[i]?=some (some v)/\Q v H
def tC(v:V):TE:=λ_ H Q=>Q v H
theorem o7{pos:Pos}(j:X.N[i]?=some x)(q:sf X.env.scope x)(hd:(x==("__debug__":Str))=false:=by decide)(w:(x==("__classdict__":Str))=false:=by decide):PE X (.Name x pos) (wa i):=by
 intro d s y H Q I h;obtain⟨v,e,h⟩:=h;obtain⟨m,p,n⟩:=I.loc;obtain⟨u,r,l⟩:=n i x v j e q;have a:EP X d y Q u s:=⟨v,H,I,r,h⟩;rcases l with⟨b,o⟩|⟨b,c,f,g⟩
 ·exact wpAny_Name (wpAny_loadName_local I.ok.kind b p o a) hd
 ·rcases b with b|b
  ·exact wpAny_Name (wpAny_loadName_cell I.ok.kind b f g a) hd
  ·exact wpAny_Name (wpAny_loadName_free I.ok.kind b f g a w) hd
theorem A5{i j pos}:PE X (.Constant (.int i) j pos) (tC (.int i)):=λ_ _ _ H _ I h=>wpAny_Constant_int ⟨.int i,H,I.tok _,⟨_,rfl⟩,h⟩
theorem Gs{b j pos}:PE X (.Constant (.bool b) j pos) (tC (.bl b)):=λ_ _ _ H _ I h=>Constant_bool ⟨.bl b,H,I,rfl,h⟩
theorem Cd{j pos}:PE X (.Constant .none j pos) (tC .aX):=λ_ _ _ H _ I h=>Constant_none ⟨.aX,H,I,rfl,h⟩
theorem Ae{x j pos}:PE X (.Constant (.str x) j pos) (tC (.str x)):=λ_ _ _ H _ I h=>Calls.Constant_str ⟨.str x,H,I.tok _,⟨_,rfl⟩,h⟩
def Gl(X:Cx)(x:Str):Prop:=X.env.kindOf x=some .globalImplicit
theorem Hv{pos:Pos}(I:Ak X a d H s)(b:Gl X x)(c:X.mg x=some u)(h:Q u s)
  (hd:(x==("__debug__":Str))=false:=by decide):wpAny (model X.prog X.w) X.A (eval (.Name x pos) X.env) Q E s:=
 Calls.Name_function_global I.ok.kind b (Calls.loadGlobal_global (by rw[I.ok.glob];exact I.mod.glob.keeps I.bk) c h) hd
theorem Eo{pos:Pos}(I:Ak X a i H s)(d:Gl X x)(e:X.mg x=none)(g:bootBuiltins x=some u)(h:Q u s)
  (f:x≠"__name__":=by decide)(hd:(x==("__debug__":Str))=false:=by decide):wpAny (model X.prog X.w) X.A (eval (.Name x pos) X.env) Q E s:=by
 obtain⟨j,b,c⟩:=I.mod.blt;exact Calls.Name_function_global I.ok.kind d (Calls.loadGlobal_builtin (by rw[I.ok.glob];exact I.mod.glob.keeps I.bk) e (by rw[I.ok.blt];exact b.keeps I.bk) ((c x f).trans g) h) hd
theorem Bv{pos:Pos}(a:Gl X x)(b:X.mg x=some u)(r:Aw v u)(hd:(x==("__debug__":Str))=false:=by decide):PE X (.Name x pos) (tC v):=
 λ_ _ _ H _ I h=>Hv I a b ⟨v,H,I,r,h⟩ hd
theorem gk{pos:Pos}(a:Gl X x)(b:X.mg x=none)(d:bootBuiltins x=some u)(r:Aw v u)(c:x≠"__name__":=by decide)(hd:(x==("__debug__":Str))=false:=by decide):PE X (.Name x pos) (tC v):=
 λ_ _ _ H _ I h=>Eo I a b d ⟨v,H,I,r,h⟩ c hd
variable {a b:Expr}{ta tb:TE}{pos:Pos}
def PC(X:Cx)(op:CmpOp)(a b:Expr)(t:TE):Prop:=
 ∀(c:List (Addr×Obj)) (s:q4) (f:St) (H:Hp) (Q:VK),Ak X c f H s->t f H Q->
  wpAny (model X.prog X.w) X.A (eval a X.env) (λv d=>wpAny (model X.prog X.w) X.A (eval b X.env) (λu e=>wpAny (model X.prog X.w) X.A (compareOp op v u) (EP X c f Q) X.xe e) X.xe d) X.xe s
def tB(t:TE):TT:=λe H Q=>t e H λx d=>∃c,x=.bl c/\Q c d
theorem Zb{t:TE}(h:PC X op a b t)(h1:behindInMarks op b=false:=by first|exact ML _ (by decide) (by decide)|rfl):PT X (.Compare a [op] [b] pos) (tB t):=by
 intro e s n H Q I j;refine wpAny_isTrue_Compare1 (Bh (h e s n H _ I j) λv o h1=>Bh h1 λu p i=>Bh i λc r ⟨x,f,g,m,l⟩=>?_) h1;obtain⟨d,rfl,q⟩:=l;cases m;exact il ⟨f,g,q⟩
theorem Bn{t:TE}(h:PE X e t)(he:∀c,isTrue e X.env c=(do let v <- c;standAt e.pos;holding [v] (truthy v)):=by intro _;rfl):PT X e (tB t):=by
 intro f s n H Q I j;refine isTrue_plain (Bh (h f s n H _ I j) λv o ⟨x,g,i,m,l⟩=>?_) (he _);obtain⟨d,rfl,q⟩:=l;cases m;exact il ⟨g,i,q⟩
variable {tA zw:TT}{rest:List Expr}
def yi(t:TT):TT:=λe H Q=>t e H λc d=>Q (!c) d
theorem Dl(f:PT X a tA):PW X (.BoolOp .And [a] pos) tA:=by
 intro j d s g H Q I h;refine isTrue_and (Bh (f d s g H Q I h) λc i e=>?_);cases c with
 |true=>exact isTrue_and_nil e
 |false=>exact e
theorem Ds(f:PT X a tA):PW X (.BoolOp .Or [a] pos) tA:=by
 intro j d s g H Q I h;refine isTrue_or (Bh (f d s g H Q I h) λc i e=>?_);cases c with
 |false=>exact isTrue_or_nil e
 |true=>exact e
theorem Df(f:PT X a tA):PT X (.UnaryOp .Not a pos) (yi tA):=by
 intro d s g H Q I h;exact isTrue_not (f d s g H (λc e=>Q (!c) e) I h)
theorem Hf{op}{t:TE}(h:PE X a t):PE X (.BoolOp op [a] pos) t:=λc s e H Q I d=>BoolOp_one (h c s e H Q I d)
def zf(t:TT)(ta tb:TE):TE:=λd H Q=>t d H λc e=>if c=true then ta d e Q else tb d e Q
theorem Z5(p:PT X c tA)(n:PE X a ta)(o:PE X b tb):PE X (.IfExp c a b pos) (zf tA ta tb):=by
 intro e s f H Q I h;refine wpAny_IfExp (Bh (p e s f H _ I h) λd l m=>?_);obtain⟨g,i,j⟩:=m;cases d with
 |true=>exact n e l f g Q i j
 |false=>exact o e l f g Q i j
end
def Ao(K:W.Frag)(H:Hp)(a:Addr)(xs:List V):Prop:=
 Rd H a (.lst xs)\/
  ∃(o:Obj) (b:Array q5) (n:Nat),K.lookup a=some o/\o.cls=.type "list"/\o.dict=none/\o.data=.seq b n/\b.size<=sizeLine/\As xs b.toList
def Cp(K:W.Frag)(H:Hp)(a:Addr)(xs:List V):Prop:=
 Rd H a (.tup xs)\/
  ∃(o:Obj) (b:Array q5) (n:Nat),K.lookup a=some o/\o.cls=.type "tuple"/\o.data=.seq b n/\b.size<=sizeLine/\As xs b.toList
def xn:q5->Option V
 | .none=>some .aX
 | .bool b=>some (.bl b)
 | .int i _=>some (.int i)
 | .str x _=>some (.str x)
 | .bytes b _=>some (.sZ b)
 | .float b _=>some (.FD b)
 | .ref a=>some (.ref a)
 | .type n=>some (.ty n)
 |_=>none
theorem Aw.abs(r:Aw x u):xn u=some x:=by
 cases x with
 |aX=>cases r;rfl
 |bl _=>cases r;rfl
 |int _=>obtain⟨t,rfl⟩:=r;rfl
 |str _=>obtain⟨t,rfl⟩:=r;rfl
 |sZ _=>obtain⟨t,rfl⟩:=r;rfl
 |FD _=>obtain⟨t,rfl⟩:=r;rfl
 |ref _=>cases r;rfl
 |ty _=>cases r;rfl
theorem Aw.inj(r:Aw x u)(q:Aw y u):x=y:=eo (r.abs.symm.trans q.abs)
theorem As.inj(h:As xs us)(g:As ys us):xs=ys:=by
 induction h generalizing ys with
 |nil=>
  cases g;rfl
 |cons r t a=>
  cases g with
  |cons b c=>rw[r.inj b,a c]
section
variable {X:Cx}{pins:List (Addr×Obj)}{σ:St}{H:Hp}{s:q4}{a:Addr}{xs ys:List V}
theorem Ao.of{K:W.Frag}(h:H a=some (.lst xs)):Ao K H a xs:=.inl (.inl h)
theorem Cp.of{K:W.Frag}(h:H a=some (.tup xs)):Cp K H a xs:=.inl (.inl h)
theorem Ak.list(I:Ak X pins σ H s)(h:Ao X.K H a xs):∃b:List q5,As xs b/\PlainL s.heap a b.toArray/\xs.length<=sizeLine:=by
 rcases h with h|⟨o,b,n,f,c,d,g,i,r⟩
 ·obtain⟨z,b,n,r,e⟩:=h.ok I.aP;exact⟨b,r,⟨_,n,e,rfl,rfl,rfl⟩,z⟩
 ·refine⟨b.toList,r,⟨o,n,I.iG a o f,c,d,by simpa using g⟩,?_⟩;have e:=r.length;simp only[Array.length_toList]at e;omega
theorem Ak.tuple(I:Ak X pins σ H s)(h:Cp X.K H a xs):∃b:List q5,As xs b/\IsTup s.heap a b.toArray/\xs.length<=sizeLine:=by
 rcases h with h|⟨o,b,n,d,c,f,g,r⟩
 ·obtain⟨z,b,r,p⟩:=h.ok I.aP;exact⟨b,r,p,z.1⟩
 ·refine⟨b.toList,r,⟨o,I.iG a o d,c,n,by simpa using f⟩,?_⟩;have e:=r.length;simp only[Array.length_toList]at e;omega
theorem Ak.pS(I:Ak X pins σ H s)(h:Ao X.K H a xs)(h':Ao X.K H a ys):xs=ys:=by
 obtain⟨g,r,⟨o,n,e,_,_,d⟩,_⟩:=I.list h;obtain⟨b,j,⟨m,l,f,_,_,c⟩,_⟩:=I.list h';rw[e]at f;cases f;rw[d]at c;injection c with i _;have:g=b:=by simpa using congrArg Array.toList i
 subst this;exact r.inj j
theorem Ak.nW(I:Ak X pins σ H s)(h:Cp X.K H a xs)(h':Cp X.K H a ys):xs=ys:=by
 obtain⟨g,r,⟨o,e,_,n,d⟩,_⟩:=I.tuple h;obtain⟨b,j,⟨m,f,_,l,c⟩,_⟩:=I.tuple h';rw[e]at f;cases f;rw[d]at c;injection c with i _;have:g=b:=by simpa using congrArg Array.toList i
 subst this;exact r.inj j
end
abbrev Cx.nK(X:Cx)(E:pP):Cx:={X with xe:=E}
abbrev Cx.LK(X:Cx):Cx:=X.nK λ_ _=>False
theorem Cx.Ok.nK{X:Cx}(ok:X.Ok)(E:pP):(X.nK E).Ok:=
 ⟨ok.mod,ok.kind,ok.glob,ok.blt,ok.above,ok.inj,ok.has,ok.FG,ok.hd,ok.frames,ok.LI,ok.MH,ok.bs,ok.vS,ok.rA,ok.rB,ok.iM,ok.zL⟩
theorem Cx.Ok.fN{X:Cx}{E:pP}(ok:(X.nK E).Ok):X.Ok:=
 ⟨ok.mod,ok.kind,ok.glob,ok.blt,ok.above,ok.inj,ok.has,ok.FG,ok.hd,ok.frames,ok.LI,ok.MH,ok.bs,ok.vS,ok.rA,ok.rB,ok.iM,ok.zL⟩
section
variable {X:Cx}{pins:List (Addr×Obj)}{σ:St}{H:Hp}{s:q4}{E:pP}
theorem Ak.nK(I:Ak X pins σ H s)(E:pP):Ak (X.nK E) pins σ H s:=⟨I.ok.nK E,I.os,I.bare,I.base,I.loc,I.cell,I.free,I.cA,I.pin,I.aP,I.len⟩
theorem Ak.fN(I:Ak (X.nK E) pins σ H s):Ak X pins σ H s:=⟨I.ok.fN,I.os,I.bare,I.base,I.loc,I.cell,I.free,I.cA,I.pin,I.aP,I.len⟩
theorem SP.fN(h:SP (X.nK E) pins D f s'):SP X pins D f s':=by
 cases f with
 |next=>obtain⟨a,b,I,q⟩:=h;exact⟨a,b,I.fN,q⟩
 |brk=>obtain⟨a,b,I,q⟩:=h;exact⟨a,b,I.fN,q⟩
 |cont=>obtain⟨a,b,I,q⟩:=h;exact⟨a,b,I.fN,q⟩
 |ret u=>obtain⟨v,a,b,I,r,q⟩:=h;exact⟨v,a,b,I.fN,r,q⟩
theorem Mo.LK{st:List Stmt}{t:TS}(h:Mo X.LK st t):Mo X st t:=λpins s σ H D I a=>
 hH (h pins s σ H D (I.nK _) a) (λ_ _ q=>q.fN) λ_ _ z=>False.elim z
end
section
variable {X:Cx}{st:Stmt}{rest:List Stmt}{t u:TS}{e:Expr}{te:TE}{pos:Pos}
def vy:TS:=λD a H=>D.nx a H
def yn(t u:TS):TS:=λD a H=>t {D with nx:=u D} a H
theorem Ad:Mo X [] vy:=λ_ _ a H _ I h=>wpAny_execs_nil ⟨a,H,I,h⟩
theorem A3(h1:PS X st t)(g:Mo X rest u):Mo X (st::rest) (yn t u):=by
 intro a s j H D I h;refine wpAny_execs_cons (Bh (h1 a s j H {D with nx:=u D} I h) λf i q=>?_);cases f with
 |next=>
  obtain⟨b,c,d,q⟩:=q;exact g a i b c D d q
 |ret v=>exact q
 |brk=>exact q
 |cont=>exact q
theorem A6(h1:PS X st t):Mo X [st] t:=by
 intro a s b H D I h;refine wpAny_execs_cons (Bh (h1 a s b H D I h) λf c q=>?_);cases f with
 |next=>exact wpAny_execs_nil q
 |ret v=>exact q
 |brk=>exact q
 |cont=>exact q
theorem Ak.quiet(I:Ak X a b H s):interactive X.env=false:=by simp[interactive,I.ok.kind]
def vt(te:TE):TS:=λD a H=>te a H λ_ b=>D.nx a b
theorem Cy(he:PE X e te)(f:swapsWith e none pos.line X.env=pure false:=by rfl):PS X (.Expr e pos) (vt te):=by
 intro a s b H D I h;exact wpAny_Expr_any (Bh (he a s b H _ I h) λv j ⟨x,c,d,i,g⟩=>⟨b,c,d,g⟩) I.quiet f
def ym(te:TE):TS:=λD a H=>te a H D.rt
theorem Af(he:PE X e te):PS X (.Return (some e) pos) (ym te):=by
 intro a s b H D I h;exact wpAny_Return_some (Bh (he a s b H _ I h) λv i ⟨x,c,d,g,f⟩=>⟨x,b,c,d,g,f⟩)
def yg(c:TT)(t u:TS):TS:=λD a H=>c a H λb d=>if b=true then t D a d else u D a d
theorem Av(r:PT X c n)(p:Mo X a t)(q:Mo X b u):PS X (.If c a b pos) (yg n t u):=by
 intro f s g H D I h;refine wpAny_If (Bh (r f s g H _ I h) λd m o=>?_);obtain⟨i,j,l⟩:=o;cases d with
 |true=>exact p f m g i D j l
 |false=>exact q f m g i D j l
def qh:TS:=λ_ _ _=>False
theorem Fx:PS X st qh:=λ_ _ _ _ _ _ h=>h.elim
end
abbrev TG:=V->St->Hp->(St->Hp->Prop)->Prop
abbrev ip:=List V->St->Hp->(St->Hp->Prop)->Prop
def PG(X:Cx)(a:Expr)(t:TG):Prop:=
 ∀(b:List (Addr×Obj)) (s:q4) (e:St) (H:Hp) (v:V) (u:q5) (Q:St->Hp->Prop),Ak X b e H s->Aw v u->t v e H Q->
  wpAny (model X.prog X.w) X.A (assign a X.env u) (λ_ f=>∃c d,Ak X b c d f/\Q c d) X.xe s
def rp(X:Cx)(h:List Expr)(t:ip):Prop:=
 ∀(a:List (Addr×Obj)) (s:q4) (f:St) (H:Hp) (e:List V) (d:List q5) (Q:St->Hp->Prop),Ak X a f H s->As e d->t e f H Q->
  wpAny (model X.prog X.w) X.A (assignInOrder ((assignEach h X.env).map (·.2)) d) (λ_ g=>∃b c,Ak X a b c g/\Q b c) X.xe s
abbrev jm:=V->V->V->Hp->(Hp->Prop)->Prop
def rq(X:Cx)(t:jm):Prop:=
 ∀(a:List (Addr×Obj)) (s:q4) (e:St) (H:Hp) (o i v:V) (d c u:q5) (Q:Hp->Prop),Ak X a e H s->Aw o d->Aw i c->Aw v u->t o i v H Q->
  wpAny (model X.prog X.w) X.A (setItem d c u) (λ_ f=>∃b,Ak X a e b f/\Q b) X.xe s
abbrev wg:=V->V->Hp->VK->Prop
def yu(X:Cx)(op:Operator)(t:wg):Prop:=
 ∀(a:List (Addr×Obj)) (s:q4) (b:St) (H:Hp) (x y:V) (v u:q5) (Q:VK),Ak X a b H s->Aw x v->Aw y u->t x y H Q->
  wpAny (model X.prog X.w) X.A (inplaceOp op v u) (EP X a b Q) X.xe s
section
variable {X:Cx}{pos:Pos}
def Hs(i:Nat):TG:=λv a H Q=>Q (a.set i (some v)) H
theorem An(c:X.N.Nodup)(hi:X.N[i]?=some x)(e:rk X.env.scope x)(d:X.fn x=true\/X.env.scope.names.lookup x=some .local:=by first|exact .inl rfl|exact .inr rfl|assumption):PG X (.Name x pos) (Hs i):=by
 intro a s g H v u Q I r h;exact wpAny_assign_Name (Il I c hi e r (λf b=>⟨_,H,b,h⟩) d)
def sr:ip:=λa b H Q=>a=[]/\Q b H
def Y9(t:TG)(u:ip):ip:=λc d H Q=>∃v r,c=v::r/\t v d H λa b=>u r a b Q
theorem Gc:rp X [] sr:=by
 intro a s b H d c Q I r h;obtain⟨e,h⟩:=h;subst e;cases r;exact assignInOrder_nil ⟨b,H,I,h⟩
theorem Cl{t:TG}(h1:PG X e t)(i:rp X es u)
  (j:(assignEach (e::es) X.env).map (·.2)=assign e X.env::(assignEach es X.env).map (·.2):=by rfl):rp X (e::es) (Y9 t u):=by
 intro a s o H w p Q I r h;obtain⟨v,q,g,h⟩:=h;subst g;cases r with
 |cons r m=>
  rw[j];refine assignInOrder_cons (Bh (h1 a s o H _ _ _ I r h) λ_ n f=>?_);obtain⟨b,c,d,l⟩:=f;exact i a n b c _ _ Q d m l
def jz(K:W.Frag)(n:Nat)(t:ip):TG:=λv c H Q=>∃a b,v=.ref a/\Cp K H a b/\b.length=n/\t b c H Q
theorem o8{k:Nat}{t:ip}(l:X.calm=true)(h:rp X es t)
  (p:(assignEach es X.env).length=n:=by rfl)(y:(assignEach es X.env).findIdx? (·.1)=none:=by rfl):PG X (.Tuple es k pos) (jz X.K n t):=by
 intro c s f H v u Q I r d;obtain⟨a,z,i,q,m,d⟩:=d;subst i;cases r;obtain⟨A,rv,w,B⟩:=I.tuple q;refine assign_Tuple_tuple (I.ok.hd l) w (by simp[p,<- m,rv.length]) y λj x=>?_;have g:Ak X c f H {s with heap:=j}:=I.kept (t':=s.toks) λb o e=>x b o (eI (dI e)) e;exact h c _ f H z _ Q g (by simpa using rv) d
def xr(f e:TE)(t:jm):TG:=λv a H Q=>f a H λo b=>e a b λi c=>t o i v c λd=>Q a d
theorem Z7{t:jm}(z:PE X o g)(hi:PE X i f)(A:rq X t)
  (w:∀v,assign (.Subscript o i pos) X.env v=(do
   let b <- holding [v] (eval o X.env);let d <- holding [v,b] (eval i X.env)
   standAt pos
   holding [v,b,d] (setItem b d v)
   release [v,b,d] []):=by intro _;rfl):PG X (.Subscript o i pos) (xr g f t):=by
 intro a s e H v u Q I r h;rw[w];refine aN (fC (Bh (z a s e H _ I h) λb G c=>?_));obtain⟨x,j,n,E,B⟩:=c;refine aN (fC (Bh (hi a G e j _ n B) λd J c=>?_));obtain⟨y,l,p,F,C⟩:=c;refine aN (wpAny_standAt (aN (fC (Bh (A a J e l x y v b d u _ p E F r C) λ_ K c=>?_))));obtain⟨m,q,D⟩:=c;exact wpAny_release ⟨e,m,q,D⟩
def vm(c:TE)(g:TG):TS:=λD a H=>c a H λx b=>g x a b D.nx
theorem Z9(he:PE X e c)(j:PG X b g)(l:swapsWithSole [b] e pos.line X.env=pure false:=by rfl)(m:swappedStores [b] e X.env=pure none:=by rfl)
  (h1:(assignEach [b] X.env).map (·.2)=[assign b X.env]:=by rfl):PS X (.Assign [b] e pos) (vm c g):=by
 intro a s d H D I h;refine wpAny_Assign_stores (Bh (he a s d H _ I h) λv p ⟨x,f,i,o,n⟩=>?_) l m;rw[h1];exact Bh (j a p d f x v _ i o n) λ_ r q=>q
theorem Ab(j:X.N.Nodup)(hi:X.N[i]?=some x)(n:rk X.env.scope x)(he:PE X e c)(m:swapsWith e (some (.Name x a)) pos.line X.env=pure false:=by rfl)(l:X.fn x=true\/X.env.scope.names.lookup x=some .local:=by first|exact .inl rfl|exact .inr rfl|assumption):
  PS X (.Assign [.Name x a] e pos) (vm c (Hs i)):=by
 intro b s q H D I h;refine wpAny_Assign_Name (Bh (he b s q H _ I h) λv r ⟨y,d,f,p,o⟩=>?_) m;exact Il f j hi n p (λu g=>⟨_,d,g,o⟩) l
def y9(i:Nat)(d:TE)(e:wg):TS:=λD a H=>∃x,a[i]?=some (some x)/\d a H λy b=>e x y b λz c=>D.nx (a.set i (some z)) c
theorem Za(L:X.N.Nodup)(hi:X.N[i]?=some x)(n:rk X.env.scope x)(he:PE X e q)(R:yu X op A)(N:X.fn x=true\/X.env.scope.names.lookup x=some .local:=by first|exact .inl rfl|exact .inr rfl|assumption):
  PS X (.AugAssign (.Name x d) op e pos) (y9 i q A):=by
 intro a s B H D I h;obtain⟨v,K,h⟩:=h;obtain⟨m,Q,O⟩:=I.loc;have o:sf X.env.scope x:=by rcases n with k|k;exact .inl k;exact .inr (.inl k)
 obtain⟨u,r,l⟩:=O i x v hi K o;refine wpAny_AugAssign_Name ?_
 have p:wpAny (model X.prog X.w) X.A (eval e X.env) (λw f=>wpAny (model X.prog X.w) X.A (inplaceOp op u w) (λr g=>wpAny (model X.prog X.w) X.A (storeName X.env x r) (λ_=>SP X a D .next) X.xe g) X.xe f) X.xe s:=by
  refine Bh (he a s B H _ I h) λw s1 j=>?_;obtain⟨y,C,F,Y,T⟩:=j;refine Bh (R a s1 B C v y u w _ F r Y T) λz s2 j=>?_;obtain⟨zv,E,G,Z,U⟩:=j;exact Il G L hi n Z (λs3 J=>⟨_,E,J,U⟩) N
 rcases l with⟨b,P⟩|⟨b,c,M,S⟩
 ·exact wpAny_loadName_local I.ok.kind b Q P p
 ·rcases b with b|b
  ·exact wpAny_loadName_cell I.ok.kind b M S p
  ·rcases n with k|k
   ·have:X.env.scope.names.lookup x=some .free:=b;rw[k]at this;cases this
   ·have:X.env.scope.names.lookup x=some .free:=b;rw[k]at this;cases this
def yz(f:Int->Int->Int):wg:=λx y H Q=>∃i j,x=.int i/\y=.int j/\Q (.int (f i j)) H
theorem Yh:yu X .Add (yz λi j=>i+j):=by
 intro a s g H x y v u Q I d e h;obtain⟨i,j,b,c,q⟩:=h;subst b;subst c;obtain⟨t,rfl⟩:=d;obtain⟨f,rfl⟩:=e;exact iadd_int ⟨.int _,H,I.tok _,⟨_,rfl⟩,q⟩
end
section
variable {X:Cx}{pos:Pos}
def d9(c:TT)(h:TS):TS:=λD a H=>∃W:Nat->St->Hp->Prop,(∃m,W m a H)/\∀m a H,W m a H->
 c a H λb f=>if b=true then∃N:St->Hp->Prop,(∀d e,N d e->∃g,g<m/\W g d e)/\h {D with nx:=N,ct:=N,bk:=D.nx} a f else D.nx a f
theorem Ma(C:PassesOwn (model X.prog X.w) X.A X.env X.xe)(L:PT X c F)(K:Mo X g E):PS X (.While c g [] pos) (d9 F E):=by
 intro a s S H D I h;obtain⟨W,⟨m0,Q⟩,j⟩:=h;refine wpAny_While (codeAny_whileLoop (λn M=>∃l x,Ak X a l x M/\W n l x) ?_ m0 ⟨S,H,I,Q⟩);rintro n O ⟨e,y,G,R⟩;refine wpAny_passesOwn C (Bh (L a O e y _ G (j n e y R)) λb P J=>?_);obtain⟨z,A,m⟩:=J;cases b with
 |true=>
  obtain⟨N,B,m⟩:=m;rw[if_pos rfl];refine wpAny_passesOwn C (Bh (K a P e z _ A m) λf T o=>?_);cases f with
  |next=>
   obtain⟨d,i,p,u⟩:=o;obtain⟨r,q,w⟩:=B d i u;exact⟨r,q,d,i,p,w⟩
  |cont=>
   obtain⟨d,i,p,u⟩:=o;obtain⟨r,q,w⟩:=B d i u;exact⟨r,q,d,i,p,w⟩
  |brk=>exact o
  |ret v=>exact o
 |false=>
  rw[if_neg Bool.false_ne_true];exact wpAny_execs_nil ⟨e,z,A,m⟩
end
set_option genInjectivity false in
set_option genSizeOf false in
structure It where
 go:Nat->Hp->Prop
 BJ:Nat->Hp->V->Hp->Prop
 stop:Nat->Hp->Prop
def K7(X:Cx)(a:List (Addr×Obj))(H:Hp)(b:Addr):Prop:=
 H b=none/\b≠X.env.locals/\b∉X.fs/\(b∈X.ex\/X.s₀.heap.objs.size<=b)/\(∀x c,X.env.cells.lookup x=some c->c≠b)/\∀p∈X.pn++a,p.1≠b
theorem Ak.rE(I:Ak X a i H s)(d:s.heap.objs.size<=b)(g:f b=none):K7 X a f b:=by
 refine⟨g,Nat.ne_of_gt (fx I.lt d),I.ZE d,.inr (en I.sz d),λx c e z=>?_,λp h z=>?_⟩
 ·obtain⟨v,q⟩:=I.cell x c e;exact absurd (fx q.lt (by rw[z];exact d)) (Nat.lt_irrefl _)
 ·exact absurd (fx (dI (I.pin p h).1) (by rw[z];exact d)) (Nat.lt_irrefl _)
structure Q9(P:q7)(w:ro)(K:W.Frag)(tg:Expr)(J:It)(fp:List Addr)(it:Addr)(tn:Nat->Heap->Prop):Prop where
 mem:it∈fp
 obj:∀i h,tn i h->∀b∈fp,∃o,h.get? b=some o/\∀v,o.data≠ .cell v
 keep:∀i h h',tn i h->(∀b∈fp,∀o,h.get? b=some o->h'.get? b=some o)->tn i h'
 item:∀(X:Cx),X.prog=P->X.w=w->X.K=K->X.calm=true->∀(i:Nat) (pins:List (Addr×Obj)) (s:q4) (σ:St) (H:Hp) (E:pP),Ak X pins σ H s->(∀b∈fp,K7 X pins H b)->tn i s.heap->J.go i H->
  wpAny (model P w) X.A (pyNext (.ref it)) (λr s1=>∃u,r=some u/\
   wpAny (model P w) X.A (letOwnedTupleGo tg (.ref it) u) (λ_ s2=>∃x H',Ak X pins σ H' s2/\Aw x u/\J.BJ i H x H'/\tn (i+1) s2.heap/\∀b∈fp,H' b=none) E s1) E s
 done:∀(X:Cx),X.prog=P->X.w=w->X.K=K->X.calm=true->∀(i:Nat) (pins:List (Addr×Obj)) (s:q4) (σ:St) (H:Hp) (E:pP),Ak X pins σ H s->(∀b∈fp,K7 X pins H b)->tn i s.heap->J.stop i H->
  wpAny (model P w) X.A (pyNext (.ref it)) (λr s1=>r=none/\Ak X pins σ H s1) E s
 self:∀(A:rd) (i:Nat) (s:q4) (Q:pP) (E:pP),tn i s.heap->Q (.ref it) s->wpAny (model P w) A (pyIter (.ref it)) Q E s
abbrev TI:=St->Hp->(It->Hp->Prop)->Prop
def yt(X:Cx)(a:List (Addr×Obj))(j:St)(i:Expr)(R:It->Hp->Prop)(h:q5)(f:q4):Prop:=
 ∃(e:Addr) (d:List Addr) (g:Nat->Heap->Prop) (J:It) (c:Hp),h=.ref e/\Ak X a j c f/\Q9 X.prog X.w X.K i J d e g/\g 0 f.heap/\(∀b∈d,K7 X a c b)/\R J c
def PI(X:Cx)(e b:Expr)(f:TI):Prop:=
 ∀(a:List (Addr×Obj)) (s:q4) (c:St) (H:Hp) (R:It->Hp->Prop),Ak X a c H s->f c H R->
  wpAny (model X.prog X.w) X.A (eval b X.env) (λv d=>wpAny (model X.prog X.w) X.A (pyIter v) (yt X a c e R) X.xe d) X.xe s
theorem Ue(e:s.heap.get? it=some o)(c:o.cls=.type n)(hd:o.data=.fields vs)
  (d:["enumerate","zip","dict_itemiterator","dict_reverseitemiterator","odict_iterator","itertools.zip_longest","itertools.pairwise"].contains n=false)(a:Q () s):wpAny M A (letOwnedTupleGo b (.ref it) u) Q E s:=by
 unfold letOwnedTupleGo
 cases b<;>first
  |exact a6 a
  | (cases u <;> first
    |exact a6 a
    | (refine aN (wpAny_load e ?_)
       rw[c,hd];show wpAny M A (if(["enumerate","zip","dict_itemiterator","dict_reverseitemiterator","odict_iterator","itertools.zip_longest","itertools.pairwise"].contains n&&vs[0]? ==some (rawInt _))=true then _ else _) Q E s;rw[if_neg (by intro h;rw[d,Bool.false_and]at h;cases h)];exact a6 a))
def jl(K:W.Frag)(a:Addr):It:=
 ⟨λi H=>∃b x,Ao K H a b/\b[i]?=some x,λi H x c=>c=H/\∀b,Ao K H a b->b[i]?=some x,λi H=>∃b,Ao K H a b/\b.length<=i⟩
def qu(K:W.Frag)(a:Addr):It:=
 ⟨λi H=>∃b x,Cp K H a b/\b[i]?=some x,λi H x c=>c=H/\∀b,Cp K H a b->b[i]?=some x,λi H=>∃b,Cp K H a b/\b.length<=i⟩
def im(lo:Int)(n:Nat):It:=⟨λi _=>i<n,λi H x a=>a=H/\x=.int (lo+i),λi _=>n<=i⟩
theorem X3{P:q7}{w:ro}{K:W.Frag}{tg:Expr}(a it:Addr):Q9 P w K tg (jl K a) [it] it (λi h=>h.IsListIter it a i)where
 mem:=by simp
 obj:=λi h f b j=>by
  have e:b=it:=by simpa using j
  subst e;obtain⟨o,e,c,d⟩:=f;exact⟨o,e,λv z=>by rw[d]at z;cases z⟩
 keep:=λi h l f k=>f.at λo e=>k it (by simp) o e
 item:=by
  intro X D G C L i g s N H E I m f F;subst D G C;obtain⟨xs,x,n,J⟩:=F;obtain⟨Q,rv,p,Y⟩:=I.list n;obtain⟨u,T,Z⟩:=rv.get J;obtain⟨q,r,S,y,A,B⟩:=m it (by simp);refine wpAny_pyNext_list_item f p.isList (x:=u) (by simpa using T) λl M sb=>?_;have O:Ak X g N H {s with heap:=l}:=I.turned (t':=s.toks) (λb o j e=>(sb.2 b j).trans e) q r y A B;obtain⟨o,e,c,d⟩:=id M;exact⟨u,rfl,Ue (s:={s with heap:=l}) e c d (by decide) ⟨x,H,O,Z,⟨rfl,λys U=>by rw[I.pS U n];exact J⟩,M,λb j=>(m b j).1⟩⟩
 done:=by
  intro X D G C L i g s N H E I m f F;subst D G C;obtain⟨xs,n,J⟩:=F;obtain⟨Q,rv,p,Y⟩:=I.list n;obtain⟨q,r,S,y,A,B⟩:=m it (by simp);have hl:=rv.length;exact wpAny_pyNext_list_end (I.ok.hd L) f p.isList (by simp;omega) λl R=>⟨rfl,I.turned (t':=s.toks) (λb o j e=>R b o j e) q r y A B⟩
 self:=λ_ _ _ _ _ f h=>wpAny_pyIter_listiter f h
theorem Tt{P:q7}{w:ro}{K:W.Frag}{tg:Expr}(a it:Addr):Q9 P w K tg (qu K a) [it] it (λi h=>h.IsTupleIter it a i)where
 mem:=by simp
 obj:=λi h f b j=>by
  have e:b=it:=by simpa using j
  subst e;obtain⟨o,e,c,d⟩:=f;exact⟨o,e,λv z=>by rw[d]at z;cases z⟩
 keep:=λi h l f k=>f.at λo e=>k it (by simp) o e
 item:=by
  intro X F J D M i g s O H E I m f G;subst F J D;obtain⟨xs,x,n,L⟩:=G;obtain⟨q,rv,p,Y⟩:=I.tuple n;obtain⟨u,T,Z⟩:=rv.get L;obtain⟨r,y,S,A,B,C⟩:=m it (by simp);refine wpAny_pyNext_tuple_item f (show s.heap.IsTuple a q.toArray from p) (x:=u) (by simpa using T) λl N sb=>?_;have Q:Ak X g O H {s with heap:=l}:=I.turned (t':=s.toks) (λb o j e=>(sb.2 b j).trans e) r y A B C;obtain⟨o,e,c,d⟩:=id N;exact⟨u,rfl,Ue (s:={s with heap:=l}) e c d (by decide) ⟨x,H,Q,Z,⟨rfl,λys U=>by rw[I.nW U n];exact L⟩,N,λb j=>(m b j).1⟩⟩
 done:=by
  intro X F J D M i g s O H E I m f G;subst F J D;obtain⟨xs,n,L⟩:=G;obtain⟨q,rv,p,Y⟩:=I.tuple n;obtain⟨r,y,S,A,B,C⟩:=m it (by simp);have hl:=rv.length;exact wpAny_pyNext_tuple_end (I.ok.hd M) f (show s.heap.IsTuple a q.toArray from p) (by simp;omega) λl R=>⟨rfl,I.turned (t':=s.toks) (λb o j e=>R b o j e) r y A B C⟩
 self:=λ_ _ _ _ _ f h=>wpAny_pyIter_tupleiter f h
theorem Ts{P:q7}{w:ro}{K:PySem.W.Frag}{N:Expr}(it:Addr)(lo:Int)(n:Nat):Q9 P w K N (im lo n) [it] it (λi h=>IsRangeIter h it (lo+(i:Nat)*1) ((n:Int)-(i:Nat)) 1)where
 mem:=by simp
 obj:=λi h a b d=>by
  have e:b=it:=by simpa using d
  subst e
  exact⟨_,a,λv z=>by
   have O:Data.fields _=Data.cell v:=z;cases O⟩
 keep:=λi h f a k=>k it (by simp) _ a
 item:=by
  intro X u A r x i c s D H E I g a y;subst u A r;obtain⟨j,l,J,m,p,q⟩:=g it (by simp);have W:=Walks.range (prog:=X.prog) (w:=X.w) (I.ok.hd x) it lo 1 n;refine W.item i s _ _ y a λv f B L C M=>?_;obtain⟨t,rfl⟩:=L;have F:Ak X c D H {s with heap:=f,toks:=B}:=I.turned (λb o d e=>M b o (by simpa using d) e) j l m p q;refine⟨_,rfl,Ue (s:={s with heap:=f,toks:=B}) (n:="range_iterator") C rfl rfl (by decide) ⟨.int (lo+i),H,F,⟨t,?_⟩,⟨rfl,rfl⟩,C,λb d=>(g b d).1⟩⟩;rw[Int.mul_one]
 done:=by
  intro X u A r x i c s D H E I g a y;subst u A r;obtain⟨j,l,J,m,p,q⟩:=g it (by simp);exact wpAny_pyNext_range_end (I.ok.hd x) a (by have:n<=i:=y;omega) λf G=>⟨rfl,I.turned (t':=s.toks) (λb o d e=>G b o d e) j l m p q⟩
 self:=λ_ _ _ _ _ a h=>wpAny_pyIter_rangeiter a h
section
variable {X:Cx}{tg:Expr}
theorem Rb{a:List (Addr×Obj)}{f:St}{H:Hp}{s:q4}{R:It->Hp->Prop}{E:pP}{lo hi:Int}{t u v:Tok}{d:Nat}(I:Ak X a f H s)(h1:-(2^62)<=lo)(i:lo<2^62)(j:-(2^62)<=hi)(l:hi<2^62)
  (q:R (im lo (hi-lo).toNat) H):wpAny (model X.prog X.w) X.A (pyIter (.ref s.heap.objs.size)) (yt X a f tg R) E {s with heap:=s.heap.push {cls:=.type "range",data:=.fields #[.int lo t,.int hi u,.int 1 v] },toks:=d}:=by
 refine wpAny_pyIter_range (IsRange.new ..) (small_one h1 i j l) ?_;have c:Ak X a f H {s with heap:=s.heap.push {cls:=.type "range",data:=.fields #[.int lo t,.int hi u,.int 1 v] },toks:=d}:=I.kept λb o e=>bD _ e
 refine⟨(s.heap.push {cls:=.type "range",data:=.fields #[.int lo t,.int hi u,.int 1 v] }).objs.size,[(s.heap.push {cls:=.type "range",data:=.fields #[.int lo t,.int hi u,.int 1 v] }).objs.size],_,_,H,rfl,
  c.kept (t':=d) λb o e=>bD _ e,Ts _ lo (hi-lo).toNat,?_,λb m=>?_,q⟩
 ·have g:lo+((0:Nat):Int)*1=lo:=by simp
  have h:(((hi-lo).toNat:Nat):Int)-((0:Nat):Int)=Builtin.Range.rangeSize lo hi 1:=by rw[rangeSize_one];split<;>omega
  show IsRangeIter _ _ (lo+((0:Nat):Int)*1) ((((hi-lo).toNat:Nat):Int)-((0:Nat):Int)) 1;rw[g,h];exact c4 _ rfl
 ·have e:b=(s.heap.push {cls:=.type "range",data:=.fields #[.int lo t,.int hi u,.int 1 v] }).objs.size:=by simpa using m
  subst e;exact c.rE (dr _) (c.aP.fresh (dr _))
def sw(b:TA):TI:=λd H R=>b d H λc a=>∃j:Int,c=[.int j]/\-(2^62)<=j/\j<2^62/\R (im 0 j.toNat) a
def sx(b:TA):TI:=λd H R=>b d H λc a=>∃i j:Int,c=[.int i,.int j]/\(-(2^62)<=i/\i<2^62/\-(2^62)<=j/\j<2^62)/\R (im i (j-i).toNat) a
theorem Jj{a:Expr}{d:TA}{p pos:Pos}(i:Gl X "range")(l:X.mg "range"=none)(g:PA X [a] d)(m:starEach [a] X.env=[(false,eval a X.env)]:=by rfl):PI X tg (.Call (.Name "range" p) [a] [] pos) (sw d):=by
 intro b s v H R I h;refine Call_ (Eo I i l boot_range (PyProof.Rows.callWith_type1 (Bh (g pos b s v H _ I h) λy x ⟨z,w,f,o,c⟩=>?_) m rfl));obtain⟨j,e,c,n,q⟩:=c;subst e;cases o with
 |cons r u=>
  cases u;obtain⟨t,rfl⟩:=r;exact call_range_1 (Rb f (by omega) (by omega) c n (by simpa using q))
theorem Wv{p pos:Pos}(o:Gl X "range")(u:X.mg "range"=none)(n:PA X [a,b] g)(v:starEach [a,b] X.env=[(false,eval a X.env),(false,eval b X.env)]:=by rfl)(l:starEach [b] X.env=[(false,eval b X.env)]:=by rfl):
  PI X tg (.Call (.Name "range" p) [a,b] [] pos) (sx g):=by
 intro c s B H R I h;refine Call_ (Eo I o u boot_range (PyProof.Rows.callWith_type1 (Bh (n pos c s B H _ I h) λF D ⟨G,C,m,A,d⟩=>?_) (by rw[v,l]) (by rw[l];rfl)));obtain⟨i,j,e,⟨d,w,x,y⟩,q⟩:=d;subst e;cases A with
 |cons r f=>
  cases f with
  |cons z f=>
   cases f;obtain⟨t,rfl⟩:=r;obtain⟨E,rfl⟩:=z;exact call_range_2 (Rb m d w x y q)
def yd(l:TI)(g:TG)(j:TS):TS:=λD a H=>l a H λJ f=>∃W:Nat->Nat->St->Hp->Prop,(∃m,W 0 m a f)/\∀i m a H,W i m a H->
 (J.stop i H/\D.nx a H)\/(J.go i H/\∃N:St->Hp->Prop,(∀c b,N c b->∃e,e<m/\W (i+1) e c b)/\∀x b,J.BJ i H x b->g x a b λd h=>j {D with nx:=N,ct:=N,bk:=D.nx} d h)
def M9(a:List Addr)(h:Heap):List (Addr×Obj):=a.filterMap λb=>(h.get? b).map λo=>(b,o)
theorem Fa(c:b∈a)(e:h.get? b=some o):(b,o)∈M9 a h:=List.mem_filterMap.mpr ⟨b,c,by rw[e];rfl⟩
theorem Wp(f:p∈M9 a h):p.1∈a/\h.get? p.1=some p.2:=by
 obtain⟨b,d,e⟩:=List.mem_filterMap.mp f;cases q:h.get? b with
 |none=>rw[q]at e;cases e
 |some o=>
  rw[q]at e;have c:(b,o)=p:=eo e;subst c;exact⟨d,q⟩
theorem Ak.pinned(I:Ak X a h H s)(m:∀b∈c,K7 X a H b)(n:∀b∈c,∃o,s.heap.get? b=some o/\∀v,o.data≠ .cell v):Ak X (a++M9 c s.heap) h H s:=
 I.tE λp q=>(fy.mp q).elim (λz=>I.pin p (gd _ z)) λz=>by
  obtain⟨g,e⟩:=Wp z;obtain⟨i,j,l,_⟩:=m p.1 g;obtain⟨o,f,d⟩:=n p.1 g;rw[e]at f;cases f;exact⟨e,i,j,l,d⟩
theorem Ak.iP(I:Ak X (a++pl) b H s):Ak X a b H s:=I.tE λp c=>I.pin p (gd _ (gv _ c))
theorem Ce{pos:Pos}(K:PassesOwn (model X.prog X.w) X.A X.env X.xe)(hc:X.calm=true)(hi:PI X tg w wi)(hg:PG X tg g)(q:Mo X C tb)
  (hs:∀x,foldedSetIterable w X.env x=pure x:=by intro _;rfl):PS X (.For tg w C [] pos) (yd wi g tb):=by
 intro a s σ H D I h;refine wpAny_For (Bh (hi a s σ H _ I h) λv s1 h1=>Bh h1 λXA s2 h2=>?_) hs;obtain⟨it,G,tn,J,H2,e,I2,T,BK,f2,W,⟨m0,w0⟩,O⟩:=h2;subst e;have y:∀{B:Hp},(∀b∈G,B b=none)->∀b∈G,K7 X a B b:=λhn b q=>⟨hn b q,(f2 b q).2⟩;refine codeAny_forLoop_any (λn s'=>∃i z B,Ak X a z B s'/\tn i s'.heap/\(∀b∈G,B b=none)/\W i n z B) ?_ m0 ⟨0,σ,H2,I2,BK,λb q=>(f2 b q).1,w0⟩;rintro n s3 ⟨i,A,P,I3,MM,XB,w3⟩;rcases O i n A P w3 with⟨M,qn⟩|⟨go,N,hN,step⟩
 ·refine wpAny_passesOwn K (Bh (T.done X rfl rfl rfl hc i a s3 A P X.xe I3 (y XB) MM M) λr s4 F=>?_);obtain⟨U,I4⟩:=F;subst U;exact wpAny_execs_nil ⟨A,P,I4,qn⟩
 ·refine wpAny_passesOwn K (Bh (T.item X rfl rfl rfl hc i a s3 A P X.xe I3 (y XB) MM go) λr s4 F=>?_);obtain⟨u,U,h4⟩:=F;subst U;refine wpAny_passesOwn K (Bh h4 λ_ s5 F=>?_);obtain⟨x,H5,I5,r5,y5,R,S⟩:=F;have Q:=I5.pinned (y S) (T.obj _ _ R);refine wpAny_passesOwn K (Bh (hg _ s5 A H5 x u _ Q r5 (step x H5 y5)) λ_ s6 F=>?_);obtain⟨Z,H6,I6,q6⟩:=F;refine wpAny_passesOwn K (Bh (q _ s6 Z H6 _ I6 q6) λf Y E=>?_)
  have p:∀{c:St}{j:Hp},Ak X (a++M9 G s5.heap) c j Y->N c j->∃m,m<n/\∃i z B,Ak X a z B Y/\tn i Y.heap/\(∀b∈G,B b=none)/\W i m z B:=λ{c j} l L=>by
   obtain⟨m',hm,w7⟩:=hN c j L;refine⟨m',hm,i+1,c,j,l.iP,T.keep _ _ _ R λb q o e=>(l.pin (b,o) (gd _ (gd _ (Fa q e)))).1,λb q=>?_,w7⟩;obtain⟨o,e,d⟩:=T.obj _ _ R b q;exact(l.pin (b,o) (gd _ (gd _ (Fa q e)))).2.1
  cases f with
  |next=>obtain⟨c,j,l,L⟩:=E;exact p l L
  |cont=>obtain⟨c,j,l,L⟩:=E;exact p l L
  |brk=>obtain⟨c,j,l,E⟩:=E;exact⟨c,j,l.iP,E⟩
  |ret v=>obtain⟨x7,c,j,l,r7,E⟩:=E;exact⟨x7,c,j,l.iP,r7,E⟩
end
theorem Cc{K:PySem.W.Frag}{a:Addr}{xs:List V}{g:TG}{o:TS}{D:Hj}{b:St}{H:Hp}(c:Nat->St->Hp->Prop)(r:c 0 b H)(u:∀i b H,i<=xs.length->c i b H->Ao K H a xs)
  (v:∀i x b H,xs[i]?=some x->c i b H->g x b H λh j=>o {D with nx:=c (i+1),ct:=c (i+1),bk:=D.nx} h j)(hd:∀b H,c xs.length b H->D.nx b H):
  ∃W:Nat->Nat->St->Hp->Prop,(∃m,W 0 m b H)/\∀i m b H,W i m b H->
   ((jl K a).stop i H/\D.nx b H)\/((jl K a).go i H/\∃N:St->Hp->Prop,(∀f d,N f d->∃n,n<m/\W (i+1) n f d)/\∀x d,(jl K a).BJ i H x d->g x b d λh j=>o {D with nx:=N,ct:=N,bk:=D.nx} h j):=by
 refine⟨λi m b H=>m=xs.length-i/\i<=xs.length/\c i b H,⟨xs.length,by simp,ml _,r⟩,?_⟩;rintro i m b H ⟨rfl,s,p⟩;have q:=u i b H s p;by_cases l:i<xs.length
 ·refine .inr ⟨⟨xs,xs[i],q,by simp[l]⟩,c (i+1),λf d w=>⟨xs.length-(i+1),by omega,rfl,l,w⟩,λx d y=>?_⟩;obtain⟨e,y⟩:=y;subst e;exact v i x b _ (y xs q) p
 ·have e:i=xs.length:=by omega
  subst e;exact .inl ⟨⟨xs,q,dr _⟩,hd b H p⟩
theorem Ud{K:PySem.W.Frag}{a:Addr}{xs:List V}{g:TG}{o:TS}{D:Hj}{b:St}{H:Hp}(c:Nat->St->Hp->Prop)(r:c 0 b H)(u:∀i b H,i<=xs.length->c i b H->Cp K H a xs)
  (v:∀i x b H,xs[i]?=some x->c i b H->g x b H λh j=>o {D with nx:=c (i+1),ct:=c (i+1),bk:=D.nx} h j)(hd:∀b H,c xs.length b H->D.nx b H):
  ∃W:Nat->Nat->St->Hp->Prop,(∃m,W 0 m b H)/\∀i m b H,W i m b H->
   ((qu K a).stop i H/\D.nx b H)\/((qu K a).go i H/\∃N:St->Hp->Prop,(∀f d,N f d->∃n,n<m/\W (i+1) n f d)/\∀x d,(qu K a).BJ i H x d->g x b d λh j=>o {D with nx:=N,ct:=N,bk:=D.nx} h j):=by
 refine⟨λi m b H=>m=xs.length-i/\i<=xs.length/\c i b H,⟨xs.length,by simp,ml _,r⟩,?_⟩;rintro i m b H ⟨rfl,s,p⟩;have q:=u i b H s p;by_cases l:i<xs.length
 ·refine .inr ⟨⟨xs,xs[i],q,by simp[l]⟩,c (i+1),λf d w=>⟨xs.length-(i+1),by omega,rfl,l,w⟩,λx d y=>?_⟩;obtain⟨e,y⟩:=y;subst e;exact v i x b _ (y xs q) p
 ·have e:i=xs.length:=by omega
  subst e;exact .inl ⟨⟨xs,q,dr _⟩,hd b H p⟩
theorem No{lo:Int}{n:Nat}{g:TG}{o:TS}{D:Hj}{a:St}{H:Hp}(c:Nat->St->Hp->Prop)(q:c 0 a H)
  (r:∀i a H,i<n->c i a H->g (.int (lo+i)) a H λf h=>o {D with nx:=c (i+1),ct:=c (i+1),bk:=D.nx} f h)(hd:∀a H,c n a H->D.nx a H):
  ∃W:Nat->Nat->St->Hp->Prop,(∃m,W 0 m a H)/\∀i m a H,W i m a H->
   ((im lo n).stop i H/\D.nx a H)\/((im lo n).go i H/\∃N:St->Hp->Prop,(∀d b,N d b->∃l,l<m/\W (i+1) l d b)/\∀x b,(im lo n).BJ i H x b->g x a b λf h=>o {D with nx:=N,ct:=N,bk:=D.nx} f h):=by
 refine⟨λi m a H=>m=n-i/\i<=n/\c i a H,⟨n,by simp,ml _,q⟩,?_⟩;rintro i m a H ⟨rfl,u,p⟩;by_cases j:i<n
 ·refine .inr ⟨j,c (i+1),λd b s=>⟨n-(i+1),by omega,rfl,j,s⟩,λx b y=>?_⟩;obtain⟨e,y⟩:=y;subst e y;exact r i a _ j p
 ·have e:i=n:=by omega
  subst e;exact .inl ⟨dr _,hd a H p⟩
theorem Mm(g:St->Hp->Prop)(h:St->Hp->Nat)(n:g a H)
  (o:∀a H,g a H->c a H λb f=>if b=true then j {D with nx:=λd e=>g d e/\h d e<h a H,ct:=λd e=>g d e/\h d e<h a H,bk:=D.nx} a f else D.nx a f)
  (mono:∀a H Q i,(∀b f,Q b f->i b f)->c a H Q->c a H i):d9 c j D a H:=by
 refine⟨λm a H=>m=h a H/\g a H,⟨_,rfl,n⟩,?_⟩;rintro m a H ⟨rfl,p⟩;refine mono a H _ _ (λb f q=>?_) (o a H p);cases b with
 |true=>exact⟨_,λd e ⟨r,l⟩=>⟨_,l,rfl,r⟩,q⟩
 |false=>exact q
abbrev R2:=V->V->Hp->VK->Prop
def G5(X:Cx)(f:q5->q5->Sem q5)(r:R2):Prop:=
 ∀(a:List (Addr×Obj)) (s:q4) (b:St) (H:Hp) (x y:V) (v u:q5) (Q:VK),Ak X a b H s->Aw x v->Aw y u->r x y H Q->
  wpAny (model X.prog X.w) X.A (f v u) (EP X a b Q) X.xe s
def xl(X:Cx)(f:q5->Sem q5)(r:V->Hp->VK->Prop):Prop:=
 ∀(a:List (Addr×Obj)) (s:q4) (b:St) (H:Hp) (x:V) (v:q5) (Q:VK),Ak X a b H s->Aw x v->r x H Q->
  wpAny (model X.prog X.w) X.A (f v) (EP X a b Q) X.xe s
def D7(X:Cx)(f:q5)(r:List V->Hp->VK->Prop):Prop:=
 ∀(a:List (Addr×Obj)) (s:q4) (d:St) (H:Hp) (c:List V) (b:List q5) (Q:VK),Ak X a d H s->As c b->r c H Q->
  wpAny (model X.prog X.w) X.A (call f b) (EP X a d Q) X.xe s
def xk(X:Cx)(r:V->Hp->(Bool->Hp->Prop)->Prop):Prop:=
 ∀(a:List (Addr×Obj)) (s:q4) (b:St) (H:Hp) (x:V) (v:q5) (Q:Bool->Hp->Prop),Ak X a b H s->Aw x v->r x H Q->
  wpAny (model X.prog X.w) X.A (truthy v) (TP X a b Q) X.xe s
def wo(r:R2)(d e:TE):TE:=λa H Q=>d a H λx b=>e a b λy c=>r x y c Q
def zh(r:V->Hp->VK->Prop)(b:TE):TE:=λc H Q=>b c H λx a=>r x a Q
def rI(C:Int->Int->Prop)(g:Int->Int->V):R2:=λx y H Q=>∃i j,x=.int i/\y=.int j/\C i j/\Q (g i j) H
def j3(g:Int->Int->V):R2:=λx y H Q=>∃i j,x=.int i/\y=.int j/\Q (g i j) H
def rU(g:Int->V):V->Hp->VK->Prop:=λx H Q=>∃i,x=.int i/\Q (g i) H
section
variable {X:Cx}{a b c:Expr}{ta tb tc:TE}{pos:Pos}
theorem jq(q:PE X a ta)(r:PE X b tb){d:List (Addr×Obj)}{s:q4}{g:St}{H:Hp}{R:V->V->Hp->Prop}(I:Ak X d g H s)
  (h:ta g H λx m=>tb g m λy e=>R x y e){Q:pP}{f:q5->q5->Sem q5}
  (w:∀v u l x y e,Ak X d g e l->Aw x v->Aw y u->R x y e->wpAny (model X.prog X.w) X.A (f v u) Q X.xe l):
  wpAny (model X.prog X.w) X.A (eval a X.env) (λv i=>wpAny (model X.prog X.w) X.A (eval b X.env) (λu j=>wpAny (model X.prog X.w) X.A (f v u) Q X.xe j) X.xe i) X.xe s:=by
 refine Bh (q d s g H _ I h) λv D n=>?_;obtain⟨x,m,o,B,z⟩:=n;refine Bh (r d D g m _ o z) λu l n=>?_;obtain⟨y,e,p,C,A⟩:=n;exact w v u l x y e p B C A
theorem Ah{op:Operator}{r:R2}(j:G5 X (binaryOp op) r)(g:PE X a ta)(i:PE X b tb):PE X (.BinOp a op b pos) (wo r ta tb):=by
 intro d s o H Q I h;exact wpAny_BinOp (jq g i I h λv u n x y e f l m q=>j d n o e x y v u Q f l m q)
theorem Eg(j:xl X (unaryOp op) r)(i:PE X a ta):PE X (.UnaryOp op a pos) (zh r ta):=by
 intro d s e H Q I h;exact UnaryOp_ (Bh (i d s e H _ I h) λv n ⟨x,f,g,m,l⟩=>j d n e f x v Q g m l)
theorem qz{f:q5->q5->Sem q5}{C:Int->Int->Prop}{g:Int->Int->Int}
  (d:∀(i j:Int) (t u:Tok) (s:q4) (Q:pP) (E:pP),C i j->Q (.int (g i j) s.toks) {s with toks:=s.toks+1}->wpAny (model X.prog X.w) X.A (f (.int i t) (.int j u)) Q E s):
  G5 X f (rI C λi j=>.int (g i j)):=by
 intro e s p H x y v u Q I m n h;obtain⟨i,j,rfl,rfl,l,q⟩:=h;obtain⟨t,rfl⟩:=m;obtain⟨o,rfl⟩:=n;exact d i j t o s _ _ l ⟨.int (g i j),H,I.tok _,⟨_,rfl⟩,q⟩
theorem uh{f:q5->q5->Sem q5}{g:Int->Int->Int}
  (d:∀(i j:Int) (t u:Tok) (s:q4) (Q:pP) (E:pP),Q (.int (g i j) s.toks) {s with toks:=s.toks+1}->wpAny (model X.prog X.w) X.A (f (.int i t) (.int j u)) Q E s):
  G5 X f (j3 λi j=>.int (g i j)):=by
 intro e s o H x y v u Q I l m h;obtain⟨i,j,rfl,rfl,q⟩:=h;obtain⟨t,rfl⟩:=l;obtain⟨n,rfl⟩:=m;exact d i j t n s _ _ ⟨.int (g i j),H,I.tok _,⟨_,rfl⟩,q⟩
theorem gb{f:q5->q5->Sem q5}{g:Int->Int->Bool}
  (d:∀(i j:Int) (t u:Tok) (s:q4) (Q:pP) (E:pP),Q (.bool (g i j)) s->wpAny (model X.prog X.w) X.A (f (.int i t) (.int j u)) Q E s):
  G5 X f (j3 λi j=>.bl (g i j)):=by
 intro e s o H x y v u Q I l m h;obtain⟨i,j,rfl,rfl,q⟩:=h;obtain⟨t,rfl⟩:=l;obtain⟨n,rfl⟩:=m;exact d i j t n s _ _ ⟨.bl (g i j),H,I,rfl,q⟩
def wz(i j:Int):Prop:=0<j/\j<1073741824
def xc(i j:Int):Prop:=0<=j/\j<=1000000/\i.natAbs<2^64
theorem Cs:G5 X (binaryOp .Add) (j3 λi j=>.int (i+j)):=uh λ_ _ _ _ _ _ _ q=>add_int q
theorem M5:G5 X (binaryOp .Sub) (j3 λi j=>.int (i-j)):=uh λ_ _ _ _ _ _ _ q=>sub_int q
theorem C5:G5 X (binaryOp .FloorDiv) (rI wz λi j=>.int (i/j)):=qz λi j _ _ _ _ _ d q=>by
 have e:(0:Int)<j:=d.1;have f:j<1073741824:=d.2;exact floordiv_int (by omega) (by rw[Int.fdiv_eq_ediv_of_nonneg i (by omega)];exact q) (.inl (PyProof.noPylong_small (by omega)))
theorem Bc:G5 X (binaryOp .Mod) (rI (λ_ j=>0<j) λi j=>.int (i%j)):=qz λi j _ _ _ _ _ d q=>by
 have e:(0:Int)<j:=d;exact mod_int' (by omega) (by rw[Int.fmod_eq_emod_of_nonneg i (by omega)];exact q)
theorem nz:G5 X (binaryOp .Pow) (rI xc λi j=>.int (i^j.toNat)):=qz λ_ _ _ _ _ _ _ d q=>pow_int_small d.1 d.2.1 d.2.2 q
theorem zi{f:q5->Sem q5}{g:Int->Int}
  (d:∀(i:Int) (t:Tok) (s:q4) (Q:pP) (E:pP),Q (.int (g i) s.toks) {s with toks:=s.toks+1}->wpAny (model X.prog X.w) X.A (f (.int i t)) Q E s):
  xl X f (rU λi=>.int (g i)):=by
 intro e s l H x v Q I j h;obtain⟨i,rfl,q⟩:=h;obtain⟨t,rfl⟩:=j;exact d i t s _ _ ⟨.int (g i),H,I.tok _,⟨_,rfl⟩,q⟩
theorem Dh:xl X (unaryOp .USub) (rU λi=>.int (-i)):=zi λ_ _ _ _ _ q=>neg_int q
end
def vg:V->V->Bool
 | .aX,.aX=>true| .aX,.int _=>true| .int _,.aX=>true| .aX,.bl _=>true| .bl _,.aX=>true| .aX,.str _=>true| .str _,.aX=>true
 | .int _,.int _=>true| .bl _,.bl _=>true| .str _,.str _=>true| .sZ _,.sZ _=>true
 | .int _,.str _=>true| .str _,.int _=>true| .bl _,.str _=>true| .str _,.bl _=>true
 |_,_=>false
def z9:R2:=λx y H Q=>vg x y=true/\Q (.bl (decide (x=y))) H
def za:R2:=λx y H Q=>vg x y=true/\Q (.bl (!decide (x=y))) H
theorem U7:decide (V.int i=V.int j)=(i==j):=by
 rw[Bool.eq_iff_iff];simp
theorem Xu:decide (V.bl i=V.bl j)=(i==j):=by
 rw[Bool.eq_iff_iff];simp
theorem Oo:decide (V.str i=V.str j)=(i==j):=by
 rw[Bool.eq_iff_iff];simp
theorem U6:decide (V.sZ i=V.sZ j)=(i.toList==j.toList):=by
 rw[Bool.eq_iff_iff];cases i;cases j;simp
section
variable {X:Cx}{a b c:Expr}{ta tb tc:TE}{pos:Pos}
theorem B4{k f:Bool}(I:Ak X d g H s)(q:Q (.bl k) H)(e:k=f):EP X d g Q (.bool f) s:=by
 subst e;exact⟨.bl k,H,I,rfl,q⟩
theorem Ba:G5 X (compareOp .Eq) z9:=by
 intro l s m H x y v u Q I g d h;obtain⟨f,q⟩:=h;cases x with
 |aX=>
  cases g;cases y with
  |aX=>cases d;exact PySem.EqNone.eq_none_none (B4 I q (by simp))
  |bl j=>cases d;exact PySem.EqNone.eq_none_bool (B4 I q (by simp))
  |int j=>obtain⟨e,rfl⟩:=d;exact PySem.EqNone.eq_none_int (B4 I q (by simp))
  |str j=>obtain⟨e,rfl⟩:=d;exact PySem.EqNone.eq_none_str (B4 I q (by simp))
  |_=>exact absurd (show false=true from f) ft
 |bl i=>
  cases g;cases y with
  |aX=>cases d;exact PySem.EqNone.eq_bool_none (B4 I q (by simp))
  |bl j=>cases d;exact eq_bool (B4 I q Xu)
  |str j=>obtain⟨e,rfl⟩:=d;exact PySem.EqMixed.eq_bool_str (B4 I q (by simp))
  |_=>exact absurd (show false=true from f) ft
 |int i=>
  obtain⟨t,rfl⟩:=g;cases y with
  |aX=>cases d;exact PySem.EqNone.eq_int_none (B4 I q (by simp))
  |int j=>obtain⟨e,rfl⟩:=d;exact eq_int (B4 I q U7)
  |str j=>obtain⟨e,rfl⟩:=d;exact PySem.EqMixed.eq_int_str (B4 I q (by simp))
  |_=>exact absurd (show false=true from f) ft
 |str i=>
  obtain⟨t,rfl⟩:=g;cases y with
  |aX=>cases d;exact PySem.EqNone.eq_str_none (B4 I q (by simp))
  |bl j=>cases d;exact PySem.EqMixed.eq_str_bool (B4 I q (by simp))
  |int j=>obtain⟨e,rfl⟩:=d;exact PySem.EqMixed.eq_str_int (B4 I q (by simp))
  |str j=>obtain⟨e,rfl⟩:=d;exact eq_str (B4 I q Oo)
  |_=>exact absurd (show false=true from f) ft
 |sZ i=>
  obtain⟨t,rfl⟩:=g;cases y with
  |sZ j=>obtain⟨e,rfl⟩:=d;exact W.eq_bytes (B4 I q U6)
  |_=>exact absurd (show false=true from f) ft
 |_=>cases y<;>exact absurd (show false=true from f) ft
theorem Ia:G5 X (compareOp .NotEq) za:=by
 intro l s m H x y v u Q I g d h;obtain⟨f,q⟩:=h;cases x with
 |aX=>
  cases g;cases y with
  |aX=>cases d;exact PySem.EqNone.ne_none_none (B4 I q (by simp))
  |bl j=>cases d;exact PySem.EqNone.ne_none_bool (B4 I q (by simp))
  |int j=>obtain⟨e,rfl⟩:=d;exact PySem.EqNone.ne_none_int (B4 I q (by simp))
  |str j=>obtain⟨e,rfl⟩:=d;exact PySem.EqNone.ne_none_str (B4 I q (by simp))
  |_=>exact absurd (show false=true from f) ft
 |bl i=>
  cases g;cases y with
  |aX=>cases d;exact PySem.EqNone.ne_bool_none (B4 I q (by simp))
  |bl j=>cases d;exact ne_bool (B4 I q (congrArg not Xu))
  |str j=>obtain⟨e,rfl⟩:=d;exact PySem.EqMixed.ne_bool_str (B4 I q (by simp))
  |_=>exact absurd (show false=true from f) ft
 |int i=>
  obtain⟨t,rfl⟩:=g;cases y with
  |aX=>cases d;exact PySem.EqNone.ne_int_none (B4 I q (by simp))
  |int j=>obtain⟨e,rfl⟩:=d;exact ne_int (B4 I q (congrArg not U7))
  |str j=>obtain⟨e,rfl⟩:=d;exact PySem.EqMixed.ne_int_str (B4 I q (by simp))
  |_=>exact absurd (show false=true from f) ft
 |str i=>
  obtain⟨t,rfl⟩:=g;cases y with
  |aX=>cases d;exact PySem.EqNone.ne_str_none (B4 I q (by simp))
  |bl j=>cases d;exact PySem.EqMixed.ne_str_bool (B4 I q (by simp))
  |int j=>obtain⟨e,rfl⟩:=d;exact PySem.EqMixed.ne_str_int (B4 I q (by simp))
  |str j=>obtain⟨e,rfl⟩:=d;exact ne_str (B4 I q (congrArg not Oo))
  |_=>exact absurd (show false=true from f) ft
 |sZ i=>
  obtain⟨t,rfl⟩:=g;cases y with
  |sZ j=>obtain⟨e,rfl⟩:=d;exact W.ne_bytes (B4 I q (congrArg not U6))
  |_=>exact absurd (show false=true from f) ft
 |_=>cases y<;>exact absurd (show false=true from f) ft
theorem Fv:G5 X (compareOp .Lt) (j3 λi j=>.bl (decide (i<j))):=gb λ_ _ _ _ _ _ _ q=>lt_int q
theorem iz:G5 X (compareOp .LtE) (j3 λi j=>.bl (decide (i<=j))):=gb λ_ _ _ _ _ _ _ q=>le_int q
theorem Ee:G5 X (compareOp .Gt) (j3 λi j=>.bl (decide (j<i))):=gb λ_ _ _ _ _ _ _ q=>gt_int q
theorem ui:G5 X (compareOp .GtE) (j3 λi j=>.bl (decide (j<=i))):=gb λ_ _ _ _ _ _ _ q=>ge_int q
theorem Ny:G5 X (compareOp .In) (λx y H Q=>∃i j,x=.str i/\y=.str j/\Q (.bl (!(Builtin.Str.occurrences j i 0 j.length 1).isEmpty)) H):=by
 intro d s l H x y v u Q I e f h;obtain⟨i,j,rfl,rfl,q⟩:=h;obtain⟨t,rfl⟩:=e;obtain⟨g,rfl⟩:=f;exact in_str (B4 I q rfl)
theorem M4:G5 X (compareOp .Is) (λx y H Q=>y=.aX/\Q (.bl (decide (x=.aX))) H):=by
 intro d s g H x y v u Q I e f h;obtain⟨rfl,q⟩:=h;cases f;refine is_none_gen (B4 I q ?_)
 cases x<;>first
  |(cases e;rfl)
  |(obtain⟨t,rfl⟩:=e;rfl)
theorem Pa:G5 X (compareOp .IsNot) (λx y H Q=>y=.aX/\Q (.bl (!decide (x=.aX))) H):=by
 intro d s g H x y v u Q I e f h;obtain⟨rfl,q⟩:=h;cases f;refine isnot_none_gen (B4 I q ?_)
 cases x<;>first
  |(cases e;rfl)
  |(obtain⟨t,rfl⟩:=e;rfl)
theorem Ac(b:Expr)(h:op≠ .In:=by decide)(f:op≠ .NotIn:=by decide):behindInMarks op b=false:=by
 have d:(op==CmpOp.In)=false:=by cases op<;>first|rfl|exact absurd rfl h
 have e:(op==CmpOp.NotIn)=false:=by cases op<;>first|rfl|exact absurd rfl f
 cases b<;>simp[behindInMarks,d,e]
theorem B6(l:G5 X (compareOp op) r)(g:PE X a ta)(i:PE X b tb)(j:behindInMarks op b=false):PE X (.Compare a [op] [b] pos) (wo r ta tb):=by
 intro d s p H Q I h;exact wpAny_Compare1 (jq g i I h λv u o x y e f m n q=>l d o p e x y v u Q f m n q) j
def w6(t:TE):TT:=λe H Q=>t e H λx d=>∃k,x=.bl k/\Q k d
theorem Aa(w:G5 X (compareOp op) r)(o:PE X a ta)(p:PE X b tb)(q:behindInMarks op b=false):PT X (.Compare a [op] [b] pos) (w6 (wo r ta tb)):=by
 intro d s f H Q I h
 refine wpAny_isTrue_Compare1 (Bh (o d s f H _ I h) λv G ⟨x,g,l,D,A⟩=>Bh (p d G f g _ l A) λu J ⟨y,i,m,E,B⟩=>
  Bh (w d J f i x y v u _ m D E B) λc K ⟨z,j,n,F,k,e,C⟩=>?_) q
 subst e;cases F;exact il ⟨j,n,C⟩
def se(K:W.Frag)(x:V)(H:Hp)(k:Bool):Prop:=
 match x with
 | .aX=>k=false
 | .bl b=>k=b
 | .int i=>k=(i != 0)
 | .str y=>y.length<=sizeLine/\k=((y.length:Int) != 0)
 | .sZ y=>y.size<=sizeLine/\k=((y.size:Int) != 0)
 | .ref p=>(∃e,Ao K H p e/\k= !e.isEmpty)\/(∃e,Cp K H p e/\k= !e.isEmpty)\/∃d,H p=some (.dK d)/\k= !d.isEmpty
 |_=>False
theorem Sd(r:KV kvs vs):(!vs.isEmpty)= !kvs.isEmpty:=by
 cases r<;>rfl
theorem Ll(r:As xs d):(!d.toArray.isEmpty)= !xs.isEmpty:=by
 cases r<;>simp
theorem Ft:(sizeLine:Nat)<2^63:=by rw[sizeLine_eq];decide
theorem qj:xk X (λx H Q=>∃k,se X.K x H k/\Q k H):=by
 intro z s F H x v Q I l h;obtain⟨k,e,q⟩:=h;have D:=Ft;have E:sizeLine=16777216:=sizeLine_eq;cases x with
 |aX=>
  cases l;have d:k=false:=e;subst d;exact truthy_none ⟨H,I,q⟩
 |bl b=>
  cases l;have d:k=b:=e;subst d;exact il ⟨H,I,q⟩
 |int i=>
  obtain⟨t,rfl⟩:=l;have d:k=(i != 0):=e;subst d;exact PySem.P.truthy_int ⟨H,I,q⟩
 |str y=>
  obtain⟨t,rfl⟩:=l;obtain⟨C,d⟩:y.length<=sizeLine/\k=((y.length:Int) != 0):=e;subst d;exact PySem.P.truthy_str (by omega) ⟨H,I.tok _,q⟩
 |sZ y=>
  obtain⟨t,rfl⟩:=l;obtain⟨C,d⟩:y.size<=sizeLine/\k=((y.size:Int) != 0):=e;subst d;exact W.truthy_bytes (by omega) ⟨H,I.tok _,q⟩
 |ref p=>
  cases l;have d:(∃j,Ao X.K H p j/\k= !j.isEmpty)\/(∃j,Cp X.K H p j/\k= !j.isEmpty)\/∃f,H p=some (.dK f)/\k= !f.isEmpty:=e;rcases d with⟨j,n,d⟩|⟨j,n,d⟩|⟨f,n,d⟩
  ·subst d;obtain⟨A,r,u,w⟩:=I.list n;have g:=r.length;exact wpAny_truthy_list u.isList (by simp only[List.size_toArray];omega) ⟨H,I.tok _,by rw[Ll r];exact q⟩
  ·subst d;obtain⟨A,r,u,w⟩:=I.tuple n;have g:=r.length;exact truthy_tuple u (by simp only[List.size_toArray];omega) ⟨H,I.tok _,by rw[Ll r];exact q⟩
  ·subst d;obtain⟨w,B,o,r,m⟩:f.length<=sizeLine/\(p==sysModules)=false/\∃o,KV f o/\s.heap.DictOf (Dc X.prog X.w) p o:=I.aP p _ n;have g:f.length=o.length:=Paired.length r;exact wpAny_truthy_dict B m (by omega) ⟨H,I.tok _,by rw[Sd r];exact q⟩
 |_=>exact(show False from e).elim
theorem Zc(l:PE X a ta)(he:∀d,isTrue a X.env d=(do let v <- d;standAt a.pos;holding [v] (truthy v))):
  PT X a (λf H Q=>ta f H λx g=>∃k,se X.K x g k/\Q k g):=by
 intro e s f H Q I h;exact isTrue_plain (Bh (l e s f H _ I h) λv o ⟨x,i,j,n,m⟩=>qj e o f i x v Q j n m) (he _)
theorem Ct:G5 X (binaryOp .Add) (λx y H Q=>∃i j,x=.str i/\y=.str j/\i.length+j.length<=sizeLine/\Q (.str (i++j)) H):=by
 intro d s n H x y v u Q I f g h;obtain⟨i,j,rfl,rfl,e,q⟩:=h;obtain⟨t,rfl⟩:=f;obtain⟨l,rfl⟩:=g;exact add_str (λl m=>⟨.str (i++j),H,I.tok _,⟨_,rfl⟩,q⟩) e
theorem E6(r:As [x] us):∃u,us=[u]/\Aw x u:=by
 cases r with
 |cons d e=>cases e;exact⟨_,rfl,d⟩
theorem dc(r:As [x,y] us):∃u d,us=[u,d]/\Aw x u/\Aw y d:=by
 cases r with
 |cons e f=>
  cases f with
  |cons g h=>cases h;exact⟨_,_,rfl,e,g⟩
theorem Vm(f:X.calm=true):D7 X (.builtin "max") (λxs H Q=>∃i j,xs=[.int i,.int j]/\Q (.int (if j>i then j else i)) H):=by
 intro e s p H xs n Q I r h;obtain⟨i,j,rfl,q⟩:=h;obtain⟨u,o,rfl,⟨t,rfl⟩,⟨l,rfl⟩⟩:=dc r;refine max_two_ints (I.ok.hd f) λg m k=>⟨_,H,I.kept k,?_,q⟩;by_cases d:j>i
 ·rw[if_pos d,if_pos d];exact⟨_,rfl⟩
 ·rw[if_neg d,if_neg d];exact⟨_,rfl⟩
theorem G7:D7 X (.type "int") (λxs H Q=>(∃i,xs=[.int i]/\Q (.int i) H)\/∃k,xs=[.bl k]/\Q (.int (if k then 1 else 0)) H):=by
 intro d s g H xs f Q I r h;rcases h with⟨i,rfl,q⟩|⟨k,rfl,q⟩
 ·obtain⟨u,rfl,t,rfl⟩:=E6 r;exact call_int_int ⟨.int i,H,I,⟨_,rfl⟩,q⟩
 ·obtain⟨u,rfl,e⟩:=E6 r;cases e;exact call_int_bool ⟨.int (if k then 1 else 0),H,I.tok _,⟨_,rfl⟩,q⟩
theorem Da:D7 X (.type "str") (λxs H Q=>∃i,xs=[.int i]/\i.natAbs.log2<1920/\Q (.str (toString i)) H):=by
 intro d s g H xs f Q I r h;obtain⟨i,rfl,e,q⟩:=h;obtain⟨u,rfl,t,rfl⟩:=E6 r;exact PySem.P.str_of_int e ⟨.str _,H,I.tok _,⟨_,rfl⟩,q⟩
end
structure S1(h:Heap)(x dx C:Addr)(mA:Str->Option q5):Prop where
 obj:h.get? x=some (W.instObj C dx)
 ns:h.Ns1 dx mA
 ne:dx≠x
theorem Wl{h:Heap}{b:Addr}{d:Str->Option q5}(n:h.Ns1 b d):∃f,h.get? b=some f/\∀name,W.lookIn name f=some (d name):=by
 obtain⟨o,c,s,m,i,j,_,l⟩:=n;refine⟨o,m,λname=>?_⟩;have e:=l name;unfold nsFind findBy at e;rw[<- Array.find?_toList]at e;unfold W.lookIn;rw[i];dsimp only;split
 ·rename_i y q;rw[q]at e;exact congrArg some e
 ·rename_i q;rw[q]at e
  have a:c.toList.any (·.refKey)=false:=by
   rw[List.any_eq_false];intro y p;obtain⟨z,t,r⟩:=j y (Array.mem_toList_iff.mp p);simp[DictEntry.refKey,r]
  have g:¬c.toList.any (·.refKey)=true:=by rw[a];exact ft
  rw[if_neg g];exact congrArg some e
theorem S1.look(I:S1 h x b C c):∃a,W.InstAt h x (W.instObj C b) C (some a)/\∀name,W.lookIn name a=some (c name):=
 let⟨a,e,d⟩:=Wl I.ns
 ⟨a,⟨I.obj,rfl,rfl,e⟩,d⟩
section
variable {prog:q7}{w:ro}{A:rd}{E:pP}{s:q4}{K:W.Frag}{x dx C f:Addr}{mA:Str->Option q5}{name:Str}{v:q5}
theorem fg{a:Bool}{Q:pP}(X:K.In s.heap)(I:S1 s.heap x dx C mA)(c:W.plainGet K C name=true)(d:W.hasDictIn K C=true)
  (b:W.findIn K (.ref C) name=some none)(g:mA name=some v)(i:W.handedIn v=true)(h:Q v {s with toks:=s.toks+1}):
  wpAny (model prog w) A (getAttr (.ref x) name a) Q E s:=by
 obtain⟨j,J,e⟩:=I.look;exact W.get_value X J (W.plainGet_of c).1 (W.findObj_own d b rfl (by rw[e,g])) i h
theorem Yb{pl:Sem Bool}{Q:q5×List q5->q4->Prop}(X:K.In s.heap)(I:S1 s.heap x dx C mA)(a:W.plainGet K C name=true)
  (b:W.findIn K (.ref C) name=some (some (.ref f)))(d:W.isFn K (.ref f)=true)(e:mA name=none)(h:Q (.ref f,[.ref x]) s):
  wpAny (model prog w) A (getMethod (.ref x) name pl) Q E s:=by
 obtain⟨g,J,c⟩:=I.look;exact W.method_fn X J (W.plainGet_of a).1 (W.plainGet_of a).2 b (beq_iff_eq.mp d) (by show(W.lookIn name g).map (·.isSome)=some false;rw[c,e];rfl) h
theorem i6{ns:List Str}{Q:Unit->q4->Prop}(X:K.In s.heap)(I:S1 s.heap x dx C mA)
  (p:W.findIn K (.ref C) "__setattr__"=some (some (.builtin "object.__setattr__")))(o:W.plainOver K C=true)(q:W.takerIn K C name=some none)(n:W.hasDictIn K C=true)
  (r:PySem.Within mA ns)(hsz:ns.length<=sizeLine)
  (h:∀h',S1 h' x dx C (λy=>if y=name then some v else mA y)->Heap.SameBut dx s.heap h'->Q () {s with heap:=h',toks:=s.toks+2}):
  wpAny (model prog w) A (setAttr (.ref x) name v) Q E s:=by
 obtain⟨F,J,B⟩:=I.look;refine W.set_plain X J p (W.osa_open (s:={s with toks:=s.toks+1}) (r:=none) X J o q λb=>?_);obtain⟨z,m,l⟩:=W.any_some n;have u:s.heap.get? x=some ⟨.ref C,some dx,.plain,#[]⟩:=I.obj;refine aN (a6 (aN (aN (wpAny_loadPart u (aN (W.Looks.here (s:={s with toks:=s.toks+1}) (W.looks_clsIn X m) ?_))))));rw[l];refine a6 (a:=some dx) (aN (a6 (aN ?_)));refine wpAny_nsSet1 (s:={s with toks:=s.toks+1}) I.ns λh' d e=>?_;obtain⟨D,j,i,c,a,g⟩:=d.count (PySem.Within.cons name v r);refine aN (wpAny_lookBehind c (by rw[a];exact pastItsLine_dict (en g (by rw[List.length_cons];omega))) ?_);exact a6 (h _ ⟨(e.2 _ (Ne.symm I.ne)).trans I.obj,d,I.ne⟩ e)
theorem Ys{R:Result->q4->Prop}{vs:List q5}{b:List (Str×q5)}(X:K.In s.heap)(e:W.makesIn K C=true)
  (hi:W.findIn K (.ref C) "__init__"=some (some (.ref f)))(c:W.typeIn K (.ref f)=some (.type "function"))
  (h:codeAny (model prog w) (A.under (.builtin "type.__call__" ⟨.ref C::vs,b⟩)) (.call (.ref f) ⟨.ref (s.heap.objs.size+1)::vs,b⟩) (W.InitBack (s.heap.objs.size+1) R)
   {s with heap:=(s.heap.push W.emptyDict).push (W.instObj C s.heap.objs.size) }):
  codeAny (model prog w) A (.call (.ref C) ⟨vs,b⟩) R s:=by
 obtain⟨i,g,d,t,j⟩:=s;exact W.make_core (W.makes_of X e) (W.looks_findIn X hi) (λa=>W.bind_fn X a c) (.inl rfl) h
end
def Fy(f:Str)(v:V):List (Str×V)->List (Str×V)
 |[]=>[(f,v)]
 |(g,x)::r=>if g=f then(g,v)::r else(g,x)::Fy f v r
theorem Jy(f g:Str)(v:V):∀fs:List (Str×V),(Fy f v fs).lookup g=if g=f then some v else fs.lookup g
 |[]=>by
  show List.lookup g [(f,v)]=_;by_cases h:g=f
  ·have a:(g==f)=true:=beq_iff_eq.mpr h;simp only[List.lookup,a,if_pos h]
  ·have a:(g==f)=false:=beq_eq_false_iff_ne.mpr h;simp only[List.lookup,a,if_neg h]
 |(k,x)::r=>by
  have c:=Jy f g v r;rw[show Fy f v ((k,x)::r)=(if k=f then(k,v)::r else(k,x)::Fy f v r)from rfl];by_cases b:k=f
  ·rw[if_pos b];by_cases h:g=k
   ·have a:(g==k)=true:=beq_iff_eq.mpr h;simp only[List.lookup,a,if_pos (h.trans b)]
   ·have a:(g==k)=false:=beq_eq_false_iff_ne.mpr h;simp only[List.lookup,a,if_neg (λe:g=f=>h (e.trans b.symm))]
  ·rw[if_neg b];by_cases h:g=k
   ·have a:(g==k)=true:=beq_iff_eq.mpr h;simp only[List.lookup,a,if_neg (λe:g=f=>b (h.symm.trans e))]
   ·have a:(g==k)=false:=beq_eq_false_iff_ne.mpr h;simp only[List.lookup,a];exact c
theorem Jf(f:Str)(v:V):∀fs:List (Str×V),f∈(Fy f v fs).map (·.1)/\∀g,g∈fs.map (·.1)->g∈(Fy f v fs).map (·.1)
 |[]=>⟨by simp[Fy],λg h=>by simp at h⟩
 |(k,x)::r=>by
  obtain⟨b,c⟩:=Jf f v r;rw[show Fy f v ((k,x)::r)=(if k=f then(k,v)::r else(k,x)::Fy f v r)from rfl];by_cases a:k=f
  ·rw[if_pos a];subst a;exact⟨by simp,λg h=>by simpa using h⟩
  ·rw[if_neg a];refine⟨?_,λg h=>?_⟩
   ·rw[List.map_cons];exact d3 _ b
   ·rw[List.map_cons]at h⊢;rcases eu.mp h with e|e
    ·exact eu.mpr (.inl e)
    ·exact d3 _ (c g e)
theorem Jx(f:Str)(v:V):∀fs:List (Str×V),(Fy f v fs).length<=fs.length+1
 |[]=>by simp[Fy]
 |(k,x)::r=>by
  have b:=Jx f v r;rw[show Fy f v ((k,x)::r)=(if k=f then(k,v)::r else(k,x)::Fy f v r)from rfl];by_cases a:k=f
  ·rw[if_pos a,List.length_cons,List.length_cons];omega
  ·rw[if_neg a,List.length_cons,List.length_cons];omega
theorem F2.some_of(r:F2 (some v) o):∃u,o=some u/\Aw v u:=by
 cases o with
 |none=>exact(show False from r).elim
 |some u=>exact⟨u,rfl,r⟩
theorem F2.none_of(r:F2 none o):o=none:=by
 cases o with
 |none=>rfl
 |some u=>exact(show False from r).elim
theorem W9(r:Aw v u):W.handedIn u=true:=by
 cases v with
 |aX=>cases(show u=Value.none from r);rfl
 |bl b=>cases(show u=Value.bool b from r);rfl
 |int i=>obtain⟨t,e⟩:=(show∃t,u=Value.int i t from r);cases e;rfl
 |str x=>obtain⟨t,e⟩:=(show∃t,u=Value.str x t from r);cases e;rfl
 |sZ b=>obtain⟨t,e⟩:=(show∃t,u=Value.bytes b t from r);cases e;rfl
 |FD b=>obtain⟨t,e⟩:=(show∃t,u=Value.float b t from r);cases e;rfl
 |ref a=>cases(show u=Value.ref a from r);rfl
 |ty n=>cases(show u=Value.type n from r);rfl
section
variable {P:q7}{w:ro}{H H':Hp}{h h':Heap}{a C dx:Addr}{fs fs':List (Str×V)}
theorem Kn(c:Fj P w H h)(e:H a=some (.ins C dx fs)):∃b,S1 h a dx C b/\(∀f,F2 (fs.lookup f) (b f))/\PySem.Within b (fs.map (·.1))/\fs.length<=1000/\H dx=some (.own a):=by
 obtain⟨d,z,g,i,b,n,r,q⟩:=(show B8 P w H h a (.ins C dx fs)from c a _ e);exact⟨b,⟨i,n,g⟩,r,q,z,d⟩
end
structure Xc(K:W.Frag)(C:Addr):Prop where
 pg:W.plainGet K C Str.empty=true
 hd:W.hasDictIn K C=true
 po:W.plainOver K C=true
 sa:W.findIn K (.ref C) "__setattr__"=some (some (.builtin "object.__setattr__"))
theorem Xc.get{K:W.Frag}{C:Addr}(c:Xc K C)(f:Str):W.plainGet K C f=true:=c.pg
def Ej(K:W.Frag)(C:Addr)(f:Str):Prop:=W.findIn K (.ref C) f=some none
theorem Ej.MO{K:W.Frag}{C:Addr}{f:Str}(n:Ej K C f):W.takerIn K C f=some none:=by
 unfold W.takerIn;rw[show W.findIn K (.ref C) f=some none from n];rfl
structure Q6(K:W.Frag)(C:Addr)(m:Str)(f:Addr):Prop where
 at_:W.findIn K (.ref C) m=some (some (.ref f))
 fn:W.isFn K (.ref f)=true
 kp:W.keepIn K (.ref f)=true
section
variable {X:Cx}{pins:List (Addr×Obj)}{σ:St}{H:Hp}{s:q4}{a C dx:Addr}{fs:List (Str×V)}{f:Str}{v:V}{A:rd}{E:pP}
theorem Sb(I:Ak X pins σ H s)(e:H a=some (.ins C dx fs))(c:Xc X.K C)(n:Ej X.K C f)(l:fs.lookup f=some v)
  (h:∀u s',Ak X pins σ H s'->Aw v u->Q u s'):wpAny (model X.prog X.w) A (getAttr (.ref a) f b) Q E s:=by
 obtain⟨i,O,r,_,_,_⟩:=Kn I.aP e;obtain⟨u,g,d⟩:=F2.some_of (v:=v) (o:=i f) (by rw[<- l];exact r f);exact fg I.iG O (c.get f) c.hd n g (W9 d) (h u _ (I.tok _) d)
theorem Lj(I:Ak X pins σ H s)(e:H a=some (.ins C dx fs))(c:Xc X.K C)(k:Q6 X.K C m g)(l:fs.lookup m=none)
  (h:Q (.ref g,[.ref a]) s):wpAny (model X.prog X.w) A (getMethod (.ref a) m pl) Q E s:=by
 obtain⟨d,O,r,_,_,_⟩:=Kn I.aP e;have b:d m=none:=F2.none_of (by rw[<- l];exact r m);exact Yb I.iG O (c.get m) k.at_ k.fn b h
theorem Tg(I:Ak X pins σ H s)(e:H a=some (.ins C dx fs))(c:Xc X.K C)(n:Ej X.K C f)(J:fs.length<1000)(F:Aw y u)
  (h:∀s',Ak X pins σ (upd H a (.ins C dx (Fy f y fs))) s'->Q () s'):wpAny (model X.prog X.w) A (setAttr (.ref a) f u) Q E s:=by
 obtain⟨j,O,r,l,_,i⟩:=Kn I.aP e;have D:(fs.map (·.1)).length<=sizeLine:=by rw[List.length_map,sizeLine_eq];omega
 refine i6 I.iG O c.sa c.po n.MO c.hd l D λp d G=>h _ ?_;have x:∃o,p.get? dx=some o:=let⟨o,_,_,m,_⟩:=d.ns;⟨o,m⟩;refine I.write (x:=a) (e:=dx) (by rw[e];exact True.intro) (.inr i) (λb q w z=>(G.2 b w).trans z) x ?_;refine⟨by rw[A9 O.ne];exact i,?_,O.ne,d.obj,_,d.ns,λg=>?_,λg B=>?_⟩
 ·have:=Jx f y fs;omega
 ·show F2 ((Fy f y fs).lookup g) (if g=f then some u else j g);rw[Jy];by_cases q:g=f
  ·rw[if_pos q,if_pos q];exact F
  ·rw[if_neg q,if_neg q];exact r g
 ·by_cases q:g=f
  ·rw[q];exact(Jf f y fs).1
  ·refine(Jf f y fs).2 g (l g λz=>B ?_);show(if g=f then some u else j g)=none;rw[if_neg q];exact z
theorem Ak.made(I:Ak X pins σ H s):Ak X pins σ (upd (upd H s.heap.objs.size (.own (s.heap.objs.size+1))) (s.heap.objs.size+1) (.ins C s.heap.objs.size []))
  {s with heap:=(s.heap.push W.emptyDict).push (W.instObj C s.heap.objs.size) }:=by
 have c:(s.heap.push W.emptyDict).get? s.heap.objs.size=some W.emptyDict:=c4 s.heap rfl
 have h:((s.heap.push W.emptyDict).push (W.instObj C s.heap.objs.size)).get? (s.heap.objs.size+1)=some (W.instObj C s.heap.objs.size):=by
  have:=c4 (s.heap.push W.emptyDict) (o:=W.instObj C s.heap.objs.size) rfl;rwa[Heap.size_push]at this
 have i:(s.heap.push W.emptyDict).Ns s.heap.objs.size (λ_=>none):=⟨W.emptyDict,#[],_,c,rfl,(λe j=>absurd j (by simp)),λ_=>rfl⟩;have g:=I.laid (a:=s.heap.objs.size) (o:=.own (s.heap.objs.size+1)) (h':=s.heap.push W.emptyDict) (t':=s.toks) (λb u q=>bD _ q) (dr _) ⟨_,c⟩;refine g.laid (a:=s.heap.objs.size+1) (o:=.ins C s.heap.objs.size []) (t':=s.toks) (λb u q=>bD _ q) (Nat.le_of_eq (Heap.size_push _ _)) ?_;have d:s.heap.objs.size≠s.heap.objs.size+1:=eI (Nat.lt_succ_self _);refine⟨by rw[A9 d,A2],ml _,d,h,λ_=>none,(Heap.Ns1.of_empty i).at λo q=>bD _ q,λ_=>True.intro,λy l=>absurd rfl l⟩
theorem dl{prog:q7}{env:Env}{pos:Pos}(c:attributeBase e f env (eval e env)=eval e env)
  (h:wpAny (model prog w) A (eval e env) (λo b=>wpAny (model prog w) A (getAttr o f true) Q E b) E s):wpAny (model prog w) A (eval (.Attribute e f pos) env) Q E s:=
 Attribute_any_ h (by rw[arm_eval_Attribute,c])
end
def yc(K:W.Frag)(d:TE)(f:Str):TE:=λe H Q=>d e H λx b=>∃a C c fs v,x=.ref a/\b a=some (.ins C c fs)/\Xc K C/\Ej K C f/\fs.lookup f=some v/\Q v b
def y8(K:W.Frag)(g h:TE)(f:Str):TS:=λD b H=>h b H λy e=>g b e λx c=>∃a C d fs,x=.ref a/\c a=some (.ins C d fs)/\Xc K C/\Ej K C f/\fs.length<1000/\
 D.nx b (upd c a (.ins C d (Fy f y fs)))
section
variable {X:Cx}{o e value:Expr}{f:Str}{pos pos' vX:Pos}{ta tv:TE}
theorem Pd(he:PE X e ta)(r:attributeBase e f X.env (eval e X.env)=eval e X.env):PE X (.Attribute e f pos) (yc X.K ta f):=by
 intro b s z H Q I h;refine dl r (Bh (he b s z H _ I h) λu B j=>?_);obtain⟨x,d,g,y,a,C,A,fs,v,p,m,c,n,l,q⟩:=j;subst p;obtain rfl:u=Value.ref a:=y;exact Sb g m c n l λE D i w=>⟨v,d,i,w,q⟩
theorem Fw(v:PE X o ta)(z:PE X value tv)(w:swapsWith value (some (.Attribute o f pos')) pos.line X.env=pure false):PS X (.Assign [.Attribute o f pos'] value pos) (y8 X.K ta tv f):=by
 intro b s d H D I h;refine plainObj_wpAny_Assign_Attribute (Bh (z b s d H _ I h) λu G ⟨y,g,i,F,q⟩=>Bh (v b G d g _ i q) λA L ⟨x,J,j,E,a,C,K,fs,r,p,c,n,l,B⟩=>?_) w;subst r;obtain rfl:A=Value.ref a:=E;exact Tg j p c n l F λM m=>⟨d,_,m,B⟩
end
section
variable {X:Cx}{pins:List (Addr×Obj)}{σ:St}{H:Hp}{s:q4}{A:rd}{E:pP}{Q:pP}{c:q5}{b:Bool}
inductive Hl(K:W.Frag)(H:Hp):V->q5->Prop where
 |aX:Hl K H .aX (.type "NoneType")
 |bl (x:Bool):Hl K H (.bl x) (.type "bool")
 |int (i:Int):Hl K H (.int i) (.type "int")
 |str (x:Str):Hl K H (.str x) (.type "str")
 |FD (x:UInt64):Hl K H (.FD x) (.type "float")
 |lst {a:Addr}{xs:List V} (e:H a=some (.lst xs)):Hl K H (.ref a) (.type "list")
 |fA {a:Addr}{o:Obj}{xs:List V} (e:H a=some (.fA o (.lst xs))):Hl K H (.ref a) (.type "list")
 |tup {a:Addr}{xs:List V} (e:H a=some (.tup xs)):Hl K H (.ref a) (.type "tuple")
 |dK {a:Addr}{kvs:List (Dw×V)} (e:H a=some (.dK kvs)):Hl K H (.ref a) (.type "dict")
 |dT {a:Addr}{kvs:qs} (e:H a=some (.dT kvs)):Hl K H (.ref a) (.type "dict")
 | ins {a C dx : Addr} {fs : List (Str × V)} (e : H a = some (.ins C dx fs)) (cl : Xc K C) (ha : W.findIn K (.ref C) "__class__" = some (some (.builtin "object.__class__")))
   (hn:W.specialIn K (.builtin "object.__class__") "__get__"=some (some (.builtin "getset_descriptor.__get__"))) (XD:W.takesIn K (.builtin "object.__class__")=some true)
   (hm:W.mroIn K C (.type "object")=some true):Hl K H (.ref a) (.ref C)
theorem Wc{u t:q5}(I:Ak X pins σ H s)(f:Aw x u)(ty:Hl X.K H x t)(e:W.kitOne X.K t c=some b)(h:∀L,Q (.bool b) {s with toks:=L}):
  wpAny (model X.prog X.w) A (call (.builtin "isinstance") [u,c]) Q E s:=by
 cases ty with
 |aX=>cases(show u=Value.none from f);exact W.kia_one W.kitx_none I.iG True.intro e (λz=>nomatch z) h
 |bl y=>cases(show u=Value.bool y from f);exact W.kia_one W.kitx_bool I.iG True.intro e (λz=>nomatch z) h
 |int i=>obtain⟨t,q⟩:=(show∃t,u=Value.int i t from f);cases q;exact W.kia_one W.kitx_int I.iG True.intro e (λz=>nomatch z) h
 |str y=>obtain⟨t,q⟩:=(show∃t,u=Value.str y t from f);cases q;exact W.kia_one W.kitx_str I.iG True.intro e (λz=>nomatch z) h
 |FD y=>obtain⟨t,q⟩:=(show∃t,u=Value.float y t from f);cases q;exact W.kia_one W.kitx_float I.iG True.intro e (λz=>nomatch z) h
 |@lst a l d=>
  cases(show u=Value.ref a from f);obtain⟨_,_,n,_,g⟩:=(show B8 X.prog X.w H s.heap a (.lst l)from I.aP a _ d);exact W.kia_one W.kitx_list I.iG ⟨_,g,rfl⟩ e (λz=>nomatch z) h
 |@fA a K l d=>
  cases(show u=Value.ref a from f);obtain⟨_,_,_,n,_,g⟩:=(show B8 X.prog X.w H s.heap a (.fA K (.lst l))from I.aP a _ d);exact W.kia_one W.kitx_list I.iG ⟨_,g,rfl⟩ e (λz=>nomatch z) h
 |@tup a l d=>
  cases(show u=Value.ref a from f);obtain⟨_,_,_,p⟩:=(show B8 X.prog X.w H s.heap a (.tup l)from I.aP a _ d);obtain⟨o,g,m,_⟩:=p;exact W.kia_one W.kitx_tuple I.iG ⟨o,g,m⟩ e (λz=>nomatch z) h
 |@dK a j d=>
  cases(show u=Value.ref a from f);obtain⟨_,_,R,_,p⟩:=(show B8 X.prog X.w H s.heap a (.dK j)from I.aP a _ d);obtain⟨o,B,w,g,m,_⟩:=p;exact W.kia_one W.kitx_dict I.iG ⟨o,g,m.1⟩ e (λz=>nomatch z) h
 |@dT a j d=>
  cases(show u=Value.ref a from f);obtain⟨_,_,l,_,o,B,w,g,m,_⟩:=(show B8 X.prog X.w H s.heap a (.dT j)from I.aP a _ d);exact W.kia_one W.kitx_dict I.iG ⟨o,g,m.1⟩ e (λz=>nomatch z) h
 |@ins a C M fs d r D G v F=>
  cases(show u=Value.ref a from f);obtain⟨N,O,_⟩:=Kn I.aP d;obtain⟨P,J,_⟩:=O.look;exact W.kia_one (W.kitx_own (r.get _) r.hd D G v F) I.iG J e (λz=>nomatch z) h
end
structure B9(k:Nat)(A:rd):Prop where
 hd:A.handled=none
 dp:A.depth+3*k+5<recursionLimit
 un:A.units+16*k+200<cLine
theorem B9.mono{j k:Nat}(r:B9 k A)(h:j<=k):B9 j A:=⟨r.hd,by have:=r.dp;omega,by have:=r.un;omega⟩
theorem B9.deeper{k:Nat}(r:B9 (k+1) A)(env:Env):B9 k (A.deeper env):=
 ⟨r.hd,by have:=r.dp;show A.depth+1+3*k+5<_;omega,by have:=r.un;show A.units+3+16*k+200<_;omega⟩
theorem Sk{A:rd}{C:Addr}{us:List q5}{a:List (Str×q5)}:(A.under (.builtin "type.__call__" ⟨.ref C::us,a⟩)).depth=A.depth+1:=by
 first|rfl|simp[Around.under,Code.weight,Code.isCreation,Code.isGuard,Code.isCaller,Code.frames,Code.isFrame,guardIds]
theorem Sl{A:rd}{C:Addr}{us:List q5}{a:List (Str×q5)}:(A.under (.builtin "type.__call__" ⟨.ref C::us,a⟩)).units=A.units+1:=by
 first|rfl|simp[Around.under,Code.cUnits,Code.frames,Code.isFrame]
theorem B9.make{k:Nat}(r:B9 (k+1) A)(C:Addr)(us:List q5)(a:List (Str×q5)):B9 k (A.under (.builtin "type.__call__" ⟨.ref C::us,a⟩)):=
 ⟨r.hd,by have:=r.dp;rw[Sk];omega,by have:=r.un;rw[Sl];omega⟩
theorem B9.depth{k:Nat}(r:B9 k A):A.depth<recursionLimit:=by have:=r.dp;omega
theorem B9.units{k:Nat}(r:B9 k A):A.units+64<cLine:=by have:=r.un;omega
def ia:TA:=λ_ H Q=>Q [] H
def d6(d:TE)(e:TA):TA:=λa H Q=>d a H λx b=>e a b λf c=>Q (x::f) c
section
variable {X:Cx}{e:Expr}{es:List Expr}{te:TE}{t:TA}{pos:Pos}
theorem A4:PA X [] ia:=λ_ _ _ _ H Q I h=>Calls.spliced_nil ⟨[],H,I,.nil,h⟩
theorem A0(j:PE X e te)(l:PA X es t)(m:starEach (e::es) X.env=(false,eval e X.env)::starEach es X.env:=by rfl):PA X (e::es) (d6 te t):=by
 intro pos a s b H Q I h;rw[m];show wpAny _ _ (spliced ((false,eval e X.env)::backTo pos (starEach es X.env))) _ _ s;refine Calls.spliced_cons (Bh (j a s b H _ I h) λu r i=>?_);obtain⟨x,c,f,p,n⟩:=i;exact Bh (l pos a r b c _ f n) λy w ⟨v,d,g,q,o⟩=>⟨x::v,d,g,.cons p q,o⟩
def yo(t:TA):TE:=λc H Q=>t c H λb a=>b.length<=sizeLine/\∀p,a p=none->Q (.ref p) (upd a p (.tup b))
def yh(t:TA):TE:=λc H Q=>t c H λb a=>b.length<=sizeLine/\∀p,a p=none->Q (.ref p) (upd a p (.lst b))
theorem Dd{x1}(h:PA X es t):PE X (.Tuple es x1 pos) (yo t):=by
 intro a s m H Q I i;refine wpAny_Tuple_spliced (Bh (h pos a s m H _ I i) λj c ⟨l,d,f,r,z,q⟩=>⟨by rw[<- r.length];exact z,?_⟩);have g:d c.heap.objs.size=none:=f.aP.fresh (dr _);refine⟨.ref c.heap.objs.size,upd d c.heap.objs.size (.tup l),f.laid (t':=c.toks) (λb u e=>bD _ e) (dr _) ?_,rfl,q _ g⟩;exact⟨⟨z,⟨_,c4 _ rfl,rfl⟩⟩,j,r,⟨_,c4 _ rfl,rfl,_,rfl⟩⟩
theorem Bp(h:PA X es t):PE X (.List es pos) (yh t):=by
 intro a s m H Q I i;refine wpAny_List_spliced (Bh (h pos a s m H _ I i) λj c ⟨l,d,f,r,z,q⟩=>⟨by rw[<- r.length];exact z,?_⟩);have g:d c.heap.objs.size=none:=f.aP.fresh (dr _);refine⟨.ref c.heap.objs.size,upd d c.heap.objs.size (.lst l),f.laid (t':=c.toks) (λb u e=>bD _ e) (dr _) ?_,rfl,q _ g⟩;exact⟨z,j,0,r,c4 _ rfl⟩
end
abbrev Sp:=List V->Hp->VK->XK->Prop
abbrev Xb:=List Env->Hp->q4->XK->q5->q4->Prop
structure Rz(P:q7)(w:ro)(K:W.Frag)(mg:Str->Option q5)(base:Heap)(A:rd)(outer:List Env)(s:q4)(H:Hp):Prop where
 frames:A.frames=some outer
 mod:Mod K mg base
 bs:∀b o,base.get? b=some o->s.heap.get? b=some o/\H b=none
 vS:base.objs.size<=s.heap.objs.size
 iM:s.heap.FunFrames base outer
 zL:∀b∈jR outer,H b=none
 aP:Fj P w H s.heap
 bare:AllBare s.gens
def CE(outer:List Env)(P:q7)(w:ro)(H:Hp)(s:q4)(Q:VK)(u:q5)(s':q4):Prop:=
 ∃v a,s'.os=s.os/\AllBare s'.gens/\Un (jR outer) [] H a s.heap s'.heap/\Fj P w a s'.heap/\Aw v u/\Q v a
def CR(CX:Xb)(outer:List Env)(P:q7)(w:ro)(H:Hp)(s:q4)(Q:VK)(E:XK)(r:Result)(s':q4):Prop:=
 match r with
 | .ok (.ret u)=>CE outer P w H s Q u s'
 | .ok _=>False
 | .error e=>CX outer H s E e s'
structure B1(P:q7)(w:ro)(K:W.Frag)(mg:Str->Option q5)(base:Heap)(CX:Xb)(k:Nat)(f:Addr)(fd:ri)(ps:List Str)(sp:Sp):Prop where
 len:∀vs H Q E,sp vs H Q E->vs.length=ps.length
 run:∀(A:rd) (outer:List Env) (s:q4) (H:Hp) (args:Args) (us:List q5) (vs:List V) (Q:VK) (E:XK),B9 k A->Rz P w K mg base A outer s H->BindsTo s fd args (ps.zip us)->As vs us->sp vs H Q E->
  codeAny (model P w) A (.call (.ref f) args) (CR CX outer P w H s Q E) s
theorem Rz.make{P:q7}{w:ro}{K:W.Frag}{mg:Str->Option q5}{base:Heap}{A:rd}{outer:List Env}{s:q4}{H:Hp}(e:Rz P w K mg base A outer s H)(C:Addr)(us:List q5)(a:List (Str×q5)):
  Rz P w K mg base (A.under (.builtin "type.__call__" ⟨.ref C::us,a⟩)) outer s H:=⟨by first|exact e.frames|(simpa[Around.under,Code.envs,Code.isFrame,pushEnvs]using e.frames),e.mod,e.bs,e.vS,e.iM,e.zL,e.aP,e.bare⟩
section
variable {X:Cx}{pins:List (Addr×Obj)}{σ:St}{H:Hp}{s s':q4}
theorem Ak.FH(I:Ak X pins σ H s):Rz X.prog X.w X.K X.mg X.base X.A X.stack s H:=
 ⟨I.ok.frames,I.ok.mod,I.bs,en I.ok.vS I.sz,I.stack,I.gM,I.aP,I.bare⟩
theorem Ak.after(I:Ak X pins σ H s)(h:CE X.stack X.prog X.w H s Q u s'):EP X pins σ Q u s':=by
 obtain⟨v,e,j,a,un,f,r,q⟩:=h;obtain⟨i,g,d,t,c⟩:=s';obtain rfl:c=s.os:=j;exact⟨v,e,I.call (h':=i) (g':=g) (d':=d) (t':=t) (ch:=[]) un f a (λb z=>absurd z (by simp)),r,q⟩
end
def vn(sp:Sp)(b:List V)(E:XK)(t:TA):TE:=λd H Q=>t d H λc a=>sp (c++b) a Q E
def vx(C:Addr)(m:Str)(sp:Sp)(f:List V)(E:XK)(g:TE)(t:TA):TE:=λc H Q=>g c H λx b=>∃a e fs,x=.ref a/\b a=some (.ins C e fs)/\fs.lookup m=none/\
 t c b λh d=>sp (x::(h++f)) d Q E
def vv(C:Addr)(sp:Sp)(d:List V)(E:XK)(t:TA):TE:=λf H Q=>t f H λe b=>∀x a,b x=none->b a=none->a≠x->
 sp (.ref x::(e++d)) (upd (upd b a (.own x)) x (.ins C a [])) (λv c=>v=.aX/\Q (.ref x) c) E
def Di(K:W.Frag)(c:ri)(ps:List Str)(b:List q5):Prop:=
 ∀(s:q4) (a:List q5),K.In s.heap->(a++b).length=ps.length->BindsTo s c ⟨a,[]⟩ (ps.zip (a++b))
theorem Di.all{K:W.Frag}{a:ri}{ps:List Str}(h:∀us:List q5,us.length=ps.length->bindArgs a ⟨us,[]⟩=pure (ps.zip us)):Di K a ps []:=λs us _ b=>by
 rw[List.append_nil]at b⊢;exact .of_eq (h us b)
def Iy(CX:Xb)(X:Cx)(E:XK):Prop:=∀(a:List (Addr×Obj)) (c:St) (H:Hp) (s:q4) (e:q5) (b:q4),Ak X a c H s->CX X.stack H s E e b->X.xe e b
section
variable {X:Cx}{CX:Xb}{k:Nat}{f C:Addr}{fd:ri}{ps:List Str}{sp:Sp}{gT:List V}{ds:List q5}{E:XK}{x m:Str}{p pos apos:Pos}{e o:Expr}{es:List Expr}{ta:TE}{t:TA}
theorem Zl(F:B1 X.prog X.w X.K X.mg X.base CX k f fd ps sp)(l:B9 k X.A)(i:Di X.K fd ps ds)(hd:As gT ds)(n:Iy CX X E)
  (I:Ak X a c H s)(r:As vs us)(h:sp (vs++gT) H Q E):wpAny (model X.prog X.w) X.A (call (.ref f) us) (EP X a c Q) X.xe s:=by
 have d:As (vs++gT) (us++ds):=r.append hd;have j:(us++ds).length=ps.length:=by rw[<- d.length];exact F.len _ _ _ _ h
 refine wpAny_call (codeAny_mono (F.run X.A X.stack s H ⟨us,[]⟩ (us++ds) (vs++gT) Q E l I.FH (i s us I.iG j) d h) λr q b=>?_);cases r with
 |error e=>exact n a c H s e q I b
 |ok g=>
  cases g with
  |ret u=>exact I.after b
  |next=>exact False.elim b
  |brk=>exact False.elim b
  |cont=>exact False.elim b
theorem Am(F:B1 X.prog X.w X.K X.mg X.base CX k f fd ps sp)(l:B9 k X.A)(g:Gl X x)(j:X.mg x=some (.ref f))(i:W.keepIn X.K (.ref f)=true)(d:Di X.K fd ps ds)(hd:As gT ds)(n:Iy CX X E)
  (c:PA X (e::es) t)(v:(x==("__debug__":Str))=false:=by decide)(he:starEach (e::es) X.env=(false,eval e X.env)::starEach es X.env:=by rfl)(u:(backTo pos (starEach es X.env)).any (·.1)=false:=by rfl):
  PE X (.Call (.Name x p) (e::es) [] pos) (vn sp gT E t):=by
 intro a s w H Q I h;refine wpAny_Call_Name_kw (Hv I g j ?_ v);refine W.callWith_K (h₀:=X.base) I.ok.mod.fB i (Bh (c pos a s w H _ I h) λA z ⟨B,y,b,r,q⟩=>⟨b.iG,?_⟩) he u;exact Zl F l d hd n b r q
theorem Up(he:PE X o ta)(c:Xc X.K C)(i:Q6 X.K C m f)(F:B1 X.prog X.w X.K X.mg X.base CX k f fd ps sp)(B:B9 k X.A)(A:Di X.K fd ps ds)(hd:As gT ds)(G:Iy CX X E)(z:PA X (e::es) t)
  (J:starEach (e::es) X.env=(false,eval e X.env)::starEach es X.env:=by rfl)(K:(backTo pos (starEach es X.env)).any (·.1)=false:=by rfl)
  (D:eval (.Call (.Attribute o m apos) (e::es) [] pos) X.env=(do
   let j <- eval o X.env
   standAt apos.atName;let(f,first) <- holding [j] (getMethod j m pl)
   callWith pos f first (backTo pos (starEach (e::es) X.env)) (backToKw pos (keywordEach [] X.env))):=by rfl):
  PE X (.Call (.Attribute o m apos) (e::es) [] pos) (vx C m sp gT E ta t):=by
 intro b s n H Q I h;refine W.methodCall_KW (pl:=pl) (Bh (he b s n H _ I h) λu N ⟨x,v,d,M,a,S,fs,y,w,l,q⟩=>?_) D;subst y;obtain rfl:u=Value.ref a:=M;refine Lj d w c i l ?_;refine W.callWith_K (first:=[.ref a]) (h₀:=X.base) I.ok.mod.fB i.kp (Bh (z pos b N n v _ d q) λO T ⟨P,R,g,r,L⟩=>⟨g.iG,?_⟩) J K;exact Zl (us:=.ref a::O) (vs:=.ref a::P) F B A hd G g (.cons rfl r) L
structure Mk(K:W.Frag)(C f:Addr):Prop where
 makes:W.makesIn K C=true
 init:W.findIn K (.ref C) "__init__"=some (some (.ref f))
 fn:W.isFn K (.ref f)=true
 kp:W.keepIn K (.ref C)=true
theorem Zm(M:Mk X.K C f)(F:B1 X.prog X.w X.K X.mg X.base CX k f fd ps sp)(B:B9 (k+1) X.A)(z:Di X.K fd ps ds)(hd:As gT ds)
  (D:Iy CX X E)(I:Ak X a g H s)(r:As vs us)
  (h:∀x d,H x=none->H d=none->d≠x->sp (.ref x::(vs++gT)) (upd (upd H d (.own x)) x (.ins C d [])) (λv n=>v=.aX/\Q (.ref x) n) E):
  wpAny (model X.prog X.w) X.A (call (.ref C) us) (EP X a g Q) X.xe s:=by
 have i:=h (s.heap.objs.size+1) s.heap.objs.size (I.aP.fresh (Nat.le_succ _)) (I.aP.fresh (dr _)) (eI (Nat.lt_succ_self _));have c:=Ak.made (C:=C) I;have j:As (V.ref (s.heap.objs.size+1)::(vs++gT)) (Value.ref (s.heap.objs.size+1)::(us++ds)):=.cons rfl (r.append hd)
 have A:(Value.ref (s.heap.objs.size+1)::us++ds).length=ps.length:=by
  have e:=j.length;rw[F.len _ _ _ _ i]at e;exact e.symm
 refine wpAny_call (Ys (f:=f) I.iG M.makes M.init (beq_iff_eq.mp M.fn) (codeAny_mono (F.run _ X.stack _ _ ⟨Value.ref (s.heap.objs.size+1)::us,[]⟩ (Value.ref (s.heap.objs.size+1)::(us++ds)) _ _ E (B.make C us [])
  (c.FH.make C us []) (z _ (Value.ref (s.heap.objs.size+1)::us) c.iG A) j i) λr J b=>?_))
 cases r with
 |error e=>exact D a g _ _ e J c b
 |ok y=>
  cases y with
  |ret u=>
   obtain⟨v,l,q,rv,w,G⟩:=c.after b;subst w;exact⟨rv,⟨V.ref (s.heap.objs.size+1),l,q,rfl,G⟩⟩
  |next=>exact False.elim b
  |brk=>exact False.elim b
  |cont=>exact False.elim b
theorem M6(M:Mk X.K C f)(F:B1 X.prog X.w X.K X.mg X.base CX k f fd ps sp)(g:B9 (k+1) X.A)(c:Gl X x)(d:X.mg x=some (.ref C))(b:Di X.K fd ps ds)(hd:As gT ds)(i:Iy CX X E)
  (j:(x==("__debug__":Str))=false:=by decide):PE X (.Call (.Name x p) [] [] pos) (vv C sp gT E ia):=by
 intro a s l H Q I h;refine wpAny_Call_Name_kw (Hv I c d ?_ j);exact W.callWith_K0 I.iG M.kp (Zm (us:=[]) M F g b hd i I .nil h)
end
def PK(X:Cx)(c:List Keyword)(t:TA):Prop:=
 ∀(pos:Pos) (a:List (Addr×Obj)) (s:q4) (b:St) (H:Hp) (Q:List V->Hp->Prop),Ak X a b H s->t b H Q->wpAny (model X.prog X.w) X.A (evalAll ((backToKw pos (keywordEach c X.env)).map (·.2))) (AP X a b Q) X.xe s
section
variable {X:Cx}{CX:Xb}{k:Nat}{f C:Addr}{fd:ri}{ps ks:List Str}{sp:Sp}{E:XK}{x m:Str}{p pos apos kpos:Pos}{e o:Expr}{es:List Expr}{MP:List Keyword}{te ta:TE}{t tk:TA}{nm:Option Str}
theorem o9:PK X [] ia:=λ_ _ _ _ H Q I h=>wpAny_evalAll_nil ⟨[],H,I,.nil,h⟩
theorem gn(j:PE X e te)(l:PK X MP t):PK X (⟨nm,e,kpos⟩::MP) (d6 te t):=by
 intro pos a s b H Q I h;show wpAny _ _ (evalAll ((do let v <- eval e X.env;standAt pos;pure v)::(backToKw pos (keywordEach MP X.env)).map (·.2))) _ _ s;refine wpAny_evalAll_cons (aN (Bh (j a s b H _ I h) λu y ⟨x,c,g,r,n⟩=>aN (wpAny_standAt (a6 ?_))));exact Bh (l pos a y b c _ g n) λB A ⟨z,d,i,w,q⟩=>⟨x::z,d,i,.cons r w,q⟩
variable {g:List q5->List q5->List q5}{gV:List V->List V->List V}
end
structure Ai(N P:List Str)(sc:Scope):Prop where
 kind:sc.kind=.function
 co:sc.isCoroutine=false
 gen:sc.isGenerator=false
 nd:N.Nodup
 pre:N.take P.length=P
 par:∀x∈P,sc.names.lookup x=some .local\/sc.names.lookup x=some .cell
 FJ:∀y∈sc.names,y.2≠ .free
theorem Na{a:Str->Option NameKind}{x:Str}:∀{binds:List (Str×q5)}{m:Str->Option q5},(∀v,(x,v)∉binds)->bindL a binds m x=m x
 |[],_,_=>rfl
 |(n,v)::r,m,h=>by
  unfold bindL;rw[Na λw b=>h w (List.mem_cons_of_mem _ b)];split
  ·have:x≠n:=by rintro rfl;exact h v dm
   simp[this]
  ·rfl
theorem N8{a:Str->Option NameKind}{x:Str}:∀{binds:List (Str×q5)}{m:Str->Option q5},(∀v,(x,v)∉binds)->bindC a binds m x=m x
 |[],_,_=>rfl
 |(n,v)::r,m,h=>by
  unfold bindC;rw[N8 λw b=>h w (List.mem_cons_of_mem _ b)];split
  ·rfl
  ·have:x≠n:=by rintro rfl;exact h v dm
   simp[this]
theorem N9{a:Str->Option NameKind}{x:Str}{v:q5}:∀{P:List Str}{vs:List q5}{i:Nat}{m:Str->Option q5},P.Nodup->P[i]?=some x->vs[i]?=some v->a x=some .local->
  bindL a (P.zip vs) m x=some v
 |[],_,_,_,_,h,_,_=>by simp at h
 |_::_,[],_,_,_,_,h,_=>by simp at h
 |p::P,w::vs,0,m,e,b,c,d=>by
  simp at b c;subst b;subst c;show bindL a ((p,w)::P.zip vs) m p=_;unfold bindL;rw[Na λv f=>(List.nodup_cons.mp e).1 (List.of_mem_zip f).1,if_pos d];simp
 |p::P,w::vs,i+1,m,e,b,c,d=>by
  show bindL a ((p,w)::P.zip vs) m x=_;unfold bindL;exact N9 (i:=i) (List.nodup_cons.mp e).2 (by simpa using b) (by simpa using c) d
theorem N7{a:Str->Option NameKind}{x:Str}{v:q5}:∀{P:List Str}{vs:List q5}{i:Nat}{m:Str->Option q5},P.Nodup->P[i]?=some x->vs[i]?=some v->a x≠some .local->
  bindC a (P.zip vs) m x=some v
 |[],_,_,_,_,h,_,_=>by simp at h
 |_::_,[],_,_,_,_,h,_=>by simp at h
 |p::P,w::vs,0,m,e,b,c,d=>by
  simp at b c;subst b;subst c;show bindC a ((p,w)::P.zip vs) m p=_;unfold bindC;rw[N8 λv f=>(List.nodup_cons.mp e).1 (List.of_mem_zip f).1,if_neg d];simp
 |p::P,w::vs,i+1,m,e,b,c,d=>by
  show bindC a ((p,w)::P.zip vs) m x=_;unfold bindC;exact N7 (i:=i) (List.nodup_cons.mp e).2 (by simpa using b) (by simpa using c) d
def start(N:List Str)(vs:List V):St:=vs.map some++List.replicate (N.length-vs.length) none
def Ex(CX:Xb)(P:q7)(w:ro)(K:W.Frag)(mg:Str->Option q5)(base:Heap)(N:List Str)(b:Str)(a:Scope)(f:Addr)(c:q5)(A:rd)(outer:List Env)(s:q4)(H:Hp)(E:XK):Cx where
 prog:=P
 w:=w
 K:=K
 mg:=mg
 base:=base
 A:=A.deeper (envOfC b a s.heap.objs.size f c)
 N:=N
 s₀:=s
 H₀:=H
 env:=envOfC b a s.heap.objs.size f c
 outer:=outer
 stack:=envOfC b a s.heap.objs.size f c::outer
 ex:=[]
 calm:=true
 fn:=λ_=>true
 pn:=[]
 xe:=λe h=>wpAny (model P w) (A.deeper (envOfC b a s.heap.objs.size f c)) (leaving (envOfC b a s.heap.objs.size f c) e) (λ_ d=>CX outer H s E e d) (λg d=>CX outer H s E g d) h
theorem Qg{a:Scope}{n:Nat}{x:Str}(h:a.names.lookup x=some .cell):∃c,(cellsFrom n a.names []).lookup x=some c:=by
 have q:=W.cellsFrom_some a.names n [] (.inl h);exact Option.isSome_iff_exists.mp q
theorem Wb{CX:Xb}{P:q7}{w:ro}{K:W.Frag}{mg:Str->Option q5}{base:Heap}{N ps:List Str}{g:Str}{d:Scope}{f:Addr}{B:q5}{A:rd}{outer:List Env}{s J:q4}{H:Hp}{E:XK}{us:List q5}{vs:List V}
  (S:Ai N ps d)(hd:A.handled=none)(l:Rz P w K mg base A outer s H)(O:vs.length=ps.length)(r:As vs us)
  (x:InCallC s s.heap.objs.size (bindL (envOfC g d s.heap.objs.size f B).kindOf (ps.zip us) λ_=>none) (cellsFrom (s.heap.objs.size+1) d.names []) (bindC (envOfC g d s.heap.objs.size f B).kindOf (ps.zip us) λ_=>none) J):
  Ak (Ex CX P w K mg base N g d f B A outer s H E) [] (start N vs) H J:=by
 have Q:ps.length<=N.length:=by have:=congrArg List.length S.pre;rw[List.length_take]at this;omega
 obtain⟨C,R,rfl,G⟩:=x.done;have F:∀b:Addr,b∉(Ex CX P w K mg base N g d f B A outer s H E).ex:=λb z=>absurd (show b∈([]:List Addr)from z) (by simp)
 refine⟨⟨l.mod,S.kind,rfl,rfl,dr _,λy z c C j=>?_,λy m=>?_,λy c _ h=>?_,λ_=>hd,Around.frames_deeper l.frames,.inr ⟨rfl,rfl⟩,λb z=>absurd z (F b),l.bs,l.vS,λb _ _=>F b,λb z=>absurd z (F b),l.iM,l.zL⟩,
  rfl,l.bare,Un.kept G,⟨_,x.toInCall.ns,λi y v C j M=>?_⟩,λy c h=>⟨_,x.cell y c h⟩,l.aP.fresh (dr _),λy c h=>?_,λp n=>absurd (show p∈([]:List (Addr×Obj))from n) (by simp),l.aP.kept G,?_⟩
 ·exact name_of_addr x.apart (PySem.mem_of_lookup C) (PySem.mem_of_lookup j)
 ·have m:d.names.lookup y=some .cell\/d.names.lookup y=some .free:=m;rcases m with m|m
  ·exact Qg m
  ·exact absurd rfl (S.FJ _ (PySem.mem_of_lookup m))
 ·exact nX (x.above y c (PySem.mem_of_lookup h))
 ·have D:i<vs.length:=by
   unfold start at j;by_cases D:i<vs.length
   ·exact D
   ·rw[List.getElem?_append_right (by simpa using D)]at j;rw[List.getElem?_replicate]at j;split at j<;>cases j
  have L:vs[i]?=some v:=by
   unfold start at j;rw[List.getElem?_append_left (by simpa using D),List.getElem?_map]at j;cases e:vs[i]? with
   |none=>rw[e]at j;cases j
   |some a=>rw[e]at j;cases j;rfl
  obtain⟨u,I,rv⟩:=r.get L
  have n:ps[i]?=some y:=by
   rw[<- S.pre,List.getElem?_take_of_lt (by omega)];exact C
  have o:ps.Nodup:=by rw[<- S.pre];exact S.nd.sublist (List.take_sublist _ _)
  refine⟨u,rv,?_⟩;rcases S.par y (cI n)with k|k
  ·exact .inl ⟨k,N9 o n I k⟩
  ·obtain⟨c,e⟩:=Qg (n:=s.heap.objs.size+1) k;refine .inr ⟨.inl k,c,e,?_⟩;have q:=x.cell y c e;rw[N7 o n I (by show d.names.lookup y≠_;rw[k];decide)]at q;exact q
 ·exact l.aP.fresh (nX (x.above y c (PySem.mem_of_lookup h)))
 ·unfold start;show _=N.length;rw[List.length_append,List.length_map,List.length_replicate];omega
theorem Y7{CX:Xb}{P:q7}{w:ro}{K:W.Frag}{mg:Str->Option q5}{base:Heap}{k:Nat}{f:Addr}{name c:Str}{d:Arguments}{g:List Stmt}{a:Scope}{O kV m R j ct oc:q5}{L od:Option Addr}
  {pK:Array (Option q5)}{N ps:List Str}{sp:Sp}(lk:K.lookup f=some ⟨oc,od,.func (W.fnOf name c d g a O kV m R L j ct),pK⟩)(rD:W.codeIn K j c=true)(S:Ai N ps a)
  (B:∀vs H Q E,sp vs H Q E->vs.length=ps.length)
  (Z:∀(A:rd) (outer:List Env) (s:q4) (H:Hp) (vs:List V) (Q:VK) (E:XK),B9 k (A.deeper (envOfC c a s.heap.objs.size f j))->sp vs H Q E->
   ∃t,Mo (Ex CX P w K mg base N c a f j A outer s H E) g t/\t {nx:=λ_ i=>Q .aX i,rt:=Q} (start N vs) H):
  B1 P w K mg base CX (k+1) f (W.fnOf name c d g a O kV m R L j ct) ps sp:=by
 refine⟨B,λA outer s H M us vs Q E C p hb r U=>?_⟩;have hl:=B _ _ _ _ U;have G:K.In s.heap:=p.mod.fB.keeps λb o e=>(p.bs b o e).1;have D:s.heap.NoLimit:=p.mod.nolimit.keeps λb o e=>(p.bs b o e).1
 have X:∀y∈ps.zip us,a.names.lookup y.1=some .local\/(a.names.lookup y.1=some .cell/\((cellsFrom (s.heap.objs.size+1) a.names []).lookup y.1).isSome=true):=λ⟨n,v⟩ hy=>by
  rcases S.par n (List.of_mem_zip hy).1 with q|q
  ·exact .inl q
  ·exact .inr ⟨q,W.cellsFrom_some _ _ _ (.inl q)⟩
 refine codeAny_call_function C.depth (G _ _ lk) rfl S.co S.gen rfl (W.codeRec_of G rD) (hb _ _ _ _ ?_);refine wpAny_newFunctionEnv_cells S.kind X λY he T x=>?_;subst he;refine⟨D.keeps x.toInCall.keep,codeAny_func ?_⟩;obtain⟨t,ht,hq⟩:=Z A outer s H vs Q E (C.deeper _) U;have I:Ak (Ex CX P w K mg base N c a f j A outer s H E) [] (start N vs) H T:=Wb S C.hd p hl r x;refine hH (ht [] T (start N vs) H _ I hq) (λfl F l=>?_) λe F l=>l
 have z:∀{h:St}{i:Hp}{v:V}{u:q5},Ak (Ex CX P w K mg base N c a f j A outer s H E) [] h i F->Aw v u->Q v i->CE outer P w H s Q u F:=
  λ{h i v u} J rv q=>⟨v,i,J.os,J.bare,J.base,J.aP,rv,q⟩
 cases fl with
 |ret u=>
  obtain⟨v,h,i,J,rv,q⟩:=l;exact z J rv q
 |next=>
  obtain⟨h,i,J,q⟩:=l;exact z (v:=V.aX) (u:=Value.none) J rfl q
 |brk=>
  obtain⟨_,_,_,q⟩:=l;exact False.elim q
 |cont=>
  obtain⟨_,_,_,q⟩:=l;exact False.elim q
section
variable {X:Cx}{x:Str}{p pos:Pos}{e:Expr}{es:List Expr}{t:TA}{id T:String}{r:List V->Hp->VK->Prop}
def yv(r:List V->Hp->VK->Prop)(t:TA):TE:=λc H Q=>t c H λb a=>r b a Q
theorem Aj(g:D7 X (.builtin id) r)(i:Gl X x)(j:X.mg x=none)(m:bootBuiltins x=some (.builtin id))(f:PA X (e::es) t)(l:x≠"__name__":=by decide)(o:(x==("__debug__":Str))=false:=by decide)
  (he:starEach (e::es) X.env=(false,eval e X.env)::starEach es X.env:=by rfl)(n:(backTo pos (starEach es X.env)).any (·.1)=false:=by rfl):PE X (.Call (.Name x p) (e::es) [] pos) (yv r t):=by
 intro a s b H Q I h;refine wpAny_Call_Name_kw (Eo I i j m ?_ l o);exact PyProof.Rows.callWith_builtin1 (Bh (f pos a s b H _ I h) λw v ⟨y,c,d,u,q⟩=>g a v b c y w Q d u q) he n
theorem Bk(g:D7 X (.type T) r)(i:Gl X x)(j:X.mg x=none)(m:bootBuiltins x=some (.type T))(f:PA X (e::es) t)(l:x≠"__name__":=by decide)(o:(x==("__debug__":Str))=false:=by decide)
  (he:starEach (e::es) X.env=(false,eval e X.env)::starEach es X.env:=by rfl)(n:(backTo pos (starEach es X.env)).any (·.1)=false:=by rfl):PE X (.Call (.Name x p) (e::es) [] pos) (yv r t):=by
 intro a s b H Q I h;refine wpAny_Call_Name_kw (Eo I i j m ?_ l o);exact PyProof.Rows.callWith_type1 (Bh (f pos a s b H _ I h) λw v ⟨y,c,d,u,q⟩=>g a v b c y w Q d u q) he n
end
end L2
namespace HT
local macro_rules | `(tactic| omega) => `(tactic| lia)
open PySem PyProof.Rows
section
variable {prog:Program}{w:World}{A:Around}{E:Value->Shared->Prop}{s:Shared}
theorem zN{t b:Addr}(y:IsTup s.heap t vs.toArray)(x:IsTup s.heap b ws.toArray)(p:vs≠[])
  (h1:ws=[]->Q (.ref t) s)(v:ws≠[]->Q (.ref s.heap.objs.size) {s with heap:=s.heap.push {cls:=.type "tuple",data:=.seq (vs++ws).toArray} })
  (hsz:vs.length+ws.length<=sizeLine):wpAny (model prog w) A (binaryOp .Add (.ref t) (.ref b)) Q E s:=by
 obtain⟨⟨cls,l,data,r⟩,g,m,n,o⟩:=id y;obtain⟨⟨j,a,i,d⟩,f,u,q,c⟩:=id x;simp only at m o u c;subst m o u c;have e:vs.toArray++ws.toArray=(vs++ws).toArray:=by simp
 by_cases h:ws=[]
 ·exact concat_meets ⟨_,g,rfl⟩ ⟨_,f,rfl⟩ noFill_tuple_add seq_tuple_add PySem.F.slot_tuple_add PySem.F.entry_tuple_add (PySem.F.args_tuple_add_2 _ _)
   (tuple_addW1 t b vs.toArray ws.toArray n q l a r d (by simpa using p) (by simp[h])) ⟨g,f,h1 h⟩
 ·refine concat_meets ⟨_,g,rfl⟩ ⟨_,f,rfl⟩ noFill_tuple_add seq_tuple_add PySem.F.slot_tuple_add PySem.F.entry_tuple_add (PySem.F.args_tuple_add_2 _ _)
   (tuple_addW2 t b vs.toArray ws.toArray n q l a r d (by simpa using p) (by simpa using h) (by rw[List.size_toArray,List.size_toArray];exact hsz)) ⟨g,f,?_⟩
  rw[e];exact v h
def iQ(n d:Nat):Option Int->Nat
 |none=>d
 |some v=>if v<0 then(v+(n:Int)).toNat else min v.toNat n
theorem eR(n d:Nat):iQ n d none=d:=rfl
theorem iR(n d k:Nat):iQ n d (some (k:Int))=min k n:=by
 show(if(k:Int)<0 then((k:Int)+(n:Int)).toNat else min (k:Int).toNat n)=min k n;rw[if_neg (by omega),Int.toNat_natCast]
end
end HT
namespace L2
local macro_rules | `(tactic| omega) => `(tactic| lia)
open PySem PySem.Spec PyProof.Rows
abbrev TO:=St->Hp->(q3->Hp->Prop)->Prop
def PO(X:Cx)(e:Option Expr)(t:TO):Prop:=
 ∀(a:List (Addr×Obj)) (s:q4) (b:St) (H:Hp) (Q:q3->Hp->Prop),Ak X a b H s->t b H Q->
  wpAny (model X.prog X.w) X.A (evalPart e X.env) (λu d=>∃o c,Ak X a b c d/\IsPart u o/\Q o c) X.xe s
def ib:TO:=λ_ H Q=>Q none H
def vz(t:TE):TO:=λb H Q=>t b H λx a=>∃i,x=.int i/\Q (some i) a
theorem F7:∀{us:List q5},As (ns.map V.int) us->IntsAre us ns:=by
 induction ns with
 |nil=>intro us r;rw[List.map_nil]at r;cases r;exact .nil
 |cons n ns a=>
  intro us r;rw[List.map_cons]at r;cases r with
  |cons b c=>
   obtain⟨t,e⟩:=b;subst e;exact .cons n t (a c)
section
variable {X:Cx}{e:Expr}{te:TE}{lo hi:Option Expr}{tl th:TO}{pos p2:Pos}
theorem Bw:PO X none ib:=by
 intro a s b H Q I h;rw[evalPart_none];exact a6 ⟨none,H,I,.none,h⟩
theorem Bl(h:PE X e te):PO X (some e) (vz te):=by
 intro a s l H Q I f;rw[evalPart_some];refine Bh (h a s l H _ I f) λu m d=>?_;obtain⟨x,b,c,j,g⟩:=d;obtain⟨i,rfl,q⟩:=g;obtain⟨t,rfl⟩:=j;exact⟨some i,b,c,.int i t,q⟩
def wf(X:Cx)(r:V->q3->q3->Hp->VK->Prop):Prop:=
 ∀(a:List (Addr×Obj)) (s:q4) (f:St) (H:Hp) (x:V) (v c d:q5) (lo hi:q3) (b:Addr) (Q:VK),Ak X a f H s->Aw x v->s.heap.IsSliceOf b c d .none->IsPart c lo->IsPart d hi->r x lo hi H Q->
  ∃T g,typeLookup (.type T) "__getitem__"=pure (some (.builtin g))/\s.TypeIs v T/\wpAny (model X.prog X.w) X.A (getItem v (.ref b)) (EP X a f Q) X.xe s
def zg(r:V->q3->q3->Hp->VK->Prop)(te:TE)(tl th:TO):TE:=λa H Q=>te a H λx b=>tl a b λl c=>th a c λu d=>r x l u d Q
theorem Bb{r:V->q3->q3->Hp->VK->Prop}(C:wf X r)(he:PE X e te)(B:PO X lo tl)(E:PO X hi th):PE X (.Subscript e (.Slice lo hi none p2) pos) (zg r te tl th):=by
 intro a s d H Q I h;refine Subscript_ (Bh (he a s d H _ I h) λv N i=>?_);obtain⟨x,m,o,M,J⟩:=i;refine wpAny_Slice (Bh (B a N d m _ o J) λf O ⟨l,n,p,F,K⟩=>Bh (E a O d n _ p K) λg c i=>?_);obtain⟨u,j,w,G,L⟩:=i;rw[evalPart_none];refine a6 ?_;have y:Ak X a d j {c with heap:=c.heap.push {cls:=.type "slice",data:=.fields #[f,g,.none] } }:=w.kept (t':=c.toks) λb R q=>bD _ q;obtain⟨T,P,z,D,A⟩:=C a {c with heap:=c.heap.push {cls:=.type "slice",data:=.fields #[f,g,.none] } } d j x v f g l u c.heap.objs.size Q y M (Heap.IsSliceOf.new ..) F G L;show wpAny (model X.prog X.w) X.A (subscriptTail e (.Slice lo hi none p2) v (.ref c.heap.objs.size)) (EP X a d Q) X.xe {c with heap:=c.heap.push {cls:=.type "slice",data:=.fields #[f,g,.none] } };exact tail_any (ops:=[.ref c.heap.objs.size,v]) D z A (by with_unfolding_all rfl)
def L7(xs:List V)(lo hi:q3):List V:=(xs.drop (HT.iQ xs.length 0 lo)).take (HT.iQ xs.length xs.length hi-HT.iQ xs.length 0 lo)
theorem Qm(xs:List V)(lo hi:q3):(L7 xs lo hi).length<=xs.length:=by
 unfold L7;rw[List.length_take,List.length_drop];omega
def ul(K:W.Frag):R2:=λx y H Q=>∃a b d c,x=.ref a/\y=.ref b/\Cp K H a d/\Cp K H b c/\d≠[]/\d.length+c.length<=sizeLine/\
 (c=[]->Q (.ref a) H)/\(c≠[]->∀p,H p=none->Q (.ref p) (upd H p (.tup (d++c))))
theorem As.oM(r:As xs us):us=[]↔xs=[]:=by
 cases r with
 |nil=>simp
 |cons _ _=>simp
theorem gf:G5 X (binaryOp .Add) (ul X.K):=by
 intro g s F H x y v u Q I p r h;obtain⟨a,b,A,B,rfl,rfl,i,j,l,f,n,o⟩:=h;cases p;cases r;obtain⟨C,d,m,_⟩:=I.tuple i;obtain⟨D,c,p2,_⟩:=I.tuple j;refine HT.zN m p2 (λz=>l (d.oM.mp z)) (λz=>⟨.ref a,H,I,rfl,n (c.oM.mp z)⟩) (λz=>?_) (by rw[<- d.length,<- c.length];exact f);refine⟨.ref s.heap.objs.size,_,I.laid (t':=s.toks) (o:=.tup (A++B)) (λb E q=>bD _ q) (dr _) ?_,rfl,o (λw=>z (c.oM.mpr w)) _ (I.aP.fresh (dr _))⟩;exact⟨⟨by rw[List.length_append];exact f,⟨_,c4 _ rfl,rfl⟩⟩,_,d.append c,IsTup.new _ _⟩
end
def Sf(n:Nat)(i:Int):Option Nat:=if 0<=i then(if i<n then some i.toNat else none)else if-(n:Int)<=i then some (i+n).toNat else none
def Hm(xs:List a)(i:Int):Option a:=(Sf xs.length i).bind λj=>xs[j]?
theorem Ui(h:Sf n i=some j):seqIndex? i n=some j/\j<n/\-(n:Int)<=i/\i<n:=by
 unfold Sf at h;by_cases b:0<=i
 ·rw[if_pos b]at h;by_cases a:i<n
  ·rw[if_pos a]at h;have e:i.toNat=j:=eo h;exact⟨by rw[seqIndex_of b a,e],by omega,by omega,a⟩
  ·rw[if_neg a]at h;cases h
 ·rw[if_neg b]at h;by_cases a:-(n:Int)<=i
  ·rw[if_pos a]at h;have e:(i+n).toNat=j:=eo h;exact⟨by rw[seqIndex_neg (by omega) a,e],by omega,a,by omega⟩
  ·rw[if_neg a]at h;cases h
theorem Oe(h:Hm xs i=some v):∃j,seqIndex? i xs.length=some j/\xs[j]?=some v/\j<xs.length/\-(xs.length:Int)<=i/\i<xs.length:=by
 unfold Hm at h;cases e:Sf xs.length i with
 |none=>rw[e]at h;cases h
 |some j=>
  rw[e]at h;obtain⟨b,c,d,f⟩:=Ui e;exact⟨j,b,h,c,d,f⟩
theorem Hn{a:Type}{xs:List a}{j:Nat}{v:a}(h:xs[j]?=some v):Hm xs (j:Int)=some v:=by
 have b:j<xs.length:=(bt.mp h).1
 have e:Sf xs.length (j:Int)=some j:=by
  unfold Sf;rw[if_pos (by omega),if_pos (by omega)];simp
 unfold Hm;rw[e];exact h
def dk(b:Expr):Prop:=∀o i,subscripted b false o i=operate [o,i] (getItem o i)
def rj(X:Cx)(r:R2):Prop:=
 ∀(c a:Expr) (b:List (Addr×Obj)) (s:q4) (d:St) (H:Hp) (x y:V) (v u:q5) (Q:VK),Ak X b d H s->Aw x v->Aw y u->r x y H Q->
  subscripted a false v u=operate [v,u] (getItem v u)->wpAny (model X.prog X.w) X.A (subscriptTail c a v u) (EP X b d Q) X.xe s
def qw(X:Cx)(id:String)(r:V->List V->Hp->VK->Prop):Prop:=
 ∀(a:List (Addr×Obj)) (s:q4) (d:St) (H:Hp) (x:V) (c:List V) (v:q5) (b:List q5) (Q:VK),Ak X a d H s->Aw x v->As c b->r x c H Q->
  wpAny (model X.prog X.w) X.A (call (.builtin id) (v::b)) (EP X a d Q) X.xe s
section
variable {X:Cx}{a b:Expr}{ta tb:TE}{pos:Pos}
theorem Au(i:rj X r)(f:PE X a ta)(g:PE X b tb)(j:dk b):PE X (.Subscript a b pos) (wo r ta tb):=by
 intro c s o H Q I h;exact Subscript_ (jq f g I h λv u n x y d e l m q=>i a b c n o d x y v u Q e l m q (j _ _))
def xz(K:W.Frag):R2:=λx y H Q=>∃p c i v,x=.ref p/\y=.int i/\Ao K H p c/\Hm c i=some v/\Q v H
def y0(K:W.Frag):R2:=λx y H Q=>∃p c i v,x=.ref p/\y=.int i/\Cp K H p c/\Hm c i=some v/\Q v H
def ur:R2:=λx y H Q=>∃z i c,x=.str z/\y=.int i/\z.length<=sizeLine/\Hm z.cps.toList i=some c/\Q (.str ⟨#[c]⟩) H
theorem fk:rj X (xz X.K):=by
 intro m l c s B H x y v u Q I M N h A;obtain⟨p,T,i,z,rfl,rfl,K,G,q⟩:=h;cases M;obtain⟨t,rfl⟩:=N;obtain⟨C,r,g,S⟩:=I.list K;obtain⟨j,e,D,P,E,F⟩:=Oe G;obtain⟨w,n,L⟩:=r.get D;have J:=r.length;have R:=Ft;have d:EP X c B Q w s:=⟨z,H,I,L,q⟩;by_cases o:0<=i
 ·have f:i.toNat=j:=by
   rw[seqIndex_of o F]at e;exact eo e
  exact item_listR g.isList o (by omega) (by rw[f];simpa using n) d A
 ·have f:(i+(C.toArray.size:Int)).toNat=j:=by
   rw[seqIndex_neg (by omega) E]at e;rw[List.size_toArray,<- J];exact eo e
  exact subscriptTail_builtinR (x:=w) g.isList.typeIs slot_list_getitem.lookup
   (wpAny_getItem_list_neg (Q:=λr O=>r=w/\EP X c B Q r O) g.isList (by omega) (by rw[List.size_toArray]<;>omega) (by omega) (by rw[f];simpa using n) ⟨rfl,d⟩) A
theorem kd:rj X (y0 X.K):=by
 intro f e c s l H x y v u Q I F G h D;obtain⟨p,R,i,z,rfl,rfl,C,A,q⟩:=h;cases F;obtain⟨t,rfl⟩:=G;obtain⟨K,r,g,P⟩:=I.tuple C;obtain⟨j,n,o,L,M,N⟩:=Oe A;obtain⟨w,m,E⟩:=r.get o;have B:=r.length;have O:=Ft;have d:EP X c l Q w s:=⟨z,H,I,E,q⟩
 exact subscriptTail_builtinR (x:=w) g.typeIs slot_tuple_getitem.lookup
  (getItem_tuple (j:=j) (Q:=λr J=>r=w/\EP X c l Q r J) g (by omega) (by omega) (by rw[List.size_toArray,<- B];exact n) (by simpa using m) ⟨rfl,d⟩) D
theorem Ow:rj X ur:=by
 intro e d g s J H x y v u Q I B C h A;obtain⟨z,i,c,rfl,rfl,F,r,q⟩:=h;obtain⟨t,rfl⟩:=B;obtain⟨G,rfl⟩:=C;obtain⟨j,f,n,D,o,p⟩:=Oe r;have w:z.cps.toList.length=z.length:=by simp[Str.length]
 rw[w]at f o p;have E:=Ft
 exact tail_any (typeIs_str s z t) slot_str_getitem.lookup (getItem_str (c:=c) (by
  have l:decide (i< -(2^63:Int))=false:=me (by omega);have m:decide (i>=2^63)=false:=me (by omega);rw[l,m,Bool.or_false]) (by rw[f];simpa using n) ⟨.str ⟨#[c]⟩,H,I.tok _,⟨_,rfl⟩,q⟩) A
theorem Sm(c:List q5)(n j:Nat)(u:q5):Obj.mapSeq (·.setIfInBounds j u) {cls:=.type "list",data:=.seq c.toArray n}={cls:=.type "list",data:=.seq (c.set j u).toArray n}:=by
 simp[Obj.mapSeq]
theorem Ak.lst(I:Ak X c f H s)(h:H p=some (.lst xs)):
  ∃(d:List q5) (n:Nat),As xs d/\s.heap.get? p=some {cls:=.type "list",data:=.seq d.toArray n}/\xs.length<=sizeLine:=by
 obtain⟨z,d,n,r,e⟩:=I.aP p _ h;exact⟨d,n,r,e,z⟩
theorem Ak.FL{c:List (Addr×Obj)}{j:St}{H:Hp}{s:q4}{p:Addr}{xs ys:List V}{g its':List q5}{n d:Nat}{f:Obj->Obj}(I:Ak X c j H s)(h:H p=some (.lst xs))
  (m:s.heap.get? p=some {cls:=.type "list",data:=.seq g.toArray n})(i:f {cls:=.type "list",data:=.seq g.toArray n}={cls:=.type "list",data:=.seq its'.toArray d})(r:As ys its')(hz:ys.length<=sizeLine)(t:Nat):
  Ak X c j (upd H p (.lst ys)) {s with heap:=s.heap.update p f,toks:=t}:=by
 have e:(s.heap.update p f).get? p=some {cls:=.type "list",data:=.seq its'.toArray d}:=by
  rw[Heap.get?_update_self f m (by rw[i]<;>rfl),i]
 refine I.write (x:=p) (e:=p) (by rw[h];trivial) (.inl rfl) (λb u l q=>(eH _ _ (Ne.symm l)).trans q) ⟨_,e⟩ ?_;exact⟨hz,its',d,r,e⟩
def uv:V->V->V->Hp->(Hp->Prop)->Prop:=λo i v H Q=>∃p c k j,o=.ref p/\i=.int k/\H p=some (.lst c)/\Sf c.length k=some j/\Q (upd H p (.lst (c.set j v)))
theorem Rh:rq X uv:=by
 intro c s F H o i v L K u Q I D C rv h;obtain⟨p,E,k,j,rfl,rfl,z,A,q⟩:=h;cases D;obtain⟨t,rfl⟩:=C;obtain⟨m,n,r,g,B⟩:=I.lst z;obtain⟨d,G,x,y⟩:=Ui A;have f:=r.length;have J:=Ft
 have l:Ak X c F (upd H p (.lst (E.set j v))) {s with heap:=s.heap.update p (Obj.mapSeq (·.setIfInBounds j u)) }:=
  I.FL z g (Sm m n j u) (r.set rv j) (by rw[List.length_set];exact B) s.toks
 by_cases w:0<=k
 ·have e:k.toNat=j:=by
   rw[seqIndex_of w y]at d;exact eo d
  exact W.ki_setAt g w (by omega) (by rw[List.size_toArray,<- f];exact y) (by rw[e];exact⟨_,l,q⟩)
 ·have e:(k+(m.toArray.size:Int)).toNat=j:=by
   rw[seqIndex_neg (by omega) x]at d;rw[List.size_toArray,<- f];exact eo d
  exact W.ki_setBack g (by omega) (by rw[List.size_toArray,<- f];exact x) (by omega) (by rw[e];exact⟨_,l,q⟩)
theorem Pq(lo hi:q3)(n:Nat):(sliceBounds lo hi none n).1=((HT.iQ n 0 lo:Nat):Int)/\(sliceBounds lo hi none n).2.1=((HT.iQ n n hi:Nat):Int)/\(sliceBounds lo hi none n).2.2=1:=by
 refine⟨?_,?_,rfl⟩
 ·cases lo with
  |none=>simp[sliceBounds,HT.iQ]
  |some i=>
   simp only[sliceBounds,HT.iQ,Option.getD_none,show(1:Int)>0 by decide,if_true];by_cases h:i<0
   ·simp only[h,if_true]<;>omega
   ·simp only[h,if_false]<;>omega
 ·cases hi with
  |none=>simp[sliceBounds,HT.iQ]
  |some i=>
   simp only[sliceBounds,HT.iQ,Option.getD_none,show(1:Int)>0 by decide,if_true];by_cases h:i<0
   ·simp only[h,if_true]<;>omega
   ·simp only[h,if_false]<;>omega
theorem N0(c:List q5)(lo hi:q3):slicePick c.toArray lo hi none=((c.drop (HT.iQ c.length 0 lo)).take (HT.iQ c.length c.length hi-HT.iQ c.length 0 lo)).toArray:=by
 obtain⟨d,e,f⟩:=Pq lo hi c.toArray.size;unfold slicePick;rw[d,e,f];simp only[sliceRange_one,pick_run,List.size_toArray]<;>rfl
def uw(K:W.Frag):V->q3->q3->Hp->VK->Prop:=λx e d H Q=>∃a c,x=.ref a/\Ao K H a c/\∀p,H p=none->Q (.ref p) (upd H p (.lst (L7 c e d)))
theorem i7:wf X (uw X.K):=by
 intro i s B H x v z A e f y Q I p j n o h;obtain⟨a,c,rfl,l,q⟩:=h;cases p;obtain⟨u,r,g,m⟩:=I.list l;have d:=r.length;refine⟨"list",_,slot_list_getitem.lookup,g.isList.typeIs,?_⟩;refine wpAny_getItem_list_slice g.isList j n o .none (by simp) ?_ (by rw[List.size_toArray]<;>omega);rw[N0,<- d];refine⟨.ref s.heap.objs.size,_,I.laid (t':=s.toks) (o:=.lst (L7 c e f)) (λb w q=>bD _ q) (dr _) ?_,rfl,q _ (I.aP.fresh (dr _))⟩;exact⟨en (Qm c e f) m,_,0,(r.drop (HT.iQ c.length 0 e)).take (HT.iQ c.length c.length f-HT.iQ c.length 0 e),c4 _ rfl⟩
def Fs:V->Bool
 | .aX=>true
 | .bl _=>true
 | .int _=>true
 | .str _=>true
 |_=>false
def Y2:V->V->Bool
 | .aX,.aX=>true
 | .bl a,.bl b=>a==b
 | .bl a,.int b=>(if a then 1 else 0)==b
 | .int a,.bl b=>a==(if b then 1 else 0)
 | .int a,.int b=>a==b
 | .str a,.str b=>a==b
 |_,_=>false
theorem jv(f:Aw y u)(c:Aw x v)(g:Fs y=true)(e:Fs x=true):SeqAt.EqAt A s u v (Y2 y x):=by
 cases y with
 |aX=>
  cases f;cases x with
  |aX=>cases c;exact SeqAt.EqAt.same _
  |bl b=>cases c;exact SeqAt.EqAt.none_bool b
  |int b=>obtain⟨t,rfl⟩:=c;exact SeqAt.EqAt.none_int b t
  |str b=>obtain⟨t,rfl⟩:=c;exact SeqAt.EqAt.none_str b t
  |_=>exact absurd (show false=true from e) ft
 |bl a=>
  cases f;cases x with
  |aX=>cases c;exact SeqAt.EqAt.bool_none a
  |bl b=>cases c;exact SeqAt.EqAt.bool_bool a b
  |int b=>obtain⟨t,rfl⟩:=c;exact SeqAt.EqAt.bool_int a b t
  |str b=>obtain⟨t,rfl⟩:=c;exact SeqAt.EqAt.bool_str a b t
  |_=>exact absurd (show false=true from e) ft
 |int a=>
  obtain⟨d,rfl⟩:=f;cases x with
  |aX=>cases c;exact SeqAt.EqAt.int_none a d
  |bl b=>cases c;exact SeqAt.EqAt.int_bool a d b
  |int b=>obtain⟨t,rfl⟩:=c;exact SeqAt.EqAt.int_int a d b t
  |str b=>obtain⟨t,rfl⟩:=c;exact SeqAt.EqAt.int_str a d b t
  |_=>exact absurd (show false=true from e) ft
 |str a=>
  obtain⟨d,rfl⟩:=f;cases x with
  |aX=>cases c;exact SeqAt.EqAt.str_none a d
  |bl b=>cases c;exact SeqAt.EqAt.str_bool a d b
  |int b=>obtain⟨t,rfl⟩:=c;exact SeqAt.EqAt.str_int a d b t
  |str b=>obtain⟨t,rfl⟩:=c;exact SeqAt.EqAt.str_str a d b t
  |_=>exact absurd (show false=true from e) ft
 |_=>exact absurd (show false=true from g) ft
def S8(x:V)(u:q5):Bool:=match u with
 | .none=>Y2 .aX x
 | .bool b=>Y2 (.bl b) x
 | .int i _=>Y2 (.int i) x
 | .str z _=>Y2 (.str z) x
 |_=>false
theorem Y1(r:Aw y u)(f:Fs y=true):S8 x u=Y2 y x:=by
 cases y with
 |aX=>cases r;rfl
 |bl b=>cases r;rfl
 |int i=>obtain⟨t,rfl⟩:=r;rfl
 |str z=>obtain⟨t,rfl⟩:=r;rfl
 |_=>exact absurd (show false=true from f) ft
theorem Kk(h:As xs us)(f:xs.all Fs=true):us.any (S8 x)=xs.any λy=>Y2 y x:=by
 induction h with
 |nil=>rfl
 |cons r t c=>
  rw[List.all_cons,Bool.and_eq_true]at f;rw[List.any_cons,List.any_cons,Y1 r f.1,c f.2]
theorem Hy(g:Aw x v)(d:Fs x=true)(h:As xs us)(f:xs.all Fs=true):∀u∈us,SeqAt.EqAt A s u v (S8 x u):=by
 induction h with
 |nil=>
  intro u c;cases c
 |cons r t e=>
  intro i c;rw[List.all_cons,Bool.and_eq_true]at f;rcases eu.mp c with rfl|c
  ·rw[Y1 r f.1];exact jv r g f.1 d
  ·exact e f.2 i c
def Gr(x:V)(xs:List V):Bool:=xs.any λy=>Y2 y x
def wn(K:W.Frag)(d:Bool):R2:=λx y H Q=>∃p c,y=.ref p/\(Ao K H p c\/Cp K H p c)/\Fs x=true/\c.all Fs=true/\Q (.bl (if d then !Gr x c else Gr x c)) H
theorem Wq:G5 X (compareOp .In) (wn X.K false):=by
 intro i s o H x y v u Q I j m h;obtain⟨p,n,rfl,d,g,fs,q⟩:=h;cases m;rcases d with d|d
 ·obtain⟨c,r,f,l⟩:=I.list d;refine SeqAt.in_listAt (S8 x) f.isList (λw e=>Hy j g r fs w (by simpa using e)) ⟨.bl _,H,I,rfl,?_⟩;rw[show c.toArray.any (S8 x)=c.any (S8 x)by simp,Kk r fs];exact q
 ·obtain⟨c,r,f,l⟩:=I.tuple d;refine SeqAt.in_tupleAt (S8 x) f (λw e=>Hy j g r fs w (by simpa using e)) ⟨.bl _,H,I,rfl,?_⟩;rw[show c.toArray.any (S8 x)=c.any (S8 x)by simp,Kk r fs];exact q
theorem P9:G5 X (compareOp .NotIn) (wn X.K true):=by
 intro i s o H x y v u Q I j m h;obtain⟨p,n,rfl,d,g,fs,q⟩:=h;cases m;rcases d with d|d
 ·obtain⟨c,r,f,l⟩:=I.list d;refine SeqAt.notIn_listAt (S8 x) f.isList (λw e=>Hy j g r fs w (by simpa using e)) ⟨.bl _,H,I,rfl,?_⟩;rw[show c.toArray.any (S8 x)=c.any (S8 x)by simp,Kk r fs];exact q
 ·obtain⟨c,r,f,l⟩:=I.tuple d;refine SeqAt.notIn_tupleAt (S8 x) f (λw e=>Hy j g r fs w (by simpa using e)) ⟨.bl _,H,I,rfl,?_⟩;rw[show c.toArray.any (S8 x)=c.any (S8 x)by simp,Kk r fs];exact q
theorem Of:D7 X (.builtin "len") (λxs H Q=>∃p ys,xs=[.ref p]/\(Ao X.K H p ys\/Cp X.K H p ys)/\Q (.int ys.length) H):=by
 intro g s o H xs n Q I r h;obtain⟨p,ys,rfl,d,q⟩:=h;obtain⟨u,rfl,l⟩:=E6 r;cases l;have m:=Ft;rcases d with d|d
 ·obtain⟨i,f,e,j⟩:=I.list d;have c:=f.length;exact Calls.call_len_list e.isList (by simp only[List.size_toArray]<;>omega) ⟨.int ys.length,H,I.tok _,⟨s.toks+1,by rw[List.size_toArray,c]⟩,q⟩
 ·obtain⟨i,f,e,j⟩:=I.tuple d;have c:=f.length;exact len_tuple e (by simp only[List.size_toArray]<;>omega) ⟨.int ys.length,H,I.tok _,⟨s.toks+1,by rw[List.size_toArray,c]⟩,q⟩
theorem Gq:D7 X (.type "tuple") (λxs H Q=>∃p ys,xs=[.ref p]/\((Ao X.K H p ys/\∀l,H l=none->Q (.ref l) (upd H l (.tup ys)))\/(Cp X.K H p ys/\Q (.ref p) H))):=by
 intro c s w H xs A Q I r h;obtain⟨p,ys,rfl,h⟩:=h;obtain⟨u,rfl,z⟩:=E6 r;cases z;rcases h with⟨g,q⟩|⟨g,q⟩
 ·obtain⟨f,j,i,v⟩:=I.list g;have n:=j.length;refine call_tuple_list i.isList (λd y=>?_) (by simp only[List.size_toArray]<;>omega);have m:Ak X c w H {s with heap:=d}:=I.kept (t':=s.toks) y
  have x:Ak X c w (upd H d.objs.size (.tup ys)) {s with heap:=d.push {cls:=.type "tuple",data:=.seq f.toArray} }:=
   m.laid (t':=s.toks) (λb o e=>bD _ e) (dr _) (show B8 X.prog X.w _ _ _ (.tup ys)from⟨⟨v,⟨_,c4 _ rfl,rfl⟩⟩,f,j,IsTup.new _ _⟩)
  exact⟨.ref d.objs.size,_,x,rfl,q _ (m.aP.fresh (dr _))⟩
 ·obtain⟨f,j,i,v⟩:=I.tuple g;exact call_tuple_same i ⟨.ref p,H,I,rfl,q⟩
def yp(K:W.Frag)(T:String)(x:V)(H:Hp):Prop:=match x with
 | .str _=>T="str"
 | .int _=>T="int"
 | .ref p => (T = "list" /\ ∃ d, Ao K H p d) \/ (T = "tuple" /\ ((∃ o, K.lookup p = some o /\ o.cls = .type "tuple" /\ o.dict = none) \/ ∃ d, H p = some (.tup d))) \/
   (T="dict"/\((∃c,H p=some (.dK c))\/∃c,H p=some (.dT c)))\/(T="set"/\∃S n,H p=some (.set S n))
 |_=>False
theorem db(I:Ak X h G H s)(r:Aw x v)(ty:yp X.K T x H):
  s.TypeIs v T/\∀a,v=.ref a->∃m,s.heap.get? a=some m/\m.dict=none:=by
 cases x with
 |str z=>
  obtain⟨t,rfl⟩:=r;cases(show T="str" from ty);exact⟨typeIs_str s z t,λ_ e=>nomatch e⟩
 |int i=>
  obtain⟨t,rfl⟩:=r;cases(show T="int" from ty);exact⟨typeIs_int s i t,λ_ e=>nomatch e⟩
 |ref p=>
  cases r;rcases ty with⟨rfl,K,C⟩|⟨rfl,⟨o,d,B,j⟩|⟨F,d⟩⟩|⟨rfl,d⟩|⟨rfl,S,n,d⟩
  ·obtain⟨J,_,q,_⟩:=I.list C;refine⟨q.isList.typeIs,λa e=>?_⟩;cases e;obtain⟨o,n,e,c,j,_⟩:=q;exact⟨o,e,j⟩
  ·refine⟨⟨o,I.iG p o d,B⟩,λa e=>?_⟩;cases e;exact⟨o,I.iG _ o d,j⟩
  ·obtain⟨⟨_,E,g,w⟩,_,_,⟨D,y,u,_⟩⟩:=(show B8 X.prog X.w H s.heap p (.tup F)from I.aP p _ d);refine⟨⟨D,y,u⟩,λa A=>?_⟩;cases A;exact⟨E,g,w⟩
  ·have z:∃o,s.heap.get? p=some o/\o.ExactDict:=by
    rcases d with⟨l,d⟩|⟨l,d⟩
    ·obtain⟨_,_,_,_,o,_,_,e,f,_⟩:=I.aP p _ d;exact⟨o,e,f⟩
    ·obtain⟨_,_,_,_,o,_,_,e,f,_⟩:=I.aP p _ d;exact⟨o,e,f⟩
   obtain⟨o,e,f⟩:=z;refine⟨⟨o,e,f.1⟩,λa g=>?_⟩;cases g;exact⟨o,e,f.2.1⟩
  ·obtain⟨o,_,_,_,e,f,_⟩:=I.aP p _ d;refine⟨⟨o,e,f.1⟩,λa g=>?_⟩;cases g;exact⟨o,e,f.2.1⟩
 |_=>exact False.elim ty
def ya(K:W.Frag)(T:String)(r:V->List V->Hp->VK->Prop)(d:TE):TE:=λe H Q=>d e H λx c=>yp K T x c/\r x [] c Q
def zd(K:W.Frag)(T:String)(r:V->List V->Hp->VK->Prop)(f:TE)(t:TA):TE:=λd H Q=>f d H λx c=>yp K T x c/\t d c λg e=>r x g e Q
variable {o e:Expr}{es:List Expr}{to:TE}{t:TA}{name:Str}{apos bQ:Pos}{T id:String}{r:V->List V->Hp->VK->Prop}
theorem o0(z:PlainAttrs T)(d:Slot T name id)(l:typeOf (.builtin id)=pure (.type "method_descriptor"))(q:qw X id r)(u:PE X o to)
  (w:attributeBase o name X.env (eval o X.env)=eval o X.env:=by rfl)(y:(apos.endLine==bQ.line)=true:=by rfl):PE X (.Call (.Attribute o name apos) [] [] bQ) (ya X.K T r to):=by
 intro c s i H Q I h;refine wpAny_Call_method0_late w y (Bh (u c s i H _ I h) λv B m=>?_);obtain⟨x,j,f,g,ty,A⟩:=m;obtain⟨n,p⟩:=db f g ty;exact⟨T,id,z,d,l,n,p,Calls.callWith_builtin rfl (PySem.evalArgs_none (q c B i j x [] v [] Q f g .nil A))⟩
theorem Dq(F:PlainAttrs T)(d:Slot T name id)(q:typeOf (.builtin id)=pure (.type "method_descriptor"))(A:qw X id r)(B:PE X o to)(z:PA X (e::es) t)
  (D:attributeBase o name X.env (eval o X.env)=eval o X.env:=by rfl)
  (O:((backTo bQ (starEach (e::es) X.env)).all (λx=>!x.1)&&(backToKw bQ (keywordEach [] X.env)).all (λx=>x.1.isSome)
   &&decide ((e::es).length+([]:List Keyword).length+(if([]:List Keyword).isEmpty then 0 else 1)<30))=true:=by rfl)
  (E:(apos.endLine==bQ.line)=true:=by rfl)(C:starEach (e::es) X.env=(false,eval e X.env)::starEach es X.env:=by rfl)(hplain:(backTo bQ (starEach es X.env)).any (·.1)=false:=by rfl):
  PE X (.Call (.Attribute o name apos) (e::es) [] bQ) (zd X.K T r to t):=by
 intro c s f H Q I h;refine wpAny_Call_method_late D O E rfl (Bh (B c s f H _ I h) λv L u=>?_);obtain⟨x,l,g,j,ty,G⟩:=u;obtain⟨w,y⟩:=db g j ty;refine⟨T,id,F,d,q,w,y,?_⟩;have i:=z bQ c L f l _ g G;rw[C]at i⊢;refine Calls.callWith_builtin (by show(false||(backTo bQ (starEach es X.env)).any (·.1))=false;rw[hplain]<;>rfl) (Calls.evalArgs_plain ?_);exact Bh i λN M ⟨P,n,p,K,J⟩=>A c M f n x P v N Q p j K J
/-xs.append(e),list.index on a MS tuple .. are qw facts of 06m-/
end
def xh(X:Cx)(id:String)(r:V->List V->Hp->VK->Prop):Prop:=
 ∀(a:List (Addr×Obj)) (s:q4) (d:St) (H:Hp) (x:V) (c:List V) (v:q5) (b:List q5) (Q:VK),Ak X a d H s->Aw x v->As c b->r x c H Q->
  wpAny (model X.prog X.w) X.A (call (.builtin id) (v::b)) (EP X a d Q) X.xe s
theorem As.one(h:As [x] us):∃u,us=[u]/\Aw x u:=by
 cases h with
 |cons r t=>
  cases t;exact⟨_,rfl,r⟩
theorem As.two(h:As [x,y] us):∃u v,us=[u,v]/\Aw x u/\Aw y v:=by
 cases h with
 |cons r t=>
  obtain⟨v,rfl,q⟩:=As.one t;exact⟨_,v,rfl,r,q⟩
section
variable {X:Cx}{pins:List (Addr×Obj)}{σ:St}{H:Hp}{s:q4}{l b:Addr}{xs ys zs:List V}
theorem Ak.MT{a its':List q5}{n:Nat}{f:Array q5->Array q5}{t':Nat}(I:Ak X pins σ H s)(c:H l=some (.lst xs))
  (e:s.heap.get? l=some {cls:=.type "list",data:=.seq a.toArray n})(g:f a.toArray=its'.toArray)(i:As ys its')(hz:ys.length<=sizeLine):
  Ak X pins σ (upd H l (.lst ys)) {s with heap:=s.heap.update l (Obj.mapSeq f),toks:=t'}:=by
 have q:=PySem.IsL.update e f;rw[g]at q;refine I.write (x:=l) (e:=l) (by rw[c];exact trivial) (.inl rfl) (λj u d h=>(eH s.heap (Obj.mapSeq f) (Ne.symm d)).trans h) ⟨_,q⟩ ?_;exact⟨hz,its',_,i,q⟩
theorem Ak.MU{t':Nat}(I:Ak X pins σ H s)(c:As ys a)(hz:ys.length<=sizeLine):
  Ak X pins σ (upd H s.heap.objs.size (.lst ys)) {s with heap:=s.heap.push {cls:=.type "list",data:=.seq a.toArray},toks:=t'}:=
 I.laid (λ_ _ q=>bD _ q) (dr _) ⟨hz,a,0,c,c4 _ rfl⟩
theorem Ak.fresh(I:Ak X pins σ H s):H s.heap.objs.size=none:=I.aP.fresh (dr _)
theorem Ak.vZ(I:Ak X pins σ H s)(c:H l=some (.lst xs)):xs.length<=sizeLine/\∃(a:List q5) (n:Nat),As xs a/\xs.length=a.length/\s.heap.get? l=some {cls:=.type "list",data:=.seq a.toArray n}:=by
 obtain⟨z,a,n,r,e⟩:=I.aP l _ c;exact⟨z,a,n,r,r.length,e⟩
theorem Yx(h:n<=sizeLine):Builtin.List.listTooLong n=false:=by
 unfold Builtin.List.listTooLong;exact me (by omega)
end
section
variable {X:Cx}
def gr:V->List V->Hp->VK->Prop:=λx b H Q=>∃l a y,x=.ref l/\b=[y]/\H l=some (.lst a)/\a.length<sizeLine/\Q .aX (upd H l (.lst (a++[y])))
theorem D6:xh X "list.append" gr:=by
 intro c s p H x m v j Q I f rv h;obtain⟨l,o,y,rfl,rfl,b,i,q⟩:=h;cases f;obtain⟨u,rfl,d⟩:=rv.one;obtain⟨z,a,n,r,g,e⟩:=I.vZ b;refine call_meets F.slot_list_append ⟨_,e,rfl⟩ F.entry_list_append (F.args_list_append_2 _ _) (PySem.list_append l a.toArray n u (by rw[List.size_toArray];omega)) ⟨e,?_⟩;refine⟨.aX,_,I.MT (its':=a++[u]) b e (by simp) (r.append (.cons d .nil)) ?_,rfl,q⟩;rw[List.length_append,List.length_singleton];omega
def gu:V->List V->Hp->VK->Prop:=λx d H Q=>∃l b a c,x=.ref l/\d=[.ref b]/\H l=some (.lst a)/\H b=some (.lst c)/\a.length+c.length<=sizeLine/\Q .aX (upd H l (.lst (a++c)))
theorem Nu:xh X "list.extend" gu:=by
 intro g s L H x E v D Q I y rv h;obtain⟨l,b,G,K,rfl,rfl,f,m,C,q⟩:=h;cases y;obtain⟨u,rfl,w⟩:=rv.one;cases w;obtain⟨z,a,n,r,B,e⟩:=I.vZ f;obtain⟨J,c,o,p,A,j⟩:=I.vZ m;have d:a.toArray.size+c.toArray.size<=sizeLine:=by rw[List.size_toArray,List.size_toArray];omega
 have i:¬(!a.toArray.isEmpty&&Builtin.List.listTooLong (a.toArray.size+c.toArray.size))=true:=by
  rw[Yx d,Bool.and_false];exact ft
 refine call_meets F.slot_list_extend ⟨_,e,rfl⟩ F.entry_list_extend (F.args_list_extend_2 _ _)
  (AutoSeq1.list_extend_list_list_0 l a.toArray n b c.toArray o i (by rw[List.size_toArray];omega) (by omega)) ⟨e,j,?_⟩
 refine⟨.aX,_,I.MT (its':=a++c) f e (by simp) (r.append p) ?_,rfl,q⟩;rw[List.length_append];omega
def xw:R2:=λx y H Q=>∃l b a c,x=.ref l/\y=.ref b/\H l=some (.lst a)/\H b=some (.lst c)/\a.length+c.length<=sizeLine/\∀p,H p=none->Q (.ref p) (upd H p (.lst (a++c)))
theorem M3:G5 X (binaryOp .Add) xw:=by
 intro d s G H x y v u Q I o p h;obtain⟨l,b,D,F,rfl,rfl,j,i,B,q⟩:=h;cases o;cases p;obtain⟨z,a,n,r,A,e⟩:=I.vZ j;obtain⟨E,c,C,m,w,f⟩:=I.vZ i;refine PySem.P.add_list e f ?_ (by rw[List.size_toArray,List.size_toArray];omega);have g:a.toArray++c.toArray=(a++c).toArray:=by simp
 rw[g];exact⟨.ref _,_,I.MU (t':=s.toks) (r.append m) (by rw[List.length_append];omega),rfl,q _ I.fresh⟩
end
end L2
namespace Att
local macro_rules | `(tactic| omega) => `(tactic| lia)
open PySem PySem.W PySem.Calls PyProof.Rows
theorem Kg:∀(ns:List Int) (vs:List Value),WellAll P h vs (ns.map WData.int)->IntsAre vs ns:=by
 intro ns
 induction ns with
 |nil=>
  intro vs w;rw[List.map_nil]at w;cases w;exact .nil
 |cons n ns c=>
  intro vs w;rw[List.map_cons]at w;cases w with
  |cons a b=>
   cases a;exact .cons _ _ (c _ b)
theorem vB{l:OpenLaw}{n:Nat}(u:l.most=some n){P:Params}{h:Heap}{args:List WData}{b:List Value}
  (m:l.row.toRowW.claim.pre args=true)(w:WellAll P h b args):
  ∃a vs ns,b=[Value.ref a]/\args=[WData.list (ns.map WData.int)]/\h.get? a=some {cls:=.type "list",data:=.seq vs.toArray}/\IntsAre vs ns/\ns.length<=n:=by
 have i:WShape.hasAll [] args [.list .int]=true:=(pre_splitW m).1;have j:l.pre.holds [] {args:=args}=true:=(pre_splitW m).2;obtain⟨d,r,rfl,o,p⟩:=hasAllW_cons i;obtain rfl:=hasAllW_nil p;obtain⟨A,rfl,s⟩:=hasW_list o;obtain⟨ns,rfl⟩:=items_int s
 have e:ns.length<=n:=by
  unfold OpenLaw.pre at j
  have f:(WTm.not (.lt (.lit (.int (n:Int))) (.len (.arg 0)))).holds [] {args:=[.list (ns.map .int)] }=true:=by
   have f:=(holds_andW j).1;rw[u]at f;exact f
  have g:=condW_of f (w_not (w_lt w_lit (w_len_list (w_arg rfl))));rw[List.length_map]at g;refine Nat.le_of_not_lt λq=>?_;have x:(n:Int)<((ns.length:Nat):Int):=by omega
  first
   |(rw[decide_eq_true x]at g;exact absurd g (by decide))
   |(simp at g;omega)
 cases w with
 |cons y z=>
  cases z;cases y with
  |list v c=>exact⟨_,_,ns,rfl,rfl,v,Kg ns _ c,e⟩
theorem vC(l:OpenLaw)(args:List WData):l.row.toRowW.claim.post args (.bool true) args=true:=
 postW_of (r:=l.row.toRowW) (X:=(true==true))
  (show WShape.has [] (.bool true) .bool=true by first|rfl|decide|simp[WShape.has,WShape.arms,WShape.armsAll])
  (show(WTm.eq .res (.lit (.bool true))).value [] {args:=args,res:=some (.bool true),after:=args}=some (.bool (true==true))from w_eq_bool (w_res rfl) w_lit) rfl
end Att
namespace L2
local macro_rules | `(tactic| omega) => `(tactic| lia)
open PySem PySem.Spec PyProof.Rows
theorem Gh:∀{vs:List q5}{ns:qQ},IntsAre vs ns->As (ns.map V.int) vs
 |_,_,.nil=>.nil
 |_,_,.cons n t h=>.cons ⟨t,rfl⟩ (Gh h)
def G9(s:Stmt)(j:Nat):Stmt:=match s with
 | .ClassDef _ _ _ a _ _ _ _ _ _ _=>a.getD j (.Pass ⟨0,0,0,0⟩)
 |_=>.Pass ⟨0,0,0,0⟩
def Cb(s:Stmt):Arguments:=match s with
 | .FunctionDef _ a _ _ _ _ _ _ _ _=>a
 |_=>{posonlyargs:=[],args:=[],vararg:=none,kwonlyargs:=[],kw_defaults:=[],kwarg:=none,defaults:=[] }
def Be(s:Stmt):List Stmt:=match s with
 | .FunctionDef _ _ b _ _ _ _ _ _ _=>b
 |_=>[]
def A8(s:Stmt):Scope:=match s with
 | .FunctionDef _ _ _ _ _ _ a _ _ _=>a
 |_=>{kind:=.function,names:=[],isGenerator:=false,isCoroutine:=false}
abbrev E0:XK:=λ_ _ _=>False
structure D8(K:W.Frag)(x qual:Str)(st:Stmt)(f:Addr)(fd:ri):Prop where
 ex:∃(oc:q5) (od:Option Addr) (kV doc pm:q5) (an:Option Addr) (aZ ct:q5) (pK:Array (Option q5)),
  fd=W.fnOf x qual (Cb st) (Be st) (A8 st) .none kV doc pm an aZ ct/\K.lookup f=some ⟨oc,od,.func fd,pK⟩/\W.codeIn K aZ qual=true
 kp:W.keepIn K (.ref f)=true
section
variable {P:q7}{w:ro}{K:W.Frag}{mg:Str->Option q5}{base:Heap}
theorem D8.binds{x a:Str}{st:Stmt}{f:Addr}{g:ri}{ps:List Str}(F:D8 K x a st f g)
  (h:∀(kV b e:q5) (d:Option Addr) (c ct:q5) (us:List q5),us.length=ps.length->bindArgs (W.fnOf x a (Cb st) (Be st) (A8 st) .none kV b e d c ct) ⟨us,[]⟩=pure (ps.zip us)):Di K g ps []:=by
 obtain⟨j,l,kV,b,e,d,c,ct,m,rfl,i,n⟩:=F.ex;exact .all (h kV b e d c ct)
theorem Os{x a:Str}{st:Stmt}{f:Addr}{h:q5}{i e:Option Addr}{j:Array (Option q5)}{kV b g d ct:q5}(l:K.lookup f=some ⟨h,i,.func (W.fnOf x a (Cb st) (Be st) (A8 st) .none kV b g e d ct),j⟩)
  (c:W.codeIn K d a=true)(k:W.keepIn K (.ref f)=true):D8 K x a st f (W.fnOf x a (Cb st) (Be st) (A8 st) .none kV b g e d ct):=⟨⟨h,i,kV,b,g,e,d,ct,j,rfl,l,c⟩,k⟩
end
theorem Ap(h:n<=1000):n<sizeLine:=n4 h (by decide)
section
variable {X:Cx}
theorem pv(i:Nat){pos:Pos}(a:X.N[i]?=some x:=by rfl)(b:sf X.env.scope x:=by first|exact Or.inl rfl|exact Or.inr (Or.inl rfl)|exact Or.inr (Or.inr rfl))(hd:(x==("__debug__":Str))=false:=by decide)
  (c:(x==("__classdict__":Str))=false:=by decide):PE X (.Name x pos) (wa i):=o7 a b hd c
end
theorem D0{c A B:Prop}[Decidable c](h1:c->A)(a:¬c->B):if c then A else B:=by
 by_cases h:c
 ·rw[if_pos h];exact h1 h
 ·rw[if_neg h];exact a h
def A7(H a:Hp):Prop:=∀b o,H b=some o->a b=some o
theorem A7.refl(H:Hp):A7 H H:=λ_ _ h=>h
theorem A7.trans(a:A7 H d)(b:A7 d e):A7 H e:=λc o h=>b c o (a c o h)
theorem A7.free(e:A7 H a)(h:a l=Option.none):H l=Option.none:=by
 cases q:H l with
 |none=>rfl
 |some o=>
  rw[e l o q]at h;cases h
theorem A7.seq{K:W.Frag}{H b:Hp}{a:Addr}{xs:List V}(e:A7 H b)(h:Ao K H a xs):Ao K b a xs:=by
 rcases h with(h|⟨o,h⟩)|h
 ·exact .inl (.inl (e _ _ h))
 ·exact .inl (.inr ⟨o,e _ _ h⟩)
 ·exact .inr h
def Ea(cells:List (Str×Addr)):List (Str×NameKind)->List (Str×Addr)->List (Str×Addr)
 |[],cs=>cs
 |(n,k)::r,cs=>if k==NameKind.free then Ea cells r ((n,(cells.lookup n).getD 0)::cs)else Ea cells r cs
theorem J1{cells:List (Str×Addr)}:∀{names:List (Str×NameKind)}{cs:List (Str×Addr)},(Ea cells names cs).lookup x=some c->
  cs.lookup x=some c\/((x,NameKind.free)∈names/\c=(cells.lookup x).getD 0)
 |[],cs,h=>.inl h
 |(n,k)::r,cs,h=>by
  unfold Ea at h;by_cases d:(k==NameKind.free)=true
  ·rw[if_pos d]at h;rcases J1 h with a|⟨a,b⟩
   ·rw[List.lookup_cons]at a;by_cases f:(x==n)=true
    ·rw[f]at a;have e:x=n:=eq_of_beq f;have g:k=NameKind.free:=eq_of_beq d;subst e g;exact .inr ⟨dm,(eo a).symm⟩
    ·have i:(x==n)=false:=by simpa using f
     rw[i]at a;exact .inl a
   ·exact .inr ⟨d3 _ a,b⟩
  ·rw[if_neg d]at h;rcases J1 h with a|⟨a,b⟩
   ·exact .inl a
   ·exact .inr ⟨d3 _ a,b⟩
theorem Gw{cells:List (Str×Addr)}:∀{names:List (Str×NameKind)}{cs:List (Str×Addr)},(∃c,cs.lookup x=some c)->∃c,(Ea cells names cs).lookup x=some c
 |[],cs,h=>h
 |(n,k)::r,cs,h=>by
  unfold Ea;by_cases a:(k==NameKind.free)=true
  ·rw[if_pos a];refine Gw ?_;rw[List.lookup_cons];cases b:x==n with
   |true=>exact⟨_,rfl⟩
   |false=>exact h
  ·rw[if_neg a];exact Gw h
theorem Ew{cells:List (Str×Addr)}:∀{names:List (Str×NameKind)}{cs:List (Str×Addr)},(x,NameKind.free)∈names->∃c,(Ea cells names cs).lookup x=some c
 |[],cs,h=>by cases h
 |(n,k)::r,cs,h=>by
  unfold Ea;rcases eu.mp h with e|h
  ·have b:x=n:=congrArg Prod.fst e;have d:NameKind.free=k:=congrArg Prod.snd e;subst b d;rw[if_pos (by decide)];refine Gw ⟨(cells.lookup x).getD 0,?_⟩;rw[List.lookup_cons,beq_self_eq_true]
  ·by_cases a:(k==NameKind.free)=true
   ·rw[if_pos a];exact Ew h
   ·rw[if_neg a];exact Ew h
theorem Fb{env:Env}:∀{names:List (Str×NameKind)}{x:Str}{b:NameKind},(∀y∈names,y.2≠NameKind.cell)->b≠ .local->(b=.cell\/b=.free)->
  (names.map λ(n,k)=>if(k==NameKind.free&&env.scope.kind== .function&&env.kindOf n==some .cell)then(n,NameKind.cell)else(n,k)).lookup x=some b->(x,NameKind.free)∈names
 |[],_,_,_,_,_,h=>by simp at h
 |(n,k)::r,x,b,f,m,i,h=>by
  have g:=@Fb env r x b (λy o=>f y (d3 _ o)) m i;have a:List.lookup x ((if(k==NameKind.free&&env.scope.kind== .function&&env.kindOf n==some .cell)=true then(n,NameKind.cell)else(n,k))::(r.map λ(n,k)=>if(k==NameKind.free&&env.scope.kind== .function&&env.kindOf n==some .cell)then(n,NameKind.cell)else(n,k)))=some b:=h;by_cases d:(k==NameKind.free&&env.scope.kind== .function&&env.kindOf n==some .cell)=true
  ·rw[if_pos d,List.lookup_cons]at a
   have j:k=NameKind.free:=by
    have q:=(Bool.and_eq_true_iff.mp (Bool.and_eq_true_iff.mp d).1).1;exact eq_of_beq q
   cases c:x==n with
   |true=>
    have e:x=n:=eq_of_beq c;subst e j;exact dm
   |false=>
    rw[c]at a;exact d3 _ (g a)
  ·rw[if_neg d,List.lookup_cons]at a;cases c:x==n with
   |true=>
    rw[c]at a;have e:x=n:=eq_of_beq c;have l:k=b:=eo a;subst e l;rcases i with z|z
    ·exact absurd z (f _ dm)
    ·subst z;exact dm
   |false=>
    rw[c]at a;exact d3 _ (g a)
structure Br(sc scope:Scope)(N fJ:List Str)(fr:List Nat):Prop where
 kind:scope.kind=.function
 rG:∀y∈scope.names,y.2≠NameKind.cell
 loc:∀y∈scope.names,y.2=NameKind.local->scope.names.lookup y.1=some NameKind.local
 free:∀y∈scope.names,y.2=NameKind.free->sc.names.lookup y.1=some NameKind.cell
 jR:∀j∈fr,(N[j]?.bind λx=>scope.names.lookup x)=some NameKind.free
def B5(N a:List Str)(b:List Nat):List Str:=a++b.map λj=>(N[j]?).getD ⟨#[]⟩
def D2(a:List Nat)(b:St):St:=a.map λj=>(b[j]?).getD none
def Ek(n:Nat)(a:List Nat)(b:St):St:=List.replicate n none++D2 a b
def Ci(X:Cx)(c:List Str)(a:Scope)(C:Addr)(e:q4)(b:Hp)(d:List Addr):Cx:=
 {X with N:=c,s₀:=e,H₀:=b,env:=compEnvC a (Ea X.env.cells a.names []) C X.env,outer:=X.stack,ex:=d,fn:=λ_=>false,pn:=[],xe:=λ_ _=>False}
def sd(X:Cx)(b:List Expr)(t:TT):Prop:=
 ∀(a:List (Addr×Obj)) (s:q4) (d:St) (H:Hp) (Q:Bool->Hp->Prop),Ak X a d H s->t d H Q->
  wpAny (model X.prog X.w) X.A (forIn b true λc r=>if r=true then do let ok <- isTrue c X.env (eval c X.env);pure (ForInStep.yield ok)else pure (ForInStep.yield r)) (TP X a d Q) X.xe s
def N4:TT:=λ_ H Q=>Q true H
theorem C8:sd X [] N4:=λ_ _ _ H _ I h=>wpAny_tests_nil ⟨H,I,h⟩
theorem Ph{t:TT}(h:PT X c t):sd X [c] t:=λa s d H Q I b=>wpAny_tests_one (h a s d H Q I b)
section
variable {prog:q7}{w:ro}{A:rd}{R:Result->q4->Prop}{s:q4}
theorem Og{pos:Pos}{env:Env}(I:Nat->q4->Prop)
  (F:∀n s,I n s->wpAny (model prog w) A (pyNext it) (λr e=>match r with
   |none=>R (.ok .next) e
   | some v => wpAny (model prog w) A (letOwnedTupleGo a it v) (fun _ f => wpAny (model prog w) A (assign a env v) (fun _ o =>
     wpAny (model prog w) A (forIn B true λc r=>if r=true then do let ok <- isTrue c env (eval c env);pure (ForInStep.yield ok)else pure (ForInStep.yield r)) (λok g=>
      if ok=true then wpAny (model prog w) A (eval y env) (λx p=>
       wpAny (model prog w) A (call (.builtin "list.append") [u,x]) (λ_ q=>∃m,m<n/\I m q) (λ_ _=>False) p) (λ_ _=>False) g
      else∃m,m<n/\I m g) (λ_ _=>False) o) (λ_ _=>False) f) (λ_ _=>False) e) (λ_ _=>False) s)
  (n:Nat)(h:I n s):
  codeAny (model prog w) A (.compLoop (.ListComp y [⟨a,l,B,0⟩] d pos) 0 it u env) R s:=by
 refine codeAny_loop rfl I (λn s G=>?_) n h;show wpAny _ A ((compTurn (.ListComp y [⟨a,l,B,0⟩] d pos) 0 it u env).onRaise (λx=>do noteFrame x env;theTreesLotGoes x)) _ _ s;refine wpAny_noted ?_;rw[compTurn_list];refine aN (wpAny_standAt (aN (hH (F n s G) (λr e i=>?_) λ_ _ b=>b.elim)));cases r with
 |none=>exact a6 i
 |some v=>
  refine aN (hH i (λ_ f z=>?_) λ_ _ b=>b.elim);refine aN (hH z (λ_ o C=>aN (hH C (λok g j=>?_) λ_ _ b=>b.elim)) λ_ _ b=>b.elim);cases ok with
  |false=>exact a6 ⟨rfl,j⟩
  |true=>
   exact aN (aN (hH j (λx p D=>aN (hH D (λ_ q E=>a6 (a6 ⟨rfl,E⟩)) λ_ _ b=>b.elim)) λ_ _ b=>b.elim))
end
def Dk(n:Nat)(l:List Nat)(J:It)(g:TG)(u:TT)(s:TE)(p:St)(D:Addr)(q:Hp)(Q:Hp->Prop):Prop:=
 ∃W:Nat->Nat->List V->Hp->Prop,(∃m,W 0 m [] (upd q D (.lst [])))/\∀i m c d,W i m c d->
  (J.stop i d/\Q d)\/(J.go i d/\∀x f,J.BJ i d x f->g x (Ek n l p) f λa r=>(∃o:St,o.length=n/\a=o++D2 l p)/\u a r λb h=>
   if b=true then s a h λy j=>j D=some (.lst c)/\c.length<sizeLine/\∃e,e<m/\W (i+1) e (c++[y]) (upd j D (.lst (c++[y])))
   else∃e,e<m/\W (i+1) e c h)
def vo(n:Nat)(c:List Nat)(f:TI)(g:TG)(e:TT)(d:TE):TE:=λb H Q=>f b H λJ a=>∀D,a D=none->Dk n c J g e d b D a (Q (.ref D))
def d4(n:Nat)(c:List Nat)(f:TI)(g:TG)(e:TT)(d:TE)(i:Nat):TS:=λD a H=>f a H λJ b=>∀l,b l=none->Dk n c J g e d a l b (D.nx (a.set i (some (.ref l))))
section
variable {X:Cx}{tg iter elt:Expr}{ifs:List Expr}{scope sc:Scope}{fJ:List Str}{fr:List Nat}{wi:TI}{g:TG}{tt:TT}{te:TE}{pos:Pos}
theorem Nh{I:List (Addr×Obj)}{R:St}{A:Hp}{l:q4}{it:Addr}{w:List Addr}{tn:Nat->Heap->Prop}{J:It}{RR:q5->Addr->Result->q4->Prop}{E:pP}{Qf:Hp->Prop}
  (vD:X.env.scope=sc)(S:Br sc scope X.N fJ fr)(hc:X.calm=true)
  (hg:∀C l A w,PG (Ci X (B5 X.N fJ fr) scope C l A w) tg g)(ht:∀C l A w,sd (Ci X (B5 X.N fJ fr) scope C l A w) ifs tt)(he:∀C l A w,PE (Ci X (B5 X.N fJ fr) scope C l A w) elt te)
  (B:Ak X I R A l)(T:Q9 X.prog X.w X.K tg J w it tn)(BK:tn 0 l.heap)(Z:∀b∈w,K7 X I A b)
  (run:Dk fJ.length fr J g tt te R l.heap.objs.size A Qf)
  (hRR:∀(C:Addr) (K:Hp) (Y:q4),Ak X I R K Y->K7 X I K C->(∃m,Y.heap.Ns C m)->Qf K->RR (.ref l.heap.objs.size) C (.ok .next) Y):
  wpAny (model X.prog X.w) X.A (newList []) (λacc H=>wpAny (model X.prog X.w) X.A (newFunctionEnv scope X.env.globals (Ea X.env.cells scope.names []) [] X.env.qual none .none (some X.env)) (λMW s₄=>
   codeAny (model X.prog X.w) X.A (.compStart (.ListComp elt [⟨tg,iter,ifs,0⟩] scope pos) 0 (.ref it) acc {MW with scope:=relabel scope X.env}) (RR acc MW.locals) s₄) E H) E l:=by
 refine gR (wpAny_newFunctionEnv S.rG (by intro y hy;simp at hy) (λG FO zQ=>?_) S.kind);dsimp only at FO zQ⊢;generalize ZL:l.heap.push {cls:=.type "list",dict:=none,data:=.seq ([]:List q5).toArray}=D at FO zQ⊢;have hC:D.objs.size=l.heap.objs.size+1:=by rw[<- ZL,Heap.size_push]
 have hDC:l.heap.objs.size≠D.objs.size:=by rw[hC];exact eI (Nat.lt_succ_self _)
 have hle:l.heap.objs.size<=D.objs.size:=by rw[hC];exact Nat.le_succ _
 have F:∀b,b<l.heap.objs.size->b≠D.objs.size/\b≠l.heap.objs.size:=λb s=>⟨eI (fx s hle),eI s⟩;have P:∀b o,l.heap.get? b=some o->G.get? b=some o:=λb o e=>zQ.extBut b o (F b (dI e)).1 (bD _ (ZL▸bD _ e));have ZM:G.get? l.heap.objs.size=some {cls:=.type "list",data:=.seq ([]:List q5).toArray 0}:=zQ.extBut _ _ hDC (bD _ (ZL▸c4 _ rfl));have FP:∀y∈scope.names,y.2=NameKind.free->∃c,X.env.cells.lookup y.1=some c:=λy hy e=>B.ok.has y.1 (.inl (by show X.env.scope.names.lookup y.1=_;rw[vD];exact S.free y hy e))
 have rH:∀x c,(Ea X.env.cells scope.names []).lookup x=some c->X.env.cells.lookup x=some c:=λx c e=>by
  rcases J1 e with z|⟨z1,z2⟩
  ·simp at z
  ·obtain⟨c',e'⟩:=FP _ z1 rfl;rw[z2,e'];rfl
 have FQ:∀x c,X.env.cells.lookup x=some c->c<l.heap.objs.size:=λx c e=>by
  obtain⟨v,q⟩:=B.cell x c e;exact q.lt
 have FR:∀b∈w,b<l.heap.objs.size:=λb s=>by
  obtain⟨o,e,_⟩:=T.obj 0 _ BK b s;exact dI e
 have ZN:(Ci X (B5 X.N fJ fr) scope D.objs.size l A w).Ok:=by
  refine⟨B.ok.mod,S.kind,B.ok.glob,B.ok.blt,hle,λx y c e1 e2=>B.ok.inj x y c (rH x c e1) (rH y c e2),λx M=>?_,λx c z _=>absurd z ft,B.ok.hd,B.ok.frames,.inl rfl,
   λb s=>⟨(F b (FR b s)).1,λx c e=>(Z b s).2.2.2.2.1 x c (rH x c e)⟩,B.bs,en B.ok.vS B.sz,λb o e s=>?_,λb s z=>?_,B.stack,B.gM⟩
  ·rcases M with M|M
   ·exact Ew (Fb (env:=X.env) S.rG (by decide) (.inl rfl) M)
   ·exact Ew (Fb (env:=X.env) S.rG (by decide) (.inr rfl) M)
  ·rcases(Z b s).2.2.2.1 with z|z
   ·exact B.ok.rA b o e z
   ·exact absurd (fx (dI e) (en B.ok.vS z)) (Nat.lt_irrefl _)
  ·rcases eu.mp (B.rC b z)with z|z
   ·exact(Z b s).2.1 z
   ·exact(Z b s).2.2.1 z
 have I3:Ak (Ci X (B5 X.N fJ fr) scope D.objs.size l A w) [] (Ek fJ.length fr R) (upd A l.heap.objs.size (.lst [])) {l with heap:=G,toks:=l.toks+([]:List (Str×q5)).length}:=by
  refine⟨ZN,rfl,B.bare,Un.laid P (dr _) B.fresh,⟨_,FO,λi x v e1 e2 e3=>?_⟩,λx c e=>?_,?_,λx c e=>?_,λp hp=>absurd (show p∈([]:List (Addr×Obj))from hp) (by simp),B.aP.laid P (dr _) ⟨ml _,[],0,.nil,ZM⟩,?_⟩
  ·--a name of the comprehension that has a value at the start is one of the def's cells
   have hi:fJ.length<=i:=by
    refine Nat.le_of_not_lt λbB=>?_;unfold Ek at e2;rw[List.getElem?_append_left (by simpa using bB),List.getElem?_replicate,if_pos bB]at e2;cases e2
   have XE:(D2 fr R)[i-fJ.length]?=some (some v):=by
    unfold Ek at e2;rw[List.getElem?_append_right (by simpa using hi)]at e2;simpa using e2
   have jP:(fr.map λj=>(X.N[j]?).getD ⟨#[]⟩)[i-fJ.length]?=some x:=by
    have e1:(B5 X.N fJ fr)[i]?=some x:=e1;unfold B5 at e1;rw[List.getElem?_append_right hi]at e1;exact e1
   unfold D2 at XE;rw[List.getElem?_map]at jP XE;cases ej:fr[i-fJ.length]? with
   |none=>rw[ej]at jP;cases jP
   |some j=>
    rw[ej]at jP XE;have e1j:(X.N[j]?).getD ⟨#[]⟩=x:=eo jP;have XF:(R[j]?).getD none=some v:=eo XE;have pM:=S.jR j (cI ej);cases eN:X.N[j]? with
    |none=>rw[eN]at pM;cases pM
    |some N=>
     rw[eN]at pM e1j;have ex:N=x:=e1j;subst ex;have hfx:scope.names.lookup N=some NameKind.free:=pM
     have hσ:R[j]?=some (some v):=by
      cases eσ:R[j]? with
      |none=>rw[eσ]at XF;cases XF
      |some o=>rw[eσ]at XF;exact congrArg some XF
     have mO:=PySem.mem_of_lookup hfx;have hkc:X.env.scope.names.lookup N=some NameKind.cell:=by rw[vD];exact S.free _ mO rfl
     obtain⟨m,hn,hl⟩:=B.loc;obtain⟨u,ru,lk⟩:=hl j N v eN hσ (.inr (.inl hkc));refine⟨u,ru,.inr ⟨?_,?_⟩⟩
     ·have e3:(relabel scope X.env).names.lookup N=some NameKind.local\/(relabel scope X.env).names.lookup N=some NameKind.cell\/(relabel scope X.env).names.lookup N=some NameKind.free:=e3;rcases e3 with z|z|z
      ·exfalso
       have key:∀(names:List (Str×NameKind)),names.lookup N=some NameKind.free->(names.map λ(n,k)=>if(k==NameKind.free&&X.env.scope.kind== .function&&X.env.kindOf n==some .cell)then(n,NameKind.cell)else(n,k)).lookup N≠some NameKind.local:=by
        intro names
        induction names with
        |nil=>intro h;simp at h
        |cons p r ih=>
         obtain⟨n,k⟩:=p;intro h L;have L:List.lookup N ((if(k==NameKind.free&&X.env.scope.kind== .function&&X.env.kindOf n==some .cell)=true then(n,NameKind.cell)else(n,k))::(r.map λ(n,k)=>if(k==NameKind.free&&X.env.scope.kind== .function&&X.env.kindOf n==some .cell)then(n,NameKind.cell)else(n,k)))=some NameKind.local:=L;rw[List.lookup_cons]at h;cases M:N==n with
         |true=>
          rw[M]at h;have ek:k=NameKind.free:=eo h;subst ek;split at L
          ·rw[List.lookup_cons,M]at L;cases L
          ·rw[List.lookup_cons,M]at L;cases L
         |false=>
          rw[M]at h;split at L
          ·rw[List.lookup_cons,M]at L;exact ih h L
          ·rw[List.lookup_cons,M]at L;exact ih h L
       exact key scope.names hfx z
      ·exact .inl z
      ·exact .inr z
     ·obtain⟨c,ec⟩:=Ew (cells:=X.env.cells) (cs:=[]) mO;rcases lk with⟨k1,_⟩|⟨_,c',ec',ic⟩
      ·have k1:X.env.scope.names.lookup N=some NameKind.local:=k1;rw[hkc]at k1;cases k1
      ·have q:=rH _ _ ec;rw[ec']at q;have q':c'=c:=eo q;subst q';exact⟨_,ec,ic.keeps P⟩
  ·obtain⟨v,q⟩:=B.cell x c (rH x c e);exact⟨v,q.keeps P⟩
  ·show upd A l.heap.objs.size (.lst []) D.objs.size=none;rw[A9 hDC.symm];exact B.aP.fresh hle
  ·rw[A9 (Nat.ne_of_lt (FQ x c (rH x c e)))];exact B.cA x c (rH x c e)
  ·unfold Ek D2;show _=(B5 X.N fJ fr).length;unfold B5;simp
 obtain⟨W,⟨m0,w0⟩,turn⟩:=run
 have Q:∀{U:Hp},(∀b∈w,U b=none)->∀b∈w,K7 (Ci X (B5 X.N fJ fr) scope D.objs.size l A w) [] U b:=λhn b s=>
  ⟨hn b s,(F b (FR b s)).1,ZN.rB b s,.inl s,(ZN.MH b s).2,λp hp=>absurd (show p∈([]:List (Addr×Obj))from hp) (by simp)⟩
 have XB:∀b∈w,upd A l.heap.objs.size (.lst []) b=none:=λb s=>by rw[A9 (F b (FR b s)).2];exact(Z b s).1
 have MM:tn 0 G:=T.keep 0 _ _ BK λb _ o e=>P b o e
 have fin:∀{K:Hp}{Y:q4},Ak (Ci X (B5 X.N fJ fr) scope D.objs.size l A w) [] (Ek fJ.length fr R) K Y->Qf K->RR (.ref l.heap.objs.size) D.objs.size (.ok .next) Y:=λ{K Y} I4 q=>by
  obtain⟨m,hn,_⟩:=id I4.loc;have ub:Un (jR X.stack) w A K l.heap Y.heap:=I4.base;refine hRR D.objs.size K Y (B.BI (ch:=w) (s':=Y) I4.os ub I4.aP I4.bare λb s=>⟨(Z b s).2.2.2.1,(Z b s).2.1,(Z b s).2.2.2.2.1,(Z b s).2.2.2.2.2⟩) (B.rE hle I4.free) ⟨m,hn⟩ q
 have loop:∀H:q4,H={l with heap:=G,toks:=l.toks+([]:List (Str×q5)).length}->
   codeAny (model X.prog X.w) X.A (.compLoop (.ListComp elt [⟨tg,iter,ifs,0⟩] scope pos) 0 (.ref it) (.ref l.heap.objs.size) (compEnvC scope (Ea X.env.cells scope.names []) D.objs.size X.env)) (RR (.ref l.heap.objs.size) D.objs.size) H:=by
  rintro H rfl;refine Og (λn s'=>∃i ys U,Ak (Ci X (B5 X.N fJ fr) scope D.objs.size l A w) [] (Ek fJ.length fr R) U s'/\tn i s'.heap/\(∀b∈w,U b=none)/\W i n ys U) ?_ m0 ⟨0,[],_,I3,MM,XB,w0⟩;rintro n s5 ⟨i,ys,K,J3,sti,fri,w3⟩;rcases turn i n ys K w3 with⟨stop,q⟩|⟨go,step⟩
  ·refine hH (T.done (Ci X (B5 X.N fJ fr) scope D.objs.size l A w) rfl rfl rfl hc i [] s5 _ K (λ_ _=>False) J3 (Q fri) sti stop) (λr s6 ⟨hr,J4⟩=>?_) (λ_ _ f=>f);subst hr;exact fin J4 q
  ·refine hH (T.item (Ci X (B5 X.N fJ fr) scope D.objs.size l A w) rfl rfl rfl hc i [] s5 _ K (λ_ _=>False) J3 (Q fri) sti go) (λr s6 ⟨u,hr,h6⟩=>?_) (λ_ _ f=>f);subst hr;refine hH h6 (λ_ s7 ⟨x,H7,J7,r7,y7,ZO,fr7⟩=>?_) (λ_ _ f=>f);have J7':=J7.pinned (Q fr7) (T.obj _ _ ZO);refine hH (hg D.objs.size l A w _ s7 _ H7 x u _ J7' r7 (step x H7 y7)) (λ_ s8 ⟨σ8,H8,J8,⟨zs,hz,e8⟩,q8⟩=>?_) (λ_ _ f=>f)
   have O:∀{H9:Hp}{s9:q4}{zz:List V},Ak (Ci X (B5 X.N fJ fr) scope D.objs.size l A w) ([]++M9 w s7.heap) σ8 H9 s9->(∃m',m'<n/\W (i+1) m' zz H9)->
     ∃m,m<n/\∃i ys U,Ak (Ci X (B5 X.N fJ fr) scope D.objs.size l A w) [] (Ek fJ.length fr R) U s9/\tn i s9.heap/\(∀b∈w,U b=none)/\W i m ys U:=λ{H9 s9 zz} J9 ⟨m',hm,w9⟩=>by
    refine⟨m',hm,i+1,zz,H9,J9.iP.weak ?_ ?_,T.keep _ _ _ ZO λb s o e=>(J9.pin (b,o) (gd _ (gd _ (Fa s e)))).1,λb s=>?_,w9⟩
    ·rw[e8];unfold Ek;simp[hz]
    ·intro k v ek;rw[e8];unfold Ek at ek;by_cases hk:k<fJ.length
     ·rw[List.getElem?_append_left (by simpa using hk),List.getElem?_replicate,if_pos hk]at ek;cases ek
     ·rw[List.getElem?_append_right (by simpa using hk)]at ek;rw[List.getElem?_append_right (by omega),hz];simpa using ek
    ·obtain⟨o,e,d⟩:=T.obj _ _ ZO b s;exact(J9.pin (b,o) (gd _ (gd _ (Fa s e)))).2.1
   refine hH (ht D.objs.size l A w _ s8 σ8 H8 _ J8 q8) (λok s9 ⟨H9,J9,q9⟩=>?_) (λ_ _ f=>f);cases ok with
   |false=>
    rw[if_neg Bool.false_ne_true]at q9⊢;exact O J9 q9
   |true=>
    rw[if_pos rfl]at q9⊢;refine hH (he D.objs.size l A w _ s9 σ8 H9 _ J9 q9) (λy BL ⟨v10,FT,J10,r10,hD,hlen,ZP⟩=>?_) (λ_ _ f=>f);refine hH (D6 (X:=Ci X (B5 X.N fJ fr) scope D.objs.size l A w) _ BL σ8 FT (.ref l.heap.objs.size) [v10] (.ref l.heap.objs.size) [y] (λ_ ZQ=>ZQ=upd FT l.heap.objs.size (.lst (ys++[v10]))) J10 rfl (.cons r10 .nil) ⟨_,ys,v10,rfl,rfl,hD,hlen,rfl⟩) (λ_ FU ⟨_,ZQ,J11,_,XG⟩=>?_) (λ_ _ f=>f);subst XG;exact O J11 ZP
 exact codeAny_compStart_list (loop _ rfl) (T.self _ 0 _ _ _ MM (loop _ rfl))
theorem Cj(hi:PI X tg iter wi)(sc:Scope)(O:X.env.scope=sc)(S:Br sc scope X.N fJ fr)(F:X.calm=true)(P:closureFor scope X.env=pure (Ea X.env.cells scope.names []))
  (G:∀C c d f,PG (Ci X (B5 X.N fJ fr) scope C c d f) tg g)(M:∀C c d f,sd (Ci X (B5 X.N fJ fr) scope C c d f) ifs tt)(he:∀C c d f,PE (Ci X (B5 X.N fJ fr) scope C c d f) elt te)
  (L:∀x,foldedSetIterable iter X.env x=pure x:=by intro _;rfl):PE X (.ListComp elt [⟨tg,iter,ifs,0⟩] scope pos) (vo fJ.length fr wi g tt te):=by
 intro a s n H Q I h;rw[eval_ListComp];refine wpAny_comprehension_free (use:=none) rfl L P S.kind S.loc (hH (hi a s n H _ I h) (λv s1 B=>hH B (λR c D=>?_) λ_ _ e=>e) λ_ _ e=>e);obtain⟨it,f,tn,J,d,e,l,T,p,z,R2⟩:=D;subst e;refine Nh (RR:=λj C=>compPost (model X.prog X.w) X.A X.xe none (EP X a n Q) j C) O S F G M he l T p z (R2 _ l.fresh) ?_;intro C r N u i ⟨m,K⟩ q;refine⟨m,K,λA w=>⟨.ref c.heap.objs.size,r,?_,rfl,q⟩⟩;obtain⟨Z,Y,U,y,oo⟩:=N;exact u.turned (h':=A) (t':=y) (it:=C) (λb o E e=>w.extBut b o E e) i.1 i.2.1 i.2.2.2.1 i.2.2.2.2.1 i.2.2.2.2.2
theorem E3(Z:X.N.Nodup)(w:X.N[i]?=some y)(hi:PI X tg iter wi)(sc:Scope)(vD:X.env.scope=sc)(S:Br sc scope X.N fJ fr)(hc:X.calm=true)
  (wA:closureFor scope X.env=pure (Ea X.env.cells scope.names []))
  (hg:∀C f j l,PG (Ci X (B5 X.N fJ fr) scope C f j l) tg g)(ht:∀C f j l,sd (Ci X (B5 X.N fJ fr) scope C f j l) ifs tt)(he:∀C f j l,PE (Ci X (B5 X.N fJ fr) scope C f j l) elt te)
  (F:X.env.scope.names.lookup y=some NameKind.local)
  (A:swapsWith (.ListComp elt [⟨tg,iter,ifs,0⟩] scope pos) (some (.Name y n)) E.line X.env=pure true)
  (hs:∀x,foldedSetIterable iter X.env x=pure x:=by intro _;rfl):
  PS X (.Assign [.Name y n] (.ListComp elt [⟨tg,iter,ifs,0⟩] scope pos) E) (d4 fJ.length fr wi g tt te i):=by
 intro c s σ H D I h;rw[exec_Assign_Name_used _ _ _ _ A];refine aN (wpAny_standAt (aN ?_));show wpAny _ X.A (do let _ <- comprehension (.ListComp elt [⟨tg,iter,ifs,0⟩] scope pos) scope X.env _ (newList []) false (eval iter X.env) (some (assign (.Name y n) X.env))) _ _ s
 refine aN (hH (wpAny_comprehension_free (use:=some (assign (.Name y n) X.env)) (Q:=λ_ p=>SP X c D .next p) rfl hs wA S.kind S.loc
  (hH (hi c s σ H _ I h) (λv s1 U=>hH U (λXA f Y=>?_) λ_ _ e=>e) λ_ _ e=>e)) (λ_ p hq=>a6 (a6 hq)) λ_ _ e=>e)
 obtain⟨it,l,tn,J,j,e,B,T,G,Q,R2⟩:=Y;subst e;refine Nh (RR:=λr C=>compPost (model X.prog X.w) X.A X.xe (some (assign (.Name y n) X.env)) (λ_ p=>SP X c D .next p) r C) vD S hc hg ht he B T G Q (R2 _ B.fresh) ?_;intro C K s4 L d ⟨m,hn⟩ q;refine wpAny_assign_Name (O5 (v:=.ref f.heap.objs.size) L Z w (.inl F) rfl (λs5 M ⟨a,P,ha⟩=>?_) (.inr F))
 have u:C≠a:=by
  rcases ha with z|z
  ·rw[z];exact d.2.1
  ·exact λz2=>d.2.2.2.2.1 y a z z2.symm
 refine⟨m,hn.sameBut P u,λR N=>⟨_,K,?_,q⟩⟩;obtain⟨hh,gg,dd,O,oo⟩:=s5;exact M.turned (h':=R) (t':=O) (it:=C) (λb o hb e=>N.extBut b o hb e) d.1 d.2.1 d.2.2.2.1 d.2.2.2.2.1 d.2.2.2.2.2
end
open PySem.Builtin.Int (intBits)
section
variable {X:Cx}
theorem Ef:G5 X (binaryOp .Mult) (rI IntMulOk λi j=>.int (i*j)):=qz λ_ _ _ _ _ _ _ a q=>mul_int q a
end
theorem Nv(c:intBits a<=m)(d:intBits b<=n)(h:m+n<=134217728):IntMulOk a b:=PyProof.Rows.mulOk_of_bits c d h
theorem Ul(h1:-(2^64)<a)(c:a<2^64):IntMulOk a b:=IntMulOk.of_left (intBits_le_64 h1 c)
theorem Nb(d:0<b)(c:intBits a<=m):intBits (a/b)<=m:=by
 rw[<- Int.fdiv_eq_ediv_of_nonneg a (Int.le_of_lt d)];exact bits_fdiv c
def Mv(T C:String):Option Bool:=if(Value.type T==Value.type C)=true then some true else if W.kitMeta C=true then(fastBuiltinMro T).map (·.contains (Value.type C))else none
theorem Yo(K:W.Frag)(T C:String):W.kitOne K (.type T) (.type C)=Mv T C:=rfl
section
variable {X:Cx}
def um(K:W.Frag):List V->Hp->VK->Prop:=λa H Q=>∃x T C b,a=[x,.ty C]/\Hl K H x (.type T)/\Mv T C=some b/\Q (.bl b) H
theorem Xk:D7 X (.builtin "isinstance") (um X.K):=by
 intro a s l H j i Q I r h;obtain⟨x,T,C,b,rfl,ty,e,q⟩:=h;obtain⟨u,f,rfl,d,c⟩:=dc r;obtain rfl:f=Value.type C:=c;exact Wc I d ty ((Yo X.K T C).trans e) λg=>⟨.bl b,H,I.tok _,rfl,q⟩
theorem Uq{pos:Pos}(a:Gl X x)(b:X.mg x=none)(d:bootBuiltins x=some (.type T))(c:x≠"__name__":=by decide)(hd:(x==("__debug__":Str))=false:=by decide):PE X (.Name x pos) (tC (.ty T)):=
 gk a b d rfl c hd
end
mutual
def Rp(H:Hp):rr->V->Prop
 | .none,v=>v=.aX
 | .bool b,v=>v=.bl b
 | .int i,v=>v=.int i
 | .tuple d,v=>∃a c,v=.ref a/\H a=some (.tup c)/\aR H d c
 | .list d,v=>∃a c,v=.ref a/\H a=some (.lst c)/\aR H d c
 | .str x,v=>v=.str x/\PyData.strOk x=true
 | .dict _,_=>False
def aR(H:Hp):List rr->List V->Prop
 |[],vs=>vs=[]
 |d::b,vs=>∃x a,vs=x::a/\Rp H d x/\aR H b a
end
mutual
theorem Fz:∀(d:rr) (v:V),Rp H d v->d.canLay0=true
 | .none,_,_=>rfl
 | .bool _,_,_=>rfl
 | .int _,_,_=>rfl
 | .tuple b,_,h=>by
  unfold Rp at h;obtain⟨a,c,_,_,h⟩:=h;exact jS b c h
 | .list b,_,h=>by
  unfold Rp at h;obtain⟨a,c,_,_,h⟩:=h;exact jS b c h
 | .str x,v,h=>by
  unfold Rp at h;exact h.2
 | .dict _,_,h=>by unfold Rp at h;exact h.elim
theorem jS:∀(a:List rr) (vs:List V),aR H a vs->PyData.canLayAll0 a=true
 |[],_,_=>rfl
 |d::a,vs,h=>by
  unfold aR at h;obtain⟨x,e,_,b,c⟩:=h;show(d.canLay0&&PyData.canLayAll0 a)=true;rw[Fz d x b,jS a e c];rfl
end
section
variable {X:Cx}{pins:List (Addr×Obj)}{σ:St}{H:Hp}{s:q4}
mutual
theorem Ih(I:Ak X pins σ H s):∀(d:rr) (v:V) (u:q5),Rp H d v->Aw v u->∃as,Reads s.heap u d as
 | .none,v,u,h,r=>by
  unfold Rp at h;subst h;cases r;exact⟨_,.none⟩
 | .bool b,v,u,h,r=>by
  unfold Rp at h;subst h;cases r;exact⟨_,.bool b⟩
 | .int i,v,u,h,r=>by
  unfold Rp at h;subst h;obtain⟨t,rfl⟩:=r;exact⟨_,.int i t⟩
 | .tuple e,v,u,h,r=>by
  unfold Rp at h;obtain⟨a,g,rfl,f,h⟩:=h;cases r;obtain⟨_,c,rv,p⟩:=I.aP a _ f;obtain⟨o,j,l,n,m⟩:=p;obtain⟨as,q⟩:=fP I e g c h rv;exact⟨_,.tuple j l m (by simpa using q)⟩
 | .list e,v,u,h,r=>by
  unfold Rp at h;obtain⟨a,g,rfl,f,h⟩:=h;cases r;obtain⟨_,c,n,rv,p⟩:=I.aP a _ f;obtain⟨as,q⟩:=fP I e g c h rv;exact⟨_,.list p rfl rfl (by simpa using q)⟩
 | .str x,v,u,h,r=>by
  unfold Rp at h;obtain⟨rfl,_⟩:=h;obtain⟨t,rfl⟩:=r;exact⟨_,.str x t⟩
 | .dict _,_,_,h,_=>by unfold Rp at h;exact h.elim
theorem fP(I:Ak X pins σ H s):∀(a:List rr) (vs:List V) (us:List q5),aR H a vs->As vs us->∃as,ReadsAll s.heap us a as
 |[],vs,us,h,r=>by
  unfold aR at h;subst h;cases r;exact⟨_,.nil⟩
 |d::a,vs,us,h,r=>by
  unfold aR at h;obtain⟨x,j,rfl,b,c⟩:=h;cases r with
  |cons g i=>
   obtain⟨as,e⟩:=Ih I d x _ b g;obtain⟨bs,f⟩:=fP I a j _ c i;exact⟨_,.cons e f⟩
end
end
section
variable {X:Cx}{k:Nat}
def xx(a:Bool):R2:=λx y H Q=>∃d e:rr,Rp H d x/\Rp H e y/\d.depth<=60/\Q (.bl (if a then !PyData.eqv d e else PyData.eqv d e)) H
theorem Yy(f:B9 k X.A):G5 X (compareOp .Eq) (xx false):=by
 intro c s p H x y v u Q I j l h;obtain⟨d,e,a,b,n,q⟩:=h;obtain⟨m,g⟩:=Ih I d x v a j;obtain⟨bs,i⟩:=Ih I e y u b l;have o:=f.units;exact PySem.SeqAt.compareEq_reads g i (Fz d x a) (Fz e y b) (by omega) ⟨.bl (PyData.eqv d e),H,I,rfl,q⟩
end
theorem Uv:∀ns:qQ,aR H (ns.map PyData.int) (ns.map V.int)
 |[]=>by unfold aR;rfl
 |n::ns=>by
  show aR H (PyData.int n::ns.map PyData.int) (V.int n::ns.map V.int);unfold aR;exact⟨_,_,rfl,by unfold Rp;rfl,Uv ns⟩
theorem A7.new(e:A7 H a)(h:H p=none):A7 H (upd a p o):=λb u q=>by
 rw[A9 (Ag q h)];exact e b u q
theorem A7.upd(h:H p=none):A7 H (upd H p o):=(A7.refl H).new h
section
variable {X:Cx}{tg:Expr}
def uq(K:W.Frag):R2:=λx y H Q=>∃p a i v,x=.ref p/\y=.int i/\(Ao K H p a\/Cp K H p a)/\Hm a i=some v/\Q v H
theorem Ay(K:W.Frag)(o:X.K=K:=by rfl):rj X (uq K):=by
 subst o;intro b a c s n H x y v u Q I j l h g;obtain⟨p,m,i,z,d,e,h|h,f,q⟩:=h
 ·exact fk b a c s n H x y v u Q I j l ⟨p,m,i,z,d,e,h,f,q⟩ g
 ·exact kd b a c s n H x y v u Q I j l ⟨p,m,i,z,d,e,h,f,q⟩ g
def y4(K:W.Frag):List V->Hp->VK->Prop:=λb H Q=>∃p a,b=[.ref p]/\(Ao K H p a\/Cp K H p a)/\Q (.int a.length) H
theorem C1(K:W.Frag)(a:X.K=K:=by rfl):D7 X (.builtin "len") (y4 K):=by
 subst a;exact Of
theorem Iz(K:W.Frag)(a:X.K=K:=by rfl):D7 X (.builtin "isinstance") (um K):=by
 subst a;exact Xk
theorem Hd(K:W.Frag)(a:X.K=K:=by rfl):G5 X (compareOp .In) (wn K false):=by
 subst a;exact Wq
theorem Ws(K:W.Frag)(a:X.K=K:=by rfl):G5 X (compareOp .NotIn) (wn K true):=by
 subst a;exact P9
theorem Cg(K:W.Frag)(a:X.K=K:=by rfl):wf X (uw K):=by
 subst a;exact i7
theorem Gb(K:W.Frag){t:ip}{pos:Pos}(b:X.calm=true)(h:rp X es t)(a:X.K=K:=by rfl)
  (c:(assignEach es X.env).length=n:=by rfl)(e:(assignEach es X.env).findIdx? (·.1)=none:=by rfl):PG X (.Tuple es d pos) (jz K n t):=by
 subst a;exact o8 b h c e
def yy(K:W.Frag)(d:TE):TI:=λe H R=>d e H λx b=>∃a,x=.ref a/\(((∃c,Ao K b a c)/\R (jl K a) b)\/((∃c,Cp K b a c)/\R (qu K a) b))
theorem C6(w:PE X l r):PI X tg l (yy X.K r):=by
 intro f s B H R I h;refine Bh (w f s B H _ I h) λv c u=>?_;obtain⟨x,m,d,z,j⟩:=u;obtain⟨a,e,j⟩:=j;subst e;cases z;rcases j with⟨⟨A,i⟩,q⟩|⟨⟨A,i⟩,q⟩
 ·obtain⟨n,rv,p,y⟩:=d.list i;refine wpAny_pyIter_list p.isList ?_;refine⟨c.heap.objs.size,[c.heap.objs.size],_,_,m,rfl,d.kept (t':=c.toks) λb o e=>bD _ e,X3 a _,⟨_,c4 _ rfl,rfl,rfl⟩,λb g=>?_,q⟩;have e:b=c.heap.objs.size:=by simpa using g
  subst e;exact d.rE (dr _) (d.aP.fresh (dr _))
 ·obtain⟨n,rv,p,y⟩:=d.tuple i;refine wpAny_pyIter_tuple (show c.heap.IsTuple a n.toArray from p) ?_;refine⟨c.heap.objs.size,[c.heap.objs.size],_,_,m,rfl,d.kept (t':=c.toks) λb o e=>bD _ e,Tt a _,⟨_,c4 _ rfl,rfl,rfl⟩,λb g=>?_,q⟩;have e:b=c.heap.objs.size:=by simpa using g
  subst e;exact d.rE (dr _) (d.aP.fresh (dr _))
end
theorem Ky{h:List Nat}{j:TE}{l:St}{D:Addr}{f:Hp}{Q:Hp->Prop}{lo:Int}{a:Nat}(b:Nat->List V->Hp->Prop)(o:b 0 [] (upd f D (.lst [])))
  (r:∀i ys H,i<a->b i ys H->∀g:VK,(∀y c,c D=some (.lst ys)->ys.length<sizeLine->b (i+1) (ys++[y]) (upd c D (.lst (ys++[y])))->g y c)->j (some (.int (lo+i))::D2 h l) H g)
  (hd:∀ys H,b a ys H->Q H):Dk 1 h (im lo a) (Hs 0) N4 j l D f Q:=by
 refine⟨λi m ys H=>m=a-i/\i<=a/\b i ys H,⟨a,by simp,ml _,o⟩,?_⟩;rintro i m ys n ⟨rfl,v,p⟩;by_cases d:i<a
 ·refine .inr ⟨d,λx u y=>?_⟩;obtain⟨e,y⟩:=y;subst e y;refine⟨⟨[some (.int (lo+i))],rfl,rfl⟩,?_⟩;simp only[N4,↓reduceIte];exact r i ys _ d p _ λy c q s pv=>⟨q,s,a-(i+1),by omega,rfl,d,pv⟩
 ·have e:i=a:=by omega
  subst e;exact .inl ⟨dr _,hd ys n p⟩
theorem C2{K:W.Frag}{a:Addr}{xs:List V}{j:List Nat}{l:TE}{n:St}{D:Addr}{f:Hp}{Q:Hp->Prop}(b:Nat->List V->Hp->Prop)(o:b 0 [] (upd f D (.lst [])))
  (u:∀i ys H,i<=xs.length->b i ys H->Ao K H a xs)
  (v:∀i x ys H,xs[i]?=some x->b i ys H->∀g:VK,(∀y c,c D=some (.lst ys)->ys.length<sizeLine->b (i+1) (ys++[y]) (upd c D (.lst (ys++[y])))->g y c)->l (some x::D2 j n) H g)
  (hd:∀ys H,b xs.length ys H->Q H):Dk 1 j (jl K a) (Hs 0) N4 l n D f Q:=by
 refine⟨λi m ys H=>m=xs.length-i/\i<=xs.length/\b i ys H,⟨xs.length,by simp,ml _,o⟩,?_⟩;rintro i m ys d ⟨rfl,s,p⟩;have q:=u i ys d s p;by_cases h:i<xs.length
 ·refine .inr ⟨⟨xs,xs[i],q,by simp[h]⟩,λx z y=>?_⟩;obtain⟨e,y⟩:=y;subst e;refine⟨⟨[some x],rfl,rfl⟩,?_⟩;simp only[N4,↓reduceIte];exact v i x ys _ (y xs q) p _ λy c r w pv=>⟨r,w,xs.length-(i+1),by omega,rfl,h,pv⟩
 ·have e:i=xs.length:=by omega
  subst e;exact .inl ⟨⟨xs,q,dr _⟩,hd ys d p⟩
theorem Xn{K:W.Frag}{a:Addr}{xs:List V}{j:List Nat}{l:TE}{n:St}{D:Addr}{f:Hp}{Q:Hp->Prop}(b:Nat->List V->Hp->Prop)(o:b 0 [] (upd f D (.lst [])))
  (u:∀i ys H,i<=xs.length->b i ys H->Cp K H a xs)
  (v:∀i x ys H,xs[i]?=some x->b i ys H->∀g:VK,(∀y c,c D=some (.lst ys)->ys.length<sizeLine->b (i+1) (ys++[y]) (upd c D (.lst (ys++[y])))->g y c)->l (some x::D2 j n) H g)
  (hd:∀ys H,b xs.length ys H->Q H):Dk 1 j (qu K a) (Hs 0) N4 l n D f Q:=by
 refine⟨λi m ys H=>m=xs.length-i/\i<=xs.length/\b i ys H,⟨xs.length,by simp,ml _,o⟩,?_⟩;rintro i m ys d ⟨rfl,s,p⟩;have q:=u i ys d s p;by_cases h:i<xs.length
 ·refine .inr ⟨⟨xs,xs[i],q,by simp[h]⟩,λx z y=>?_⟩;obtain⟨e,y⟩:=y;subst e;refine⟨⟨[some x],rfl,rfl⟩,?_⟩;simp only[N4,↓reduceIte];exact v i x ys _ (y xs q) p _ λy c r w pv=>⟨r,w,xs.length-(i+1),by omega,rfl,h,pv⟩
 ·have e:i=xs.length:=by omega
  subst e;exact .inl ⟨⟨xs,q,dr _⟩,hd ys d p⟩
theorem Cn{c:Bool}{A B:Prop}(a:c=true)(h:A):if c=true then A else B:=by rw[if_pos a];exact h
theorem Bx{c:Bool}{A B:Prop}(a:c=false)(h:B):if c=true then A else B:=by rw[if_neg (by rw[a];exact Bool.false_ne_true)];exact h
theorem B7{xs:List V}(h:xs.length<=1000:=by simp):xs.length<=sizeLine:=nX (Ap h)
theorem Vb(h:n<=1000):n<=sizeLine:=nX (Ap h)
def dT(ws:qQ):rr:=.tuple (ws.map PyData.int)
def dP(d e:rr):rr:=.tuple [d,e]
def vO:q3->V
 |none=>.aX
 |some i=>.int i
theorem om{H:Hp}(i:Int):Rp H (.int i) (.int i):=by unfold Rp;rfl
theorem Zk{H:Hp}:Rp H .none .aX:=by unfold Rp;rfl
theorem uz{H:Hp}{t:Addr}{ws:qQ}(h:H t=some (.tup (ws.map V.int))):Rp H (dT ws) (.ref t):=by
 unfold dT Rp;exact⟨t,_,rfl,h,Uv ws⟩
theorem uy{H:Hp}{p:Addr}{d e:rr}{x y:V}(h:H p=some (.tup [x,y]))(hd:Rp H d x)(he:Rp H e y):Rp H (dP d e) (.ref p):=by
 unfold dP Rp;refine⟨p,_,rfl,h,?_⟩;unfold aR;refine⟨x,_,rfl,hd,?_⟩;unfold aR;refine⟨y,_,rfl,he,?_⟩;unfold aR;rfl
theorem Fq:∀xs ys:qQ,PyData.eqvAll (xs.map PyData.int) (ys.map PyData.int)=decide (xs=ys)
 |[],[]=>rfl
 |x::xs,y::ys=>by
  show(PyData.eqv (.int x) (.int y)&&PyData.eqvAll (xs.map PyData.int) (ys.map PyData.int))=_;rw[Fq xs ys];show((x==y)&&decide (xs=ys))=_;by_cases a:x=y<;>by_cases b:xs=ys<;>simp[a,b]
 |[],_::_=>rfl
 |_::_,[]=>rfl
theorem jw(xs ys:qQ):PyData.eqv (dT xs) (dT ys)=decide (xs=ys):=Fq xs ys
section
variable {X:Cx}{pins:List (Addr×Obj)}{σ:St}{H:Hp}{s:q4}{h':Heap}
theorem Ak.pW{ch:List Addr}{T:Addr}{o:HO}{t':Nat}(I:Ak X pins σ H s)(g:∀b∈ch,K7 X pins H b)(k:∀b a,b∉ch->s.heap.get? b=some a->h'.get? b=some a)
  (i:s.heap.objs.size<=T)(new:B8 X.prog X.w (upd H T o) h' T o):Ak X pins σ (upd H T o) {s with heap:=h',toks:=t'}:=by
 have h:H T=none:=I.aP.fresh i
 have off:∀b u,H b=some u->b∉ch:=λb u e f=>by
  have z:=(g b f).1;rw[e]at z;cases z
 refine I.call (g':=s.gens) (d':=s.drawn) (t':=t') (ch:=ch) ⟨λb a e _ _ d=>k b a d e,λb a e _ _ d=>⟨a.slots,k b a d e⟩,λb a e n d=>?_,λb a e d=>⟨a,k b a d e⟩,λb j e=>?_,λb a u e=>?_,λb l e=>⟨#[],?_⟩⟩ (λb u e=>?_) I.bare
  (λb f=>⟨(g b f).2.2.2.1,(g b f).2.1,(g b f).2.2.2.2.1,(g b f).2.2.2.2.2⟩)
 ·rw[A9 (Nat.ne_of_lt (Nat.lt_of_lt_of_le (Heap.lt_size e) i))];exact n
 ·rw[A9 (Ag e h)];exact e
 ·rw[A9 (Ag e h)];exact e
 ·rw[A9 (Ag e h),e];simp
 ·by_cases f:b=T
  ·subst f;rw[A2]at e;cases e;exact new
  ·rw[A9 f]at e;refine(I.aP b u e).gY (λc v d q=>k c v ?_ q) (λc q=>?_) λc j q=>?_
   ·rcases d with rfl|d
    ·exact off _ _ e
    ·exact off _ _ d
   ·rw[A9 (Ag q h)];exact q
   ·rw[A9 (Ag q h)];exact q
theorem Ak.pX{ch:List Addr}{t':Nat}(I:Ak X pins σ H s)(g:∀b∈ch,K7 X pins H b)(k:∀b a,b∉ch->s.heap.get? b=some a->h'.get? b=some a):Ak X pins σ H {s with heap:=h',toks:=t'}:=by
 have off:∀b u,H b=some u->b∉ch:=λb u e f=>by
  have z:=(g b f).1;rw[e]at z;cases z
 refine I.call (g':=s.gens) (d':=s.drawn) (t':=t') (ch:=ch) ⟨λb a e _ _ d=>k b a d e,λb a e _ _ d=>⟨a.slots,k b a d e⟩,λb a e n d=>n,λb a e d=>⟨a,k b a d e⟩,λb h e=>e,λb a u e=>e,λb i e=>⟨#[],by rw[e];simp⟩⟩ (λb u e=>?_) I.bare
  (λb f=>⟨(g b f).2.2.2.1,(g b f).2.1,(g b f).2.2.2.2.1,(g b f).2.2.2.2.2⟩)
 refine(I.aP b u e).gY (λc v d q=>k c v ?_ q) (λc q=>q) λc h q=>q;rcases d with rfl|d
 ·exact off _ _ e
 ·exact off _ _ d
end
section
variable {X:Cx}
theorem J0(x:X.calm=true):D7 X (.builtin "min") (λxs H Q=>∃(p:Addr) (ns:qQ),xs=[.ref p]/\Ao X.K H p (ns.map V.int)/\0<ns.length/\∀m:Int,m∈ns->(∀a∈ns,m<=a)->Q (.int m) H):=by
 intro n s N H M L Q I r q;obtain⟨p,ns,rfl,A,g,q⟩:=q;obtain⟨u,rfl,D⟩:=E6 r;cases D;obtain⟨E,rv,C,J⟩:=I.list A;have i:=F7 rv;obtain⟨b,f⟩:=i.allInts.items
 have d:ns=b.toList.map (·.1):=by
  have w:=i.numsOf;have e:=nums_intItems b;rw[<- f]at e;exact w.symm.trans e
 have c:0<b.size:=by
  rw[d,List.length_map,Array.length_toList]at g;exact g
 have l:=C.isList;rw[f]at l;refine min_intList (I.ok.hd x) l c λv G K B z=>?_;obtain⟨t,rfl⟩:=intItems_at B;obtain⟨F,o⟩:=argBest_lt (numAt b) (b.size-1);refine⟨.int _,H,I.kept z,⟨t,rfl⟩,q _ ?_ λa h=>?_⟩
 ·rw[d,numAt_eq];exact getD_mem (by rw[List.length_map,Array.length_toList];omega)
 ·rw[d]at h;obtain⟨j,y,rfl⟩:=mem_getD h;rw[List.length_map,Array.length_toList]at y;rw[<- numAt_eq];exact o j (by omega)
end
structure Q5(K:W.Frag)(x qual:Str)(st:Stmt)(f:Addr)(fd:ri):Prop where
 ex:∃(oc:q5) (od:Option Addr) (dV kV doc pm:q5) (an:Option Addr) (aZ ct:q5) (pK:Array (Option q5)),
  fd=W.fnOf x qual (Cb st) (Be st) (A8 st) dV kV doc pm an aZ ct/\K.lookup f=some ⟨oc,od,.func fd,pK⟩/\W.codeIn K aZ qual=true
section
variable {X:Cx}{a b c:Expr}{rest:List Expr}{ta tb:TE}{tA zw:TT}{t u:TS}{pos:Pos}
def vj(ta tb:TE):TE:=λg H Q=>ta g H λx e=>∃c d:Bool,x=.bl c/\(c=true->∀f:VK,f (.bl d) e->tb g e f)/\Q (.bl (c&&d)) e
def yl(ta tb:TE):TE:=λg H Q=>ta g H λx e=>∃c d:Bool,x=.bl c/\(c=false->∀f:VK,f (.bl d) e->tb g e f)/\Q (.bl (c||d)) e
theorem Pb(m:PE X a ta)(n:PE X (.BoolOp .And (b::rest) pos) tb):PE X (.BoolOp .And (a::b::rest) pos) (vj ta tb):=by
 intro e s j H Q I h;refine BoolOp_and (Bh (m e s j H _ I h) λv q l=>?_);obtain⟨x,g,i,p,f⟩:=l;obtain⟨c,d,rfl,o,f⟩:=f;cases p;refine il ?_;cases c with
 |true=>exact n e q j g Q i (o rfl Q f)
 |false=>exact⟨.bl false,g,i,rfl,f⟩
theorem o6(m:PE X a ta)(n:PE X (.BoolOp .Or (b::rest) pos) tb):PE X (.BoolOp .Or (a::b::rest) pos) (yl ta tb):=by
 intro e s j H Q I h;refine BoolOp_or (Bh (m e s j H _ I h) λv q l=>?_);obtain⟨x,g,i,p,f⟩:=l;obtain⟨c,d,rfl,o,f⟩:=f;cases p;refine il ?_;cases c with
 |false=>exact n e q j g Q i (o rfl Q f)
 |true=>exact⟨.bl true,g,i,rfl,f⟩
def vh(t u:TT):TT:=λg H Q=>t g H λc e=>∃d:Bool,(c=true->∀f:Bool->Hp->Prop,f d e->u g e f)/\Q (c&&d) e
def yj(t u:TT):TT:=λg H Q=>t g H λc e=>∃d:Bool,(c=false->∀f:Bool->Hp->Prop,f d e->u g e f)/\Q (c||d) e
theorem Dm(m:PT X a tA)(n:PW X (.BoolOp .And (b::rest) pos) zw):PW X (.BoolOp .And (a::b::rest) pos) (vh tA zw):=by
 intro q e s j H Q I h;refine isTrue_and (Bh (m e s j H _ I h) λc p l=>?_);obtain⟨f,g,d,o,i⟩:=l;cases c with
 |true=>exact n q e p j f Q g (o rfl Q i)
 |false=>exact⟨f,g,i⟩
theorem D3(m:PT X a tA)(n:PW X (.BoolOp .Or (b::rest) pos) zw):PW X (.BoolOp .Or (a::b::rest) pos) (yj tA zw):=by
 intro q e s j H Q I h;refine isTrue_or (Bh (m e s j H _ I h) λc p l=>?_);obtain⟨f,g,d,o,i⟩:=l;cases c with
 |true=>exact⟨f,g,i⟩
 |false=>exact n q e p j f Q g (o rfl Q i)
theorem SP.mono(h:SP X e D f s')(n:∀g H,D.nx g H->j.nx g H)(o:∀v H,D.rt v H->j.rt v H)(l:∀g H,D.bk g H->j.bk g H)(m:∀g H,D.ct g H->j.ct g H):SP X e j f s':=by
 cases f with
 |next=>obtain⟨d,i,I,q⟩:=h;exact⟨d,i,I,n _ _ q⟩
 |brk=>obtain⟨d,i,I,q⟩:=h;exact⟨d,i,I,l _ _ q⟩
 |cont=>obtain⟨d,i,I,q⟩:=h;exact⟨d,i,I,m _ _ q⟩
 |ret v=>obtain⟨x,d,i,I,r,q⟩:=h;exact⟨x,d,i,I,r,o _ _ q⟩
def ye(c:TT)(t u:TS):TS:=λD e H=>c e H λb g=>∃N:St->Hp->Prop,(b=true->t {D with nx:=N} e g)/\(b=false->u {D with nx:=N} e g)/\∀d f,N d f->D.nx d f
theorem De{c:Expr}{a b:List Stmt}{n:TT}(v:PT X c n)(p:Mo X a t)(r:Mo X b u):PS X (.If c a b pos) (ye n t u):=by
 intro e s g H D I h;refine wpAny_If (Bh (v e s g H _ I h) λd m o=>?_);obtain⟨i,j,N,w,x,l⟩:=o;cases d with
 |true=>exact Bh (p e m g i _ j (w rfl)) λf y q=>q.mono l (λ_ _ z=>z) (λ_ _ z=>z) λ_ _ z=>z
 |false=>exact Bh (r e m g i _ j (x rfl)) λf y q=>q.mono l (λ_ _ z=>z) (λ_ _ z=>z) λ_ _ z=>z
end
section
variable {P:q7}{w:ro}{A:rd}{E:pP}{s:q4}
theorem Sr{k:Nat}(c:s.heap.IsTupleIter I T k)(g:s.heap.IsTuple T vs)(h:vs[k]?=some v)
  (q:∀h',h'.IsTupleIter I T (k+1)->Heap.SameBut I s.heap h'->Q v {s with heap:=h'}):wpAny (model P w) A (Builtin.SmallTypes.nextOf (.ref I)) Q E s:=by
 obtain⟨j,b,e,a⟩:=id c;obtain⟨l,f,_,i,d⟩:=g;unfold Builtin.SmallTypes.nextOf;refine aN (oe (name:=Str.ofString "__next__") c.typeIs F.slot_tuple_iterator_next (g0 F.slot_tuple_iterator_next c.typeIs F.entry_tuple_iterator_next ?_ (F.args_tuple_iterator_next_1 _)));show wpAny _ _ (field (.ref I) 0>>=_) _ _ s;refine aN (wpAny_field b a (x:=.ref T) rfl ?_);show wpAny _ _ (if(Value.ref T==Value.none)=true then _ else _) _ _ s;rw[if_neg (show¬((Value.ref T==Value.none)=true)from Bool.false_ne_true)];show wpAny _ _ (field (.ref I) 1>>=_) _ _ s;refine aN (wpAny_field b a (x:=.int k 0) rfl ?_);show wpAny _ _ (seqItems? (.ref T)>>=_) _ _ s;refine aN (fO f d ?_);simp only[Int.toNat_natCast,h];refine aN (wpAny_setField b a (by simp) (a6 ⟨v,rfl,a6 (q _ ⟨_,gK _ b (Obj.isFreed_of_fields (Obj.data_mapFields a _)),(Obj.cls_mapFields ..).trans e,?_⟩ (g6 ..))⟩));rw[Obj.data_mapFields a];simp[rawInt]
theorem Wo{k:Nat}(d:A.handled=none)(c:s.heap.IsTupleIter I T k)(h:s.heap.IsTuple T vs)(i:vs[k]?=none)
  (q:∀h' e,Heap.ExtBut I s.heap h'->(∃o,h'.get? e=some o/\o.cls=.type "StopIteration")->E (.ref e) {s with heap:=h'}):wpAny (model P w) A (Builtin.SmallTypes.nextOf (.ref I)) Q E s:=by
 obtain⟨m,b,j,a⟩:=id c;obtain⟨n,g,_,l,f⟩:=h;unfold Builtin.SmallTypes.nextOf;refine aN (oe (name:=Str.ofString "__next__") c.typeIs F.slot_tuple_iterator_next (g0 F.slot_tuple_iterator_next c.typeIs F.entry_tuple_iterator_next ?_ (F.args_tuple_iterator_next_1 _)));show wpAny _ _ (field (.ref I) 0>>=_) _ _ s;refine aN (wpAny_field b a (x:=.ref T) rfl ?_);show wpAny _ _ (if(Value.ref T==Value.none)=true then _ else _) _ _ s;rw[if_neg (show¬((Value.ref T==Value.none)=true)from Bool.false_ne_true)];show wpAny _ _ (field (.ref I) 1>>=_) _ _ s;refine aN (wpAny_field b a (x:=.int k 0) rfl ?_);show wpAny _ _ (seqItems? (.ref T)>>=_) _ _ s;refine aN (fO g f ?_);simp only[Int.toNat_natCast,i];refine aN (m8 (aN (wpAny_setField b a (by simp) ?_)));show wpAny _ _ (newExc (.type "StopIteration") []>>=λ_=>_) _ _ _;refine aN ?_;simp only[newExc,newTuple];refine aN (gR (aN (m:=firstArgMember _ _) (wpAny_of_eq (a:=Value.none) (by first|rfl|(simp only[firstArgMember];rfl)) (gR ?_ (by size_fits)))) (by size_fits));simp only[raiseNew];refine aN (wpAny_handled ?_)
 first|rw[show A.in1.handled=none from d]|rw[d]
 refine aN (a6 (wpAny_throw (q _ _ (((g6 ..).extBut.push _).push _) ⟨_,c4 _ rfl,rfl⟩)))
end
theorem ju(g:A.handled=none)(I T:Addr)(f:T≠I)(vs:Array q5):Draws P w A I [I,T] vs.size (λi v=>vs[i]?=some v) (λi h=>h.IsTupleIter I T i/\h.IsTuple T vs)where
 live:=λ_ _ a=>let⟨o,e,_⟩:=a.1;⟨o,e⟩
 frame:=λ_ _ _ a k=>⟨a.1.at λo e=>k I (by simp) o e,let⟨o,e,r⟩:=a.2;⟨o,k T (by simp) o e,r⟩⟩
 item:=λi s Q E b a q=>Sr a.1 a.2 (v:=vs[i]) (by simp[b]) λd j c=>q _ d s.toks (by simp[b]) ⟨j,a.2.extBut c.extBut f⟩ c
 done:=λs Q E a q=>Wo g a.1 a.2 (by simp) q
def D9:Bool->Heap->Addr->Addr->Nat->Prop
 |true,h,I,T,i=>h.IsTupleIter I T i
 |false,h,I,T,i=>h.IsListIter I T i
def Du:Bool->Heap->Addr->Array q5->Prop
 |true,h,T,a=>h.IsTuple T a
 |false,h,T,a=>h.IsList T a
def We:Bool->String
 |true=>"tuple_iterator"
 |false=>"list_iterator"
def Sq:Bool->W.Frag->Hp->Addr->List V->Prop
 |true,K,H,a,b=>Cp K H a b
 |false,K,H,a,b=>Ao K H a b
theorem Fp(c:A.handled=none)(b:Bool)(I T:Addr)(a:T≠I)(vs:Array q5):Draws P w A I [I,T] vs.size (λi v=>vs[i]?=some v) (λi h=>D9 b h I T i/\Du b h T vs):=by
 cases b
 ·exact Draws.list c I T a vs
 ·exact ju c I T a vs
theorem D9.data(x:D9 b h I T i):∃o,h.get? I=some o/\o.cls=.type (We b)/\o.data=.fields #[.ref T,.int i 0]:=by cases b<;>exact x
theorem D9.of(x:∃o,h.get? I=some o/\o.cls=.type (We b)/\o.data=.fields #[.ref T,.int i 0]):D9 b h I T i:=by cases b<;>exact x
theorem D9.at'(x:D9 b h I T i)(k:∀o,h.get? I=some o->h'.get? I=some o):D9 b h' I T i:=by
 obtain⟨o,e,r⟩:=x.data;exact .of ⟨o,k _ e,r⟩
theorem Du.at'(x:Du b h T vs)(k:∀o,h.get? T=some o->h'.get? T=some o):Du b h' T vs:=by
 cases b<;>exact let⟨o,e,r⟩:=x;⟨o,k _ e,r⟩
theorem Du.lt(x:Du b h T vs):T<h.objs.size:=by
 cases b<;>exact let⟨_,e,_⟩:=x;dI e
theorem D9.lt(x:D9 b h I T i):I<h.objs.size:=by
 obtain⟨_,e,_⟩:=x.data;exact dI e
theorem Yl(x:Du b s.heap T vs)
  (q:Q (.ref s.heap.objs.size) {s with heap:=s.heap.push {cls:=.type (We b),data:=.fields #[.ref T,.int 0 0] } }):wpAny (model P w) A (pyIter (.ref T)) Q E s:=by
 cases b
 ·exact wpAny_pyIter_list x q
 ·exact wpAny_pyIter_tuple x q
section
variable {X:Cx}{pins:List (Addr×Obj)}{σ:St}{H:Hp}{s:q4}
theorem Ak.sq(I:Ak X pins σ H s)(q:Sq b X.K H a xs):∃us,As xs us/\Du b s.heap a us.toArray:=by
 cases b
 ·obtain⟨us,r,p,_⟩:=I.list q;exact⟨us,r,p.isList⟩
 ·obtain⟨us,r,p,_⟩:=I.tuple q;exact⟨us,r,p⟩
theorem Ak.wB(I:Ak X pins σ H s)(q:Sq b X.K H a xs)(r:Sq b X.K H a ys):xs=ys:=by
 cases b
 ·exact I.pS q r
 ·exact I.nW q r
end
open AutoSeq1 (wpAny_loadPart')
structure qt(z TI TO i1 i2 l1 l2:Nat):Prop where
 a:TI≠z
 b:TO≠z
 c:i1≠z
 d:i2≠z
 e:TI≠TO
 f:TI≠i1
 g:TI≠i2
 h:TO≠i1
 i:TO≠i2
 j:i1≠i2
 k1:l1≠z/\l1≠TO/\l1≠i1/\l1≠i2
 k2:l2≠z/\l2≠TO/\l2≠i1/\l2≠i2
section
variable {P:q7}{w:ro}{A:rd}{E:pP}{s:q4}
theorem X9{z TI TO f g j l:Addr}{b1 b2:Bool}{k:Nat}{xs ys:Array q5}{x y a b:q5}{Q:pP}(Y:A.handled=none)(D:qt z TI TO f g j l)
  (hz:IsZip s.heap z TI TO .none)(pY:IsPair s.heap TI (.ref f) (.ref g))(qX:IsPair s.heap TO a b)(h1:D9 b1 s.heap f j k)(h2:D9 b2 s.heap g l k)(q1:Du b1 s.heap j xs)(q2:Du b2 s.heap l ys)(U:xs[k]?=some x)(X:ys[k]?=some y)
  (hQ:∀h' tk,IsZip h' z TI TO (rawInt s.heap.objs.size)->IsPair h' TO x y->D9 b1 h' f j (k+1)->D9 b2 h' g l (k+1)->IsPair h' s.heap.objs.size x y->
   (∀c o,c≠z->c≠TO->c≠f->c≠g->s.heap.get? c=some o->h'.get? c=some o)->Q (.ref s.heap.objs.size) {s with heap:=h',toks:=tk}):
  wpAny (model P w) A (Builtin.«zip.__next__» ⟨[.ref z],[]⟩) (λM s'=>∃v,M=.done (.ret v)/\Q v s') E s:=by
 have MZ:k<xs.size:=(ll.mp U).1;have ZU:k<ys.size:=(ll.mp X).1;show wpAny _ _ (field (.ref z) 2>>=λ_=>_) _ _ _;refine aN (wpAny_field hz rfl (x:=.bool false) rfl ?_);show wpAny _ _ (field (.ref z) 3>>=λ_=>_) _ _ _;refine aN (wpAny_field hz rfl (x:=.ref TI) rfl (aN (fO pY rfl ?_)));show wpAny _ _ (Builtin.SmallTypes.ownedTupleIsFree (.ref z)>>=λ_=>_) _ _ _;refine aN ?_;unfold Builtin.SmallTypes.ownedTupleIsFree;refine aN (wpAny_field hz rfl (x:=.none) rfl (a6 ?_));simp only[if_true];refine aN (m8 (aN (wpAny_field hz rfl (x:=.ref TO) rfl (aN (wpAny_setField_rec hz (by simp) λm1 S i=>?_)))))
 replace S:IsZip m1 z TI TO .ellipsis:=S;refine aN ?_;simp only[List.zipIdx_cons,List.zipIdx_nil,List.forIn_cons,List.forIn_nil];refine aN (aN (wpAny_onRaise ?_));show wpAny _ _ (Builtin.SmallTypes.nextOf (.ref f)>>=λ_=>_) _ _ _;refine aN ((Fp Y b1 f j D.k1.2.2.1 xs).item k _ _ _ MZ ⟨h1.at' λo e=>i.extBut _ _ D.c e,q1.at' λo e=>i.extBut _ _ D.k1.1 e⟩ λp m2 FV ZC ⟨g1,_⟩ m=>a6 ?_)
 have K:p=x:=by
  have z:=ZC.symm.trans U;exact eo z
 subst K;have w2:IsPair m2 TO a b:=m.extBut _ _ D.h (i.extBut _ _ D.b qX);refine aN (fO w2 rfl (aN (wpAny_updateSeq_pair w2 λm3 R n=>?_)))
 replace R:IsPair m3 TO p b:=R;refine aN (wpAny_letGo (a6 (aN (aN (wpAny_onRaise ?_)))));show wpAny _ _ (Builtin.SmallTypes.nextOf (.ref g)>>=λ_=>_) _ _ _;refine aN ((Fp Y b2 g l D.k2.2.2.2 ys).item k _ _ _ ZU ⟨h2.at' λo e=>n.extBut _ _ D.i.symm (m.extBut _ _ D.j.symm (i.extBut _ _ D.d e)),q2.at' λo e=>n.extBut _ _ D.k2.2.1 (m.extBut _ _ D.k2.2.2.1 (i.extBut _ _ D.k2.1 e))⟩ λG m4 tk4 NA ⟨g2,_⟩ q=>a6 ?_)
 have L:G=y:=by
  have z:=NA.symm.trans X;exact eo z
 subst L;have w4:IsPair m4 TO p b:=q.extBut _ _ D.i R;refine aN (fO w4 rfl (aN (wpAny_updateSeq_pair w4 λd F r=>?_)))
 replace F:IsPair d TO p G:=F;refine aN (wpAny_letGo (a6 (a6 (aN (fO F rfl (aN (wpAny_newTuple ?_)))))));have sz:d.objs.size=s.heap.objs.size:=by rw[r.1,q.1,n.1,m.1,i.1]
 have z5:IsZip d z TI TO .ellipsis:=r.extBut _ _ D.b.symm (q.extBut _ _ D.d.symm (n.extBut _ _ D.b.symm (m.extBut _ _ D.c.symm S)));have kp:∀c o,c≠z->c≠TO->c≠f->c≠g->s.heap.get? c=some o->d.get? c=some o:=λc o h B I J e=>r.extBut _ _ B (q.extBut _ _ J (n.extBut _ _ B (m.extBut _ _ I (i.extBut _ _ h e))));have N:D9 b1 d f j (k+1):=g1.at' λo e=>r.extBut _ _ D.h.symm (q.extBut _ _ D.j (n.extBut _ _ D.h.symm e));have O:D9 b2 d g l (k+1):=g2.at' λo e=>r.extBut _ _ D.i.symm e;have u:z<d.objs.size:=dI z5;show wpAny _ _ (Builtin.SmallTypes.ownedTupleHandOut (.ref z) (.ref d.objs.size)>>=λ_=>_) _ _ _;refine aN ?_;unfold Builtin.SmallTypes.ownedTupleHandOut;have z6:IsZip (d.push {cls:=.type "tuple",data:=.seq #[p,G] }) z TI TO .ellipsis:=bD _ z5;refine aN (wpAny_setField_rec z6 (by simp) λm7 T t7=>?_)
 replace T:IsZip m7 z TI TO (rawInt d.objs.size):=T;refine wpAny_setField_rec T (by simp) λC H t8=>?_
 replace H:IsZip C z TI TO (rawInt d.objs.size):=H;have up:∀c o,c≠z->d.get? c=some o->C.get? c=some o:=λc o h e=>t8.extBut _ _ h (t7.extBut _ _ h (bD _ e));have Z:IsPair C d.objs.size p G:=t8.extBut _ _ (Nat.ne_of_gt u) (t7.extBut _ _ (Nat.ne_of_gt u) (c4 _ rfl));rw[sz]at H Z;refine a6 ⟨_,rfl,?_⟩;show Q (.ref d.objs.size) _;rw[sz];exact hQ C _ H (up _ _ D.b F) (N.at' λo e=>up _ o D.c e) (O.at' λo e=>up _ o D.d e) Z λc o h B I J e=>up c o h (kp c o h B I J e)
theorem dh{z TI TO d l h p:Addr}{b1 b2:Bool}{k:Nat}{xs ys:Array q5}{a b:q5}{Q:Fin->q4->Prop}(C:A.handled=none)(D:qt z TI TO d l h p)
  (hz:IsZip s.heap z TI TO .none)(Z:IsPair s.heap TI (.ref d) (.ref l))(qX:IsPair s.heap TO a b)(h1:D9 b1 s.heap d h k)(U:D9 b2 s.heap l p k)(q1:Du b1 s.heap h xs)(q2:Du b2 s.heap p ys)(O:k=xs.size\/(k<xs.size/\k=ys.size))
  (G:∀h' tk e,(∀c o,c≠z->c≠TO->c≠d->c≠l->s.heap.get? c=some o->h'.get? c=some o)->(∃o,h'.get? e=some o/\o.cls=.type "StopIteration")->E (.ref e) {s with heap:=h',toks:=tk}):
  wpAny (model P w) A (Builtin.«zip.__next__» ⟨[.ref z],[]⟩) Q E s:=by
 show wpAny _ _ (field (.ref z) 2>>=λ_=>_) _ _ _;refine aN (wpAny_field hz rfl (x:=.bool false) rfl ?_);show wpAny _ _ (field (.ref z) 3>>=λ_=>_) _ _ _;refine aN (wpAny_field hz rfl (x:=.ref TI) rfl (aN (fO Z rfl ?_)));show wpAny _ _ (Builtin.SmallTypes.ownedTupleIsFree (.ref z)>>=λ_=>_) _ _ _;refine aN ?_;unfold Builtin.SmallTypes.ownedTupleIsFree;refine aN (wpAny_field hz rfl (x:=.none) rfl (a6 ?_));simp only[if_true];refine aN (m8 (aN (wpAny_field hz rfl (x:=.ref TO) rfl (aN (wpAny_setField_rec hz (by simp) λm1 q i=>?_)))))
 replace q:IsZip m1 z TI TO .ellipsis:=q;refine aN ?_;simp only[List.zipIdx_cons,List.zipIdx_nil,List.forIn_cons,List.forIn_nil];refine aN (aN (wpAny_onRaise ?_));show wpAny _ _ (Builtin.SmallTypes.nextOf (.ref d)>>=λ_=>_) _ _ _;have v:D9 b1 m1 d h k:=h1.at' λo e=>i.extBut _ _ D.c e;have I:Du b1 m1 h xs:=q1.at' λo e=>i.extBut _ _ D.k1.1 e;rcases O with rfl|⟨R,rfl⟩
 ·refine aN ((Fp C b1 d h D.k1.2.2.1 xs).done _ _ _ ⟨v,I⟩ λB e f y=>?_);obtain⟨F,g,m⟩:=y;have M:IsZip B z TI TO .ellipsis:=f _ _ D.c.symm q;have r:e≠z:=λx=>by subst x;rw[M]at g;cases g;simp at m
  exact wpAny_setField_rec M (by simp) λH _ j=>G H _ e (λc o n _ u _ x=>j.extBut _ _ n (f _ _ u (i.extBut _ _ n x))) ⟨F,j.extBut _ _ r g,m⟩
 ·refine aN ((Fp C b1 d h D.k1.2.2.1 xs).item _ _ _ _ R ⟨v,I⟩ λx' B FV ZC ⟨v,_⟩ f=>a6 ?_);have L:IsPair B TO a b:=f.extBut _ _ D.h (i.extBut _ _ D.b qX);refine aN (fO L rfl (aN (wpAny_updateSeq_pair L λH w3 j=>?_)));refine aN (wpAny_letGo (a6 (aN (aN (wpAny_onRaise ?_)))));show wpAny _ _ (Builtin.SmallTypes.nextOf (.ref l)>>=λ_=>_) _ _ _;refine aN ((Fp C b2 l p D.k2.2.2.2 ys).done _ _ _ ⟨U.at' λo e=>j.extBut _ _ D.i.symm (f.extBut _ _ D.j.symm (i.extBut _ _ D.d e)),q2.at' λo e=>j.extBut _ _ D.k2.2.1 (f.extBut _ _ D.k2.2.2.1 (i.extBut _ _ D.k2.1 e))⟩ λX e J y=>?_);obtain⟨F,g,m⟩:=y;have N:IsZip X z TI TO .ellipsis:=J _ _ D.d.symm (j.extBut _ _ D.b.symm (f.extBut _ _ D.c.symm q));have r:e≠z:=λx=>by subst x;rw[N]at g;cases g;simp at m
  exact wpAny_setField_rec N (by simp) λY _ K=>G Y _ e (λc o n S u T x=>K.extBut _ _ n (J _ _ T (j.extBut _ _ S (f.extBut _ _ u (i.extBut _ _ n x))))) ⟨F,K.extBut _ _ r g,m⟩
abbrev wu(b1:Bool)(h:Heap)(a:Addr):Heap:=h.push {cls:=.type (We b1),data:=.fields #[.ref a,.int 0 0] }
abbrev ww(b1 b2:Bool)(h:Heap)(a b:Addr):Heap:=(wu b1 h a).push {cls:=.type (We b2),data:=.fields #[.ref b,.int 0 0] }
abbrev wx(b1 b2:Bool)(h:Heap)(a b:Addr):Heap:=(ww b1 b2 h a b).push {cls:=.type "tuple",data:=.seq #[.ref h.objs.size,.ref (wu b1 h a).objs.size] }
abbrev wy(b1 b2:Bool)(h:Heap)(a b:Addr):Heap:=(wx b1 b2 h a b).push {cls:=.type "tuple",data:=.seq #[.none,.none] }
abbrev r6(b1 b2:Bool)(h:Heap)(a b:Addr):Heap:=(wy b1 b2 h a b).push {cls:=.type "zip",data:=.fields #[.none,.bool false,.bool false,.ref (ww b1 b2 h a b).objs.size,.ref (wx b1 b2 h a b).objs.size] }
theorem Tu(b1 b2:Bool)(a b:Addr)(xs ys:Array q5):Meets (Builtin.«zip.__new__» ⟨[.type "zip",.ref a,.ref b],[]⟩) (λ_ R s=>Du b1 s.heap a xs/\Du b2 s.heap b ys/\R (.ok (.ret (.ref (wy b1 b2 s.heap a b).objs.size))) {s with heap:=r6 b1 b2 s.heap a b}):=
 .of_wp λi w A R s h=>by
  obtain⟨c,g,d,j,f⟩:=s;obtain⟨l,m,h⟩:=h;have q:=sub_zip;have n:Du b1 (Shared.heap ⟨c,g,d,j,f⟩) a xs:=l;have p:Du b2 (Shared.heap ⟨c.push {cls:=.type (We b1),data:=.fields #[.ref a,.int 0 0] },g,d,j,f⟩) b ys:=Du.at' m λo e=>bD _ e
  wp_walk using Yl n,Yl p
  exact⟨_,rfl,h⟩
theorem X8(q:Du b1 s.heap a xs)(r:Du b2 s.heap b ys)
  (h:∀h',IsZip h' (s.heap.objs.size+4) (s.heap.objs.size+2) (s.heap.objs.size+3) .none->IsPair h' (s.heap.objs.size+2) (.ref s.heap.objs.size) (.ref (s.heap.objs.size+1))->
   IsPair h' (s.heap.objs.size+3) .none .none->D9 b1 h' s.heap.objs.size a 0->D9 b2 h' (s.heap.objs.size+1) b 0->(∀c o,s.heap.get? c=some o->h'.get? c=some o)->Q (.ref (s.heap.objs.size+4)) {s with heap:=h'}):
  wpAny (model P w) A (call (.type "zip") [.ref a,.ref b]) Q E s:=by
 refine callType_new F.called_zip (by decide) (F.typeCall_zip_2 _ _) (F.newCall_zip_2 _ _) (λi=>F.args_object_init_3 i _ _) F.entry_zip_new (Tu b1 b2 a b xs ys) ⟨q,r,?_⟩;have e:(wu b1 s.heap a).objs.size=s.heap.objs.size+1:=Heap.size_push ..;have f:(ww b1 b2 s.heap a b).objs.size=s.heap.objs.size+2:=by rw[Heap.size_push,e]
 have g:(wx b1 b2 s.heap a b).objs.size=s.heap.objs.size+3:=by rw[Heap.size_push,f]
 have n:(wy b1 b2 s.heap a b).objs.size=s.heap.objs.size+4:=by rw[Heap.size_push,g]
 have d:(r6 b1 b2 s.heap a b).get? (wy b1 b2 s.heap a b).objs.size=some _:=c4 _ rfl;have m:(r6 b1 b2 s.heap a b).get? (wx b1 b2 s.heap a b).objs.size=some _:=bD _ (c4 _ rfl);have l:(r6 b1 b2 s.heap a b).get? (ww b1 b2 s.heap a b).objs.size=some _:=bD _ (bD _ (c4 _ rfl));have j:(r6 b1 b2 s.heap a b).get? (wu b1 s.heap a).objs.size=some _:=bD _ (bD _ (bD _ (c4 _ rfl)));have p:(r6 b1 b2 s.heap a b).get? s.heap.objs.size=some _:=bD _ (bD _ (bD _ (bD _ (c4 _ rfl))));show _/\_;rw[f,g,n]at d;rw[e,f]at l;rw[g]at m;rw[e]at j;rw[n];exact⟨⟨_,d,rfl⟩,h _ d l m (.of ⟨_,p,rfl,rfl⟩) (.of ⟨_,j,rfl,rfl⟩) λc o x=>bD _ (bD _ (bD _ (bD _ (bD _ x))))⟩
end
open AutoSeq1 (wpAny_loadPart')
section
variable {P:q7}{w:ro}{A:rd}{E:pP}{s:q4}
theorem Tw{z TI TO d e f g:Addr}{b1 b2:Bool}{k:Nat}{xs ys:Array q5}{x y a b:q5}{Q:Option q5->q4->Prop}(B:A.in1.handled=none)(D:qt z TI TO d e f g)
  (hz:IsZip s.heap z TI TO .none)(C:IsPair s.heap TI (.ref d) (.ref e))(I:IsPair s.heap TO a b)(h1:D9 b1 s.heap d f k)(q:D9 b2 s.heap e g k)(G:Du b1 s.heap f xs)(H:Du b2 s.heap g ys)(u:xs[k]?=some x)(v:ys[k]?=some y)
  (r:∀h' h,IsZip h' z TI TO (rawInt s.heap.objs.size)->IsPair h' TO x y->D9 b1 h' d f (k+1)->D9 b2 h' e g (k+1)->IsPair h' s.heap.objs.size x y->
   (∀c o,c≠z->c≠TO->c≠d->c≠e->s.heap.get? c=some o->h'.get? c=some o)->Q (some (.ref s.heap.objs.size)) {s with heap:=h',toks:=h}):
  wpAny (model P w) A (pyNext (.ref z)) Q E s:=by
 have ty:s.TypeIs (.ref z) "zip":=⟨_,hz,rfl⟩;unfold pyNext
 exact aN (ov (oe (name:=Str.ofString "__next__") ty F.slot_zip_next (g0 F.slot_zip_next ty F.entry_zip_next
   (X9 B D hz C I h1 q G H u v λh' h i j l m n p=>a6 (r h' h i j l m n p)) (F.args_zip_next_1 _))))
theorem Tv{z TI TO d f g h:Addr}{b1 b2:Bool}{k:Nat}{xs ys:Array q5}{a b:q5}{Q:Option q5->q4->Prop}(r:A.in1.handled=none)(D:qt z TI TO d f g h)
  (hz:IsZip s.heap z TI TO .none)(u:IsPair s.heap TI (.ref d) (.ref f))(y:IsPair s.heap TO a b)(h1:D9 b1 s.heap d g k)(l:D9 b2 s.heap f h k)(v:Du b1 s.heap g xs)(x:Du b2 s.heap h ys)(j:k=xs.size\/(k<xs.size/\k=ys.size))
  (m:∀h' i,(∀c o,c≠z->c≠TO->c≠d->c≠f->s.heap.get? c=some o->h'.get? c=some o)->Q none {s with heap:=h',toks:=i}):wpAny (model P w) A (pyNext (.ref z)) Q E s:=by
 have ty:s.TypeIs (.ref z) "zip":=⟨_,hz,rfl⟩;unfold pyNext
 refine aN (ov (oe (name:=Str.ofString "__next__") ty F.slot_zip_next (g0 F.slot_zip_next ty F.entry_zip_next
   (dh r D hz u y h1 l v x j λh' i e k p=>?_) (F.args_zip_next_1 _))))
 obtain⟨o,q,n⟩:=p;exact aN (mZ (T:="StopIteration") (b:=true) ⟨o,q,n⟩ isSubtype_stop (a6 (m _ _ k)))
end
def Vd(K:W.Frag)(b1 b2:Bool)(c d:Addr):It:=
 ⟨λi H=>∃a b x y,Sq b1 K H c a/\Sq b2 K H d b/\a[i]?=some x/\b[i]?=some y,
  λi H v e=>∃T x y,v=.ref T/\H T=none/\e=upd H T (.tup [x,y])/\(∀a,Sq b1 K H c a->a[i]?=some x)/\∀b,Sq b2 K H d b->b[i]?=some y,
  λi H=>∃a b,Sq b1 K H c a/\Sq b2 K H d b/\(a.length=i\/(i<a.length/\b.length=i))⟩
theorem X4{P:q7}{w:ro}{K:W.Frag}{C:List Expr}{kk:Nat}{pos:Pos}{b1 b2:Bool}{z TI TO p r Z l2:Addr}(D:qt z TI TO p r Z l2):
  Q9 P w K (.Tuple C kk pos) (Vd K b1 b2 Z l2) [z,TI,TO,p,r] z (λi h=>IsZip h z TI TO .none/\IsPair h TI (.ref p) (.ref r)/\(∃a b,IsPair h TO a b)/\D9 b1 h p Z i/\D9 b2 h r l2 i)where
 mem:=dm
 obj:=λi h ⟨g,j,⟨a,b,n⟩,l,m⟩ c d=>by
  obtain⟨o1,e1,B,d1⟩:=l.data;obtain⟨o2,e2,c2,d2⟩:=m.data;simp only[List.mem_cons,List.not_mem_nil,or_false]at d;rcases d with rfl|rfl|rfl|rfl|rfl
  ·exact⟨_,g,λv q=>by cases q⟩
  ·exact⟨_,j,λv q=>by cases q⟩
  ·exact⟨_,n,λv q=>by cases q⟩
  ·exact⟨_,e1,λv q=>by rw[d1]at q;cases q⟩
  ·exact⟨_,e2,λv q=>by rw[d2]at q;cases q⟩
 keep:=λi h h' ⟨g,j,⟨a,b,n⟩,l,m⟩ f=>
  ⟨f z (by simp) _ g,f TI (by simp) _ j,⟨a,b,f TO (by simp) _ n⟩,l.at' λo e=>f p (by simp) o e,m.at' λo e=>f r (by simp) o e⟩
 item:=by
  intro X U Y T d i F s σ H E I G ⟨g,j,⟨a,b,n⟩,l,m⟩ ⟨xs,ys,x,y,J,L,ex,ey⟩;subst U Y T;obtain⟨NC,r1,p1⟩:=I.sq J;obtain⟨iT,r2,p2⟩:=I.sq L;obtain⟨u1,R,ND⟩:=r1.get ex;obtain⟨u2,S,NF⟩:=r2.get ey;refine Tw (I.ok.hd d) D g j n l m p1 p2 (by simpa using R) (by simpa using S) λh' tk a1 a2 a3 a4 a5 f=>⟨_,rfl,?_⟩;refine wpAny_letOwnedTupleGo_zip a1 λZW ZX u=>?_;have NG:z<s.heap.objs.size:=dI g;have NH:IsPair ZW s.heap.objs.size u1 u2:=u.extBut _ _ (Nat.ne_of_gt NG) a5;refine⟨.ref s.heap.objs.size,upd H s.heap.objs.size (.tup [x,y]),I.pW (t':=tk) (ch:=[z,TI,TO,p,r]) G (λc o d e=>?_) (dr _) ?_,rfl,⟨_,x,y,rfl,I.fresh,rfl,λxs' q=>?_,λzz q=>?_⟩,⟨ZX,?_,⟨u1,u2,?_⟩,?_,?_⟩,λc d=>?_⟩
  ·simp only[List.mem_cons,List.not_mem_nil,or_false,not_or]at d;obtain⟨B,c2,M,N,O⟩:=d;exact u.extBut _ _ B (f c o B M N O e)
  ·exact⟨⟨en (by decide:2<=1000) (Vb (dr _)),_,NH,rfl⟩,[u1,u2],.cons ND (.cons NF .nil),⟨_,NH,rfl,0,rfl⟩⟩
  ·rw[I.wB q J];exact ex
  ·rw[I.wB q L];exact ey
  ·exact u.extBut _ _ D.a (f TI _ D.a D.e D.f D.g j)
  ·exact u.extBut _ _ D.b a2
  ·exact a3.at' λo e=>u.extBut _ _ D.c e
  ·exact a4.at' λo e=>u.extBut _ _ D.d e
  ·rw[A9]
   ·exact(G c d).1
   ·have lt:c<s.heap.objs.size:=by
     simp only[List.mem_cons,List.not_mem_nil,or_false]at d;rcases d with rfl|rfl|rfl|rfl|rfl
     ·exact NG
     ·exact dI j
     ·exact dI n
     ·exact l.lt
     ·exact m.lt
    exact eI lt
 done:=by
  intro X U Y T d i F s σ H E I G ⟨g,j,⟨a,b,n⟩,l,m⟩ ⟨xs,ys,J,L,he⟩;subst U Y T;obtain⟨NC,r1,p1⟩:=I.sq J;obtain⟨iT,r2,p2⟩:=I.sq L;have n1:=r1.length;have n2:=r2.length;refine Tv (I.ok.hd d) D g j n l m p1 p2 ?_ λh' tk f=>⟨rfl,I.pX (t':=tk) (ch:=[z,TI,TO,p,r]) G λc o d e=>?_⟩
  ·simp only[List.size_toArray];omega
  ·simp only[List.mem_cons,List.not_mem_nil,or_false,not_or]at d;obtain⟨B,c2,M,N,O⟩:=d;exact f c o B M N O e
 self:=λA i s Q E ⟨g,_⟩ hQ=>wpAny_pyIter_zip g hQ
theorem jy(h1:a<n)(c:b<n):qt (n+4) (n+2) (n+3) n (n+1) a b:=
 ⟨by omega,by omega,by omega,by omega,by omega,by omega,by omega,by omega,by omega,by omega,⟨by omega,by omega,by omega,by omega⟩,⟨by omega,by omega,by omega,by omega⟩⟩
section
variable {X:Cx}
def sy(K:W.Frag)(f:TA):TI:=λj H R=>f j H λg c=>∃(d e:Bool) (a b:Addr),g=[.ref a,.ref b]/\(∃h,Sq d K c a h)/\(∃i,Sq e K c b i)/\R (Vd K d e a b) c
theorem Ur{i:List Expr}{Q:Nat}{Z:Pos}{a b:Expr}{w:TA}{p pos:Pos}(K:Gl X "zip")(M:X.mg "zip"=none)(J:PA X [a,b] w)(N:starEach [a,b] X.env=[(false,eval a X.env),(false,eval b X.env)]:=by rfl)(x:starEach [b] X.env=[(false,eval b X.env)]:=by rfl):
  PI X (.Tuple i Q Z) (.Call (.Name "zip" p) [a,b] [] pos) (sy X.K w):=by
 intro f s y H R I h;refine Call_ (Eo I K M boot_zip (PyProof.Rows.callWith_type1 (Bh (J pos f s y H _ I h) λus d ⟨vs,n,g,T,S⟩=>?_) (by rw[N,x]) (by rw[x];rfl)));obtain⟨b1,b2,l1,l2,e,⟨xs,O⟩,⟨ys,P⟩,q⟩:=S;subst e;obtain⟨u1,u2,rfl,A,B⟩:=dc T;cases A;cases B;obtain⟨NC,U,u⟩:=g.sq O;obtain⟨iT,Y,v⟩:=g.sq P;have l:=u.lt;have m:=v.lt;refine X8 u v λG o C D E F L=>?_;refine wpAny_pyIter_zip o ?_;have z:Ak X f y n {d with heap:=G}:=g.kept (t':=d.toks) L;refine⟨d.heap.objs.size+4,[d.heap.objs.size+4,d.heap.objs.size+2,d.heap.objs.size+3,d.heap.objs.size,d.heap.objs.size+1],_,_,n,rfl,z,X4 (jy l m),⟨o,C,⟨_,_,D⟩,E,F⟩,λc r=>?_,q⟩
 have j:d.heap.objs.size<=c:=by
  simp only[List.mem_cons,List.not_mem_nil,or_false]at r;rcases r with rfl|rfl|rfl|rfl|rfl<;>omega
 exact g.rE j (g.aP.fresh j)
end
theorem Y8{K:PySem.W.Frag}{b1 b2:Bool}{c d:Addr}{xs ys:List V}{g:TG}{u:TS}{D:Hj}{a:St}{H:Hp}(r:xs.length=ys.length)(b:Nat->St->Hp->Prop)(C:b 0 a H)(G:∀i a H,i<=xs.length->b i a H->Sq b1 K H c xs/\Sq b2 K H d ys)
  (I:∀i x y T a H,xs[i]?=some x->ys[i]?=some y->b i a H->H T=none->g (.ref T) a (upd H T (.tup [x,y])) λj l=>u {D with nx:=b (i+1),ct:=b (i+1),bk:=D.nx} j l)(hd:∀a H,b xs.length a H->D.nx a H):
  ∃W:Nat->Nat->St->Hp->Prop,(∃m,W 0 m a H)/\∀i m a H,W i m a H->
   ((Vd K b1 b2 c d).stop i H/\D.nx a H)\/((Vd K b1 b2 c d).go i H/\∃N:St->Hp->Prop,(∀h f,N h f->∃s,s<m/\W (i+1) s h f)/\∀x f,(Vd K b1 b2 c d).BJ i H x f->g x a f λj l=>u {D with nx:=N,ct:=N,bk:=D.nx} j l):=by
 refine⟨λi m a H=>m=xs.length-i/\i<=xs.length/\b i a H,⟨xs.length,by simp,ml _,C⟩,?_⟩;rintro i m a H ⟨rfl,F,p⟩;obtain⟨n,o⟩:=G i a H F p;by_cases q:i<xs.length
 ·have w:i<ys.length:=by omega
  refine .inr ⟨⟨xs,ys,xs[i],ys[i],n,o,by simp[q],by simp[w]⟩,b (i+1),λh f J=>⟨xs.length-(i+1),by omega,rfl,q,J⟩,λv f y=>?_⟩;obtain⟨T,x,z,rfl,E,rfl,A,B⟩:=y;exact I i x z T a H (A xs n) (B ys o) p E
 ·have e:i=xs.length:=by omega
  subst e;exact .inl ⟨⟨xs,ys,n,o,.inl rfl⟩,hd a H p⟩
abbrev su(K:W.Frag):TG:=jz K 2 (Y9 (Hs 0) (Y9 (Hs 1) sr))
theorem Vp{K:W.Frag}{b1 b2:Bool}{c d:Addr}{xs ys:List V}{u:List Nat}{n:TT}{l:TE}{g:St}{D:Addr}{B:Hp}{Q:Hp->Prop}(C:ys.length=xs.length\/ys.length<xs.length)(h:Nat->List V->Hp->Prop)(I:h 0 [] (upd B D (.lst [])))
  (M:∀i a H,i<=ys.length->h i a H->Sq b1 K H c xs/\Sq b2 K H d ys)
  (N:∀i x y T a H,xs[i]?=some x->ys[i]?=some y->h i a H->H T=none->n (some x::some y::D2 u g) (upd H T (.tup [x,y])) λb o=>
   if b=true then l (some x::some y::D2 u g) o λv r=>r D=some (.lst a)/\a.length<sizeLine/\h (i+1) (a++[v]) (upd r D (.lst (a++[v])))else h (i+1) a o)
  (P:∀g H Q j,(∀b f,Q b f->j b f)->n g H Q->n g H j)(O:∀g H Q j,(∀v f,Q v f->j v f)->l g H Q->l g H j)
  (hd:∀a H,h ys.length a H->Q H):Dk 2 u (Vd K b1 b2 c d) (su K) n l g D B Q:=by
 refine⟨λi m a H=>m=ys.length-i/\i<=ys.length/\h i a H,⟨ys.length,by simp,ml _,I⟩,?_⟩;rintro i m a f ⟨rfl,L,p⟩;obtain⟨w,A⟩:=M i a f L p;by_cases s:i<ys.length
 ·have E:i<xs.length:=by omega
  refine .inr ⟨⟨xs,ys,xs[i],ys[i],w,A,by simp[E],by simp[s]⟩,λv X y=>?_⟩;obtain⟨T,x,z,rfl,J,rfl,F,G⟩:=y;refine⟨T,_,rfl,Cp.of A2,rfl,x,_,rfl,z,_,rfl,rfl,⟨[some x,some z],rfl,rfl⟩,?_⟩;refine P _ _ _ _ ?_ (N i x z T a f (F xs w) (G ys A) p J);intro b o q;cases b with
  |false=>exact⟨ys.length-(i+1),by omega,rfl,s,q⟩
  |true=>exact O _ _ _ _ (λv r ⟨R,S,U⟩=>⟨R,S,ys.length-(i+1),by omega,rfl,s,U⟩) q
 ·have e:i=ys.length:=by omega
  subst e;refine .inl ⟨⟨xs,ys,w,A,?_⟩,hd a f p⟩;omega
section
variable {X:Cx}{a b:Expr}{rest:List Expr}{ta tb:TE}{tA zw:TT}{pos:Pos}
def vk(ta tb:TE):TE:=λg H Q=>ta g H λx f=>∃(c:Bool) (N:Bool->Hp->Prop),x=.bl c/\(c=false->N false f)/\(c=true->tb g f λy e=>∃d:Bool,y=.bl d/\N d e)/\∀d e,N d e->Q (.bl d) e
theorem Pc(r:PE X a ta)(u:PE X (.BoolOp .And (b::rest) pos) tb):PE X (.BoolOp .And (a::b::rest) pos) (vk ta tb):=by
 intro f s o H Q I h;refine BoolOp_and (Bh (r f s o H _ I h) λv B q=>?_);obtain⟨x,i,l,z,g⟩:=q;obtain⟨c,N,rfl,w,g,m⟩:=g;cases z;refine il ?_;cases c with
 |true=>exact Bh (u f B o i _ l (g rfl)) λv C ⟨y,j,p,A,d,e,n⟩=>⟨y,j,p,A,by rw[e];exact m d j n⟩
 |false=>exact⟨.bl false,i,l,rfl,m _ _ (w rfl)⟩
def vi(t u:TT):TT:=λg H Q=>t g H λc e=>∃N:Bool->Hp->Prop,(c=false->N false e)/\(c=true->u g e N)/\∀d f,N d f->Q d f
def yk(t u:TT):TT:=λg H Q=>t g H λc e=>∃N:Bool->Hp->Prop,(c=true->N true e)/\(c=false->u g e N)/\∀d f,N d f->Q d f
theorem gq(p:PT X a tA)(q:PW X (.BoolOp .And (b::rest) pos) zw):PW X (.BoolOp .And (a::b::rest) pos) (vi tA zw):=by
 intro w e s l H Q I h;refine isTrue_and (Bh (p e s l H _ I h) λc v o=>?_);obtain⟨f,i,N,r,u,j⟩:=o;cases c with
 |true=>exact Bh (q w e v l f _ i (u rfl)) λd x ⟨g,m,n⟩=>⟨g,m,j d g n⟩
 |false=>exact⟨f,i,j _ _ (r rfl)⟩
theorem oh(p:PT X a tA)(q:PW X (.BoolOp .Or (b::rest) pos) zw):PW X (.BoolOp .Or (a::b::rest) pos) (yk tA zw):=by
 intro w e s l H Q I h;refine isTrue_or (Bh (p e s l H _ I h) λc v o=>?_);obtain⟨f,i,N,r,u,j⟩:=o;cases c with
 |true=>exact⟨f,i,j _ _ (r rfl)⟩
 |false=>exact Bh (q w e v l f _ i (u rfl)) λd x ⟨g,m,n⟩=>⟨g,m,j d g n⟩
end
section
variable {X:Cx}
def r8(i j:Int):Prop:=0<j/\intBits j<=8999
theorem Dp:G5 X (binaryOp .FloorDiv) (rI r8 λi j=>.int (i/j)):=qz λi j _ _ _ _ _ b q=>by
 have c:(0:Int)<j:=b.1;refine floordiv_int (by omega) (by rw[Int.fdiv_eq_ediv_of_nonneg i (by omega)];exact q) (.inl (PyProof.noPylong_of_log2 ?_));have a:=b.2;unfold PySem.Builtin.Int.intBits at a;rw[if_neg (by simp;omega)]at a;omega
theorem Ng(h:X.calm=true):D7 X (.builtin "sum") (λxs H Q=>∃(p:Addr) (ns:qQ),xs=[.ref p]/\Ao X.K H p (ns.map V.int)/\Q (.int ns.sum) H):=by
 intro e s B H A z Q I r q;obtain⟨p,ns,rfl,j,q⟩:=q;obtain⟨u,rfl,m⟩:=E6 r;cases m;obtain⟨v,rv,l,x⟩:=I.list j;have c:=F7 rv;obtain⟨f,b⟩:=c.allInts.items
 have o:ns=f.toList.map (·.1):=by
  have g:=c.numsOf;have a:=nums_intItems f;rw[<- b]at a;exact g.symm.trans a
 have d:=l.isList;rw[b]at d;refine sum_intListG (I.ok.hd h) d λw y n i=>⟨.int _,H,I.kept i,⟨n,rfl⟩,?_⟩;rw[preSum_eq,List.take_of_length_le (by simp)];rw[o]at q;exact q
end
theorem B8.here(x:B8 P w H h a o):∃d,h.get? a=some d:=by
 cases o with
 |lst g=>obtain⟨_,_,_,_,e⟩:=x;exact⟨_,e⟩
 |tup g=>obtain⟨_,_,_,o,e,_⟩:=x;exact⟨_,e⟩
 |dK b=>obtain⟨_,_,_,_,o,_,_,e,_⟩:=x;exact⟨_,e⟩
 |dT b=>obtain⟨_,_,_,_,o,_,_,e,_⟩:=x;exact⟨_,e⟩
 |set S n=>obtain⟨o,_,_,_,e,_⟩:=x;exact⟨_,e⟩
 |ins C i fs=>obtain⟨_,_,_,e,_⟩:=x;exact⟨_,e⟩
 |own y=>exact x
 |xd fs=>obtain⟨s,⟨z,l,j,e,c⟩,r⟩:=x;exact⟨_,e⟩
 |vR p m=>obtain⟨t,u,v,e⟩:=x;exact⟨_,e⟩
 |fA d u=>exact⟨_,x.1⟩
 |zr A=>exact⟨_,(show h.get? a=some _ from x)⟩
 |tab q pos=>
  rcases x with e|⟨_,_,_,e,_⟩
  ·exact⟨_,e⟩
  ·exact⟨_,e⟩
 |met f y=>exact⟨_,(show h.get? a=some _ from x)⟩
 |ext B=>exact x.2.1
theorem Fj.off(ok:Fj P w H h)(e:h.get? a=none):H a=none:=by
 cases q:H a with
 |none=>rfl
 |some u=>
  obtain⟨b,z⟩:=(ok a u q).here;rw[e]at z;cases z
def Eb(a:Addr)(cls:q5)(h:Heap):Prop:=∃o b,h.get? a=some o/\o.cls=cls/\o.data=.fields b
def t9(a:Addr)(h:Heap):Prop:=∃o b,h.get? a=some o/\o.data=.fields b
theorem Ub{cls:q5}(x:Eb a cls h):B8 P w H h a (.ext (Eb a cls)):=by
 refine⟨x,?_,?_⟩
 ·obtain⟨o,_,e,_⟩:=x;exact⟨o,e⟩
 ·rintro d f ⟨o,b,e,c⟩ k;exact⟨o,b,k o e,c⟩
def xj(h:Heap)(a T:Addr):Prop:=∃d b c e f,h.get? a=some d/\d.data=.fields b/\b[0]?=some f/\b[1]?=some (.ref T)/\T≠a/\h.get? T=some c/\c.data=.fields e/\e[3]?=some .none
structure U0(P:q7)(w:ro)(fr:List Addr)(H:Hp)(h:Heap)(H':Hp)(h':Heap)(a T:Addr)(cls:q5):Prop where
 un:Un fr [] H H' h h'
 ok:Fj P w H' h'
 exc:H' a=some (.ext (Eb a cls))
 off:H' T=none
 new:h.get? T=none
 tr:xj h' a T
def CX1(P:q7)(w:ro):Xb:=λb H s E e c=>∃(a T:Addr) (cls:q5) (d:Hp),e=.ref a/\c.os=s.os/\AllBare c.gens/\U0 P w (jR b) H s.heap d c.heap a T cls/\E cls none d
theorem tw{cls:q5}(u:Un i [] H d h h')(ok:Fj P w d h')(X:∀b∈i,d b=none)
  (zA:∀b∈i,∃o,h'.get? b=some o/\∀vs,o.data≠ .fields vs)(C:d a=some (.ext (Eb a cls)))(f:∀b∈j,d b=none/\h.get? b=none)
  (st:(W.hideAll h' (i++a::j)).StaysIn l)(E:h'.UpToSlots l)(K:Eb a cls l)(Z:t9 T l)(R:(W.hideAll h' (i++a::j)).get? T=none)(S:T≠a):
  Un i [] H d h l/\Fj P w d l/\d T=none/\h.get? T=none:=by
 have O:d T=none/\h.get? T=none:=by
  cases q:h'.get? T with
  |none=>
   refine⟨ok.off q,?_⟩;cases z:h.get? T with
   |none=>rfl
   |some o=>
    obtain⟨m,e⟩:=u.there T o z (by simp);rw[q]at e;cases e
  |some o=>
   by_cases s:T∈i++a::j
   ·rcases fy.mp s with z|z
    ·obtain⟨D,r,y⟩:=zA T z;obtain⟨L,g⟩:=E T D r y;obtain⟨o3,vs,B,N⟩:=Z;rw[g]at B;cases B;exact absurd N (y vs)
    ·rcases eu.mp z with z|z
     ·exact absurd z S
     ·exact f T z
   ·have:=W.hideAll_get _ q s;rw[R]at this;cases this
 have G:∀b o J,h'.get? b=some o->d b=some J->b≠a->l.get? b=some o:=λb o J e q p=>by
  refine st b o (W.hideAll_get _ e λs=>?_);rcases fy.mp s with z|z
  ·rw[X b z]at q;cases q
  ·rcases eu.mp z with z|z
   ·exact p z
   ·rw[(f b z).1]at q;cases q
 have I:∀b o m,h.get? b=some o->h'.get? b=some m->d b=none->b∉i->l.get? b=some m:=λb o m e A q n=>by
  refine st b m (W.hideAll_get _ A λs=>?_);rcases fy.mp s with z|z
  ·exact n z
  ·rcases eu.mp z with z|z
   ·rw[z,C]at q;cases q
   ·rw[(f b z).2]at e;cases e
 refine⟨⟨λb o e q n _=>I b o o e (u.keep b o e q n (by simp)) (u.free b o e q (by simp)) n,λb o e q n _=>?_,λb o e q _=>u.free b o e q (by simp),λb o e _=>?_,u.iK,u.gQ,u.iL⟩,λb v q=>?_,O⟩
 ·obtain⟨Y,r⟩:=u.slot b o e q n (by simp);obtain⟨U,g,M⟩:=zA b n;rw[r]at g;cases g;obtain⟨F,B⟩:=E b _ r M;exact⟨F,B⟩
 ·obtain⟨m,A⟩:=u.there b o e (by simp);cases q:d b with
  |none=>
   by_cases n:b∈i
   ·obtain⟨D,r,y⟩:=zA b n;obtain⟨L,g⟩:=E b D r y;exact⟨_,g⟩
   ·exact⟨_,I b o m e A q n⟩
  |some v=>
   by_cases p:b=a
   ·obtain⟨U,_,g,_⟩:=K;rw[p];exact⟨_,g⟩
   ·exact⟨_,G b m v A q p⟩
 ·by_cases p:b=a
  ·subst p;rw[C]at q;cases q;exact Ub K
  ·refine(ok b v q).gY (λc x Q e=>?_) (λc e=>e) λc xs e=>e;rcases Q with z|z
   ·subst z;exact G c x v e q p
   ·refine G c x _ e z λg=>?_;rw[g,C]at z;cases z
section
variable {X:Cx}{pins:List (Addr×Obj)}{σ:St}{H:Hp}{s:q4}
theorem Ak.zA(I:Ak X pins σ H s):∀b∈jR X.stack,∃o,s.heap.get? b=some o/\∀vs,o.data≠ .fields vs:=λb a=>(I.stack.mem a).2
theorem Ak.zR{cls:q5}{t':Nat}(I:Ak X pins σ H s)(m:Heap.MadeExcOf s.heap h' e cls vs):
  A7 H (upd H e (.ext (Eb e cls)))/\Ak X pins σ (upd H e (.ext (Eb e cls))) {s with heap:=h',toks:=t'}:=by
 have g:=I.aP.off m.new
 have same:A7 H (upd H e (.ext (Eb e cls))):=λb o q=>by
  rw[A9 (Ag q g)];exact q
 obtain⟨t,d,_,_⟩:=m.there;refine⟨same,I.un ⟨λb o q _ _ _=>m.keeps b o q,λb o q _ _ _=>⟨o.slots,m.keeps b o q⟩,λb o q z _=>?_,λb o q _=>⟨o,m.keeps b o q⟩,λb h q=>same _ _ q,λb o u q=>same _ _ q,λb i q=>⟨#[],by rw[same _ _ q];simp⟩⟩ λb u q=>?_⟩
 ·rw[A9 (λf=>?_)]
  ·exact z
  ·rw[f,m.new]at q;cases q
 ·by_cases a:b=e
  ·subst a;rw[A2]at q;cases q;exact Ub ⟨_,_,d,rfl,rfl⟩
  ·rw[A9 a]at q;exact(I.aP b u q).gY (λc v _ z=>m.keeps c v z) (λc z=>same _ _ z) λc h z=>same _ _ z
theorem Ak.pZ{cls:q5}(I:Ak X pins σ H s)(e:s'.os=s.os)(c:AllBare s'.gens)(F:U0 X.prog X.w (jR X.stack) H s.heap d s'.heap a T cls):Ak X pins σ d s':=
 I.BI e F.un F.ok c λb z=>absurd z (by simp)
theorem Uf(I:Ak X pins σ H s):s.heap.FunFrames (W.hideAll s.heap (jR X.stack++a::d)) X.stack:=
 W.funFrames_hide I.stack λc f b e=>fy.mpr (.inl (List.mem_filterMap.mpr ⟨c,f,e⟩))
theorem Ht:(W.hideAll h (c++a::b)).get? a=none:=W.hideAll_none _ (fy.mpr (.inr (.head _)))
theorem Lk(e:b∈c):(W.hideAll h (d++a::c)).get? b=none:=W.hideAll_none _ (fy.mpr (.inr (.tail _ e)))
theorem U0.cls{P:q7}{w:ro}{c:List Addr}{H b:Hp}{h h':Heap}{a T:Addr}{cls:q5}(F:U0 P w c H h b h' a T cls):Eb a cls h':=(F.ok a _ F.exc).1
theorem U0.rJ{P:q7}{w:ro}{j:List Addr}{H e:Hp}{h h' B:Heap}{a T:Addr}{cls:q5}(F:U0 P w j H h e h' a T cls)(p:B.get? T=none):∃b,h'.TracedW B a cls b:=by
 obtain⟨v,y,u,x,b,d,f,l,m,r,i,g,n⟩:=F.tr;obtain⟨o,z,q,c,_⟩:=F.cls;rw[d]at q;cases q;exact⟨b,v,y,T,u,x,d,⟨c,l⟩,f,m,p,r,i,g,n⟩
theorem U0.on{P:q7}{w:ro}{e c:List Addr}{H d:Hp}{h h' i:Heap}{a:Addr}{cls j:q5}(un:Un e [] H d h h')(ok:Fj P w d h')(f:d a=some (.ext (Eb a cls)))(B:∀b∈e,d b=none)
  (zA:∀b∈e,∃o,h'.get? b=some o/\∀vs,o.data≠ .fields vs)(g:∀b∈c,d b=none/\h.get? b=none)
  (st:(W.hideAll h' (e++a::c)).StaysIn i)(G:h'.UpToSlots i)(I:i.TracedW (W.hideAll h' (e++a::c)) a cls j):∃T,U0 P w e H h d i a T cls:=by
 obtain⟨m,vs,T,l,x,n,⟨C,D⟩,p,E,F,q,r,v,y⟩:=I;obtain⟨u,k,z,A⟩:=tw (T:=T) un ok B zA f g st G ⟨m,vs,n,C,p⟩ ⟨l,x,r,v⟩ F q;exact⟨T,u,k,f,z,A,m,vs,l,x,j,n,p,D,E,q,r,v,y⟩
end
section
variable {P:q7}{w:ro}{K:W.Frag}{mg:Str->Option q5}{base:Heap}{N:List Str}{qual:Str}{scope:Scope}{f:Addr}{cd:q5}{A:rd}{outer:List Env}{s₀:q4}{H₀:Hp}{E:XK}
theorem Yz{c:List (Addr×Obj)}{j:St}{H g:Hp}{s:q4}{s':q4}{a T:Addr}{cls:q5}(I:Ak (Ex (CX1 P w) P w K mg base N qual scope f cd A outer s₀ H₀ E) c j H s)
  (i:s'.os=s.os)(b:AllBare s'.gens)(F:U0 P w (jR (Ex (CX1 P w) P w K mg base N qual scope f cd A outer s₀ H₀ E).stack) H s.heap g s'.heap a T cls)(h:E cls none g):CX1 P w outer H₀ s₀ E (.ref a) s':=by
 have d:=I.pZ i b F;refine⟨a,T,cls,g,rfl,d.os,d.bare,⟨d.base,d.aP,F.exc,F.off,?_,F.tr⟩,h⟩;cases q:s₀.heap.get? T with
 |none=>rfl
 |some o=>
  obtain⟨l,e⟩:=I.base.there T o q (by intro z;cases z);rw[F.new]at e;cases e
def Q7(X:Cx)(R:St->XK->Prop):Prop:=∀(a:List (Addr×Obj)) (c:St) (H:Hp) (s:q4) (e:q5) (b:q4) (E:XK),R c E->Ak X a c H s->CX1 X.prog X.w X.stack H s E e b->X.xe e b
def RD(E:XK):St->XK->Prop:=λ_ a=>∀c d H,a c d H->E c d H
theorem Ey:Q7 (Ex (CX1 P w) P w K mg base N qual scope f cd A outer s₀ H₀ E) (RD E):=by
 rintro h J H s e i z p I ⟨a,T,cls,B,rfl,g,c,F,m⟩;have d:=I.pZ g c F;obtain⟨D,y⟩:=F.rJ (B:=W.hideAll i.heap (jR (Ex (CX1 P w) P w K mg base N qual scope f cd A outer s₀ H₀ E).stack++a::[T])) (Lk (by simp));refine wpAny_leaving_nextW (L:=s₀.heap.objs.size) (outer:=outer) I.ok.frames (Uf d) rfl y (λb o q=>W.of_hideAll _ q) Ht λl n=>?_;obtain⟨u,G,v,x⟩:=n;obtain⟨C,j⟩:=U0.on F.un F.ok F.exc d.gM d.zA (λb r=>by rw[List.mem_singleton.mp r];exact⟨F.off,F.new⟩) u x v;exact Yz (s':={i with heap:=l}) I g c j (p _ _ _ m)
def Xf(X:Cx)(E:XK):Prop:=∀(a:List (Addr×Obj)) (g:St) (H:Hp) (s:q4) (c:Heap) (e:Addr) (cls:q5) (d:List q5),Ak X a g H s->Heap.MadeExcOf s.heap c e cls d->
 (∀b,A7 H b->E cls none b)->X.xe (.ref e) {s with heap:=c}
theorem Dg:Xf (Ex (CX1 P w) P w K mg base N qual scope f cd A outer s₀ H₀ E) E:=by
 intro d G H s c e cls D I m l;obtain⟨same,a⟩:=I.zR (t':=s.toks) m;obtain⟨t,h,_,_⟩:=m.there
 have un:Un (jR (Ex (CX1 P w) P w K mg base N qual scope f cd A outer s₀ H₀ E).stack) [] H (upd H e (.ext (Eb e cls))) s.heap c:=
  ⟨λb o q _ _ _=>m.keeps b o q,λb o q _ _ _=>⟨o.slots,m.keeps b o q⟩,λb o q z _=>by
   rw[A9 (λi=>by rw[i,m.new]at q;cases q)];exact z,λb o q _=>⟨o,m.keeps b o q⟩,λb F q=>same _ _ q,λb o u q=>same _ _ q,λb C q=>⟨#[],by rw[same _ _ q];simp⟩⟩
 refine wpAny_leaving_firstW (base:=W.hideAll c (jR (Ex (CX1 P w) P w K mg base N qual scope f cd A outer s₀ H₀ E).stack++e::[])) (L:=s₀.heap.objs.size) (outer:=outer) I.ok.frames (Uf a) rfl h (λb o q=>W.of_hideAll _ q) Ht rfl rfl rfl λj n=>?_;obtain⟨r,B,v,x⟩:=n;obtain⟨y,g⟩:=U0.on un a.aP A2 a.gM a.zA (λb p=>absurd p (by simp)) r x v;exact Yz (s':={s with heap:=j}) I rfl I.bare g (l _ same)
end
def Kr(K:W.Frag)(C:Addr):Prop:=W.excIn K C [.type "ValueError",.type "Exception",.type "BaseException",.type "object"] "ValueError.__new__"=true
theorem Ua{K:W.Frag}{h:Heap}{C:Addr}{b:List q5}{a:String}(X:K.In h)(q:W.excIn K C b a=true):
  ∃(bm:List q5) (N:Addr) (nm d:Str) (bs:List q5) (hd:Bool) (sn:List Str) (sub:List q5) (ab:Bool) (col:Option Bool) (dd:Option Addr) (k0 k1 k2 k3 k5:Option q5) (mN:Str->Option q5),
   h.get? C=some (excClassObj nm d C N bs bm hd sn sub ab col dd k0 k1 k2 k3 k5 a)/\h.Ns N mN/\mN "__init__"=none/\OwnTail h b bm:=by
 unfold W.excIn at q;split at q
 case h_2=>exact absurd q ft
 case h_1 dd cd sl ho=>
  split at q
  case h_2=>exact absurd q ft
  case h_1 C' bm k0 k1 k2 k3 n k5 hm hs=>
   simp only[beq_iff_eq,Bool.and_eq_true,Bool.not_eq_true']at q;obtain⟨⟨⟨⟨⟨i,j⟩,e⟩,m⟩,c⟩,f⟩:=q;subst i j;obtain⟨nm,bs,p,r,d,hd,sn,sub,ab,col,g⟩:=cd;dsimp only at hm e c f;subst hm e;obtain⟨l⟩:=sl;have o:l=[k0,k1,k2,k3,some (.builtin n),k5]:=hs;subst o;exact⟨bm,r,nm,d,bs,hd,sn,sub,ab,col,dd,k0,k1,k2,k3,k5,_,X _ _ ho,.of_isNs (W.isNs_of_in X c),W.nsMap_none_of_in X c f,W.tail_of_in X m⟩
section
variable {X:Cx}{x:Str}{C:Addr}{p np bQ pos:Pos}{e:Expr}{es:List Expr}{t:TA}{E:XK}
def qi(C:Addr)(t:TA)(E:XK):TS:=λ_ d H=>t d H λc b=>c.length<=sizeLine/\∀a,A7 b a->E (.ref C) none a
theorem C7(A:Xf X E)(F:X.calm=true)(J:Gl X x)(L:X.mg x=some (.ref C))(O:Kr X.K C)(B:PA X (e::es) t)(pQ:(x==("__debug__":Str))=false:=by decide)
  (he:starEach (e::es) X.env=(false,eval e X.env)::starEach es X.env:=by rfl)(pJ:(backTo bQ (starEach es X.env)).any (·.1)=false:=by rfl):
  PS X (.Raise (some (.Call (.Name x np) (e::es) [] bQ)) none pos) (qi C t E):=by
 intro b s i H D I h;obtain⟨o,N,Z,qn,bs,G,sn,g,n,d,q,P,Q,R,S,U,Y,v,y,f,T⟩:=Ua I.ok.mod.fB O
 have l:(backTo bQ (starEach (e::es) X.env)).any (·.1)=false:=by
  rw[he];show(false||(backTo bQ (starEach es X.env)).any (·.1))=false;rw[pJ];rfl
 refine wpAny_Raise_call_subT (bm:=o) (N:=N) (nm:=Z) (q:=qn) (bs:=bs) (hdct:=G) (sn:=sn) (sub:=g) (ab:=n) (col:=d) (dd:=q) (k0:=P) (k1:=Q) (k2:=R) (k3:=S) (k5:=U) (mN:=Y) (C:=C)
  PySem.F.excBase_ValueError (T.hasType rfl) (I.ok.hd F) l f (Hv I J L ⟨rfl,?_⟩ pQ)
 have w:=B bQ b s i H _ I h;rw[he]at w⊢;refine Calls.evalArgs_plain (Bh w λus s2 z=>?_);obtain⟨vs,j,c,r,K,M⟩:=z;exact⟨rfl,by rw[<- r.length];exact K,c.bk _ _ v,y.keeps c.bk,T.keeps c.bk,λu a m=>A b i j s2 u a _ us c m M⟩
variable {k:Nat}{f:Addr}{fd:ri}{ps:List Str}{sp:Sp}{gT:List V}{ds:List q5}{R:St->XK->Prop}
def qb(sp:Sp)(gT:List V)(R:St->XK->Prop)(t:TA):TE:=λa H Q=>t a H λc b=>∃E,R a E/\sp (c++gT) b Q E
theorem Uw(F:B1 X.prog X.w X.K X.mg X.base (CX1 X.prog X.w) k f fd ps sp)(n:B9 k X.A)(l:Di X.K fd ps ds)(hd:As gT ds)(o:Q7 X R)
  (I:Ak X b c H s)(r:As vs us)(j:R c E)(h:sp (vs++gT) H Q E):wpAny (model X.prog X.w) X.A (call (.ref f) us) (EP X b c Q) X.xe s:=by
 have i:=r.append hd;have m:(us++ds).length=ps.length:=i.length.symm.trans (F.len _ _ _ _ h);have g:=F.run X.A X.stack s H ⟨us,[]⟩ (us++ds) (vs++gT) Q E n I.FH (l s us I.iG m) i h;refine wpAny_call (codeAny_mono g λd q a=>?_)
 match d,a with
 | .error e,a=>exact o b c H s e q E j I a
 | .ok (.ret u),a=>exact I.after a
 | .ok .next,a=>exact a.elim
 | .ok .brk,a=>exact a.elim
 | .ok .cont,a=>exact a.elim
theorem Cu(F:B1 X.prog X.w X.K X.mg X.base (CX1 X.prog X.w) k f fd ps sp)(m:B9 k X.A)(i:Gl X x)(l:X.mg x=some (.ref f))(j:W.keepIn X.K (.ref f)=true)(g:Di X.K fd ps ds)(hd:As gT ds)(n:Q7 X R)(d:PA X (e::es) t)
  (u:(x==("__debug__":Str))=false:=by decide)(he:starEach (e::es) X.env=(false,eval e X.env)::starEach es X.env:=by rfl)(o:(backTo pos (starEach es X.env)).any (·.1)=false:=by rfl):
  PE X (.Call (.Name x p) (e::es) [] pos) (qb sp gT R t):=by
 intro a s v H Q I h;have w:=d pos a s v H _ I h;refine wpAny_Call_Name_kw (Hv I i l ?_ u);refine W.callWith_K (h₀:=X.base) I.ok.mod.fB j (Bh w λB A z=>?_) he o;obtain⟨D,y,b,r,E,c,q⟩:=z;exact⟨b.iG,Uw F m g hd n b r c q⟩
theorem Az:Iy (CX1 P w) X E0:=λ_ _ _ _ _ _ _ ⟨_,_,_,_,_,_,_,_,z⟩=>z.elim
end
section
variable {P:q7}{w:ro}{K:W.Frag}{mg:Str->Option q5}{base:Heap}{x qual:Str}{st:Stmt}{f:Addr}{fd:ri}{N ps:List Str}{k:Nat}{sp:Sp}
theorem D8.qA(F:D8 K x qual st f fd)(S:Ai N ps (A8 st))(b:∀vs H Q E,sp vs H Q E->vs.length=ps.length)
  (e:∀(a:q5) (A:rd) (outer:List Env) (s:q4) (H:Hp) (vs:List V) (Q:VK) (E:XK),B9 k (A.deeper (envOfC qual (A8 st) s.heap.objs.size f a))->sp vs H Q E->
   ∃t,Mo (Ex (CX1 P w) P w K mg base N qual (A8 st) f a A outer s H E) (Be st) t/\t {nx:=λ_ c=>Q .aX c,rt:=Q} (start N vs) H):B1 P w K mg base (CX1 P w) (k+1) f fd ps sp:=by
 obtain⟨l,m,kV,d,o,i,a,j,n,rfl,g,h⟩:=F.ex;exact Y7 g h S b (e a)
theorem Q5.qA(F:Q5 K x qual st f fd)(S:Ai N ps (A8 st))(b:∀vs H Q E,sp vs H Q E->vs.length=ps.length)
  (e:∀(a:q5) (A:rd) (outer:List Env) (s:q4) (H:Hp) (vs:List V) (Q:VK) (E:XK),B9 k (A.deeper (envOfC qual (A8 st) s.heap.objs.size f a))->sp vs H Q E->
   ∃t,Mo (Ex (CX1 P w) P w K mg base N qual (A8 st) f a A outer s H E) (Be st) t/\t {nx:=λ_ c=>Q .aX c,rt:=Q} (start N vs) H):B1 P w K mg base (CX1 P w) (k+1) f fd ps sp:=by
 obtain⟨m,n,l,kV,d,p,i,a,j,o,rfl,g,h⟩:=F.ex;exact Y7 g h S b (e a)
theorem D8.okN(F:D8 K x qual st f fd)(S:Ai N ps (A8 st))(b:∀vs H Q E,sp vs H Q E->vs.length=ps.length)
  (d:∀(a:q5) (A:rd) (outer:List Env) (s:q4) (H:Hp) (vs:List V) (Q:VK) (E:XK),B9 k (A.deeper (envOfC qual (A8 st) s.heap.objs.size f a))->sp vs H Q E->
   ∃t,Mo (Ex (CX1 P w) P w K mg base N qual (A8 st) f a A outer s H E).LK (Be st) t/\t {nx:=λ_ c=>Q .aX c,rt:=Q} (start N vs) H):B1 P w K mg base (CX1 P w) (k+1) f fd ps sp:=
 F.qA S b λa A outer s H vs Q E e g=>let⟨t,h,q⟩:=d a A outer s H vs Q E e g;⟨t,h.LK,q⟩
theorem Q5.okN(F:Q5 K x qual st f fd)(S:Ai N ps (A8 st))(b:∀vs H Q E,sp vs H Q E->vs.length=ps.length)
  (d:∀(a:q5) (A:rd) (outer:List Env) (s:q4) (H:Hp) (vs:List V) (Q:VK) (E:XK),B9 k (A.deeper (envOfC qual (A8 st) s.heap.objs.size f a))->sp vs H Q E->
   ∃t,Mo (Ex (CX1 P w) P w K mg base N qual (A8 st) f a A outer s H E).LK (Be st) t/\t {nx:=λ_ c=>Q .aX c,rt:=Q} (start N vs) H):B1 P w K mg base (CX1 P w) (k+1) f fd ps sp:=
 F.qA S b λa A outer s H vs Q E e g=>let⟨t,h,q⟩:=d a A outer s H vs Q E e g;⟨t,h.LK,q⟩
theorem Wt{qual:Str}{outer:List Env}:
  PassesOwn (model P w) (Ex (CX1 P w) P w K mg base N qual a f b A outer s H E).A (Ex (CX1 P w) P w K mg base N qual a f b A outer s H E).env (Ex (CX1 P w) P w K mg base N qual a f b A outer s H E).xe:=PassesOwn.leaving
end
open PySem.W (Looks)
section
variable {X:Cx}{pins:List (Addr×Obj)}{σ:St}{H:Hp}{s:q4}{C:Addr}
theorem Yi{M:Model}{K:W.Frag}{h:Heap}{c:Addr}{b:q5}{r:Bool}(d:K.In h)(e:W.subIn K (.ref c) b=some r):Looks M h (isType (.ref c)) true:=by
 obtain⟨l,a,_⟩:=Option.bind_eq_some_iff.mp (show W.mroIn K c b=some r from e);unfold W.clsIn at a;split at a
 ·rename_i f;intro g j i m k q;unfold isType loadHead;refine aN (wpAny_loadPart (k _ _ (d _ _ f)) ?_);exact a6 q
 ·cases a
theorem kc{M:Model}{K:W.Frag}{h:Heap}{c:Addr}(a:K.In h)(e:W.subIn K (.ref c) (.type "BaseException")=some true):Looks M h (isExcClass (.ref c)) true:=by
 unfold isExcClass;refine(Yi a e).andThen ?_;rw[if_pos rfl];exact W.looks_subIn a e
theorem fj{prog:q7}{w:ro}{A:rd}{E:pP}{K:W.Frag}{v t c:q5}{Q:pP}(f:K.In s.heap)(b:∀M,Looks M s.heap (typeOf v) t)(e:W.kitOne K t c=some true)
  (l:v≠ .builtin "__main__.__loader__#opaque")(h:Q (.bool true) s):wpAny (model prog w) A (call (.builtin "isinstance") [v,c]) Q E s:=by
 refine call_isinstance (S:=λ_ R s=>(K.In s.heap/\∀M,Looks M s.heap (typeOf v) t)/\R (.ok (.ret (.bool true))) s) (λprog w A R s j=>isinstance_outer ?_ l) ⟨⟨f,b⟩,h⟩;obtain⟨⟨f,b⟩,a⟩:=j;obtain⟨i,g,d,u,r⟩:=s;unfold Builtin.«isinstance.nested»;refine aN ((b _).at ?_);unfold W.kitOne at e;by_cases q:(t==c)=true
 ·rw[if_pos q]
  first
   |exact aN (m8 a)
   |exact aN (m8 (a6 a))
 ·rw[if_neg q]at e⊢;obtain⟨m,n,o⟩:=W.kit_cls (M:=model prog w) f e;have p:Looks (model prog w) i (isInstance v c) true:=(b _).andThen o;refine aN (m.at ?_);rw[if_pos (by decide)]
  k_delta "plainIsInstance";refine aN (aN (n.at ?_));simp only[Bool.not_true,if_false,Bool.false_eq_true];refine aN (p.at ?_)
  first
   |exact a6 (a6 a)
   |(simp only[if_true];exact a6 (a6 a))
   |(simp only[if_true];exact a6 a)
   |trace_state
theorem f9{pos:Pos}(I:Ak X pins σ H s)(S:X.N.Nodup)(hi:X.N[i]?=some n)(U:X.env.scope.names.lookup n=some .local)
  (h:∀s',Ak X pins (σ.set i none) H s'->Q () s'):wpAny M A (do bindName X.env n .none;unbindBehindTheSuite X.env n pos) Q E s:=by
 obtain⟨m,Z,Y⟩:=id I.loc;refine wpAny_nameGoes_keeps U Z (by rw[I.ok.kind];rfl) λR v O hs=>h _ ?_;have a:∀b o,b≠X.env.locals->s.heap.get? b=some o->R.get? b=some o:=λb o T e=>(hs.2 b T).trans e;have D:∀b o,X.s₀.heap.get? b=some o->b≠X.env.locals:=λb o e=>eI (fx (dI e) I.ok.above)
 have y:∀b u,H b=some u->b≠X.env.locals:=λb u e z=>by
  rw[z,I.free]at e;cases e
 refine⟨I.ok,I.os,I.bare,⟨λb o e F G B=>a b o (D b o e) (I.base.keep b o e F G B),λb o e F G B=>?_,I.base.free,λb o e B=>?_,I.base.iK,I.base.gQ,I.base.iL⟩,⟨_,O,λj x w L d P=>?_⟩,λx c e=>?_,I.free,I.cA,λp hp=>?_,λb u e=>?_,?_⟩
 ·obtain⟨sl,z⟩:=I.base.slot b o e F G B;exact⟨sl,a b _ (D b o e) z⟩
 ·obtain⟨o',z⟩:=I.base.there b o e B;exact⟨o',a b _ (D b o e) z⟩
 ·have K:i≠j:=λz=>by
   subst z;rw[List.getElem?_set]at d;rw[if_pos rfl]at d;split at d<;>cases d
  rw[List.getElem?_set_ne K]at d;obtain⟨u,ru,lu⟩:=Y j x w L d P;have N:x≠n:=λz=>K (Lz S hi (by rw[<- z];exact L));refine⟨u,ru,?_⟩;rcases lu with⟨q,f⟩|⟨q,c,f,o,g,r⟩
  ·exact .inl ⟨q,by show(if x=n then v else m x)=some u;rw[if_neg N];exact f⟩
  ·exact .inr ⟨q,c,f,o,a c o (I.zM x c f) g,r⟩
 ·obtain⟨J,o,g,r⟩:=I.cell x c e;exact⟨J,o,a c o (I.zM x c e) g,r⟩
 ·obtain⟨q,f,g,r,k5⟩:=I.pin p hp;exact⟨a _ _ g q,f,g,r,k5⟩
 ·refine(I.aP b u e).gY (λc J l z=>a c J ?_ z) (λ_ z=>z) λ_ _ z=>z;rcases l with l|l
  ·rw[l];exact y b u e
  ·exact y c _ l
 ·rw[List.length_set];exact I.len
end
abbrev Cx.at(X:Cx)(A:rd):Cx:={X with A:=A,calm:=false,xe:=λ_ _=>False}
abbrev Cx.FZ(X:Cx)(pn:List (Addr×Obj))(W:pP):Cx:={X with pn:=pn,xe:=W}
section
variable {X:Cx}{pins:List (Addr×Obj)}{σ:St}{H:Hp}{s:q4}
theorem Ak.at(I:Ak X pins σ H s)(a:A.frames=X.A.frames):Ak (X.at A) pins σ H s:=
 ⟨⟨I.ok.mod,I.ok.kind,I.ok.glob,I.ok.blt,I.ok.above,I.ok.inj,I.ok.has,I.ok.FG,λz=>(nomatch z),a.trans I.ok.frames,I.ok.LI,I.ok.MH,I.ok.bs,I.ok.vS,I.ok.rA,I.ok.rB,I.ok.iM,I.ok.zL⟩,I.os,I.bare,I.base,I.loc,I.cell,I.free,I.cA,I.pin,I.aP,I.len⟩
theorem Ak.back(ok:X.Ok)(I:Ak (X.at A) pins σ H s):Ak X pins σ H s:=⟨ok,I.os,I.bare,I.base,I.loc,I.cell,I.free,I.cA,I.pin,I.aP,I.len⟩
theorem Ak.FZ(I:Ak X pins σ H s):Ak (X.FZ (X.pn++pins) W) [] σ H s:=
 ⟨⟨I.ok.mod,I.ok.kind,I.ok.glob,I.ok.blt,I.ok.above,I.ok.inj,I.ok.has,I.ok.FG,I.ok.hd,I.ok.frames,I.ok.LI,I.ok.MH,I.ok.bs,I.ok.vS,I.ok.rA,I.ok.rB,I.ok.iM,I.ok.zL⟩,I.os,I.bare,I.base,I.loc,I.cell,I.free,I.cA,
  λp a=>I.pin p (by rwa[List.append_nil]at a),I.aP,I.len⟩
theorem Ak.out(ok:X.Ok)(I:Ak (X.FZ (X.pn++pins) W) b σ H s):Ak X pins σ H s:=
 ⟨ok,I.os,I.bare,I.base,I.loc,I.cell,I.free,I.cA,λp a=>I.pin p (gv _ a),I.aP,I.len⟩
theorem SP.out(ok:X.Ok)(h:SP (X.FZ (X.pn++pins) W) [] D f s'):SP X pins D f s':=by
 cases f with
 |next=>obtain⟨a,b,I,q⟩:=h;exact⟨a,b,I.out ok,q⟩
 |brk=>obtain⟨a,b,I,q⟩:=h;exact⟨a,b,I.out ok,q⟩
 |cont=>obtain⟨a,b,I,q⟩:=h;exact⟨a,b,I.out ok,q⟩
 |ret u=>obtain⟨v,a,b,I,r,q⟩:=h;exact⟨v,a,b,I.out ok,r,q⟩
end
theorem W1(a v:q5):argsOk "max" ⟨[a],[(Str.ofString "default",v)]⟩:=by
 unfold argsOk
 kernel_rfl
def Gp(val:Nat->Int)(j:Nat)(m:Int):Prop:=(∃i,i<=j/\m=val i)/\∀i,i<=j->val i<=m
theorem Gp.up{val:Nat->Int}(h:Gp val j m)(b:m<val (j+1)):Gp val (j+1) (val (j+1)):=by
 refine⟨⟨j+1,dr _,rfl⟩,λi a=>?_⟩;rcases iv j i with z|z
 ·have e:i=j+1:=by omega
  rw[e];omega
 ·have:=h.2 i z;omega
theorem Gp.same{val:Nat->Int}(h:Gp val j m)(b:¬m<val (j+1)):Gp val (j+1) m:=by
 obtain⟨⟨d,g,a⟩,c⟩:=h;refine⟨⟨d,by omega,a⟩,λi f=>?_⟩;rcases iv j i with z|z
 ·have e:i=j+1:=by omega
  rw[e];omega
 ·exact c i z
section
variable {prog:q7}{w:ro}{A:rd}{R:Result->q4->Prop}{I S:Addr}{fp wr:List Addr}{n:Nat}{P:Nat->q5->Prop}{St:Nat->Heap->Prop}{val:Nat->Int}
theorem Op(h:wpAny (model prog w) A.in1 (Builtin.«max.loop» a) (λb s'=>match b with
   | .done f=>R (.ok f) s'
   | .again c=>c.quiet=true/\codeAny (model prog w) A c R s') (λe s'=>R (.error e) s') s):codeAny (model prog w) A (.builtin "max.loop" a) R s:=by
 refine codeAny_builtin F.entry_max_loop ?_;rw[Around.under_plainId F.plain_max_loop _];exact h
theorem eh(W:Walks prog w A.in1 I fp wr n P St)(N:∀i v,P i v->∃t,v=.int (val i) t)(H:S∉fp)(kw:List (Str×q5)):
  ∀(k j:Nat) (s:q4) (m:Int) (t:Tok) (c:Nat),n=j+1+k->St (j+1) s.heap->Gp val j m->
  s.heap.get? S=some {cls:=.type "list",dict:=none,data:=.seq #[.int m t,.int m t] c,slots:=#[] }->
  (∀Q t' M tk,Gp val (n-1) Q->(∀b o,b∉wr->b≠S->s.heap.get? b=some o->M.get? b=some o)->R (.ok (.ret (.int Q t'))) {s with heap:=M,toks:=tk})->
  codeAny (model prog w) A (.builtin "max.loop" ⟨[.ref I,.none,.ref S],kw⟩) R s:=by
 have L:S∉wr:=λz=>H (W.sub _ z);have T:(toString "max"++toString ".loop":String)="max.loop":=by decide
 have NI:CmpOf prog w A.in1 .Gt P (λi j=>decide (val i>val j)):=CmpOf.ints_gt val N;intro k
 induction k with
 |zero=>
  intro j s m t c hk E r l p;refine Op ?_;refine aN ( fO l rfl ?_);show wpAny (model prog w) A.in1 (tryCatch (pyNext (.ref I)) _>>=_) _ _ s;have X:j+1=n:=by omega
  refine aN (wpAny_tryCatch (W.done s _ _ (X▸E) λY K f=>?_));have h:=f S _ L l;show wpAny (model prog w) A.in1 (updateSeq S (λ_=>#[])>>=_) _ _ _;refine aN ?_;refine wpAny_updateSeq h rfl (aN (wpAny_letGo (a6 ?_)));have U:n-1=j:=by omega
  exact p m t _ K (U▸r) λb o d g e=>(eH _ _ (Ne.symm g)).trans (f b o d e)
 |succ k O=>
  intro j s m t c hk E r l p;refine Op ?_;refine aN ( fO l rfl ?_);show wpAny (model prog w) A.in1 (tryCatch (pyNext (.ref I)) _>>=_) _ _ s;refine aN (wpAny_tryCatch (W.item (j+1) s _ _ (by omega) E λv Y K Z J f=>?_));have h:=f S _ L l;obtain⟨t1,rfl⟩:=N _ _ Z;refine aN (a6 ?_);refine aN (wpAny_tryCatch (fC (aN ?_)));refine richCompare_gives (op:=.Gt) (typeIs_int _ _ _) (typeIs_int _ _ _) F.slot_int_gt F.entry_int_gt (F.args_int_gt_2 _ _) (gives_int_gt _ _ _ _) (λz=>nomatch z) ?_;refine aN (fC (il ?_));refine aN (wpAny_letGo (a6 ?_));by_cases q:m<val (j+1)
  ·have x:decide (val (j+1)>m)=true:=decide_eq_true q;simp only[x,if_true];refine aN ?_;refine wpAny_updateSeq h rfl (aN (wpAny_letGo ?_));rw[T];refine a6 ⟨nf F.plain_max_loop _,O (j+1) _ (val (j+1)) _ _ (by omega) (W.frame _ _ _ J λb z o e=>?_) (r.up q) (gK _ h rfl) λD G B u a C=>?_⟩
   ·exact(eH _ _ (λy:S=b=>H (by rw[y];exact z))).trans e
   ·exact p D G B u a λb o d g e=>C b o d g ((eH _ _ (Ne.symm g)).trans (f b o d e))
  ·have x:decide (val (j+1)>m)=false:=me q;simp only[x,Bool.false_eq_true,if_false];refine aN (wpAny_letGo ?_);rw[T];refine a6 ⟨nf F.plain_max_loop _,O (j+1) _ m t c (by omega) J (r.same q) h λD G B u a C=>?_⟩;exact p D G B u a λb o d g e=>C b o d g (f b o d e)
theorem S7(W:Walks prog w A.in1 I fp wr n P St)(r:∀i v,P i v->∃t,v=.int (val i) t)(h:S∉fp){dn:Str}{d:q5}{s:q4}{c:Nat}(x:St 0 s.heap)
  (q:s.heap.get? S=some {cls:=.type "list",dict:=none,data:=.seq #[] c,slots:=#[] })
  (H:n=0->∀h' j,(∀b o,b∉wr->b≠S->s.heap.get? b=some o->h'.get? b=some o)->R (.ok (.ret d)) {s with heap:=h',toks:=j})
  (L:0<n->∀u t' h' j,Gp val (n-1) u->(∀b o,b∉wr->b≠S->s.heap.get? b=some o->h'.get? b=some o)->R (.ok (.ret (.int u t'))) {s with heap:=h',toks:=j}):
  codeAny (model prog w) A (.builtin "max.loop" ⟨[.ref I,.none,.ref S],[(dn,d)]⟩) R s:=by
 have G:S∉wr:=λz=>h (W.sub _ z);have O:(toString "max"++toString ".loop":String)="max.loop":=by decide
 refine Op ?_;refine aN ( fO q rfl ?_);show wpAny (model prog w) A.in1 (tryCatch (pyNext (.ref I)) _>>=_) _ _ s;rcases Nat.eq_zero_or_pos n with z|z
 ·subst z;refine aN (wpAny_tryCatch (W.done s _ _ x λp m f=>?_));refine aN (m8 (a6 ?_));exact H rfl p m λb o g _ e=>f b o g e
 ·refine aN (wpAny_tryCatch (W.item 0 s _ _ z x λv p m K E f=>?_));have l:=f S _ G q;obtain⟨B,rfl⟩:=r _ _ K;show wpAny (model prog w) A.in1 (updateSeq S (λ_=>#[.int (val 0) B,.int (val 0) B])>>=_) _ _ _;refine aN ?_;refine wpAny_updateSeq l rfl ?_;rw[O];refine a6 ⟨nf F.plain_max_loop _,eh W r h _ (n-1) 0 _ (val 0) _ _ (by omega) (W.frame _ _ _ E λb z o e=>?_) ⟨⟨0,dr _,rfl⟩,λi T=>?_⟩ (gK _ l rfl) λN Q J D a M=>?_⟩
  ·exact(eH _ _ (λy:S=b=>h (by rw[y];exact z))).trans e
  ·have e:i=0:=by omega
   rw[e];exact Int.le_refl _
  ·exact L z N Q J D a λb o g C e=>M b o g C ((eH _ _ (Ne.symm C)).trans (f b o g e))
end
section
variable {prog:q7}{w:ro}{A:rd}{E:pP}{s:q4}{l:Addr}
theorem W4{id:String}{b:Builtin}{args:Args}{Q:pP}(m:builtinKind id=none)(n:plainId id=true)(j:entryFor table id=some b)(i:argsOk id args)
  (d:wpAny (model prog w) A.in1 (b args) (λa s'=>match a with
   | .done f=>(match(Except.ok f:Result)with| .ok (.ret v)=>Q v s'| .ok _=>False| .error e=>E e s')
   | .again c=>c.quiet=true/\codeAny (model prog w) A c (λr s'=>match r with| .ok (.ret v)=>Q v s'| .ok _=>False| .error e=>E e s') s') E s):
  wpAny (model prog w) A (call (.builtin id) args.pos args.kw) Q E s:=by
 refine wpAny_call (codeAny_call_builtin n j ?_);simp only[checkBuiltinCall,m];cases o:Manifest.signature? id with
 |none=>exact a6 d
 |some p=>
  have g:Bind.checkArgs id p args=pure ():=by simpa only[argsOk,o]using i
  have h:(⟨args.pos,args.kw⟩:Args)=args:=rfl;simp only[h,g];exact a6 d
theorem W3(j:A.handled=none)(n:s.heap.IsList l (intItems xs))
  (i:xs.size=0->∀h' a,(∀b o,s.heap.get? b=some o->h'.get? b=some o)->Q d {s with heap:=h',toks:=a})
  (h1:0<xs.size->∀m t h' a,Gp (numAt xs) (xs.size-1) m->(∀b o,s.heap.get? b=some o->h'.get? b=some o)->Q (.int m t) {s with heap:=h',toks:=a}):
  wpAny (model prog w) A (call (.builtin "max") [.ref l] [(Str.ofString "default",d)]) Q E s:=by
 have q:(toString "max"++toString ".loop":String)="max.loop":=by decide
 refine W4 (args:=⟨[.ref l],[(Str.ofString "default",d)]⟩) F.kind_max F.plain_max F.entry_max (W1 _ _) ?_;show wpAny (model prog w) A.in1 (Builtin.Builtins.bindParams "max" ["key","default"] 0 ⟨[],[(Str.ofString "default",d)]⟩>>=_) _ _ s;refine aN (wpAny_of_eq (show Builtin.Builtins.bindParams "max" ["key","default"] 0 ⟨[],[(Str.ofString "default",d)]⟩=pure [none,some d]from ?_) ?_)
 ·kernel_rfl
 refine aN (a6 ?_);refine aN (iter_intList n λu e r h c=>?_);subst e;refine aN (gR ?_);rw[q];have f:(intItems xs).size=xs.size:=by simp[intItems]
 refine a6 ⟨nf F.plain_max_loop _,?_⟩;have W:=Walks.list (prog:=prog) (w:=w) (A:=A.in1) j _ l c (intItems xs);refine S7 (val:=numAt xs) W (λ_ _=>intItems_at) (λp=>Nat.lt_irrefl _ (h _ p)) (W.frame _ _ _ r λb _ o e=>bD _ e) (c4 _ rfl) (λz h' a k=>?_) λz m t h' a top k=>?_
 ·exact i (f▸z) h' a (old_kept λb o g e=>k b o g (eI (dI e)) (bD _ e))
 ·exact h1 (f▸z) m t h' a (f▸top) (old_kept λb o g e=>k b o g (eI (dI e)) (bD _ e))
end
open PySem PySem.Spec PyProof.Rows PySem.SeqAt
mutual
def qy:rr->rr->Bool
 | .int a,.int b=>decide (a<b)
 | .tuple c,.tuple d=>bV c d
 |_,_=>false
def bV:List rr->List rr->Bool
 |[],[]=>false
 |[],_::_=>true
 |_::_,[]=>false
 |x::a,y::b=>if PyData.eqv x y then bV a b else qy x y
end
section
variable {X:Cx}
def uk(K:W.Frag):R2:=λx y H Q=>∃a b e c,x=.ref a/\y=.ref b/\Cp K H a e/\H b=some (.tup c)/\c≠[]/\e.length+c.length<=sizeLine/\
 ∀p d,A7 H d->d p=some (.tup (e++c))->Q (.ref p) d
theorem gc(K:W.Frag)(D:X.K=K:=by rfl):G5 X (binaryOp .Add) (uk K):=by
 subst D;intro d s S H x y v u Q I r w h;obtain⟨a,b,A,R,rfl,rfl,i,f,F,G,q⟩:=h;by_cases o:A=[]
 ·subst o;cases r;cases w;obtain⟨T,P,N,_⟩:=I.tuple i;obtain⟨Z,r2,O,_⟩:=I.tuple (Cp.of f);cases P;obtain⟨⟨U,B,t1,J⟩,m,j,n,l⟩:=N;obtain⟨⟨Y,C,t2,L⟩,g,z,M,c⟩:=O;simp only at j l z c;subst j l z c;exact concat_meets ⟨_,m,rfl⟩ ⟨_,g,rfl⟩ noFill_tuple_add seq_tuple_add PySem.F.slot_tuple_add PySem.F.entry_tuple_add (PySem.F.args_tuple_add_2 _ _) (tuple_addW0 a b _ _ n M B C J L rfl) ⟨m,g,.ref b,H,I,rfl,q b H (A7.refl H) f⟩
 ·exact gf d s S H _ _ v u Q I r w ⟨a,b,A,R,rfl,rfl,i,Cp.of f,o,G,λe=>absurd e F,λ_ p E=>q p _ (A7.upd E) A2⟩
end
theorem Kw:∀{bs:List Bool}{us:List q5},As (bs.map V.bl) us->LSm.BoolsAre us bs
 |[],_,.nil=>.nil
 |b::bs,_,.cons r a=>by
  cases r;exact .cons b (Kw a)
section
variable {X:Cx}
theorem Nd(l:X.calm=true):D7 X (.builtin "any") (λxs H Q=>∃(p:Addr) (bs:List Bool),xs=[.ref p]/\Ao X.K H p (bs.map V.bl)/\Q (.bl (bs.any id)) H):=by
 intro g s F H E D Q I r q;obtain⟨p,bs,rfl,n,q⟩:=q;obtain⟨u,rfl,w⟩:=E6 r;cases w;obtain⟨c,rv,o,A⟩:=I.list n;have f:=Kw rv;have a:=o.isList
 have h:p<s.heap.objs.size:=by
  obtain⟨_,e,_⟩:=a;exact dI e
 refine call_any_walk (wpAny_pyIter_list a ⟨s.heap.objs.size,[s.heap.objs.size,p],[s.heap.objs.size],c.toArray.size,_,_,λi=>(bs[i]?).getD false,rfl,Walks.list (prog:=X.prog) (w:=X.w) (A:=X.A.in1) (I.ok.hd l) _ p (eI h) c.toArray,⟨⟨_,c4 _ rfl,rfl,rfl⟩,a.push _⟩,λi v B y x j d=>?_,λz C m=>?_⟩)
 ·obtain⟨b,e,rfl⟩:=f.get i v (by simpa using j);simp only[e,Option.getD_some]at d;exact il d
 ·refine⟨.bl _,H,I.kept (LSm.kept_iter m),?_,q⟩;rw[<- LSm.range_any bs,<- f.length];simp;rfl
theorem Ev(l:X.calm=true):D7 X (.builtin "all") (λxs H Q=>∃(p:Addr) (bs:List Bool),xs=[.ref p]/\Ao X.K H p (bs.map V.bl)/\Q (.bl (bs.all id)) H):=by
 intro g s F H E D Q I r q;obtain⟨p,bs,rfl,n,q⟩:=q;obtain⟨u,rfl,w⟩:=E6 r;cases w;obtain⟨c,rv,o,A⟩:=I.list n;have f:=Kw rv;have a:=o.isList
 have h:p<s.heap.objs.size:=by
  obtain⟨_,e,_⟩:=a;exact dI e
 refine call_all_walk (wpAny_pyIter_list a ⟨s.heap.objs.size,[s.heap.objs.size,p],[s.heap.objs.size],c.toArray.size,_,_,λi=>(bs[i]?).getD true,rfl,Walks.list (prog:=X.prog) (w:=X.w) (A:=X.A.in1) (I.ok.hd l) _ p (eI h) c.toArray,⟨⟨_,c4 _ rfl,rfl,rfl⟩,a.push _⟩,λi v B y x j d=>?_,λz C m=>?_⟩)
 ·obtain⟨b,e,rfl⟩:=f.get i v (by simpa using j);simp only[e,Option.getD_some]at d;exact il d
 ·refine⟨.bl _,H,I.kept (LSm.kept_iter m),?_,q⟩;rw[<- LSm.range_all bs,<- f.length];simp;rfl
end
open PySem.W (Looks)
theorem N5:Looks M h (isSubtype (.type "type") (.type "tuple")) false:=by
 have e:isSubtype (.type "type") (.type "tuple")=pure false:=by first|exact tc_notTuple|rfl|decide
 rw[e];exact W.Looks.now
theorem X7{M:Model}{K:W.Frag}{h:Heap}{a C Y:Addr}{d:Obj}(b:K.In h)(he:h.get? a=some d)(j:d.cls=.ref C)(g:Kr K Y)
  (i:W.subIn K (.ref Y) (.type "BaseException")=some true)(l:W.subIn K (.ref C) (.ref Y)=some true):Looks M h (excMatches (.ref a) (.ref Y)) true:=by
 obtain⟨r,N,w,x,e,u,y,o,q,f,s,A,B,D,E,F,v,c,_,_,_⟩:=Ua b g;have p:Looks M h (typeOf (.ref Y)) (.type "type"):=(W.Looks.ld c).andThen .now;have m:Looks M h (isInstance (.ref Y) (.type "tuple")) false:=p.andThen N5
 have n:Looks M h (typeOf (.ref a)) (.ref C):=by
  have z:Looks M h (typeOf (.ref a)) d.cls:=(W.Looks.ld he).andThen .now;rw[j]at z;exact z
 unfold excMatches;refine m.andThen ?_;rw[if_neg Bool.false_ne_true];refine W.Looks.now.andThen ?_;simp only[List.forIn_cons,List.forIn_nil];refine Looks.andThen (a:=PUnit.unit) (Looks.andThen (a:=ForInStep.yield PUnit.unit) ((kc b i).andThen ?_) .now) (n.andThen (Looks.andThen (a:=(some true,())) (Looks.andThen (a:=ForInStep.done (some true,())) ((W.looks_subIn b l).andThen ?_) .now) .now))
 ·rw[if_neg (by decide)];exact .now
 ·rw[if_pos rfl];exact .now
section
variable {prog:q7}{w:ro}{A:rd}{E:pP}{K:W.Frag}{x C:Addr}{h:Heap}{g:Array GenState}{d:Drawn}{t:Nat}{os:OsState}
structure Q4(K:W.Frag)(C:Addr):Prop where
 ga:W.findIn K (.ref C) "__getattribute__"=some (some (.builtin "BaseException.__getattribute__"))
 gt:W.findIn K (.ref C) "__getattr__"=some none
 cl:W.findIn K (.ref C) "__class__"=some (some (.builtin "object.__class__"))
 gs:W.specialIn K (.builtin "object.__class__") "__get__"=some (some (.builtin "getset_descriptor.__get__"))
 tk:W.takesIn K (.builtin "object.__class__")=some true
 ob:W.mroIn K C (.type "object")=some true
 be:W.subIn K (.ref C) (.type "BaseException")=some true
theorem Y5{M:Model}(a:K.In h)(F:Q4 K C):Looks M h (Builtin.ObjectAttr.find (.ref x) (.ref C) "__class__") (.bind (.builtin "getset_descriptor.__get__") (.builtin "object.__class__")):=by
 unfold Builtin.ObjectAttr.find;refine(W.looks_findIn a F.cl).andThen ((W.looks_specialIn a F.gs).andThen ?_);refine Looks.andThen (a:=some (.builtin "getset_descriptor.__get__",.builtin "object.__class__")) ?_ (W.Looks.tag .now);show Looks M h (Builtin.ObjectAttr.takesStores _>>=_) _;refine(W.looks_takesIn a F.tk).andThen ?_;rw[if_pos rfl];exact .now
theorem Y4{R:Result->q4->Prop}{c:q5}(a:K.In h)(b:∀M,Looks M h (typeOf (.ref x)) (.ref C))(F:Q4 K C)(q:R (.ok (.ret (.ref C))) ⟨h,g,d,t,os⟩):
  codeAny (model prog w) A (.call (.builtin "getset_descriptor.__get__") ⟨[.builtin "object.__class__",.ref x,c],[]⟩) R ⟨h,g,d,t,os⟩:=by
 have e:=b (model prog w);have f:=W.looks_mroIn (M:=model prog w) a F.ob;refine codeAny_call_builtin W.KF.slot_gs.plain W.KF.entry_gs (W.KF.slot_gs.check _ _ _ _ _ _ _ _ W.KF.type_class (W.KF.args_gs _ _ _) ?_);unfold Builtin.«getset_descriptor.__get__» Builtin.Getset_descriptor.descrGet;rw[W.dga_obj];refine aN (a6 ?_);unfold Builtin.Getset_descriptor.descrGetter Builtin.Getset_descriptor.descrCheckInstance Builtin.Getset_descriptor.descrNameAndClass isInstance;simp only[W.KF.owner_class];repeat lk
 refine⟨Code.quiet_builtin _ (by decide+kernel),codeAny_builtin W.KF.entry_class ?_⟩;unfold Builtin.«object.__class__» shownTypeOf;repeat lk
 exact q
theorem W7{Q:Fin->q4->Prop}{c:Tok}(a:K.In h)(b:∀M,Looks M h (typeOf (.ref x)) (.ref C))(F:Q4 K C)(q:Q (.done (.ret (.ref C))) ⟨h,g,d,t,os⟩):
  wpAny (model prog w) A (Builtin.«object.__getattribute__» ⟨[.ref x,.str "__class__" c],[]⟩) Q E ⟨h,g,d,t,os⟩:=by
 have e:=b (model prog w);have f:=Y5 (M:=model prog w) (x:=x) a F
 repeat (any_goals (first|assumption|with_reducible refine Looks.at (by assumption) ?_|wp_step))
 refine Y4 a b F ?_
 repeat (any_goals (first|assumption|wp_step))
theorem W6{R:Result->q4->Prop}{c:Tok}(a:K.In h)(b:∀M,Looks M h (typeOf (.ref x)) (.ref C))(F:Q4 K C)(q:R (.ok (.ret (.ref C))) ⟨h,g,d,t,os⟩):
  codeAny (model prog w) A (.call (.builtin "BaseException.__getattribute__") ⟨[.ref x,.str "__class__" c],[]⟩) R ⟨h,g,d,t,os⟩:=by
 have i:=b (model prog w);have j:=W.looks_subIn (M:=model prog w) a F.be;have e:builtinKind "BaseException.__getattribute__"=some .slot:=by decide+kernel
 have f:splitId "BaseException.__getattribute__"=some ("BaseException","__getattribute__"):=by decide+kernel
 have l:=PySem.F.args_bexc_ga (.ref x) (.str "__class__" c);refine codeAny_call_builtin PySem.F.attr_ValueError.ga.plain PySem.F.entry_bexc_ga ?_;simp only[checkBuiltinCall,e,f];unfold isInstance
 repeat (any_goals (first|assumption|with_reducible refine W7 a b F ?_|with_reducible refine Looks.at (by assumption) ?_|wp_step))
theorem Y3{Q:Option q5->q4->Prop}(a:K.In h)(b:∀M,Looks M h (typeOf (.ref x)) (.ref C))(F:Q4 K C)(q:Q (some (.ref C)) ⟨h,g,d,t+1,os⟩):
  wpAny (model prog w) A (getAttr? (.ref x) "__class__") Q E ⟨h,g,d,t,os⟩:=by
 have e:=b (model prog w);have f:=W.looks_findIn (M:=model prog w) a F.ga;have i:=W.looks_findIn (M:=model prog w) a F.gt;have j:=PySem.F.attr_ValueError.ga.bind (.ref x);have c:(Value.builtin "BaseException.__getattribute__"==Value.builtin "object.__getattribute__")=false:=by decide+kernel
 have l:(onTheHeap (Value.ref C)&&Value.builtin "BaseException.__getattribute__"==Value.builtin "object.__getattribute__")=false:=by rw[c];rfl
 unfold getAttr? getAttrBy?
 repeat (any_goals (first|assumption|with_reducible refine Looks.at (by assumption) ?_|wp_step))
 refine W6 a b F ?_
 repeat (any_goals (first|assumption|wp_step))
theorem Yj{s:q4}{c:q5}{b:Bool}{Q:pP}(a:K.In s.heap)(f:∀M,Looks M s.heap (typeOf (.ref x)) (.ref C))(F:Q4 K C)(e:W.kitOne K (.ref C) c=some b)
  (q:∀i,Q (.bool b) {s with toks:=i}):wpAny (model prog w) A (call (.builtin "isinstance") [.ref x,c]) Q E s:=by
 cases b with
 |true=>exact fj a f e (λz=>nomatch z) (q s.toks)
 |false=>
  refine call_isinstance (S:=λ_ R s=>(K.In s.heap/\∀M,Looks M s.heap (typeOf (.ref x)) (.ref C))/\∀i,R (.ok (.ret (.bool false))) {s with toks:=i}) (λprog w A R s n=>isinstance_outer ?_ (λz=>nomatch z)) ⟨⟨a,f⟩,q⟩;obtain⟨⟨a,f⟩,j⟩:=n;obtain⟨m,g,d,v,os⟩:=s;unfold Builtin.«isinstance.nested»;refine aN ((f _).at ?_);unfold W.kitOne at e;by_cases z:(Value.ref C==c)=true
  ·rw[if_pos z]at e;cases e
  rw[if_neg z]at e⊢;obtain⟨o,p,l⟩:=W.kit_cls (M:=model prog w) a e;have r:Looks (model prog w) m (isInstance (.ref x) c) false:=(f _).andThen l;have u:=Yi (M:=model prog w) a F.be;refine aN (o.at ?_);rw[if_pos (by decide)]
  k_delta "plainIsInstance";refine aN (aN (p.at ?_));simp only[Bool.not_true,if_false,Bool.false_eq_true];refine aN (r.at ?_);simp only[if_false,Bool.false_eq_true];refine aN (Y3 a f F ?_);refine aN (u.at ?_);simp only[if_false,Bool.false_eq_true,Bool.not_true];refine aN (m8 (l.at ?_))
  first
   |exact a6 (j _)
   |exact a6 (a6 (j _))
end
section
variable {X:Cx}
def uo(K:W.Frag):List V->Hp->VK->Prop:=λd H Q=>∃(a C:Addr) (c:q5) (v:V) (b:Bool),d=[.ref a,v]/\H a=some (.ext (Eb a (.ref C)))/\(∀u,Aw v u->u=c)/\Q4 K C/\W.kitOne K (.ref C) c=some b/\Q (.bl b) H
theorem C0(K:W.Frag)(i:X.K=K:=by rfl):D7 X (.builtin "isinstance") (uo K):=by
 subst i;intro d s B H A x Q I r h;obtain⟨a,C,c,v,b,rfl,j,l,F,e,q⟩:=h;obtain⟨w,p,rfl,m,n⟩:=As.two r;cases m;rw[l p n];obtain⟨o,y,f,g,_⟩:=(I.aP a _ j).1;refine Yj (s:=s) I.iG (λM=>?_) F e λu=>⟨.bl b,H,I.kept λ_ _ z=>z,rfl,q⟩;have z:Looks M s.heap (typeOf (.ref a)) o.cls:=(W.Looks.ld f).andThen .now;rw[g]at z;exact z
end
open PySem.W (Looks)
section
variable {X:Cx}
def yw(K:W.Frag)(f:TS)(Y:Addr)(i:Nat)(D:Hj):St->XK->Prop:=λd E=>∀cls b,E cls none b->∃C,cls=.ref C/\W.subIn K (.ref C) (.ref Y)=some true/\∀a,b a=some (.ext (Eb a (.ref C)))->
 f {nx:=λc e=>D.nx (c.set i none) e,rt:=λ_ _=>False} (d.set i (some (.ref a))) b
def w8(K:W.Frag)(a:(St->XK->Prop)->TS)(b:TS)(Y:Addr)(i:Nat):TS:=λD c H=>a (yw K b Y i D) D c H
theorem gp(K:PySem.W.Frag){p2 pos np:Pos}
  (U:X.stack=X.env::X.outer)(hf:X.env.frame=some X.env.locals)
  (y:∀(W:pP) (pn:List (Addr×Obj)) (R:St->XK->Prop),Q7 (X.FZ pn W) R->Mo (X.FZ pn W) j (tb R))
  (hg:Gl X x)(hm:X.mg x=some (.ref Y))(hY:Kr K Y)(hB:PySem.W.subIn K (.ref Y) (.type "BaseException")=some true)(hN:X.N.Nodup)(hi:X.N[i]?=some n)(Q:X.env.scope.names.lookup n=some .local)
  (hu:∀A:rd,Mo (X.at A) (l::ss) tu)(hK:X.K=K:=by rfl)(pQ:(x==("__debug__":Str))=false:=by decide):
  PS X (.Try j [.ExceptHandler (some (.Name x np)) (some n) (l::ss) p2] [] [] pos) (w8 K tb tu Y i):=by
 subst hK;intro c s σ H D I h;refine wpAny_Try_except ?_;have ok:=I.ok;refine hH (y _ (X.pn++c) _ ?_ [] s σ H D I.FZ h) (λf L q=>?_) λe L z=>z
 ·rintro pR m H1 L e r E hR I1 ⟨a,T,cls,G,rfl,S,d,F,hE⟩;obtain⟨C,rfl,wC,hs⟩:=hR _ _ hE;have M:Ak X c m H1 L:=I1.out ok;have F:U0 X.prog X.w (jR X.stack) H1 L.heap G r.heap a T (.ref C):=F;have N:=M.pZ S d F;obtain⟨a0,tr⟩:=F.rJ (B:=PySem.W.hideAll r.heap (jR X.stack++a::[T])) (Lk (i0.mpr rfl));have hA:X.A.frames=some (X.env::X.outer):=by rw[<- U];exact ok.frames
  have hF:r.heap.FunFrames (PySem.W.hideAll r.heap (jR X.stack++a::[T])) (X.env::X.outer):=by rw[<- U];exact Uf N
  refine wpAny_looks_onW hA hf ⟨λb o q=>PySem.W.of_hideAll _ q,Ht,hF,tr⟩ λh3 B Z=>?_;refine wpAny_landsW B λw O sm4=>?_;obtain⟨k1,_,_,k4⟩:=O;obtain⟨T2,g⟩:=U0.on F.un F.ok F.exc N.gM N.zA (λb y=>by rw[List.mem_singleton.mp y];exact⟨F.off,F.new⟩) k1 (Z.trans sm4) k4;have p:Ak X c m G {r with heap:=w}:=M.pZ S d g;obtain⟨o5,vs5,e5,c5,d5⟩:=g.cls;refine wpAny_handleBy_cons (codeAny_handlers_test (Calls.Name_function_global ok.kind hg (Calls.loadGlobal_global (by rw[ok.glob];exact p.mod.glob.keeps p.bk) hm ?_) pQ)) (by intro q;cases q);refine(X7 p.iG e5 c5 hY hB wC).at ?_;show codeAny _ _ (.handlers _ [_] _) _ _;refine codeAny_handlers_suite_as ?_;obtain⟨a5,tr5⟩:=g.rJ (B:=PySem.W.hideAll w (jR X.stack++a::[T2])) (Lk (i0.mpr rfl));have P:w.FunFrames (PySem.W.hideAll w (jR X.stack++a::[T2])) (X.env::X.outer):=by rw[<- U];exact Uf p
  refine lands_againW (show Heap.FlyingW _ (X.env::X.outer) a (.ref C) a5 w from⟨λb o q=>PySem.W.of_hideAll _ q,Ht,P,tr5⟩) λh6 v sm6=>?_;obtain⟨k6,_,_,k7⟩:=v;obtain⟨T3,F6⟩:=U0.on g.un g.ok g.exc p.gM p.zA (λb y=>by rw[List.mem_singleton.mp y];exact⟨g.off,g.new⟩) k6 sm6 k7;have I6:Ak X c m G {r with heap:=h6}:=M.pZ S d F6;refine Il (v:=.ref a) I6 hN hi (.inl Q) rfl (λs7 I7=>?_) (.inr Q);refine hH (hu _ c s7 _ G _ (I7.at rfl) (hs a F.exc)) (λf s8 J=>?_) λ_ _ z=>z.elim;cases f with
  |next=>
   obtain⟨σ',H4,I8,q9⟩:=J;exact f9 (I8.back ok) hN hi Q λs9 I9=>⟨_,_,I9,q9⟩
  |brk=>
   obtain⟨_,_,_,z⟩:=J;exact z.elim
  |cont=>
   obtain⟨_,_,_,z⟩:=J;exact z.elim
  |ret u=>
   obtain⟨_,_,_,_,_,z⟩:=J;exact z.elim
 ·cases f with
  |next=>exact wpAny_execs_nil (SP.out ok q)
  |brk=>exact SP.out ok q
  |cont=>exact SP.out ok q
  |ret u=>exact SP.out ok q
end
section
variable {X:Cx}
theorem Wm:qw X "int.bit_length" (λx xs H Q=>∃i:Int,x=.int i/\xs=[]/\Q (.int ((intBits i:Nat):Int)) H):=by
 intro a s d H x xs v c Q I b rv h;obtain⟨i,rfl,rfl,q⟩:=h;obtain⟨t,rfl⟩:=b;cases rv;exact call_gives PySem.F.slot_int_bit_length (typeIs_int _ _ _) PySem.F.entry_int_bit_length (PySem.F.args_int_bit_length_1 _) (PySem.AutoIntG2.int_bit_length_int_0 i t) ⟨.int _,H,I.tok _,⟨_,rfl⟩,q⟩
def xf(i j:Int):Prop:=0<=j/\((intBits i:Nat):Int)+j<=2^27
theorem gi:G5 X (binaryOp .LShift) (rI xf λi j=>.int (i*2^j.toNat)):=qz λ_ _ _ _ _ _ _ a q=>lshift_int a.1 a.2 q
end
theorem Kx{K:W.Frag}{a:Addr}{xs:List V}{r:List Nat}{j:TT}{h:TE}{c:St}{D:Addr}{u:Hp}{Q:Hp->Prop}(f:Nat->List V->Hp->Prop)(w:f 0 [] (upd u D (.lst [])))
  (A:∀i ys H,i<=xs.length->f i ys H->Ao K H a xs)
  (B:∀i x ys H,xs[i]?=some x->f i ys H->j (some x::D2 r c) H λb l=>
   if b=true then h (some x::D2 r c) l λv n=>n D=some (.lst ys)/\ys.length<sizeLine/\f (i+1) (ys++[v]) (upd n D (.lst (ys++[v])))else f (i+1) ys l)
  (E:∀c H Q g,(∀b d,Q b d->g b d)->j c H Q->j c H g)(C:∀c H Q g,(∀v d,Q v d->g v d)->h c H Q->h c H g)
  (hd:∀ys H,f xs.length ys H->Q H):Dk 1 r (jl K a) (Hs 0) j h c D u Q:=by
 refine⟨λi m ys H=>m=xs.length-i/\i<=xs.length/\f i ys H,⟨xs.length,by simp,ml _,w⟩,?_⟩;rintro i m ys d ⟨rfl,z,p⟩;have s:=A i ys d z p;by_cases o:i<xs.length
 ·refine .inr ⟨⟨xs,xs[i],s,by simp[o]⟩,λx J y=>?_⟩;obtain⟨e,y⟩:=y;subst e;refine⟨⟨[some x],rfl,rfl⟩,?_⟩;refine E _ _ _ _ ?_ (B i x ys _ (y xs s) p);intro b l q;cases b with
  |false=>exact⟨xs.length-(i+1),by omega,rfl,o,q⟩
  |true=>exact C _ _ _ _ (λv n ⟨F,G,I⟩=>⟨F,G,xs.length-(i+1),by omega,rfl,o,I⟩) q
 ·have e:i=xs.length:=by omega
  subst e;exact .inl ⟨⟨xs,s,dr _⟩,hd ys d p⟩
section
variable {κ:Type} [DecidableEq κ]
def Ar(kvs:List (κ×V))(k:κ):Option V:=(kvs.find? λa=>decide (a.1=k)).map (·.2)
def Cf(kvs:List (κ×V))(k:κ)(v:V):List (κ×V):=
 if(kvs.any λa=>decide (a.1=k))=true then kvs.map (λa=>if a.1=k then(a.1,v)else a)else kvs++[(k,v)]
def Bq(kvs:List (κ×V))(k:κ):List (κ×V):=kvs.filter λa=>decide (a.1≠k)
theorem Bu{p:κ×V}{r:List (κ×V)}{k:κ}(e:p.1=k):Ar (p::r) k=some p.2:=by simp[Ar,List.find?_cons,e]
theorem Bt{p:κ×V}{r:List (κ×V)}{k:κ}(e:¬p.1=k):Ar (p::r) k=Ar r k:=by simp[Ar,List.find?_cons,e]
theorem E5(k:κ):∀kvs:List (κ×V),(kvs.any λa=>decide (a.1=k))=(Ar kvs k).isSome
 |[]=>rfl
 |p::r=>by
  rw[List.any_cons];by_cases e:p.1=k
  ·simp only[Bu e,decide_eq_true e,Bool.true_or,Option.isSome_some]
  ·rw[Bt e,decide_eq_false e,Bool.false_or];exact E5 k r
theorem Rv(k j:κ)(y:V):∀kvs:List (κ×V),Ar (kvs.map λa=>if a.1=k then(a.1,y)else a) j=(Ar kvs j).map λx=>if j=k then y else x
 |[]=>rfl
 |p::r=>by
  have b:=Rv k j y r;rw[List.map_cons];by_cases h:p.1=k
  ·rw[if_pos h];by_cases e:p.1=j
   ·rw[Bu (p:=(p.1,y)) e,Bu e,Option.map_some,if_pos (e.symm.trans h)]
   ·rw[Bt (p:=(p.1,y)) e,Bt e,b]
  ·rw[if_neg h];by_cases e:p.1=j
   ·rw[Bu (p:=p) e,Bu e,Option.map_some,if_neg (λz=>h (e.trans z))]
   ·rw[Bt (p:=p) e,Bt e,b]
theorem O8(k j:κ)(y:V):∀kvs:List (κ×V),Ar kvs k=none->Ar (kvs++[(k,y)]) j=if j=k then some y else Ar kvs j
 |[],_=>by
  by_cases e:k=j
  ·rw[if_pos e.symm];exact Bu (p:=(k,y)) e
  ·rw[if_neg (λz=>e z.symm)];exact Bt (p:=(k,y)) e
 |p::r,a=>by
  rw[List.cons_append];have b:¬p.1=k:=λz=>by rw[Bu z]at a;cases a
  rw[Bt b]at a;have c:=O8 k j y r a;by_cases e:p.1=j
  ·rw[Bu e,Bu e,if_neg (λz=>b (e.trans z))]
  ·rw[Bt e,Bt e,c]
theorem Iu(kvs:List (κ×V))(k j:κ)(y:V):Ar (Cf kvs k y) j=if j=k then some y else Ar kvs j:=by
 unfold Cf;by_cases a:(kvs.any λc=>decide (c.1=k))=true
 ·rw[if_pos a,Rv];rw[E5]at a;by_cases e:j=k
  ·obtain⟨x,b⟩:=Option.isSome_iff_exists.mp a;rw[if_pos e,e,b,Option.map_some,if_pos rfl]
  ·rw[if_neg e];cases Ar kvs j with
   |none=>rfl
   |some x=>rw[Option.map_some,if_neg e]
 ·rw[if_neg a];refine O8 k j y kvs ?_;rw[E5]at a;cases q:Ar kvs k with
  |none=>rfl
  |some x=>rw[q]at a;exact(a rfl).elim
theorem Dn(kvs:List (κ×V))(k:κ)(v:V):(Cf kvs k v).length<=kvs.length+1:=by
 unfold Cf;split
 ·rw[List.length_map];omega
 ·rw[List.length_append,List.length_cons,List.length_nil];omega
theorem Ie{kvs:List (κ×V)}{k:κ}(v:V)(h:Ar kvs k=none):Cf kvs k v=kvs++[(k,v)]:=by
 unfold Cf;rw[E5,h];exact if_neg (by decide)
theorem F2.jT(r:F2 o u):o.isSome=u.isSome:=by
 cases o with
 |none=>cases u with
  |none=>rfl
  |some _=>exact(show False from r).elim
 |some _=>cases u with
  |none=>exact(show False from r).elim
  |some _=>rfl
theorem F2.getD(r:F2 o u)(a:Aw d d'):Aw (o.getD d) (u.getD d'):=by
 cases o with
 |none=>cases u with
  |none=>exact a
  |some _=>exact(show False from r).elim
 |some _=>cases u with
  |none=>exact(show False from r).elim
  |some _=>exact r
theorem KV.val{kvs:List (κ×V)}{vs:List (κ×q5)}(r:KV kvs vs)(k:κ):F2 (Ar kvs k) (valueAt vs k):=by
 unfold KV at r
 induction r with
 |nil=>exact True.intro
 |@cons p q i c h t g=>
  obtain⟨d,f⟩:=h;by_cases e:p.1=k
  ·have a:q.1=k:=d.symm.trans e;have b:valueAt (q::c) k=some q.2:=by simp[valueAt,List.find?_cons,a]
   rw[Bu e,b];exact f
  ·have a:¬q.1=k:=λz=>e (d.trans z);have b:valueAt (q::c) k=valueAt c k:=by simp[valueAt,List.find?_cons,a]
   rw[Bt e,b];exact g
theorem KV.any(r:KV kvs vs)(k:κ):(kvs.any λa=>decide (a.1=k))=vs.any λa=>decide (a.1=k):=by
 unfold KV at r
 induction r with
 |nil=>rfl
 |cons h t b=>rw[List.any_cons,List.any_cons,b,h.1]
theorem KV.GA(r:KV kvs vs)(k:κ)(f:Aw y u):
  KV (kvs.map λa=>if a.1=k then(a.1,y)else a) (vs.map λa=>if a.1=k then(a.1,u)else a):=by
 unfold KV at r⊢
 induction r with
 |nil=>exact .nil
 |@cons p q g i h t d=>
  rw[List.map_cons,List.map_cons];refine .cons ?_ d;obtain⟨b,c⟩:=h;by_cases e:p.1=k
  ·rw[if_pos e,if_pos (b.symm.trans e)];exact⟨b,f⟩
  ·rw[if_neg e,if_neg (λz=>e (b.trans z))];exact⟨b,c⟩
theorem KV.put(r:KV kvs vs)(k:κ)(a:Aw y u):KV (Cf kvs k y) (stored vs k u):=by
 unfold Cf stored;rw[r.any k];by_cases e:(vs.any λb=>decide (b.1=k))=true
 ·rw[if_pos e,if_pos e];exact r.GA k a
 ·rw[if_neg e,if_neg e];exact Paired.snoc r ⟨rfl,a⟩
theorem KV.drop(r:KV kvs vs)(k:κ):KV (Bq kvs k) (without vs k):=by
 unfold KV at r⊢;unfold Bq without
 induction r with
 |nil=>exact .nil
 |@cons p q i j h t d=>
  obtain⟨c,g⟩:=h;rw[List.filter_cons,List.filter_cons];by_cases e:p.1=k
  ·have a:¬decide (p.1≠k)=true:=by simp[e]
   have b:¬decide (q.1≠k)=true:=by simp[c.symm.trans e]
   rw[if_neg a,if_neg b];exact d
  ·have f:¬q.1=k:=λz=>e (c.trans z);have a:decide (p.1≠k)=true:=by simp[e]
   have b:decide (q.1≠k)=true:=by simp[f]
   rw[if_pos a,if_pos b];exact .cons ⟨c,g⟩ d
theorem KV.length(r:KV kvs vs):kvs.length=vs.length:=Paired.length r
theorem Qs(kvs:List (κ×V))(k:κ):(Bq kvs k).length<=kvs.length:=List.length_filter_le _ _
end
theorem Qw{k:Dw}(r:Aw (kV k) u):(Dc P w).is k u=true:=by
 cases k with
 |inl i=>obtain⟨t,e⟩:=(show∃t,u=Value.int i t from r);subst e;exact R6 P w i t
 |inr x=>obtain⟨t,e⟩:=(show∃t,u=Value.str x t from r);subst e;exact R7 P w x t
abbrev KT(H:Hp):qs->List ((qQ×Int)×Addr×q5)->Prop:=Paired λp q=>p.1=q.1/\Jt H q.2.1 p.1/\Aw p.2 q.2.2
theorem KT.val{H:Hp}{kvs:qs}{xs:List ((qQ×Int)×Addr×q5)}(r:KT H kvs xs)(k:(qQ×Int)):F2 (Ar kvs k) ((atKey xs k).map (·.2)):=by
 induction r with
 |nil=>exact True.intro
 |@cons p q i c h t g=>
  obtain⟨d,_,f⟩:=h;by_cases e:p.1=k
  ·have a:q.1=k:=d.symm.trans e;have b:atKey (q::c) k=some q.2:=by simp[atKey,List.find?_cons,a]
   rw[Bu e,b];exact f
  ·have a:¬q.1=k:=λz=>e (d.trans z);have b:atKey (q::c) k=atKey c k:=by simp[atKey,List.find?_cons,a]
   rw[Bt e,b];exact g
theorem KT.GA(r:KT H kvs xs)(k:(qQ×Int))(g:Aw y u):
  KT H (kvs.map λb=>if b.1=k then(b.1,y)else b) (xs.map (putAt k u)):=by
 induction r with
 |nil=>exact .nil
 |@cons p q i j h t f=>
  rw[List.map_cons,List.map_cons];refine .cons ?_ f;obtain⟨a,c,d⟩:=h;unfold putAt;by_cases e:p.1=k
  ·rw[if_pos e,if_pos (a.symm.trans e)];exact⟨a,c,g⟩
  ·rw[if_neg e,if_neg (λz=>e (a.trans z))];exact⟨a,c,d⟩
theorem KT.put(r:KT H kvs xs)(k:(qQ×Int))(c:Jt H b k)(a:Aw y u):
  KT H (Cf kvs k y) (storedH xs k b u):=by
 have e:(kvs.any λd=>decide (d.1=k))=(atKey xs k).isSome:=by
  rw[E5,(r.val k).jT,Option.isSome_map]
 unfold Cf storedH;rw[e];by_cases q:(atKey xs k).isSome=true
 ·rw[if_pos q,if_pos q];exact r.GA k a
 ·rw[if_neg q,if_neg q];exact Paired.snoc r ⟨rfl,c,a⟩
theorem KT.keeps(r:KT H kvs xs)(c:∀b ys,H b=some (.tup ys)->a b=some (.tup ys)):KT a kvs xs:=
 Paired.ME r λ_ _ z=>⟨z.1,z.2.1.up c,z.2.2⟩
section
variable {P:q7}{w:ro}{H:Hp}{h:Heap}{a:Addr}
theorem j4(ok:Fj P w H h)(e:Rd H a u):B8 P w H h a u:=e.ok ok
theorem Ld(ok:Fj P w H h)(e:Rd H a (.dK kvs)):kvs.length<=sizeLine/\(a==sysModules)=false/\∃vs,KV kvs vs/\h.DictOf (Dc P w) a vs:=
 show B8 P w H h a (.dK kvs)from j4 ok e
theorem ir(ok:Fj P w H h)(e:H a=some (.dK kvs)):kvs.length<=sizeLine/\(a==sysModules)=false/\∃vs,KV kvs vs/\h.DictOf (Dc P w) a vs:=Ld ok (.inl e)
theorem Qv:∀{b:qQ}{us:List q5},As (b.map V.int) us->ItemsAre (intKind P w) b us
 |[],us,r=>by
  cases r;exact .nil
 |k::b,us,r=>by
  cases r with
  |cons h t=>
   obtain⟨c,rfl⟩:=h;exact .cons (by simp[intKind,Value.isInt]) (Qv t)
theorem E4{P:q7}{w:ro}{A:rd}(b:A.units+20<cLine):(Cz P w).room A.in1:=by
 first|(show A.units+1+8<cLine;omega)|(show A.units+8<cLine;omega)
theorem Je(ok:Fj P w H h)(e:Jt H a b):(Cz P w).is h b a:=by
 obtain⟨u,d,f⟩:=e;obtain⟨_,A,r,o,l,p,n,q⟩:=(show B8 P w H h a (.tup [.ref u,.int b.2])from ok a _ d);obtain⟨_,s,y,v,g,i,m,j⟩:=(show B8 P w H h u (.tup (b.1.map V.int))from ok u _ f);cases r with
 |cons x c=>
  cases c with
  |cons z c=>
   cases c;cases(show _=Value.ref u from x);obtain⟨t,rfl⟩:=z;exact⟨o,n,u,t,l,p,q,v,s.toArray,m,g,i,j,by simpa using Qv y⟩
theorem Nl(ok:Fj P w H h)(e:Rd H a (.dT kvs)):kvs.length<=sizeLine/\(a==sysModules)=false/\
  ∃xs,KT H kvs xs/\h.DictOfH (Cz P w) a xs:=by
 obtain⟨z,y,xs,r,o,f,d,g,i,j,n,s⟩:=(show B8 P w H h a (.dT kvs)from j4 ok e);refine⟨z,y,xs,r,o,f,d,g,i,j,n,λx b=>?_,s⟩
 have all:∀{l:qs}{m:List ((qQ×Int)×Addr×q5)},KT H l m->∀x∈m,(Cz P w).is h x.1 x.2.1:=by
  intro l m q
  induction q with
  |nil=>intro x b;exact nomatch b
  |@cons p q v A c t u=>
   intro x b;rcases eu.mp b with e|b
   ·subst e;exact Je ok (by rw[<- c.1];exact c.2.1)
   ·exact u x b
 exact all r x b
theorem iu(ok:Fj P w H h)(e:H a=some (.dT kvs)):kvs.length<=sizeLine/\(a==sysModules)=false/\
  ∃xs,KT H kvs xs/\h.DictOfH (Cz P w) a xs:=Nl ok (.inl e)
end
def Fn(H:Hp)(a:Addr)(y:V)(r:Option V):Prop:=
 (∃c k,Rd H a (.dK c)/\y=kV k/\r=Ar c k)\/∃c k b,Rd H a (.dT c)/\y=.ref b/\Jt H b k/\r=Ar c k
def Vc(H:Hp)(a:Addr)(y v:V)(d:Hp):Prop:=
 (∃c k,H a=some (.dK c)/\y=kV k/\c.length<sizeLine/\d=upd H a (.dK (Cf c k v)))\/
 ∃c k b,H a=some (.dT c)/\y=.ref b/\Jt H b k/\c.length<sizeLine/\d=upd H a (.dT (Cf c k v))
theorem Fn.k{H:Hp}{a:Addr}{kvs:List (Dw×V)}{k:Dw}(e:H a=some (.dK kvs)):Fn H a (kV k) (Ar kvs k):=.inl ⟨kvs,k,.inl e,rfl,rfl⟩
theorem Fn.t{H:Hp}{a b:Addr}{kvs:qs}{k:(qQ×Int)}(e:H a=some (.dT kvs))(c:Jt H b k):Fn H a (.ref b) (Ar kvs k):=.inr ⟨kvs,k,b,.inl e,rfl,c,rfl⟩
theorem Vc.t{H:Hp}{a b:Addr}{kvs:qs}{k:(qQ×Int)}{v:V}(e:H a=some (.dT kvs))(c:Jt H b k)(d:kvs.length<sizeLine):
  Vc H a (.ref b) v (upd H a (.dT (Cf kvs k v))):=.inr ⟨kvs,k,b,e,rfl,c,d,rfl⟩
section
variable {X:Cx}{pins:List (Addr×Obj)}{σ:St}{H:Hp}{s:q4}{a:Addr}{y v:V}{u r:q5}{o:Option V}{A:rd}{E:pP}
theorem Ak.big(I:Ak X pins σ H s):sysModules<s.heap.objs.size:=by
 have h:mainGlobals<s.heap.objs.size:=(I.mod.glob.keeps I.bk).lt;exact Nat.lt_trans (by decide) h
theorem Vu(D:A.units+20<cLine)(I:Ak X pins σ H s)(g:Fn H a y (some v))(q:Aw y u)(h:∀d s',Ak X pins σ H s'->Aw v d->Q d s'):
  wpAny (model X.prog X.w) A (getItem (.ref a) u) Q E s:=by
 rcases g with⟨m,k,e,i,l⟩|⟨m,k,b,e,i,x,l⟩
 ·subst i;obtain⟨z,B,F,c,f⟩:=Ld I.aP e;obtain⟨d,j,n⟩:=F2.some_of (v:=v) (o:=valueAt F k) (by rw[l];exact c.val k);exact wpAny_getItem_of (Qw q) f.mapOf j (h d _ (I.tok _) n)
 ·subst i;cases(show u=Value.ref b from q);obtain⟨z,B,G,c,f⟩:=Nl I.aP e;obtain⟨d,j,n⟩:=F2.some_of (v:=v) (o:=(atKey G k).map (·.2)) (by rw[l];exact c.val k);obtain⟨p,C,w⟩:=d0.mp j;refine wpAny_getItem_heap (E4 D) (Je I.aP x) f C ?_;rw[w];exact h d _ (I.tok _) n
theorem xq(p:A.units+20<cLine)(I:Ak X pins σ H s)(g:Fn H a y o)(m:Aw y u)(h:∀s',Ak X pins σ H s'->Q (.bool o.isSome) s'):
  wpAny (model X.prog X.w) A (compareOp .In u (.ref a)) Q E s:=by
 rcases g with⟨j,k,e,f,l⟩|⟨j,k,b,e,f,n,l⟩
 ·subst f;obtain⟨z,i,w,c,d⟩:=Ld I.aP e;refine wpAny_in_of (Qw m) i d.mapOf ?_;rw[<- (c.val k).jT,<- l];exact h _ (I.tok _)
 ·subst f;cases(show u=Value.ref b from m);obtain⟨z,i,x,c,d⟩:=Nl I.aP e;refine wpAny_in_heap (E4 p) (Je I.aP n) i d ?_;have q:=(c.val k).jT;rw[Option.isSome_map]at q;rw[<- q,<- l];exact h _ (I.tok _)
theorem Kl{t':Nat}(I:Ak X pins σ H s)(f:rl (H a))(e:Heap.SameBut a s.heap h')(he:∃q,h'.get? a=some q)(new:B8 X.prog X.w (upd H a c) h' a c):
  Ak X pins σ (upd H a c) {s with heap:=h',toks:=t'}:=
 I.write (x:=a) (e:=a) f (.inl rfl) (λb q d z=>(e.2 b d).trans z) he new
theorem Xy(z:kvs.length<=sizeLine)(hd:(a==sysModules)=false)(b:KV kvs vs)(dd:h'.DictOf (Dc P w) a vs):
  B8 P w c h' a (.dK kvs):=⟨z,hd,vs,b,dd⟩
theorem Vv(T:A.units+20<cLine)(I:Ak X pins σ H s)(g:Vc H a y v D)(K:Aw y u)(rv:Aw v r)(h:∀s',Ak X pins σ D s'->Q () s'):
  wpAny (model X.prog X.w) A (setItem (.ref a) u r) Q E s:=by
 rcases g with⟨d,k,e,p,l,n⟩|⟨d,k,b,e,p,F,l,n⟩
 ·subst p n;obtain⟨z,w,U,f,m⟩:=ir I.aP e;have C:U.length<=sizeLine:=by rw[<- f.length];exact z
  have x:(Cf d k v).length<=sizeLine:=by have:=Dn d k v;omega
  refine wpAny_setItem_pairs (hsz:=C) (Qw K) m λJ j B=>h _ ?_;have S:∃q,J.get? a=some q:=let⟨q,_,_,i,_⟩:=j;⟨q,i⟩;exact Kl I (by rw[e];exact True.intro) B S (Xy x w (f.put k rv) j)
 ·subst p n;cases(show u=Value.ref b from K);obtain⟨z,w,Y,f,m⟩:=iu I.aP e;have C:Y.length<=sizeLine:=by rw[<- Paired.length f];exact z
  have x:(Cf d k v).length<=sizeLine:=by have:=Dn d k v;omega
  refine wpAny_setItem_heap (hsz:=C) (E4 T) (Je I.aP F) m λJ j B=>h _ ?_;obtain⟨q,M,L,i,N,O,P,_,R⟩:=j;refine Kl I (by rw[e];exact True.intro) B ⟨q,i⟩ ⟨x,w,_,(f.put k F rv).keeps λc Z G=>?_,q,M,L,i,N,O,P,R⟩;rw[A9 (Bj G e (λz=>nomatch z))];exact G
end
section
variable {X:Cx}{pins:List (Addr×Obj)}{σ:St}{H:Hp}{s:q4}{a:Addr}{kvs:List (Dw×V)}{k:Dw}{u:q5}{A:rd}{E:pP}
theorem sk{more:List q5}(I:Ak X pins σ H s)(e:H a=some (.dK kvs))(d:Aw (kV k) u)(l:Ar kvs k=some v)(g:more=[]\/∃x,more=[x])
  (h:∀c s',Ak X pins σ (upd H a (.dK (Bq kvs k))) s'->Aw v c->Q c s'):wpAny (model X.prog X.w) A (call (.builtin "dict.pop") (.ref a::u::more)) Q E s:=by
 obtain⟨z,p,j,b,f⟩:=ir I.aP e;obtain⟨c,C,D⟩:=F2.some_of (v:=v) (o:=valueAt j k) (by rw[<- l];exact b.val k)
 have w:(keyPart u).isSome=true:=by
  cases k with
  |inl i=>obtain⟨t,q⟩:=(show∃t,u=Value.int i t from d);subst q;rfl
  |inr x=>obtain⟨t,q⟩:=(show∃t,u=Value.str x t from d);subst q;rfl
 have o:argsOk "dict.pop" ⟨.ref a::u::more,[]⟩:=by
  rcases g with q|⟨x,q⟩
  ·subst q;exact PySem.F.args_dict_pop_2 _ _
  ·subst q;exact PySem.F.args_dict_pop_3 _ _ _
 refine call_meetsIn PySem.F.slot_dict_pop f.typeIs PySem.F.entry_dict_pop o (meets_dict_pop_there (Dc X.prog X.w) a (Qw d) more g w)
  ⟨j,c,f,by rw[<- b.length];exact z,C,λn m B=>h c _ ?_ D⟩
 have r:∃q,n.get? a=some q:=let⟨q,_,_,y,_⟩:=m;⟨q,y⟩;exact Kl I (by rw[e];exact True.intro) B r (Xy (en (Qs kvs k) z) p (b.drop k) m)
end
def rm(i:Expr):Prop:=∀b a,subscripted i false b a=operate [b,a] (getItem b a)
theorem i9{prog:q7}{w:ro}{A:rd}{E:pP}{s:q4}{env:Env}{b a:Expr}{pos:Pos}{T id:String}{Q:pP}
  (n:typeLookup (.type T) "__getitem__"=pure (some (.builtin id)))(p:rm a)
  (h:wpAny (model prog w) A (eval b env) (λo e=>wpAny (model prog w) A (eval a env) (λi c=>c.TypeIs o T/\wpAny (model prog w) A (getItem o i) Q E c) E e) E s):
  wpAny (model prog w) A (eval (.Subscript b a pos) env) Q E s:=by
 refine Subscript_ (hH h (λo e j=>hH j (λi c d=>?_) λ_ _ x=>x) λ_ _ x=>x);obtain⟨m,d⟩:=d;unfold subscriptTail;refine aN ?_;rw[getitemInPython_of_ne m.not_modules];refine aN (wpAny_specialOf m n ?_)
 have g:wpAny (model prog w) A (subscripted a false o i) (λr f=>wpAny (model prog w) A (letTemporaryGo b o r>>=λ_=>pure r) Q E f) E c:=by
  rw[p o i];exact wpAny_operating (hH d (λr f l=>aN (wpAny_letTemporaryGo (a6 l))) λ_ _ x=>x)
 first
  |exact a6 (aN g)
  |exact aN (a6 (aN g))
  |exact aN g
theorem Qo(I:Ak X c h H s)(g:Fn H a y o):s.TypeIs (.ref a) "dict":=by
 rcases g with⟨f,k,e,_,_⟩|⟨f,k,b,e,_,_,_⟩
 ·obtain⟨_,_,i,_,d⟩:=Ld I.aP e;exact d.typeIs
 ·obtain⟨_,_,j,_,d⟩:=Nl I.aP e;exact d.typeIs
def vp(e ty:TE):TE:=λc H Q=>e c H λx d=>ty c d λy b=>∃a v,x=.ref a/\Fn b a y (some v)/\Q v b
def yb(ty e:TE):TE:=λc H Q=>ty c H λy d=>e c d λx b=>∃a o,x=.ref a/\Fn b a y o/\Q (.bl o.isSome) b
def v8(g ty h:TE):TS:=λD b H=>h b H λv d=>g b d λx e=>ty b e λy f=>∃a c,x=.ref a/\Vc f a y v c/\D.nx b c
section
variable {X:Cx}{o i e value:Expr}{pos pos' vX:Pos}{td ty tv:TE}
theorem Uo(w:X.A.units+20<cLine)(q:PE X o td)(hi:PE X i ty)(r:rm i):PE X (.Subscript o i pos) (vp td ty):=by
 intro b s d H Q I h;refine i9 PySem.F.slot_dict_getitem.lookup r (Bh (q b s d H _ I h) λu E ⟨x,f,l,C,A⟩=>Bh (hi b E d f _ l A) λF G n=>?_);obtain⟨y,j,c,D,a,v,p,g,B⟩:=n;subst p;obtain rfl:u=Value.ref a:=C;exact⟨Qo c g,Vu w c g D λK J m z=>⟨v,j,m,z,B⟩⟩
theorem Z1(r:X.A.units+20<cLine)(hi:PE X i ty)(q:PE X o td):PC X .In i o (yb ty td):=by
 intro b s c H Q I h;refine Bh (hi b s c H _ I h) λD C ⟨y,d,j,B,w⟩=>Bh (q b C c d _ j w) λu E n=>?_;obtain⟨x,f,l,A,a,v,p,g,z⟩:=n;subst p;obtain rfl:u=Value.ref a:=A;exact xq r l g B λF m=>⟨.bl v.isSome,f,m,rfl,z⟩
theorem Pf(A:X.A.units+20<cLine)(w:PE X o td)(hi:PE X i ty)(B:PE X value tv)(z:swapsWith value (some (.Subscript o i pos')) pos.line X.env=pure false):
  PS X (.Assign [.Subscript o i pos'] value pos) (v8 td ty tv):=by
 intro b s c H D I h;refine wpAny_Assign_Subscript (Bh (B b s c H _ I h) λr K ⟨v,d,l,rv,C⟩=>Bh (w b K c d _ l C) λu L ⟨x,f,m,G,E⟩=>Bh (hi b L c f _ m E) λN O ⟨y,M,n,J,a,j,q,g,F⟩=>?_) z;subst q;obtain rfl:u=Value.ref a:=G;exact Vv A n g J rv λP p=>⟨c,j,p,F⟩
end
theorem Xx(h:Heap)(a:sysModules<h.objs.size):B8 P w H (h.push {cls:=.type "dict",data:=.dict #[] }) h.objs.size (.dK []):=
 ⟨ml _,beq_eq_false_iff_ne.mpr (Ne.symm (eI a)),[],.nil,Heap.DictOf.new h⟩
theorem Xz(h:Heap)(a:sysModules<h.objs.size):B8 P w H (h.push {cls:=.type "dict",data:=.dict #[] }) h.objs.size (.dT []):=
 ⟨ml _,beq_eq_false_iff_ne.mpr (Ne.symm (eI a)),[],.nil,_,#[],0,c4 _ rfl,⟨rfl,rfl,rfl⟩,rfl,rfl,List.nodup_nil⟩
def qd:TE:=λ_ H Q=>∀p,H p=none->Q (.ref p) (upd H p (.dK []))
def qe:TE:=λ_ H Q=>∀p,H p=none->Q (.ref p) (upd H p (.dT []))
section
variable {X:Cx}{pos:Pos}
theorem Z3:PE X (.Dict [] [] pos) qd:=λa s b H Q I h=>
 wpAny_Dict_empty ⟨.ref s.heap.objs.size,_,I.laid (a:=s.heap.objs.size) (o:=.dK []) (t':=s.toks) (λ_ _ q=>bD _ q) (dr _) (Xx s.heap I.big),rfl,h _ (I.aP.fresh (dr _))⟩
theorem Ib:PE X (.Dict [] [] pos) qe:=λa s b H Q I h=>
 wpAny_Dict_empty ⟨.ref s.heap.objs.size,_,I.laid (a:=s.heap.objs.size) (o:=.dT []) (t':=s.toks) (λ_ _ q=>bD _ q) (dr _) (Xz s.heap I.big),rfl,h _ (I.aP.fresh (dr _))⟩
end
structure M1(X:Cx)(o:Expr)(m:Str)(apos:Pos)(e:Expr)(bQ:Pos):Prop where
 base:attributeBase o m X.env (eval o X.env)=eval o X.env
 qB:((backTo bQ (starEach [e] X.env)).all (λx=>!x.1)&&(backToKw bQ (keywordEach [] X.env)).all (λx=>x.1.isSome)
  &&decide (([e]:List Expr).length+([]:List Keyword).length+(if([]:List Keyword).isEmpty then 0 else 1)<30))=true
 line:(apos.endLine==bQ.line)=true
 trees:backTo bQ (starEach [e] X.env)=[(false,eval e X.env)]
structure M2(X:Cx)(o:Expr)(m:Str)(apos:Pos)(e f:Expr)(bQ:Pos):Prop where
 base:attributeBase o m X.env (eval o X.env)=eval o X.env
 qB:((backTo bQ (starEach [e,f] X.env)).all (λx=>!x.1)&&(backToKw bQ (keywordEach [] X.env)).all (λx=>x.1.isSome)
  &&decide (([e,f]:List Expr).length+([]:List Keyword).length+(if([]:List Keyword).isEmpty then 0 else 1)<30))=true
 line:(apos.endLine==bQ.line)=true
 trees:backTo bQ (starEach [e,f] X.env)=[(false,eval e X.env),(false,eval f X.env)]
def we(H:Hp)(a:Addr):Prop:=(∃b,Rd H a (.dK b))\/∃b,Rd H a (.dT b)
theorem Sc(I:Ak X g m H s)(d:we H a):
  s.TypeIs (.ref a) "dict"/\(∀b,Value.ref a=.ref b->∃c,s.heap.get? b=some c/\c.dict=none)/\(a==sysModules)=false:=by
 rcases d with⟨l,e⟩|⟨l,e⟩
 ·obtain⟨_,j,n,_,f⟩:=Ld I.aP e;refine⟨f.typeIs,λb q=>?_,j⟩;cases q;obtain⟨c,_,_,h,i,_⟩:=f;exact⟨c,h,i.2.1⟩
 ·obtain⟨_,j,o,_,f⟩:=Nl I.aP e;refine⟨f.typeIs,λb q=>?_,j⟩;cases q;obtain⟨c,_,_,h,i,_⟩:=f;exact⟨c,h,i.2.1⟩
section
variable {X:Cx}{pins:List (Addr×Obj)}{σ:St}{H:Hp}{s:q4}{a:Addr}{y d:V}{u r:q5}{o:Option V}{A:rd}{E:pP}
theorem js(w:A.units+20<cLine)(I:Ak X pins σ H s)(g:Fn H a y o)(p:Aw y u)(n:Aw d r)(h:∀q s',Ak X pins σ H s'->Aw (o.getD d) q->Q q s'):
  wpAny (model X.prog X.w) A (call (.builtin "dict.get") [.ref a,u,r]) Q E s:=by
 rcases g with⟨m,k,e,i,l⟩|⟨m,k,b,e,i,v,l⟩
 ·subst i;obtain⟨z,j,B,c,f⟩:=Ld I.aP e;refine call_meetsIn PySem.F.slot_dict_get f.typeIs PySem.F.entry_dict_get (PySem.F.args_dict_get_3 _ _ _) (meets_dict_get_default (Dc X.prog X.w) a (Qw p) j r) ⟨_,f.mapOf,h _ _ (I.tok _) ?_⟩;rw[l];exact(c.val k).getD n
 ·subst i;cases(show u=Value.ref b from p);obtain⟨z,j,x,c,f⟩:=Nl I.aP e;refine call_meetsIn PySem.F.slot_dict_get f.typeIs PySem.F.entry_dict_get (PySem.F.args_dict_get_3 _ _ _) (meetsH_dict_get_default (Cz X.prog X.w) a b j r) ⟨E4 w,k,x,Je I.aP v,f,h _ _ (I.tok _) ?_⟩;rw[l];exact(c.val k).getD n
end
def qc(f ty g:TE):TE:=λb H Q=>f b H λx c=>∃a,x=.ref a/\we c a/\ty b c λy e=>g b e λz d=>∃o,Fn d a y o/\Q (o.getD z) d
def qf(f ty:TE):TE:=λe H Q=>f e H λx c=>∃a,x=.ref a/\we c a/\ty e c λy d=>∃b k v,d a=some (.dK b)/\y=kV k/\Ar b k=some v/\Q v (upd d a (.dK (Bq b k)))
section
variable {X:Cx}{o e f:Expr}{apos bQ:Pos}{td ty tx:TE}
theorem Z2(C:X.A.units+20<cLine)(B:PE X o td)(he:PE X e ty)(A:PE X f tx)(m:M2 X o "get" apos e f bQ):PE X (.Call (.Attribute o "get" apos) [e,f] [] bQ) (qc td ty tx):=by
 intro b s c H Q I h;refine wpAny_Call_method m.base m.qB m.line PySem.F.plainAttrs_dict PySem.F.slot_dict_get PySem.F.type_dict_get (Bh (B b s c H _ I h) λu M v=>?_);obtain⟨x,j,i,J,a,w,d,E⟩:=v;subst w;obtain rfl:u=Value.ref a:=J;obtain⟨O,P,_⟩:=Sc i d;refine⟨O,P,?_⟩;rw[m.trees]
 refine Calls.callWith_builtin rfl (Calls.evalArgs_plain (Calls.spliced_cons (Bh (he b M c j _ i E) λS N ⟨y,l,p,K,F⟩=>
  Calls.spliced_cons (Bh (A b N c l _ p F) λR U ⟨z,n,q,L,T,g,G⟩=>Calls.spliced_nil ?_))))
 exact js C q g K L λZ Y r D=>⟨_,n,r,D,G⟩
theorem Z4(z:PE X o td)(he:PE X e ty)(m:M1 X o "pop" apos e bQ):PE X (.Call (.Attribute o "pop" apos) [e] [] bQ) (qf td ty):=by
 intro b s g H Q I h;refine wpAny_Call_method m.base m.qB m.line PySem.F.plainAttrs_dict PySem.F.slot_dict_pop PySem.F.type_dict_pop (Bh (z b s g H _ I h) λu G p=>?_);obtain⟨x,i,c,E,a,r,d,C⟩:=p;subst r;obtain rfl:u=Value.ref a:=E;obtain⟨J,K,_⟩:=Sc c d;refine⟨J,K,?_⟩;rw[m.trees];refine Calls.callWith_builtin rfl (Calls.evalArgs_plain (Calls.spliced_cons (Bh (he b G g i _ c C) λM N ⟨y,L,j,F,A,k,v,q,w,l,D⟩=>Calls.spliced_nil ?_)));subst w;exact sk j q F l (.inl rfl) λP O n B=>⟨v,_,n,B,D⟩
end
section
variable {κ:Type} [DecidableEq κ]
theorem Rx{kvs:List (κ×V)}{k:κ}(h:Ar kvs k=none):¬k∈kvs.map (·.1):=by
 intro m;obtain⟨p,a,e⟩:=fe.mp m;have q:(kvs.any λb=>decide (b.1=k))=true:=List.any_eq_true.mpr ⟨p,a,decide_eq_true e⟩;rw[E5,h]at q;exact absurd q (by simp)
theorem W5{p:κ×V}{r:List (κ×V)}{k:κ}(e:p.1=k):Bq (p::r) k=Bq r k:=by
 unfold Bq;rw[List.filter_cons,if_neg (by simp[e])]
end
section
variable {P:q7}{w:ro}{A:rd}{E:pP}{s:q4}
theorem Z0{ok g a val:q5}(f:IsItemIter s.heap it d i n ep ok g)
  (K:∀h',IsItemIterOut h' it d i n ep a val s.heap.objs.size->h'.get? s.heap.objs.size=some {cls:=.type "tuple",data:=.seq #[a,val] }->(∀b o,b≠it->s.heap.get? b=some o->h'.get? b=some o)->Q (.ref s.heap.objs.size) {s with heap:=h'}):
  wpAny (model P w) A (Builtin.Dict_items.pairFromOwner (.ref it) 6 a val) Q E s:=by
 unfold Builtin.Dict_items.pairFromOwner;refine aN (wpAny_newTuple ?_);have y:it<s.heap.objs.size:=dI f;have e:IsItemIter (s.heap.push {cls:=.type "tuple",data:=.seq #[a,val] }) it d i n ep ok g:=bD _ f;have m:(s.heap.push {cls:=.type "tuple",data:=.seq #[a,val] }).get? s.heap.objs.size=some {cls:=.type "tuple",data:=.seq #[a,val] }:=c4 _ rfl;have p:∀b o,s.heap.get? b=some o->(s.heap.push {cls:=.type "tuple",data:=.seq #[a,val] }).get? b=some o:=λb o z=>bD _ z;show wpAny (model P w) A (Builtin.Dict_items.ownedTupleIsFree (.ref it)>>=_) Q E {s with heap:=s.heap.push {cls:=.type "tuple",data:=.seq #[a,val] } };generalize s.heap.push {cls:=.type "tuple",data:=.seq #[a,val] }=G at e m p⊢;unfold Builtin.Dict_items.ownedTupleIsFree;refine aN (aN (wpAny_field e rfl (x:=.none) rfl (a6 ?_)));simp only[if_true];refine aN (wpAny_field e rfl (x:=ok) rfl (aN (wpAny_field e rfl (x:=g) rfl ?_)));refine aN (wpAny_setField_rec e (by simp) λH r B=>aN ?_);have h:IsItemIter H it d i n ep a g:=r;refine wpAny_setField_rec h (by simp) λI u C=>aN ?_;have j:IsItemIter I it d i n ep a val:=u;refine wpAny_setField_rec j (by simp) λJ v D=>aN ?_;have l:IsItemIterOut J it d i n ep a val s.heap.objs.size:=v;refine wpAny_setField_rec l (by simp) λq x F=>aN (wpAny_letGo (a6 ?_));have up:∀b o,b≠it->G.get? b=some o->q.get? b=some o:=λb o c z=>F.extBut b o c (D.extBut b o c (C.extBut b o c (B.extBut b o c z)));exact K q x (up _ _ (Nat.ne_of_gt y) m) λb o c z=>up b o c (p b o z)
theorem Xw{ok u:q5}(a:IsItemIter s.heap it d i es.size ep ok u)(m:s.heap.get? d=some o)(v:o.data=.dict es ep)
  (he:es[i]?=some f)
  (C:∀h',IsItemIterOut h' it d (i+1) es.size ep f.key f.val s.heap.objs.size->h'.get? s.heap.objs.size=some {cls:=.type "tuple",data:=.seq #[f.key,f.val] }->(∀b o,b≠it->s.heap.get? b=some o->h'.get? b=some o)->Q (some (.ref s.heap.objs.size)) {s with heap:=h'}):
  wpAny (model P w) A (pyNext (.ref it)) Q E s:=by
 have h:s.TypeIs (.ref it) "dict_itemiterator":=⟨_,a,rfl⟩;have l:Builtin.Dict_items.ownsTuple "dict_itemiterator"=true:=by decide
 unfold pyNext;refine aN (ov (oe (name:=Str.ofString "__next__") h F.slot_dict_itemiterator_next (g0 F.slot_dict_itemiterator_next h F.entry_dict_itemiterator_next ?_ (F.args_dict_itemiterator_next_1 _))));refine aN (a6 (aN (aN (aN (wpAny_typeNameOfWhole_itemiter h (a6 (aN (wpAny_fieldsOf a rfl ?_))))))));simp only[l,if_true];show wpAny _ _ (if(Value.ref d==Value.none)=true then _ else _) _ _ s;rw[if_neg (show¬(Value.ref d==Value.none)=true from Bool.false_ne_true)];refine aN (a6 (aN (wpAny_dictEntries m v ?_)));rw[if_neg (show¬((es.size:Int) != (es.size:Int))=true by simp)];refine aN (a6 (aN (wpAny_dictEpoch m v ?_)));rw[if_neg (show¬((ep:Int) != (ep:Int))=true by simp)];refine a6 ?_;simp only[show¬((i:Int)<0)by omega,if_false,Int.toNat_natCast,he];refine aN (aN (wpAny_typeNameOfWhole_itemiter h (a6 (aN (wpAny_isOneOf_itemiter h ?_)))));show wpAny _ _ (setField (.ref it) 3 (rawInt ((i:Int)+1))>>=_) _ _ s;refine aN (wpAny_setField_rec a (by simp) λg x n=>?_)
 have c:IsItemIter g it d (i+1) es.size ep ok u:=by
  have e:((i+1:Nat):Int)=(i:Int)+1:=by omega
  unfold IsItemIter;rw[e];simpa[rawInt]using x
 have j:Shared.TypeIs {s with heap:=g} (.ref it) "dict_itemiterator":=⟨_,c,rfl⟩;refine aN (fC (aN (wpAny_isOneOf_itemiter j (aN (wpAny_isOneOf_itemiter j ?_)))));have D:g.objs.size=s.heap.objs.size:=n.1;refine Z0 (s:={s with heap:=g}) c λB p q y=>?_;rw[show(Shared.heap {s with heap:=g}).objs.size=s.heap.objs.size from D]at p q⊢;exact a6 ⟨_,rfl,a6 (C B p q λb o r z=>y b o r (n.extBut b o r z))⟩
end
theorem F8:Mv "str" "str"=some true:=by decide+kernel
theorem R0:Mv "NoneType" "str"=some false:=by decide+kernel
theorem i8{a:List Str}{us:List q5}(h:As (a.map V.str) us):∃l:List (Str×Tok),l.map (·.1)=a/\strValues l=us:=by
 induction a generalizing us with
 |nil=>
  cases h;exact⟨[],rfl,rfl⟩
 |cons z a d=>
  cases h with
  |cons r t=>
   obtain⟨e,rfl⟩:=r;obtain⟨l,b,c⟩:=d t;exact⟨(z,e)::l,by simp[b],by simp[strValues,<- c]⟩
theorem fo{a:Str}{b:List Str}(d:b.length<=500)(hz:∀z∈b,z.length<=30000)(e:a.length<=500):JoinOk a b=true:=by
 refine joinOk_of ?_;have c:=sumLen_le_of_bound (λz:Str=>z) 30000 b hz;have f:b.length*a.length<=500*500:=Nat.mul_le_mul d e;rw[List.map_id']at c;omega
section
variable {X:Cx}
def ut(K:W.Frag):V->List V->Hp->VK->Prop:=λx d H Q=>∃(b:Str) (a:Addr) (c:List Str),x=.str b/\d=[.ref a]/\Ao K H a (c.map V.str)/\c.length<=500/\(∀z∈c,z.length<=30000)/\b.length<=500/\Q (.str (Txt.join b c)) H
theorem P4(K:W.Frag)(j:X.K=K:=by rfl):qw X "str.join" (ut K):=by
 subst j;intro f s G H x D v C Q I z rv h;obtain⟨c,a,E,rfl,rfl,n,m,p,o,q⟩:=h;obtain⟨t,rfl⟩:=z;obtain⟨u,rfl,y⟩:=rv.one;cases y;obtain⟨A,r,w,_⟩:=I.list n;obtain⟨l,g,i⟩:=i8 r;have d:=fo m p o;rw[<- g]at d q;have b:=d;unfold JoinOk at b;rw[Bool.not_eq_true']at b;have e:=w.isList;rw[<- i]at e;exact call_meets F.slot_str_join (typeIs_str _ _ _) F.entry_str_join (F.args_str_join_2 _ _) (meets_str_join_list c t a l b) ⟨e,post_join l ⟨joinFit_length b,λB k=>⟨.str _,H,I.tok _,⟨_,rfl⟩,q⟩⟩⟩
end
section
variable {X:Cx}{pins:List (Addr×Obj)}{σ:St}{H:Hp}{s:q4}{k:Nat}
theorem Ge(I:Ak X pins σ H s){d:rr}{v:V}{u:q5}(h:Rp H d v)(r:Aw v u):∃as,Reads s.heap u d as:=Ih I d v u h r
noncomputable def Hx(h:Heap)(d:rr)(w:q5):Bool:=open Classical in if z:∃e a,Reads h w e a/\e.canLay0=true then PyData.eqv z.choose d else false
theorem Lo{h:Heap}{d e:rr}{w:q5}{as:List Addr}(r:Reads h w e as)(a:e.canLay0=true):Hx h d w=PyData.eqv e d:=by
 have z:∃e as,Reads h w e as/\e.canLay0=true:=⟨e,as,r,a⟩;unfold Hx;rw[dif_pos z];obtain⟨bs,b,c⟩:=z.choose_spec;rw[(PySem.SeqAt.Reads.unique e _ w as bs a r b)]
theorem Qb(I:Ak X pins σ H s){d:rr}:∀{a:List rr}{vs:List V}{us:List q5},aR H a vs->As vs us->us.any (Hx s.heap d)=a.any λe=>PyData.eqv e d
 |[],vs,us,h,r=>by
  unfold aR at h;subst h;cases r;rfl
 |e::a,vs,us,h,r=>by
  unfold aR at h;obtain⟨x,j,rfl,b,c⟩:=h;cases r with
  |cons f g=>
   obtain⟨i,q⟩:=Ge I b f;rw[List.any_cons,List.any_cons,Lo q (Fz e x b),Qb I c g]
theorem Lp(I:Ak X pins σ H s){A:rd}{d:rr}{x:V}{v:q5}(c:Rp H d x)(g:Aw x v)(j:A.units+d.depth<cLine):∀{f:List rr}{vs:List V}{us:List q5},aR H f vs->As vs us->∀w∈us,SeqAt.EqAt A s w v (Hx s.heap d w)
 |[],vs,us,h,r,w,b=>by
  unfold aR at h;subst h;cases r;cases b
 |e::f,vs,us,h,r,w,b=>by
  unfold aR at h;obtain⟨y,p,rfl,a,i⟩:=h;cases r with
  |cons m n=>
   rcases eu.mp b with z|z
   ·subst z;obtain⟨o,q⟩:=Ge I a m;obtain⟨bs,l⟩:=Ge I c g;rw[Lo q (Fz e y a)];exact PySem.SeqAt.eqAt_reads e d A s _ _ _ _ q l (Fz e y a) (Fz d x c) (by omega)
   ·exact Lp I c g j i n w z
end
section
variable {X:Cx}{k:Nat}
def xy(K:W.Frag)(b:Bool):R2:=λx y H Q=>∃(p:Addr) (c:List V) (d:rr) (a:List rr),y=.ref p/\Ao K H p c/\Rp H d x/\aR H a c/\d.depth<=50/\Q (.bl (if b then !(a.any λe=>PyData.eqv e d)else a.any λe=>PyData.eqv e d)) H
theorem Wr(K:W.Frag)(g:B9 k X.A)(e:X.K=K:=by rfl):G5 X (compareOp .NotIn) (xy K true):=by
 subst e;intro c s D H x y v u Q I m n h;obtain⟨p,C,d,o,rfl,f,j,a,z,q⟩:=h;cases n;obtain⟨b,r,l,B⟩:=I.list f;have A:=g.units;refine SeqAt.notIn_listAt (Hx s.heap d) l.isList (λw i=>Lp I j m (by show X.A.units+1+d.depth<cLine;omega) a r w (by simpa using i)) ⟨.bl _,H,I,rfl,?_⟩;rw[show b.toArray.any (Hx s.heap d)=b.any (Hx s.heap d)by simp,Qb I a r];exact q
end
theorem Ot{k:Nat}{A:rd}(a:B9 k A):A.units+20<cLine:=by have:=a.units;omega
section
variable {X:Cx}
theorem gj{e:Expr}{t:TE}(h:PE X e t):PE X e (λb H Q=>∃N:VK,t b H N/\∀v c,N v c->Q v c):=by
 intro a s b H Q I z;obtain⟨N,z,m⟩:=z;refine Bh (h a s b H N I z) λv l j=>?_;obtain⟨x,d,f,i,g⟩:=j;exact⟨x,d,f,i,m _ _ g⟩
end
def Nq:HO->Prop
 | .dK _=>True
 | .dT _=>True
 |_=>False
section
variable {X:Cx}{pins:List (Addr×Obj)}{σ:St}{H:Hp}{s:q4}{d:Addr}
theorem Ak.swap(I:Ak X pins σ H s)(e:H d=some v)(l:∀xs,v≠ .tup xs)(r:∀ps,v≠ .zr ps)(w:∀y,v≠ .own y)(A:∀o u,X.H₀ d≠some (.fA o u))(ok:B8 X.prog X.w (upd H d u) s.heap d u):Ak X pins σ (upd H d u) s:=by
 have h:∀b xs,H b=some (.tup xs)->(upd H d u) b=some (.tup xs):=λb xs z=>by
  rw[A9 (λy=>by rw[y,e]at z;exact l _ (Option.some.inj z))];exact z
 have g:∀b,H b=none->(upd H d u) b=none:=λb z=>by
  rw[A9 (λy=>by rw[y,e]at z;cases z)];exact z
 refine⟨I.ok,I.os,I.bare,⟨I.base.keep,I.base.slot,λb o q n j=>g b (I.base.free b o q n j),I.base.there,λb xs q=>h b xs (I.base.iK b xs q),λb o x q=>?_,λb ps q=>?_⟩,I.loc,I.cell,g _ I.free,λx c z=>g c (I.cA x c z),λp i=>?_,λb o q=>?_,I.len⟩
 ·have f:b≠d:=λy=>by
   rw[y]at q;exact A o x q
  rw[A9 f];exact I.base.gQ b o x q
 ·obtain⟨m,z⟩:=I.base.iL b ps q;refine⟨m,?_⟩;rw[A9 (λy=>by rw[y,e]at z;exact r _ (Option.some.inj z))];exact z
 ·obtain⟨a,b,c⟩:=I.pin p i;exact⟨a,g _ b,c⟩
 ·by_cases f:b=d
  ·subst f;rw[A2]at q;cases q;exact ok
  ·rw[A9 f]at q;refine(I.aP b o q).gY (λ_ _ _ z=>z) (λc z=>?_) h;rw[A9 (λy=>by rw[y,e]at z;exact w _ (Option.some.inj z))];exact z
theorem Ak.NL(I:Ak X pins σ H s)(e:H d=some v)(a:Nq v):∀o u,X.H₀ d≠some (.fA o u):=λo u z=>by
 have y:=I.base.gQ d o u z;rw[e]at y;cases y;exact a
theorem Ak.fA(I:Ak X pins σ H s)(e:H d=some v)(a:Nq v):∃o,s.heap.get? d=some o/\Ak X pins σ (upd H d (.fA o v)) s:=by
 have f:=I.aP d v e
 obtain⟨o,i⟩:∃o,s.heap.get? d=some o:=by
  cases v with
  |dK g=>obtain⟨_,_,_,_,o,_,_,z,_⟩:=f;exact⟨o,z⟩
  |dT g=>obtain⟨_,_,_,_,o,_,_,z,_⟩:=f;exact⟨o,z⟩
  |_=>exact a.elim
 have j:∀h,v≠ .tup h:=λh z=>by rw[z]at a;exact a
 have n:∀m,v≠ .zr m:=λm z=>by rw[z]at a;exact a
 have l:∀y,v≠ .own y:=λy z=>by rw[z]at a;exact a
 refine⟨o,i,I.swap e j n l (I.NL e a) ⟨i,f.gY (λ_ _ _ z=>z) (λc z=>?_) (λb h z=>?_)⟩⟩
 ·rw[A9 (λy=>by rw[y,e]at z;exact l _ (Option.some.inj z))];exact z
 ·rw[A9 (λy=>by rw[y,e]at z;exact j _ (Option.some.inj z))];exact z
theorem Ak.thaw(I:Ak X pins σ H s)(e:H d=some (.fA o v))(a:∀o u,X.H₀ d≠some (.fA o u)):Ak X pins σ (upd H d v) s:=by
 refine I.swap e (λ_ z=>nomatch z) (λ_ z=>nomatch z) (λ_ z=>nomatch z) a ((I.aP d _ e).2.gY (λ_ _ _ z=>z) (λc z=>?_) (λb f z=>?_))
 ·rw[A9 (λy=>by rw[y,e]at z;cases z)];exact z
 ·rw[A9 (λy=>by rw[y,e]at z;cases z)];exact z
end
def v9(t:TS):TS:=λD c H=>∃d u,Nq u/\H d=some u/\t {D with nx:=λa b=>∃o,b d=some (.fA o u)/\D.nx a (upd b d u) } c H
section
variable {X:Cx}
theorem Pg{st:Stmt}{t:TS}(h:PS X st t):PS X st (v9 t):=by
 intro a s m H D I z;obtain⟨d,u,i,e,z⟩:=z;have j:=I.NL e i;refine Bh (h a s m H _ I z) λf p q=>?_;cases f with
 |next=>
  obtain⟨b,n,c,o,g,l⟩:=q;exact⟨b,_,c.thaw g j,l⟩
 |brk=>exact q
 |cont=>exact q
 |ret v=>exact q
end
section
variable {P:q7}{w:ro}{A:rd}{E:pP}{s:q4}
theorem Xv(c:(d==sysModules)=false)(b:s.heap.get? d=some o)(e:o.ExactDict)
  (h:Q (.ref s.heap.objs.size) {s with heap:=s.heap.push {cls:=.type "dict_items",data:=.fields #[.ref d] } }):wpAny (model P w) A (call (.builtin "dict.items") [.ref d]) Q E s:=by
 have a:s.TypeIs (.ref d) "dict":=⟨o,b,e.1⟩;refine g0 F.slot_dict_items a F.entry_dict_items ?_ (F.args_dict_items_1 _);unfold Builtin.«dict.items» Builtin.Dict.noArgs;refine aN (aN (wpAny_notOrdered_dict a ?_));refine aN (wpAny_of_eq (a:=()) rfl ?_);refine aN (wpAny_of_eq (a:=Value.ref d) rfl ?_);refine wpAny_of_eq (a:=d) rfl ?_;refine aN ?_;unfold Builtin.Dict.showsAll;rw[c,if_neg Bool.false_ne_true];refine a6 ?_;refine aN ?_;unfold newFields;exact gR (a6 ⟨_,rfl,h⟩)
theorem eg(i:s.heap.IsItemsView v d)(c:s.heap.get? d=some o)(e:o.data=.dict es ep)
  (h:Q (.ref s.heap.objs.size) {s with heap:=s.heap.push {cls:=.type "dict_itemiterator",data:=.fields #[.none,.bool false,.ref d,.int 0 0,.int es.size 0,.int ep 0,.none,.none] } }):wpAny (model P w) A (pyIter (.ref v)) Q E s:=by
 obtain⟨j,a,f,g⟩:=i;have b:s.TypeIs (.ref v) "dict_items":=⟨j,a,f⟩;refine wpAny_pyIter_slot b F.slot_dict_items_iter (g0 F.slot_dict_items_iter b F.entry_dict_items_iter ?_ (F.args_dict_items_iter_1 _));unfold Builtin.«dict_items.__iter__» Builtin.Dict_items.slot0 Builtin.Dict_items.dictOf Builtin.Dict_items.newIterator;refine aN (aN (wpAny_of_eq (a:=(Value.ref v,[])) rfl (a6 ?_)));refine aN (aN (wpAny_field a g (x:=.ref d) rfl (wpAny_of_eq (a:=d) rfl ?_)));refine aN (aN (wpAny_dictEntries c e (aN (wpAny_dictEpoch c e ?_))));show wpAny (model P w) _ (newObj (.type "dict_itemiterator") (.fields #[.none,.bool false,.ref d,.int 0 0,.int es.size 0,.int ep 0,.none,.none]) none) _ _ _;refine gR (a6 ⟨_,rfl,"dict_itemiterator",_,⟨_,c4 _ rfl,rfl⟩,F.slot_dict_itemiterator_next.lookup,h⟩)
theorem jt{ok r:q5}(j:A.handled=none)(a:IsItemIter s.heap it d i es.size ep ok r)(g:s.heap.get? d=some o)(l:o.data=.dict es ep)
  (he:es[i]?=none)(n:∀h',Heap.ExtBut it s.heap h'->Q none {s with heap:=h'}):wpAny (model P w) A (pyNext (.ref it)) Q E s:=by
 have c:s.TypeIs (.ref it) "dict_itemiterator":=⟨_,a,rfl⟩;have f:Builtin.Dict_items.ownsTuple "dict_itemiterator"=true:=by decide
 unfold pyNext;refine aN (ov (oe (name:=Str.ofString "__next__") c F.slot_dict_itemiterator_next (g0 F.slot_dict_itemiterator_next c F.entry_dict_itemiterator_next ?_ (F.args_dict_itemiterator_next_1 _))));refine aN (a6 (aN (aN (aN (wpAny_typeNameOfWhole_itemiter c (a6 (aN (wpAny_fieldsOf a rfl ?_))))))));simp only[f,if_true];show wpAny _ _ (if(Value.ref d==Value.none)=true then _ else _) _ _ s;rw[if_neg (show¬(Value.ref d==Value.none)=true from Bool.false_ne_true)];refine aN (a6 (aN (wpAny_dictEntries g l ?_)));rw[if_neg (show¬((es.size:Int) != (es.size:Int))=true by simp)];refine aN (a6 (aN (wpAny_dictEpoch g l ?_)));rw[if_neg (show¬((ep:Int) != (ep:Int))=true by simp)];refine a6 ?_;simp only[show¬((i:Int)<0)by omega,if_false,Int.toNat_natCast,he];refine aN (aN (wpAny_typeNameOfWhole_itemiter c (a6 ?_)));show wpAny _ _ (setField (.ref it) 2 Value.none>>=_) _ _ s;refine aN (wpAny_setField a rfl (by simp) ?_);generalize q:Heap.update s.heap it (Obj.mapFields (·.setIfInBounds 2 Value.none))=h
 have m:Heap.ExtBut it s.heap h:=by
  rw[<- q];exact λb u p e=>(eH _ _ (Ne.symm p)).trans e
 show wpAny (model P w) _ (newExc (.type "StopIteration") []>>=_) _ _ {s with heap:=h};refine aN ?_;simp only[newExc,newTuple];refine aN (gR (T:="tuple") ?_ (by size_fits));refine aN (m:=firstArgMember _ _) (wpAny_of_eq (a:=Value.none) (by first|rfl|simp only[firstArgMember]) ?_);refine gR (T:="StopIteration") ?_ (by size_fits);simp only[raiseNew];refine aN (wpAny_handled ?_)
 first|rw[show A.in1.handled=Option.none from j]|rw[j]
 refine aN (a6 (wpAny_throw ?_));refine aN (mZ (T:="StopIteration") (b:=true) ⟨_,c4 _ rfl,rfl⟩ isSubtype_stop ?_);exact a6 (n _ ((m.push _).push _))
end
theorem Vy:entryFor table "dict_itemiterator.__iter__"=some Builtin.«dict_keyiterator.__iter__»:=
 entryFor_alias (id':="dict_keyiterator.__iter__") (by kernel_rfl) (by first|rfl|decide+kernel|(unfold String.splitOn;simp+decide [String.splitOnAux])) (by decide+kernel) (by kernel_rfl)
def wk:HO->Hp->Nat->V->V->Prop
 | .dT a,H,i,x,y=>∃k b,a[i]?=some (k,y)/\x=.ref b/\Jt H b k
 | .dK a,_,i,x,y=>∃k,a[i]?=some (k,y)/\x=kV k
 |_,_,_,_,_=>False
def Db:HO->Nat
 | .dT a=>a.length
 | .dK a=>a.length
 |_=>0
def jk(d:Addr)(o:Obj)(u:HO):It:=
 ⟨λi H=>H d=some (.fA o u)/\i<Db u,λi H v a=>∃T x y,v=.ref T/\H T=none/\a=upd H T (.tup [x,y])/\wk u H i x y,λi H=>H d=some (.fA o u)/\Db u<=i⟩
theorem fw{k:Dw}(h:(Dc P w).is k u=true):Aw (kV k) u:=by
 have a:Hu k u=true:=h;cases k with
 |inl i=>
  cases u<;>simp[Hu,Value.isInt]at a
  subst a;exact⟨_,rfl⟩
 |inr x=>
  cases u<;>simp[Hu,Value.isStrOf]at a
  subst a;exact⟨_,rfl⟩
theorem He:∀{xs:List a}{ys:List b}{i:Nat},Paired F xs ys->i<xs.length->∃x y,xs[i]?=some x/\ys[i]?=some y/\F x y
 |_,_,i,.nil,h=>absurd h (by simp)
 |_,_,0,.cons r _,_=>⟨_,_,rfl,rfl,r⟩
 |_,_,i+1,.cons _ t,h=>by
  obtain⟨x,y,c,d,e⟩:=He (i:=i) t (by simpa using h);exact⟨x,y,by simpa using c,by simpa using d,e⟩
theorem Sw(h:Paired F xs ys):xs.length=ys.length:=by
 induction h with
 |nil=>rfl
 |cons r t c=>rw[List.length_cons,List.length_cons,c]
theorem Nz{P:q7}{w:ro}{K:Type}[DecidableEq K]{knd:PySem.KeyKind P w K}:∀{es:List DictEntry}{vs:List (K×q5)}{i:Nat}{a:K×q5},Pairs knd es vs->vs[i]?=some a->∃e,es[i]?=some e/\knd.is a.1 e.key=true/\e.val=a.2
 |_,_,i,a,.nil,h=>by simp at h
 |_,_,0,a,.cons d f _,h=>by
  cases(show some _=some _ from h);exact⟨_,rfl,d,f⟩
 |_,_,i+1,a,.cons _ _ t,h=>by
  obtain⟨e,b,c⟩:=Nz t (i:=i) (by simpa using h);exact⟨e,by simpa using b,c⟩
theorem Wu{P:q7}{w:ro}{K:Type}[DecidableEq K]{knd:PySem.KeyKind P w K}{es:List DictEntry}{vs:List (K×q5)}(h:Pairs knd es vs):es.length=vs.length:=by
 induction h with
 |nil=>rfl
 |cons r q t a=>rw[List.length_cons,List.length_cons,a]
theorem Y0(ok:B8 P w H h d u)(F:Nq u)(v:h.get? d=some o)(hd:o.data=.dict es ep):
  es.size=Db u/\∀i,i<Db u->∃e x y,es[i]?=some e/\Aw x e.key/\Aw y e.val/\wk u H i x y:=by
 cases u with
 |dT a=>
  obtain⟨_,_,M,r,G,K,I,b,E,c,l,m⟩:=ok;rw[v]at b;cases b;rw[hd]at c;cases c;have s:=Sw r;refine⟨?_,λi n=>?_⟩
  ·show es.size=a.length;rw[<- Array.length_toList,l,List.length_map,s]
  ·obtain⟨p,q,f,g,j,z,A⟩:=He r n;refine⟨entryOfKey (Cz P w) q,.ref q.2.1,p.2,?_,rfl,A,p.1,q.2.1,f,rfl,z⟩;rw[<- Array.getElem?_toList,l,List.getElem?_map,g];rfl
 |dK a=>
  obtain⟨_,_,J,r,G,K,I,b,E,c,l,m,L⟩:=ok;rw[v]at b;cases b;rw[hd]at c;cases c;have s:a.length=J.length:=r.length;refine⟨?_,λi n=>?_⟩
  ·show es.size=a.length;rw[<- Array.length_toList,Wu m,s]
  ·obtain⟨p,q,f,g,j⟩:=He r n;obtain⟨e,B,C,D⟩:=Nz m g;refine⟨e,kV p.1,p.2,by rw[<- Array.getElem?_toList];exact B,?_,?_,p.1,f,rfl⟩
   ·rw[j.1];exact fw C
   ·rw[D];exact j.2
 |_=>exact F.elim
theorem Tr{P:q7}{w:ro}{K:W.Frag}{m:List Expr}{kk:Nat}{pos:Pos}{it d:Addr}{o:Obj}{u:HO}{es:Array DictEntry}{ep:Nat}(T:Nq u)(hd:o.data=.dict es ep)(fI:d≠it):
  Q9 P w K (.Tuple m kk pos) (jk d o u) [it] it (λi h=>∃ok j,IsItemIter h it d i es.size ep ok j)where
 mem:=by simp
 obj:=λi h ⟨ok,j,a⟩ b hb=>by
  have e:b=it:=by simpa using hb
  subst e;exact⟨_,a,λv z=>by cases z⟩
 keep:=λi h B ⟨ok,j,a⟩ k=>⟨ok,j,k it (by simp) _ a⟩
 item:=by
  intro X D L C f i p s σ H E I q ⟨ok,j,a⟩ ⟨g,O⟩;subst D L C;obtain⟨n,r⟩:=I.aP d _ g;obtain⟨J,U⟩:=Y0 r T n hd;obtain⟨e,x,y,e1,rx,ry,hi⟩:=U i O;have S:it<s.heap.objs.size:=dI a;refine Xw a n hd e1 λB Z a2 a3=>⟨_,rfl,?_⟩;refine wpAny_letOwnedTupleGo_items (s:={s with heap:=B}) Z λY b1 R=>?_;have N:Y.get? s.heap.objs.size=some {cls:=.type "tuple",data:=.seq #[e.key,e.val] }:=R.extBut _ _ (Nat.ne_of_gt S) a2;refine⟨.ref s.heap.objs.size,upd H s.heap.objs.size (.tup [x,y]),I.pW (t':=s.toks) (ch:=[it]) q (λc M f e=>?_) (dr _) ?_,rfl,⟨_,x,y,rfl,I.fresh,rfl,hi⟩,⟨_,_,b1⟩,λc f=>?_⟩
  ·have l:c≠it:=by simpa using f
   exact R.extBut _ _ l (a3 c M l e)
  ·exact⟨⟨en (by decide:2<=1000) (Vb (dr _)),_,N,rfl⟩,[e.key,e.val],.cons rx (.cons ry .nil),⟨_,N,rfl,0,rfl⟩⟩
  ·have l:c=it:=by simpa using f
   subst l;rw[A9 (Nat.ne_of_lt S)];exact(q c f).1
 done:=by
  intro X D L C f i p s σ H E I q ⟨ok,j,a⟩ ⟨g,O⟩;subst D L C;obtain⟨n,r⟩:=I.aP d _ g;obtain⟨J,U⟩:=Y0 r T n hd;refine jt (I.ok.hd f) a n hd (Array.getElem?_eq_none (by omega)) λB eb=>⟨rfl,I.pX (t':=s.toks) (ch:=[it]) q λc M f e=>?_⟩;have l:c≠it:=by simpa using f
  exact eb c M l e
 self:=λA i s Q E ⟨ok,j,a⟩ hQ=>by
  have G:s.TypeIs (.ref it) "dict_itemiterator":=⟨_,a,rfl⟩;refine wpAny_pyIter_slot G F.slot_dict_itemiterator_iter (g0 F.slot_dict_itemiterator_iter G Vy ?_ (F.args_dict_itemiterator_iter_1 _));exact a6 ⟨_,rfl,"dict_itemiterator",_,G,F.slot_dict_itemiterator_next.lookup,hQ⟩
section
variable {X:Cx}
def k9(b:TE):TI:=λc H R=>b c H λx a=>∃d u,x=.ref d/\Nq u/\a d=some u/\∀o,R (jk d o u) (upd a d (.fA o u))
theorem M8{j:List Expr}{kk:Nat}{vX g pos:Pos}{e:Expr}{Q:TE}(he:PE X e Q)(pT:attributeBase e "items" X.env (eval e X.env)=eval e X.env:=by rfl)(pU:(g.endLine==pos.line)=true:=by rfl):
  PI X (.Tuple j kk vX) (.Call (.Attribute e "items" g) [] [] pos) (k9 Q):=by
 intro w s σ H R I h;refine wpAny_Call_method0_late pT pU (Bh (he w s σ H _ I h) λv f Z=>?_);obtain⟨x,T,N,r1,d,u,ex,F,P,q⟩:=Z;subst ex;obtain rfl:v=Value.ref d:=r1;obtain⟨o,i,C⟩:=N.fA P F
 obtain⟨B,A,G,S,n⟩:∃B A,o.ExactDict/\o.data=.dict B A/\(d==sysModules)=false:=by
  have O:=N.aP d u P;cases u with
  |dT J=>
   obtain⟨_,y,xs,r,o',M,L,l,D,E,_⟩:=O;rw[i]at l;cases l;exact⟨M,L,D,E,y⟩
  |dK J=>
   obtain⟨_,y,vs,r,o',M,L,l,D,E,_⟩:=O;rw[i]at l;cases l;exact⟨M,L,D,E,y⟩
  |_=>exact F.elim
 have hT:f.TypeIs (.ref d) "dict":=⟨o,i,G.1⟩;refine⟨"dict","dict.items",PySem.F.plainAttrs_dict,PySem.F.slot_dict_items,PySem.F.type_dict_items,hT,?_,Calls.callWith_builtin rfl (PySem.evalArgs_none (Xv n i G ?_))⟩
 ·intro a z;cases z;exact⟨o,i,G.2.1⟩
 have Y:(f.heap.push {cls:=.type "dict_items",data:=.fields #[.ref d] }).get? d=some o:=bD _ i;refine eg (s:={f with heap:=f.heap.push {cls:=.type "dict_items",data:=.fields #[.ref d] } }) ⟨_,c4 _ rfl,rfl,rfl⟩ Y S ?_;have hk:∀b K,f.heap.get? b=some K->((f.heap.push {cls:=.type "dict_items",data:=.fields #[.ref d] }).push {cls:=.type "dict_itemiterator",data:=.fields #[.none,.bool false,.ref d,.int 0 0,.int B.size 0,.int A 0,.none,.none] }).get? b=some K:=λb K z=>bD _ (bD _ z);have p:(f.heap.push {cls:=.type "dict_items",data:=.fields #[.ref d] }).objs.size=f.heap.objs.size+1:=by simp[Heap.push]
 have U:d<f.heap.objs.size:=dI i;refine⟨_,[_],_,jk d o u,upd T d (.fA o u),rfl,C.kept (t':=f.toks) hk,Tr (es:=B) (ep:=A) F S ?_,⟨.none,.none,c4 _ rfl⟩,λc hc=>?_,q o⟩
 ·rw[p];exact eI (Nat.lt_succ_of_lt U)
 ·have m:f.heap.objs.size<=c:=by
   have:c=(f.heap.push {cls:=.type "dict_items",data:=.fields #[.ref d] }).objs.size:=by simpa using hc
   rw[this,p];omega
  exact C.rE m (C.aP.fresh m)
end
theorem Nn{o:Obj}{u:HO}{d:Addr}{g:TG}{r:TS}{D:Hj}{a:St}{H:Hp}(b:Nat->St->Hp->Prop)(w:b 0 a H)(C:∀i a H,i<=Db u->b i a H->H d=some (.fA o u))
  (E:∀i x y T a H,i<Db u->wk u H i x y->b i a H->H T=none->g (.ref T) a (upd H T (.tup [x,y])) λh j=>r {D with nx:=b (i+1),ct:=b (i+1),bk:=D.nx} h j)(hd:∀a H,b (Db u) a H->D.nx a H):
  ∃W:Nat->Nat->St->Hp->Prop,(∃m,W 0 m a H)/\∀i m a H,W i m a H->
   ((jk d o u).stop i H/\D.nx a H)\/((jk d o u).go i H/\∃N:St->Hp->Prop,(∀f c,N f c->∃n,n<m/\W (i+1) n f c)/\∀x c,(jk d o u).BJ i H x c->g x a c λh j=>r {D with nx:=N,ct:=N,bk:=D.nx} h j):=by
 refine⟨λi m a H=>m=Db u-i/\i<=Db u/\b i a H,⟨Db u,by simp,ml _,w⟩,?_⟩;rintro i m a H ⟨rfl,B,p⟩;have q:=C i a H B p;by_cases l:i<Db u
 ·refine .inr ⟨⟨q,l⟩,b (i+1),λf c F=>⟨Db u-(i+1),by omega,rfl,l,F⟩,λv c y=>?_⟩;obtain⟨T,x,z,rfl,A,rfl,s⟩:=y;exact E i x z T a H l s p A
 ·have e:i=Db u:=by omega
  subst e;exact .inl ⟨⟨q,dr _⟩,hd a H p⟩
theorem S3{K:W.Frag}{o:Obj}{u:HO}{d:Addr}{w:List Nat}{n:TT}{l:TE}{f:St}{D:Addr}{A:Hp}{Q:Hp->Prop}(g:Nat->List V->Hp->Prop)(E:g 0 [] (upd A D (.lst [])))
  (I:∀i a H,i<=Db u->g i a H->H d=some (.fA o u))
  (J:∀i x y T a H,i<Db u->wk u H i x y->g i a H->H T=none->n (some x::some y::D2 w f) (upd H T (.tup [x,y])) λb r=>
   if b=true then l (some x::some y::D2 w f) r λv s=>s D=some (.lst a)/\a.length<sizeLine/\g (i+1) (a++[v]) (upd s D (.lst (a++[v])))else g (i+1) a r)
  (M:∀f H Q h,(∀b c,Q b c->h b c)->n f H Q->n f H h)(L:∀f H Q h,(∀v c,Q v c->h v c)->l f H Q->l f H h)
  (hd:∀a H,g (Db u) a H->Q H):Dk 2 w (jk d o u) (su K) n l f D A Q:=by
 refine⟨λi m a H=>m=Db u-i/\i<=Db u/\g i a H,⟨Db u,by simp,ml _,E⟩,?_⟩;rintro i m a c ⟨rfl,G,p⟩;have B:=I i a c G p;by_cases j:i<Db u
 ·refine .inr ⟨⟨B,j⟩,λv R y=>?_⟩;obtain⟨T,x,z,rfl,F,rfl,C⟩:=y;refine⟨T,_,rfl,Cp.of A2,rfl,x,_,rfl,z,_,rfl,rfl,⟨[some x,some z],rfl,rfl⟩,?_⟩;refine M _ _ _ _ ?_ (J i x z T a c j C p F);intro b r q;cases b with
  |false=>exact⟨Db u-(i+1),by omega,rfl,j,q⟩
  |true=>exact L _ _ _ _ (λv s ⟨N,O,P⟩=>⟨N,O,Db u-(i+1),by omega,rfl,j,P⟩) q
 ·have e:i=Db u:=by omega
  subst e;exact .inl ⟨⟨B,dr _⟩,hd a c p⟩
section
variable {prog:q7}{w:ro}{K:Type} [DecidableEq K] {knd:HeapKind prog w K}{A:rd}{E:pP}{s:q4}{d a:Addr}{k:K}{xs:List (K×Addr×q5)}
theorem Wh{v:q5}(c:(xs.map (·.1)).Nodup)(b:k∉xs.map (·.1)):((xs++[(k,a,v)]).map (·.1)).Nodup:=by
 rw[List.map_append,List.nodup_append];refine⟨c,by simp,λx f y g=>?_⟩;have e:y=k:=by simpa using g
 rw[e];exact λe=>b (e▸f)
theorem ax{b:q5}{Q:pP}(u:knd.room A)(n:knd.is s.heap k a)(D:s.heap.DictOfH knd d xs)(hsz:xs.length<=sizeLine)
  (h1:∀p,atKey xs k=some p->Q p.2 {s with toks:=s.toks+knd.draws k})
  (B:atKey xs k=none->∀h',h'.DictOfH knd d (xs++[(k,a,b)])->Heap.SameBut d s.heap h'->Q b {s with heap:=h',toks:=s.toks+knd.draws k}):
  wpAny (model prog w) A (dictSetDefault d (.ref a) b) Q E s:=by
 obtain⟨o,z,y,f,C,c,i,g,l⟩:=D;unfold dictSetDefault
 try with_reducible refine fC ?_
 refine aN (knd.pyHash u n ?_);refine aN (wpAny_dictFind_heap (s:={s with toks:=s.toks+knd.draws k}) u n f c i g l ?_ ?_)
 ·intro q;have v:k∉xs.map (·.1):=not_mem_keys_of_get q;have m:=atKey_none_of_get q
  have F:z.size<=sizeLine:=by
   have e:=size_of_entries i;omega
  refine aN (m8 (aN (wpAny_updateDictKeys (hz:=F) (s:={s with toks:=s.toks+knd.draws k}) f c (a6 (B m _
   ⟨_,_,y+1,gK _ f (Obj.isFreed_of_dict (Obj.data_mapDictKeys c _)),C.mapDictKeys _,Obj.data_mapDictKeys c _,?_,?_,Wh l v⟩ (g6 ..))))))
  ·simp[i,entryOfKey]
  ·intro x h;rcases fy.mp h with h|h
   ·exact knd.keeps (g x h) f c (g6 ..)
   ·cases i0.mp h;exact knd.keeps n f c (g6 ..)
 ·intro j p r;have m:=atKey_of_get l r;refine aN (wpAny_dictEntries (s:={s with toks:=s.toks+knd.draws k}) f c ?_);rw[entry_at i j,r];exact aN (m8 (a6 (h1 p m)))
theorem Sn(hd:(d==sysModules)=false)(b:q5):
  MeetsIn prog w (Builtin.«dict.setdefault» ⟨[.ref d,.ref a,b],[]⟩) (λA R s=>knd.room A.in1/\∃k xs,knd.is s.heap k a/\s.heap.DictOfH knd d xs/\xs.length<=sizeLine/\
   (∀p,atKey xs k=some p->R (.ok (.ret p.2)) {s with toks:=s.toks+knd.draws k})/\
   (atKey xs k=none->∀c,c.DictOfH knd d (xs++[(k,a,b)])->Heap.SameBut d s.heap c->R (.ok (.ret b)) {s with heap:=c,toks:=s.toks+knd.draws k})):=
 .of_wp λA R s ⟨l,k,xs,o,e,m,g,h⟩=>by
  unfold Builtin.«dict.setdefault» Builtin.Dict.keyAndDefault;refine aN (aN (wpAny_notOrdered_dict e.typeIs ?_));show wpAny _ _ (pure (d,Value.ref a,some b)) _ _ s;refine a6 ?_;show wpAny _ _ (if(d==sysModules)=true then _ else(dictSetDefault d (.ref a) b>>=_)) _ _ s;rw[if_neg (by rw[hd];exact Bool.false_ne_true)];exact aN (ax l o e m (λp j=>a6 ⟨p.2,rfl,g p j⟩) λi c n f=>a6 ⟨b,rfl,h i c n f⟩)
end
section
variable {X:Cx}{pins:List (Addr×Obj)}{σ:St}{H:Hp}{s:q4}{a b:Addr}{kvs:qs}{k:qQ×Int}{z:V}{r:q5}{A:rd}{E:pP}
theorem so(K:A.units+20<cLine)(I:Ak X pins σ H s)(e:H a=some (.dT kvs))(j:Jt H b k)(R:kvs.length<sizeLine)(M:Aw z r)
  (h1:∀v o s',Ar kvs k=some v->Ak X pins σ H s'->Aw v o->Q o s')(F:Ar kvs k=none->∀s',Ak X pins σ (upd H a (.dT (Cf kvs k z))) s'->Q r s'):
  wpAny (model X.prog X.w) A (call (.builtin "dict.setdefault") [.ref a,.ref b,r]) Q E s:=by
 obtain⟨N,m,u,g,i⟩:=iu I.aP e;have L:u.length<=sizeLine:=by rw[<- Paired.length g];exact N
 have d:=g.val k;refine call_meetsIn PySem.F.slot_dict_setdefault i.typeIs PySem.F.entry_dict_setdefault (PySem.F.args_dict_setdefault_3 _ _ _) (Sn (knd:=Cz X.prog X.w) m r) ⟨E4 K,k,u,Je I.aP j,i,L,λp h=>?_,λG P O J=>?_⟩
 ·rw[h]at d;cases f:Ar kvs k with
  |none=>rw[f]at d;exact d.elim
  |some v=>
   rw[f]at d;exact h1 v p.2 _ f (I.tok _) d
 ·rw[G]at d;cases f:Ar kvs k with
  |some v=>rw[f]at d;exact d.elim
  |none=>
   have h:Cf kvs k z=kvs++[(k,z)]:=Ie z f;refine F f _ ?_;rw[h];obtain⟨q,x,w,n,y,B,C,_,D⟩:=O;refine Kl I (by rw[e];exact True.intro) J ⟨q,n⟩ ⟨by rw[List.length_append,List.length_singleton];omega,m,_,KT.keeps (Paired.snoc g ⟨rfl,j,M⟩) (λc S l=>?_),q,x,w,n,y,B,C,D⟩;rw[A9 (Bj l e (λz=>nomatch z))];exact l
end
def vq(h ty i:TE):TE:=λe H Q=>h e H λx f=>∃a,x=.ref a/\we f a/\ty e f λy g=>i e g λz d=>∃c k b,y=.ref b/\Jt d b k/\d a=some (.dT c)/\c.length<sizeLine/\
 (∀v,Ar c k=some v->Q v d)/\(Ar c k=none->Q z (upd d a (.dT (Cf c k z))))
section
variable {X:Cx}{o e f:Expr}{apos bQ:Pos}{td ty tx:TE}
theorem gl(L:X.A.units+20<cLine)(K:PE X o td)(he:PE X e ty)(F:PE X f tx)(m:M2 X o "setdefault" apos e f bQ):PE X (.Call (.Attribute o "setdefault" apos) [e,f] [] bQ) (vq td ty tx):=by
 intro c s i H Q I h;refine wpAny_Call_method m.base m.qB m.line PySem.F.plainAttrs_dict PySem.F.slot_dict_setdefault PySem.F.type_dict_setdefault (Bh (K c s i H _ I h) λu s1 A=>?_);obtain⟨x,n,j,Y,a,D,d,R⟩:=A;subst D;obtain rfl:u=Value.ref a:=Y;obtain⟨t1,t2,_⟩:=Sc j d;refine⟨t1,t2,?_⟩;rw[m.trees]
 refine Calls.callWith_builtin rfl (Calls.evalArgs_plain (Calls.spliced_cons (Bh (he c s1 i n _ j R) λN s2 ⟨y,p,r,Z,S⟩=>
  Calls.spliced_cons (Bh (F c s2 i p _ r S) λfv s3 ⟨z,q,w,l,O,k,b,E,C,B,G,T,U⟩=>Calls.spliced_nil ?_))))
 subst E;obtain rfl:N=Value.ref b:=Z;exact so L w B C G l (λv w' s4 M g P=>⟨v,q,g,P,T v M⟩) λJ s4 g=>⟨z,_,g,l,U J⟩
theorem Uu(w:PE X a n)(he:∀b,isTrue a X.env b=(do let v <- b;standAt a.pos;holding [v] (truthy v)):=by intro _;rfl):
  PT X a (λj H Q=>n j H λx l=>∃d kvs,x=.ref d/\Rd l d (.dK kvs)/\Q (!kvs.isEmpty) l):=by
 intro c s j H Q I h;refine isTrue_plain (Bh (w c s j H _ I h) λv E ⟨x,p,m,D,d,kvs,r,y,C⟩=>?_) (he _);subst r;obtain rfl:v=Value.ref d:=D;obtain⟨z,B,i,g,q⟩:=Ld m.aP y;have A:kvs.length=i.length:=g.length;have u:sizeLine<2^30:=by decide
 refine wpAny_truthy_dict B q (by omega) ⟨p,m.tok _,?_⟩
 have e:kvs.isEmpty=i.isEmpty:=by
  cases kvs<;>cases i<;>simp at A<;>rfl
 rw[<- e];exact C
end
section
variable {X:Cx}{pins:List (Addr×Obj)}{σ:St}{H:Hp}{s:q4}{k:Nat}
theorem R1(I:Ak X pins σ H s):∀{a:List rr}{vs:List V}{us:List q5},aR H a vs->As vs us->a.length=us.length/\∀(m:Nat) (w:q5) (e:rr),us[m]?=some w->a[m]?=some e->Hx s.heap d w=PyData.eqv e d
 |[],vs,us,h,r=>by
  unfold aR at h;subst h;cases r;exact⟨rfl,λm w e z=>by simp at z⟩
 |e::a,vs,us,h,r=>by
  unfold aR at h;obtain⟨x,u,rfl,f,i⟩:=h;cases r with
  |cons n o=>
   obtain⟨p,q⟩:=Ge I f n;obtain⟨l,j⟩:=R1 I i o;refine⟨by rw[List.length_cons,List.length_cons,l],λm w g b c=>?_⟩;cases m with
   |zero=>
    rw[List.getElem?_cons_zero]at b c;cases b;cases c;exact Lo q (Fz e x f)
   |succ m=>
    rw[List.getElem?_cons_succ]at b c;exact j m w g b c
def gw(K:W.Frag):V->List V->Hp->VK->Prop:=λx c H Q=>∃(l:Addr) (b:List V) (y:V) (d:rr) (a:List rr) (j:Nat),x=.ref l/\c=[y]/\Ao K H l b/\Rp H d y/\aR H a b/\d.depth<=50/\(∃e,a[j]?=some e/\PyData.eqv e d=true)/\(∀m e,m<j->a[m]?=some e->PyData.eqv e d=false)/\Q (.int (j:Nat)) H
theorem Wn(O:B9 k X.A):xh X "list.index" (gw X.K):=by
 intro pins s σ H x vs v us Q I rx rv h;obtain⟨l,ys,y,d,w,j,rfl,rfl,N,R,b,A,⟨G,B,f⟩,J,q⟩:=h;cases rx;obtain⟨u,rfl,Z⟩:=rv.one;obtain⟨a,r,Y,hz⟩:=I.list N;obtain⟨⟨S,T,p,U⟩,n,e,L,hd,P⟩:=Y;obtain rfl:S=.type "list":=L;obtain rfl:p=.seq a.toArray n:=P;have C:=r.length;have hu:=O.units;obtain⟨LL,E⟩:=R1 (d:=d) I b r;have M:j<w.length:=(bt.mp B).1;have K:=Ft;refine call_meets F.slot_list_index ⟨_,e,rfl⟩ F.entry_list_index (F.args_list_index_2 _ _) (PySem.SeqAt.list_indexAt l a.toArray n T U u (Hx s.heap d) j (by rw[List.size_toArray];omega) ?_ ?_ ?_) ⟨e,λz o=>?_,?_⟩
 ·omega
 ·have g:j<a.length:=by omega
  have c:a.toArray[j]'(by rw[List.size_toArray];omega)=a[j]:=by simp
  rw[c,E j a[j] G (List.getElem?_eq_getElem g) B];exact f
 ·intro m D i;rw[List.size_toArray]at D;have c:a.toArray[m]'(by rw[List.size_toArray];omega)=a[m]:=by simp
  rw[c,E m a[m] w[m] (List.getElem?_eq_getElem D) (List.getElem?_eq_getElem (by omega))];exact J m _ i (ed (by omega))
 ·exact Lp I R Z (by show X.A.units+1+d.depth<cLine;omega) b r z (by simpa using o)
 ·exact⟨.int (j:Nat),H,I.tok _,⟨_,rfl⟩,q⟩
end
section
variable {P:q7}{w:ro}{A:rd}{E:pP}{s:q4}{κ:Type} [DecidableEq κ] {knd:KeyKind P w κ}
abbrev En(led:Bool):Obj:={cls:=.type "set",dict:=none,data:=.set #[] 0 (.fresh 0 0 led) }
end
open PySem.Builtin.Str (strSliceIndices)
section
variable {X:Cx}
theorem Mh(a b:Int):((sliceRange a b 1).length:Int)<=max 0 (b-a):=by
 unfold sliceRange;rw[List.length_map,List.length_range,if_pos (by decide)];split
 ·have e:(b-a+1-1)/1=b-a:=by rw[Int.ediv_one];omega
  rw[e];omega
 ·show((0:Nat):Int)<=_;omega
theorem Rk(lo hi:q3)(n:Nat):(strSliceIndices lo hi 1 n).length<=n:=by
 unfold strSliceIndices;refine Int.ofNat_le.mp (oD (Mh _ _) ?_);cases lo<;>cases hi<;>simp<;>omega
def El(z:Str)(lo hi:q3):Str:=if((1:Int)==1&&(strSliceIndices lo hi 1 z.length).length==z.length)=true then z else⟨((strSliceIndices lo hi 1 z.length).filterMap (z.cps[·]?)).toArray⟩
theorem Xp(z:Str)(lo hi:q3):(El z lo hi).length<=z.length:=by
 unfold El;split
 ·exact dr _
 ·show((strSliceIndices lo hi 1 z.length).filterMap (z.cps[·]?)).toArray.size<=_;rw[List.size_toArray];exact en (List.length_filterMap_le _ _) (Rk lo hi _)
def y6:V->q3->q3->Hp->VK->Prop:=λx b a H Q=>∃z,x=.str z/\z.length<=sizeLine/\Q (.str (El z b a)) H
theorem Jp:wf X y6:=by
 intro b s E H x v F G B r m Q I D c C g h;obtain⟨z,rfl,w,q⟩:=h;obtain⟨t,rfl⟩:=D
 have a:∀l u:Option (Int×Tok),s.heap.IsSlice m l u none->l.map (·.1)=B->u.map (·.1)=r->∃T y,typeLookup (.type T) "__getitem__"=pure (some (.builtin y))/\s.TypeIs (.str z t) T/\wpAny (model X.prog X.w) X.A (getItem (.str z t) (.ref m)) (EP X b E Q) X.xe s:=by
  intro l u A o p;refine⟨"str",_,slot_str_getitem.lookup,typeIs_str s z t,wpAny_getItem_str_slice A rfl ?_⟩;subst o p;have d:=Xp z (l.map (·.1)) (u.map (·.1));unfold El at q d;unfold sliceMade slicePicked;show Made.post (if((1:Int)==1&&(strSliceIndices (l.map (·.1)) (u.map (·.1)) 1 z.length).length==z.length)=true then Made.val (.str z t)else Made.str ⟨((strSliceIndices (l.map (·.1)) (u.map (·.1)) 1 z.length).filterMap (z.cps[·]?)).toArray⟩) _ _;by_cases f:((1:Int)==1&&(strSliceIndices (l.map (·.1)) (u.map (·.1)) 1 z.length).length==z.length)=true
  ·rw[if_pos f]at q⊢;exact⟨.str z,H,I,⟨_,rfl⟩,q⟩
  ·rw[if_neg f]at q d⊢;exact⟨en d w,⟨.str _,H,I.tok _,⟨_,rfl⟩,q⟩⟩
 cases C with
 |none=>
  cases g with
  |none=>exact a none none c rfl rfl
  |int j e=>exact a none (some (j,e)) c rfl rfl
 |int i n=>
  cases g with
  |none=>exact a (some (i,n)) none c rfl rfl
  |int j e=>exact a (some (i,n)) (some (j,e)) c rfl rfl
def Tp(z:Str)(n:Int):Str:=if n<1 then Str.empty else if(n==1||z.length==0)=true then z else⟨(List.replicate n.toNat z.cps).foldl (·++·) #[]⟩
def uu:R2:=λx y H Q=>∃z n,x=.str z/\y=.int n/\0<=n/\n<=1000/\z.length<=1000/\(Tp z n).length<=sizeLine/\Q (.str (Tp z n)) H
theorem gh:G5 X (binaryOp .Mult) uu:=by
 intro d s r H x y v u Q I i j h;obtain⟨z,n,rfl,rfl,l,m,f,a,q⟩:=h;obtain⟨t,rfl⟩:=i;obtain⟨p,rfl⟩:=j;refine P.mul_str (by rw[decide_eq_false (by omega),decide_eq_false (by omega)];rfl) (λg _=>?_) (λg _=>?_) ?_
 ·have e:(1000:Int)<=(2^63-1)/n:=by
   rw[Int.le_ediv_iff_mul_le (by omega)];omega
  omega
 ·have o:z.length*n.toNat<=1000*1000:=Nat.mul_le_mul f (by omega);show decide (z.length*n.toNat>sizeLine)=false;rw[sizeLine_eq];exact me (by omega)
 ·unfold Tp at q a;by_cases b:n<1
  ·rw[if_pos b]at q a⊢;exact⟨a,.str _,H,I.tok _,⟨_,rfl⟩,q⟩
  ·rw[if_neg b]at q a⊢;by_cases c:(n==1||z.length==0)=true
   ·rw[if_pos c]at q⊢;exact⟨.str z,H,I,⟨_,rfl⟩,q⟩
   ·rw[if_neg c]at q a⊢;exact⟨a,.str _,H,I.tok _,⟨_,rfl⟩,q⟩
theorem Dj:D7 X (.builtin "len") (λxs H Q=>∃z:Str,xs=[.str z]/\(z.length:Int)<2^63/\Q (.int (z.length:Nat)) H):=by
 intro a s d H xs c Q I r h;obtain⟨z,rfl,b,q⟩:=h;obtain⟨u,rfl,t,rfl⟩:=E6 r;exact P.len_str (by omega) ⟨.int _,H,I.tok _,⟨_,rfl⟩,q⟩
end
open PySem PySem.Spec PySem.SeqAt PyProof.Rows
section
variable {prog:q7}{w:ro}{E:pP}
theorem Rl(hi:IntsAre vs ns)(n:vs.length<64)(m:∀R:List q5->q4->Prop,R vs {s with heap:=h1,toks:=t1}->wpAny (model prog w) A.in1 (collect r) R E s)
  (h:∀(out:Array q5) (a:qQ) (h':Heap) (c:Nat),IntsAre out.toList a->a.Perm ns->a.Pairwise (·<=·)->(∀b o,h1.get? b=some o->h'.get? b=some o)->h'.get? h1.objs.size=some (seqObj "list" out c)->Q (.ref h1.objs.size) {s with heap:=h',toks:=t1}):
  wpAny (model prog w) A (call (.builtin "sorted") [r]) Q E s:=by
 have d:vs.length<=sizeLine:=by rw[sizeLine_eq];omega
 refine Calls.call_function_entry kind_sorted plain_sorted entry_sorted (args_sorted1 _) ?_;unfold Builtin.«sorted»;refine aN (m:=checkCount "sorted" 1 1 _) (a6 ?_);refine aN (m _ (aN (wpAny_newList ?_ d)));have f:(h1.push (seqObj "list" vs.toArray 0)).get? h1.objs.size=some (seqObj "list" vs.toArray 0):=c4 _ rfl;show wpAny _ _ _ _ _ {s with heap:=h1.push (seqObj "list" vs.toArray 0),toks:=t1};refine aN (fC (g0 slot_list_sort ⟨_,f,rfl⟩ entry_list_sort (list_sort_tree (s:={s with heap:=h1.push (seqObj "list" vs.toArray 0),toks:=t1}) f hi n λout a i j l=>⟨_,rfl,?_⟩) (args_list_sort _)));obtain⟨c,g⟩:∃c,(sortedHeap (h1.push (seqObj "list" vs.toArray 0)) h1.objs.size vs out).get? h1.objs.size=some (seqObj "list" out c):=sortedHeap_at f;refine a6 ⟨_,rfl,h out a _ c i j l (λb o e=>?_) g⟩;rw[sortedHeap_old (Nat.ne_of_lt (Heap.lt_size e)) (by rw[size_push'];exact Nat.lt_succ_of_lt (Heap.lt_size e))];exact bD _ e
end
section
variable {X:Cx}
def Zf(K:W.Frag):List V->Hp->VK->Prop:=λc H Q=>∃(l:Addr) (a:qQ),c=[.ref l]/\Ao K H l (a.map V.int)/\a.length<64/\∀(p:Addr) (b:qQ),H p=none->b.Perm a->b.Pairwise (·<=·)->Q (.ref p) (upd H p (.lst (b.map V.int)))
theorem Ho(K:W.Frag)(n:X.K=K:=by rfl):D7 X (.builtin "sorted") (Zf K):=by
 subst n;intro j s L H J G Q I r h;obtain⟨l,y,rfl,v,E,q⟩:=h;obtain⟨u,rfl,C⟩:=r.one;cases C;obtain⟨a,rv,B,F⟩:=I.list v;have d:=F7 rv;have f:a.length=y.length:=d.length;have x:∀b o,s.heap.get? b=some o->((s.heap.push (seqObj "list" #[] 0)).update s.heap.objs.size (Obj.mapSeq (·++a.toArray))).get? b=some o:=λb o e=>(eH _ _ (Ne.symm (eI (dI e)))).trans (bD _ e);refine Rl (h1:=(s.heap.push (seqObj "list" #[] 0)).update s.heap.objs.size (Obj.mapSeq (·++a.toArray))) (t1:=s.toks) d (by omega) (λR p=>collect_list B.isList p (by rw[sizeLine_eq];omega)) λout g D c z i A w m=>?_;refine⟨.ref _,upd H _ (.lst (g.map V.int)),I.laid (t':=s.toks) (λb o e=>w b o (x b o e)) ?_ ?_,rfl,q _ g (I.aP.fresh ?_) i A⟩
 ·rw[Heap.size_update,size_push'];exact Nat.le_succ _
 ·refine⟨?_,out.toList,c,Gh z,m⟩;rw[List.length_map,i.length_eq,sizeLine_eq];omega
 ·rw[Heap.size_update,size_push'];exact Nat.le_succ _
end
open PySem PySem.Spec PySem.SeqAt PyProof.Rows
section
variable {prog:q7}{w:ro}
structure yr(params:Arguments)(body:Expr)(scope:Scope)(x y:Str):Prop where
 bod:∃p1 p2 p3,body=.Subscript (.Name y p1) (.Name x p2) p3
 bind:∀(name qual:Str) (cl:List (Str×Addr)) (pm cd ct u:q5),bindArgs (W.kla_fn name qual params body scope cl pm cd ct) ⟨[u],[]⟩=pure [(x,u)]
 kind:scope.kind=.function
 lx:scope.names.lookup x=some .local
 ly:scope.names.lookup y=some .free
 nc:∀z∈scope.names,z.2≠ .cell
 co:scope.isCoroutine=false
 ge:scope.isGenerator=false
 dx:(x==("__debug__":Str))=false
 dy:(y==("__debug__":Str))=false
 cy:(y==("__classdict__":Str))=false
theorem Yq{A:rd}{s:q4}{a:Arguments}{d:Expr}{c:Scope}{x y name g:Str}{f q l D:Addr}{J O:q5}{j:List q5}{i:Nat}{t:Tok}{v:q5}{R:Result->q4->Prop}
  (L:yr a d c x y)(B:A.depth<recursionLimit)(F:s.heap.get? f=some (W.kla_obj name g a d c [(y,l)] J q O))(K:s.heap.CodeRec (.ref q) g)(H:s.heap.IsCell l (some (.ref D)))
  (E:s.heap.IsList D j.toArray)(G:s.heap.NoLimit)(hi:j[i]?=some v)(hz:j.length<=sizeLine)
  (h:∀h' N,(∀b o,s.heap.get? b=some o->h'.get? b=some o)->R (.ok (.ret v)) {s with heap:=h',toks:=N}):
  codeAny (model prog w) A (.call (.ref f) ⟨[.int (i:Int) t],[]⟩) R s:=by
 obtain⟨Q,S,T,rfl⟩:=L.bod;refine W.kla_callFunE B F rfl L.co L.ge rfl K ?_;rw[L.bind];refine a6 (wpAny_newFunctionEnv L.nc (λz p=>by rw[List.mem_singleton.mp p];exact L.lx) (λn M u=>?_) L.kind);have m:∀b o,s.heap.get? b=some o->n.get? b=some o:=λb o e=>u.extBut b o (eI (dI e)) (bD _ e);refine⟨G.keeps m,W.kla_codeExpr ?_⟩;have P:i<j.length:=(bt.mp hi).1;have C:=Ft;refine Subscript_ (wpAny_Name (wpAny_loadName_free L.kind L.ly ?_ (H.keeps m) ?_ L.cy) L.dy)
 ·show List.lookup y [(y,l)]=some l;simp
 refine wpAny_Name (wpAny_loadName_local (v:=.int (i:Int) t) L.kind L.lx M ?_ ?_) L.dx
 ·show List.lookup x [(x,Value.int (i:Int) t)].reverse=some (.int (i:Int) t);simp
 have I:n.IsList D j.toArray:=let⟨o,e,r⟩:=E;⟨o,m _ _ e,r⟩;exact item_listR (s:={s with heap:=n,toks:=s.toks+1}) I (by omega) (by omega) (by simpa using hi) (h _ _ m) rfl
theorem Qj{A:rd}{E:pP}{s:q4}{r:Addr}{a b c:Int}{t u v:Tok}{n:Nat}{Q:List q5->q4->Prop}(H:A.handled=none)(J:IsRange s.heap r a b c t u v)(C:Builtin.Range.small a b c=true)(I:Builtin.Range.rangeSize a b c=n)(y:n<=2^24)
  (B:∀h' g d,(∀b o,s.heap.get? b=some o->h'.get? b=some o)->ItemsOf (λi v=>∃t,v=.int (a+i*c) t) d n->Q d.toList {s with heap:=h',toks:=g}):wpAny (model prog w) A (collect (.ref r)) Q E s:=by
 unfold collect;refine aN (wpAny_runValue (codeAny_builtin F.entry_proto_collect ?_));rw[Around.under_plainId F.plain_proto_collect _];show wpAny _ A.in1 (newList []>>=λl=>again (.builtin "list.__iadd__" ⟨[l,.ref r],[]⟩)) _ _ s;refine aN (gR ?_);refine a6 ⟨nf F.plain_list_iadd _,codeAny_builtin F.entry_list_iadd ?_⟩;rw[Around.under_plainId F.plain_list_iadd _];show wpAny _ A.in1 (Builtin.List.listExtendWith (.ref s.heap.objs.size) (.ref r) (.ref s.heap.objs.size)) _ _ _
 have m:∀(q:Result->q4->Prop),(∀h' g d h,(∀b o,s.heap.get? b=some o->h'.get? b=some o)->h'.get? s.heap.objs.size=some {cls:=.type "list",dict:=none,data:=.seq d h,slots:=#[] }->ItemsOf (λi v=>∃t,v=.int (a+i*c) t) d n->q (.ok (.ret (.ref s.heap.objs.size))) {s with heap:=h',toks:=g})->
   wpAny (model prog w) A.in1 (Builtin.List.listExtendWith (.ref s.heap.objs.size) (.ref r) (.ref s.heap.objs.size)) (λm j=>match m with| .done f=>q (.ok f) j| .again h=>h.quiet=true/\codeAny (model prog w) A h q j) (λe j=>q (.error e) j) {s with heap:=s.heap.push {cls:=.type "list",data:=.seq #[] } }:=λq D=>
  wpAny_extend_range (s:={s with heap:=s.heap.push {cls:=.type "list",data:=.seq #[] } }) H (bD _ J) C I y s.heap.objs.size _ 0 (c4 _ rfl) λh' g d h k e p=>D h' g d h (λb o e=>k b o (eI (dI e)) (bD _ e)) e p
 refine hH (m (λr j=>∃h' g d h,r=.ok (.ret (.ref s.heap.objs.size))/\j={s with heap:=h',toks:=g}/\(∀b o,s.heap.get? b=some o->h'.get? b=some o)/\h'.get? s.heap.objs.size=some {cls:=.type "list",dict:=none,data:=.seq d h,slots:=#[] }/\ItemsOf (λi v=>∃t,v=.int (a+i*c) t) d n) λh' g d h k e p=>⟨h',g,d,h,rfl,rfl,k,e,p⟩) (λf j x=>?_) (λe j G=>?_)
 ·cases f with
  |done f=>
   obtain⟨h',g,d,h,z,rfl,k,e,p⟩:=x;cases z;show wpAny _ A (load s.heap.objs.size>>=_) _ _ _;exact aN (wpAny_load e (a6 (B h' g d k p)))
  |again K=>
   refine⟨x.1,codeAny_mono x.2 λr j x=>?_⟩;obtain⟨h',g,d,h,rfl,rfl,k,e,p⟩:=x;show wpAny _ A (load s.heap.objs.size>>=_) _ _ _;exact aN (wpAny_load e (a6 (B h' g d k p)))
 ·obtain⟨_,_,_,_,z,_⟩:=G;cases z
theorem Th{A:rd}{E:pP}{s:q4}{h₀:Heap}{L:Addr}{m:Str->Option q5}{a:List (Addr×Obj)}{kz:qQ}{f r:q5}{q:Addr}{Q:pP}{C:List q5->Prop}(F:Fr h₀ L s.heap m)(N:News h₀ L s.heap a)(O:f=.ref q)(Z:kz.length<64)
  (Y:∀R:List q5->q4->Prop,(∀vs h1 t1,C vs->(∀b o,s.heap.get? b=some o->h1.get? b=some o)->R vs {s with heap:=h1,toks:=t1})->wpAny (model prog w) A.in1 (collect r) R E s)
  (M:∀vs,C vs->kz.length=vs.length)
  (l:∀vs,C vs->∀(i:Nat) (v:q5) (k:Int),vs[i]?=some v->kz[i]?=some k->∀(h:Heap) (g:Nat) (d:List (Addr×Obj)),Fr h₀ L h m->News h₀ L h (a++d)->
   wpAny (model prog w) A.in1.in1 (call f [v]) (KskEnd h₀ L m (a++d) k {s with heap:=h,toks:=g}) (λ_ _=>False) {s with heap:=h,toks:=g})
  (done:∀vs D h' g out c,C vs->Fr h₀ L h' m->News h₀ L h' ((D,seqObj "list" out c)::a)->(∀q∈a,q.1<D)->L<D->h₀.get? D=none->KskOut false kz vs out.toList->Q (.ref D) {s with heap:=h',toks:=g}):
  wpAny (model prog w) A (call (.builtin "sorted") [r] [(Str.ofString "key",f)]) Q E s:=by
 subst O;refine call_function_entry_kw kind_sorted plain_sorted entry_sorted (ksk_s1 _ _) ?_;unfold Builtin.«sorted»;refine aN (m:=checkCount "sorted" 1 1 _) (a6 ?_);refine aN (Y _ λvs h1 t1 B H=>?_);have j:=M vs B;have G:vs.length<=sizeLine:=by rw[sizeLine_eq];omega
 refine aN (wpAny_newList ?_ G);have u:Fr h₀ L h1 m:=F.kept H;have y:News h₀ L h1 a:=N.grown H;have z:L<h1.objs.size:=u.ns.lt;have J:(h1.push (seqObj "list" vs.toArray 0)).get? h1.objs.size=some (seqObj "list" vs.toArray 0):=c4 _ rfl;have I:∀b o,h1.get? b=some o->(h1.push (seqObj "list" vs.toArray 0)).get? b=some o:=λb o e=>bD _ e;have K:h₀.get? h1.objs.size=none:=Heap.get?_none_of_le (en u.above (nX z));show wpAny _ _ _ _ _ {s with heap:=h1.push (seqObj "list" vs.toArray 0),toks:=t1};refine aN (fC (wpAny_call_entry_kw slot_list_sort ⟨_,J,rfl⟩ entry_list_sort ?body (ksk_l1 _ _)))
 case body=>
  show wpAny (model prog w) A.in1.in1 (Builtin.«list.sort» ⟨[.ref h1.objs.size],[(Str.ofString "key",.ref q)]⟩) _ _ _;rw[ksk_t1];refine ksk_sort (s:={s with heap:=h1.push (seqObj "list" vs.toArray 0),toks:=t1}) (u.kept I) (y.grown I) J (Nat.ne_of_gt z) K (λp S=>eI (dI (y p S).1)) j (by omega) (λi v k U P h g d n x=>l vs B i v k U P h g d n x) λh' g out c n x X=>⟨_,rfl,?_⟩;exact a6 ⟨_,rfl,done vs _ h' g out c B n x (λq T=>dI (y q T).1) z K X⟩
end
open PySem PySem.Spec PySem.SeqAt PyProof.Rows
section
variable {X:Cx}{pins:List (Addr×Obj)}{σ:St}{H:Hp}{s:q4}{h':Heap}
theorem Ak.GF{pos:Pos}{t':Nat}(I:Ak X pins σ H s)(h:H P=some (.tab q pos))(k:∀b u,b≠P->s.heap.get? b=some u->h'.get? b=some u)(j:s.heap.objs.size<=c)(x:∃o,h'.get? c=some o)
  (g:h'.get? P=some (W.tabObj #[rawInt pos.line,rawInt pos.col,.ref c]))(r:h'.CodeRec (.ref c) q):Ak X pins σ (upd H c (.own P)) {s with heap:=h',toks:=t'}:=by
 have f:H c=none:=I.aP.fresh j;have i:c≠P:=λz=>by rw[z,h]at f;cases f
 have l:∀b,H b=none->b≠P:=λb e z=>by rw[z,h]at e;cases e
 have w:∀b o,s.heap.get? b=some o->b≠c:=λb o e z=>absurd (fx (dI e) (z▸j)) (Nat.lt_irrefl _);refine I.un ⟨λb o e n _ _=>k b o (l b n) e,λb o e n _ _=>⟨o.slots,k b o (l b n) e⟩,λb o e n _=>(A9 (w b o e)).trans n,λb o e _=>?_,λb A e=>(A9 (Ag e f)).trans e,λb o u e=>(A9 (Ag e f)).trans e,λb C e=>⟨#[],by rw[A9 (Ag e f),e];simp⟩⟩ λb u e=>?_
 ·by_cases z:b=P
  ·exact⟨_,z▸g⟩
  ·exact⟨o,k b o z e⟩
 ·by_cases p:b=c
  ·subst p;rw[A2]at e;cases e;exact x
  ·rw[A9 p]at e;by_cases m:b=P
   ·subst m;rw[h]at e;cases e;exact .inr ⟨c,A2,i,g,r⟩
   ·refine(I.aP b u e).gY (λd o a v=>k d o ?_ v) (λd a=>(A9 (Ag a f)).trans a) λd A a=>(A9 (Ag a f)).trans a;rcases a with y|y
    ·rw[y];exact m
    ·intro B;rw[B,h]at y;cases y
def Ry(base:Heap)(mg:Str->Option q5):Prop:=∃a o,mg "__builtins__"=some (.ref a)/\a≠builtinsNs/\a≠mainGlobals/\base.get? a=some o/\o.cls=.type "module"/\o.dict=some builtinsNs/\o.data=.plain
theorem Yp{x y q:Str}(I:Ak X pins σ H s)(GH:defaultsOf a X.env=([],[]))(nZ:closureFor p X.env=pure [(y,B)])(tJ:X.env.code=.ref c)(hK:W.codeHdIn X.K c P=true)(hq:X.env.qual++"<lambda>"=q)(D:H P=some (.tab q lpos))(hB:Ry X.base X.mg)
  (h:∀(f g:Addr) (m pm:q5) (s':q4) (J:Hp),Ak X pins σ J s'->A7 H J->s'.heap.get? f=some (W.kla_obj "<lambda>" q a d p [(y,B)] pm g m)->s'.heap.CodeRec (.ref g) q->(∀b o,b≠P->s.heap.get? b=some o->s'.heap.get? b=some o)->s.heap.objs.size<=f->J f=none->Q (.ref f) s'):
  wpAny (model X.prog X.w) X.A (eval (.Lambda a d p lpos) X.env) Q X.xe s:=by
 refine W.kla_eval GH ?_;rw[hq];have Z:s.heap.Ns mainGlobals X.mg:=I.ok.mod.glob.keeps I.bk;have C:=W.codeHd_of_K I.iG hK;obtain⟨L,ob,b1,b2,b3,Y,b5,b6,b7⟩:=hB;have zC:=I.bk _ _ Y
 have N:L≠P:=λz=>by
  have:=(I.bs L ob Y).2;rw[z,D]at this;cases this
 have U:s.heap.BuiltinsAt X.mg P:=⟨L,ob,b1,b2,b3,N,zC,b5,b6,b7⟩
 have O:mainGlobals≠P:=λz=>by
  obtain⟨o,es,ep,e,_⟩:=I.ok.mod.glob;have:=(I.bs mainGlobals o e).2;rw[z,D]at this;cases this
 rcases(show B8 X.prog X.w H s.heap P (.tab q lpos)from I.aP P _ D)with M|⟨g,hown,ne,M,GG⟩
 ·refine W.kla_makeFunction (mg:=X.mg) nZ I.ok.glob Z tJ C M trivial rfl O U λg m h' E hx j bB G R=>?_;have k1:∀b o,b≠P->s.heap.get? b=some o->h'.get? b=some o:=λb o S e=>hx b o S e
  have vV:∃o,h'.get? g=some o:=by
   obtain⟨A,v,F,t,n,w,_⟩:=G;cases n;exact⟨v,w⟩
  have u:h'.get? P=some (W.tabObj #[rawInt lpos.line,rawInt lpos.col,.ref g]):=by simpa using R
  have T:=I.GF (t':=E) D k1 j vV u G;have l:∀b o,h'.get? b=some o->(h'.push (W.kla_obj "<lambda>" q a d p [(y,B)] ((X.mg "__name__").getD .none) g m)).get? b=some o:=λb o e=>bD _ e;have K:=T.kept (t':=E) l;have i:s.heap.objs.size<=h'.objs.size:=nX (n4 j bB);exact h _ g m _ _ _ K (A7.upd (I.aP.fresh j)) (c4 _ rfl) (by obtain⟨A,v,F,t,n,w,r⟩:=G;exact⟨A,v,F,t,n,l _ _ w,r⟩) (λb o S e=>l _ _ (k1 b o S e)) i (T.aP.fresh (dr _))
 ·have GJ:codeAmong lpos [rawInt lpos.line,rawInt lpos.col,.ref g]=some (.ref g):=codeAmong_snoc [] trivial rfl;refine W.kla_makeFunctionHit (mg:=X.mg) nZ I.ok.glob Z tJ C M trivial GJ U λm h' E hk i=>?_;have l:∀b o,s.heap.get? b=some o->(h'.push (W.kla_obj "<lambda>" q a d p [(y,B)] ((X.mg "__name__").getD .none) g m)).get? b=some o:=λb o e=>bD _ (hk b o e);have K:=I.kept (t':=E) l;exact h _ g m _ _ _ K (A7.refl _) (c4 _ rfl) (by obtain⟨A,v,F,t,n,w,r⟩:=GG;exact⟨A,v,F,t,n,l _ _ w,r⟩) (λb o _ e=>l _ _ e) i (I.aP.fresh i)
end
open PySem PySem.Spec PySem.SeqAt PyProof.Rows
section
variable {X:Cx}
theorem Xl:D7 X (.type "range") (λxs H Q=>∃j:Int,xs=[.int j]/\∀p,H p=none->Q (.ref p) (upd H p (.vR 0 j))):=by
 intro a s d H xs c Q I r h;obtain⟨j,rfl,q⟩:=h;obtain⟨u,rfl,t,rfl⟩:=E6 r;refine call_range_1 ⟨.ref _,upd H _ (.vR 0 j),I.laid (t':=_) (λb o e=>bD _ e) (dr _) ⟨_,_,_,c4 _ rfl⟩,rfl,q _ (I.aP.fresh (dr _))⟩
theorem u3{h:Heap}{a:Addr}{m g:Str->Option q5}(h1:h.Ns a m)(j:h.Ns a g):m=g:=by
 obtain⟨o,n,l,e,d,_,f⟩:=h1;obtain⟨p,r,q,c,b,_,i⟩:=j;rw[e]at c;cases c;rw[d]at b;cases b;funext x;rw[<- f,<- i]
theorem Si{vs out:List q5}(E:vs.length=ns.length)(hi:∀(i:Nat) (v:q5),vs[i]?=some v->∃t:Tok,v=Value.int ((i:Nat):Int) t)(h:KskOut false ns vs out):
  ∃ord:List Nat,As (ord.map λ(k:Nat)=>V.int ((k:Nat):Int)) out/\ord.Perm (List.range ns.length)/\ord.Pairwise (λa b=>ns.getD a 0<=ns.getD b 0):=by
 obtain⟨f,m,s,u⟩:=h
 have d:∀p∈f,∃(k:Nat) (t:Tok),k<ns.length/\p=(ns.getD k 0,Value.int ((k:Nat):Int) t):=λp n=>by
  have o:=m.mem_iff.mp n;obtain⟨i,l⟩:=List.getElem?_of_mem o;obtain⟨r,y⟩:=List.getElem?_zip_eq_some.mp l;obtain⟨t,g⟩:=hi i p.2 y;have A:=(bt.mp r).1;refine⟨i,t,A,?_⟩;rw[List.getD_eq_getElem?_getD,r];show p=(p.1,_);rw[<- g]
 refine⟨f.map λp=>(numOf p.2).toNat,?_,?_,?_⟩
 ·rw[s];clear m s u
  induction f with
  |nil=>exact .nil
  |cons p f C=>
   obtain⟨k,t,_,e⟩:=d p dm;refine .cons ?_ (C λx B=>d x (d3 _ B));rw[e];exact⟨t,rfl⟩
 ·have j:=m.map (λp:Int×q5=>(numOf p.2).toNat);refine j.trans (List.Perm.of_eq ?_);apply List.ext_getElem?;intro i;rw[List.getElem?_map];by_cases q:i<ns.length
  ·have o:(ns.zip vs)[i]?=some (ns[i],vs[i]'(by omega)):=List.getElem?_zip_eq_some.mpr ⟨ed q,ed (by omega)⟩;obtain⟨t,g⟩:=hi i (vs[i]'(by omega)) (ed (by omega));rw[o,List.getElem?_range q];show some (numOf (vs[i]'(by omega))).toNat=some i;rw[g];rfl
  ·rw[List.getElem?_eq_none (by rw[List.length_zip];omega),List.getElem?_eq_none (by rw[List.length_range];omega)];rfl
 ·rw[List.pairwise_map];refine u.imp_of_mem λ{p D} j z c=>?_;obtain⟨k,t,_,e⟩:=d p j;obtain⟨F,G,_,w⟩:=d D z;rw[e,w]at c⊢;exact c
variable {k:Nat}{params:Arguments}{body:Expr}{fD:Scope}{x y q:Str}{lpos kpos p pos:Pos}{c P:Addr}{j:Nat}{e:Expr}{tr:TA}
def d7(K:W.Frag)(P:Addr)(q:Str)(lpos:Pos)(j:Nat)(tr:TA):TE:=λi H Q=>tr i H λl g=>∃(r D:Addr) (f:qQ),l=[.ref r]/\g r=some (.vR 0 ((f.length:Nat):Int))/\i[j]?=some (some (.ref D))/\Ao K g D (f.map V.int)/\f.length<64/\g P=some (.tab q lpos)/\
 ∀(p:Addr) (d:List Nat) (h:Hp),A7 g h->g p=none->h p=some (.lst (d.map λ(k:Nat)=>V.int ((k:Nat):Int)))->d.Perm (List.range f.length)->d.Pairwise (λa b=>f.getD a 0<=f.getD b 0)->Q (.ref p) h
theorem Sx(hr:B9 k X.A)(L:yr params body fD x y)(nZ:∀l,X.env.cells.lookup y=some l->closureFor fD X.env=pure [(y,l)])(hky:X.env.kindOf y=some .cell)(hN:X.N[j]?=some y)(hv:sf X.env.scope y)(GH:defaultsOf params X.env=([],[]))(tJ:X.env.code=.ref c)(hK:W.codeHdIn X.K c P=true)(hq:X.env.qual++"<lambda>"=q)(hB:Ry X.base X.mg)
  (hg:Gl X "sorted")(hm:X.mg "sorted"=none)(ha:PA X [e] tr)(he:starEach [e] X.env=[(false,eval e X.env)]:=by rfl):PE X (.Call (.Name "sorted" p) [e] [⟨some "key",.Lambda params body fD lpos,kpos⟩] pos) (d7 X.K P q lpos j tr):=by
 intro J s σ H Q I h;refine wpAny_Call_Name_kw (Eo I hg hm boot_sorted ?_ (by decide) (by decide));refine callWith_kw (he:=by rw[he];rfl) (hplain:=by rw[he];rfl) (Bh (ha pos J s σ H _ I h) λus s1 bC=>?_);obtain⟨Y,H1,I1,r1,q1⟩:=bC;obtain⟨r,D,O,rfl,hrng,hσ,hD,zT,hP,q2⟩:=q1;obtain⟨u,rfl,ru⟩:=E6 r1;cases ru;obtain⟨m0,zU,hl0⟩:=I1.loc;obtain⟨u0,ru0,lk⟩:=hl0 j y (.ref D) hN hσ hv;cases ru0
 obtain⟨l,MK,kQ⟩:∃l,X.env.cells.lookup y=some l/\s1.heap.IsCell l (some (.ref D)):=by
  rcases lk with⟨z,_⟩|⟨_,l,z1,z2⟩
  ·rw[hky]at z;cases z
  ·exact⟨l,z1,z2⟩
 show wpAny _ _ (evalAll [(do let v <- eval (.Lambda params body fD lpos) X.env;standAt pos;pure v)]) _ _ s1;refine wpAny_evalAll_cons (aN (Yp (x:=x) I1 GH (nZ l MK) tJ hK hq hP hB λf c' zB pm a H' g sm ef GG kk hfz WZ=>?_));refine aN (wpAny_standAt (a6 (wpAny_evalAll_nil ?_)));show wpAny _ _ (call (.builtin "sorted") [.ref r] [(Str.ofString "key",.ref f)]) _ _ a;obtain⟨m,hn,_⟩:=g.loc;have F:Fr X.base X.env.locals a.heap m:=⟨hn,g.bk,en g.ok.vS g.ok.above⟩;have N:News X.base X.env.locals a.heap (G6 X.base a.heap X.env.locals):=Yw;obtain⟨aL,rv,pl,hz⟩:=g.list (sm.seq hD);have hil:aL.length=O.length:=by rw[<- rv.length,List.length_map]
 have tK:∀(b:Addr) (o:Obj),a.heap.get? b=some o->(∀es ep,o.data≠ .dict es ep)->b≠X.env.locals:=λb o e w z=>by
  obtain⟨o',es,ep,e',d',_⟩:=hn;rw[z,e']at e;cases e;exact w _ _ d'
 obtain⟨t1,t2,t3,Z⟩:=(show B8 X.prog X.w H' a.heap r (.vR 0 ((O.length:Nat):Int))from g.aP r _ (sm _ _ hrng))
 have GK:l≠P:=λz=>by
  have:=I1.cA y l MK;rw[z,hP]at this;cases this
 have GL:a.heap.IsCell l (some (.ref D)):=by
  obtain⟨o,B,G⟩:=kQ;exact⟨o,kk _ _ GK B,G⟩
 have kept:∀{h:Heap}{S:List (Addr×Obj)},Fr X.base X.env.locals h m->News X.base X.env.locals h (G6 X.base a.heap X.env.locals++S)->∀b o,b≠X.env.locals->a.heap.get? b=some o->h.get? b=some o:=λ{h S} A M b o nb e=>by
  cases qq:X.base.get? b with
  |some o'=>
   have:=g.bk b o' qq;rw[e]at this;cases this;exact A.keep b _ qq
  |none=>exact(M (b,o) (gv _ (K1 nb qq e))).1
 refine Th (h₀:=X.base) (L:=X.env.locals) (m:=m) (kz:=O) (C:=λY=>Y.length=O.length/\∀(i:Nat) (v:q5),Y[i]?=some v->∃t:Tok,v=Value.int ((i:Nat):Int) t) F N rfl zT (λR hR=>?_) (λY U=>U.1.symm) (λY U i v kk' hvi hki h tk S A M=>?_) λY K C tk out c2 U A M bB hL hD0 ko=>?_
 ·refine Qj (A:=X.A.in1) hr.hd Z (small_one (by omega) (by omega) (by omega) (by omega)) (n:=O.length) (by rw[rangeSize_one];split<;>omega) (by omega) λh1 tk acc k1 hI=>hR _ h1 tk ⟨by rw[Array.length_toList];exact hI.1,λi v hv=>?_⟩ k1;obtain⟨t,e⟩:=hI.2 i v (by rw[<- Array.getElem?_toList];exact hv);exact⟨t,by rw[e];congr 1;omega⟩
 ·obtain⟨t,rfl⟩:=U.2 i v hvi;have hi:i<O.length:=(bt.mp hki).1;obtain⟨w',ew,oN⟩:=rv.get (show(O.map V.int)[i]?=some (.int kk')by rw[List.getElem?_map,hki];rfl);obtain⟨t',rfl⟩:=oN;have E:=kept A M;have hfD:f≠X.env.locals:=tK f _ ef λ_ _ z=>by cases z
  have hcr':h.CodeRec (.ref c') q:=by
   obtain⟨c3,oc,vs3,t4,G,vW,w,hv3⟩:=GG;cases G;exact⟨_,oc,vs3,t4,rfl,E _ _ (tK _ _ vW λ_ _ z=>by rw[w]at z;cases z) vW,w,hv3⟩
  have GN:h.IsCell l (some (.ref D)):=by
   obtain⟨o,B,G⟩:=GL;exact⟨o,E _ _ (tK _ _ B λ_ _ z=>by rw[G]at z;cases z) B,G⟩
  have NN:h.IsList D aL.toArray:=by
   obtain⟨o,B,G,n2,e3⟩:=pl.isList;exact⟨o,E _ _ (tK _ _ B λ_ _ z=>by rw[e3]at z;cases z) B,G,n2,e3⟩
  refine wpAny_call (codeAny_mono (Yq (s:={a with heap:=h,toks:=tk}) L hr.depth (E _ _ hfD ef) hcr' GN NN (g.ok.mod.nolimit.keeps A.keep) ew (by rw[hil,sizeLine_eq];omega) (R:=λres s3=>∃C zV,res=.ok (.ret (.int kk' t'))/\s3={a with heap:=C,toks:=zV}/\∀b o,h.get? b=some o->C.get? b=some o) λC zV k'=>⟨C,zV,rfl,rfl,k'⟩) λres s3 FI=>?_);obtain⟨C,zV,rfl,rfl,k'⟩:=FI;exact⟨C,zV,t',rfl,rfl,A.kept k',M.grown k'⟩
 ·obtain⟨ord,NO,bA,NP⟩:=Si U.1 U.2 ko
  have hDs:a.heap.get? K=none:=by
   cases qq:a.heap.get? K with
   |none=>rfl
   |some o=>exact absurd (bB _ (K1 (Nat.ne_of_gt hL) hD0 qq)) (Nat.lt_irrefl _)
  have T:H' K=none:=g.aP.off hDs;have N2:News X.base X.env.locals C (G6 X.base a.heap X.env.locals++[]):=λp hp=>M p (d3 _ (by simpa using hp));have E:=kept A N2;have B:=(M _ dm).1
  have I2:Ak X J σ (upd H' K (.lst (ord.map λ(k:Nat)=>V.int ((k:Nat):Int)))) {a with heap:=C,gens:=a.gens,drawn:=a.drawn,toks:=tk}:=by
   refine g.step (ch:=[]) (λ_ z=>nomatch z) (λb o hb _ _ e _=>E b o hb e) (λb o hb _ _ e _=>⟨o.slots,E b o hb e⟩) (λb o _ e n=>(A9 λz=>by rw[z,hDs]at e;cases e).trans n) (λb o _ e=>?_) (λb xs e=>(A9 (Ag e T)).trans e) (λb o u e=>(A9 (Ag e T)).trans e) (λb ps e=>⟨#[],by rw[A9 (Ag e T),e];simp⟩) (λm1 h1=>?_) (λb u e=>?_) g.bare
   ·by_cases z:b=X.env.locals
    ·obtain⟨o',es,ep,e',_⟩:=A.ns;exact⟨o',z▸e'⟩
    ·exact⟨o,E b o z e⟩
   ·rw[u3 h1 hn];exact A.ns
   ·by_cases z:b=K
    ·subst z;rw[A2]at e;cases e;refine⟨?_,out.toList,c2,NO,by simpa using B⟩;rw[List.length_map,bA.length_eq,List.length_range,sizeLine_eq];omega
    ·rw[A9 z]at e;refine(g.aP b u e).gY (λd o w ho=>E d o ?_ ho) (λd w=>(A9 (Ag w T)).trans w) λd xs w=>(A9 (Ag w T)).trans w;intro y;have mX:=g.free;rcases w with w1|w1
     ·rw[<- y,w1,e]at mX;cases mX
     ·rw[<- y,w1]at mX;cases mX
  exact⟨.ref K,_,I2,rfl,q2 K ord _ (sm.trans (A7.upd T)) (sm.free T) A2 bA NP⟩
end
theorem Wi{P:q7}{w:ro}{K:W.Frag}{mg mb:Str->Option q5}{CX:Xb}{k:Nat}{T a pt:Addr}{q:Str}{pos:Pos}{fd:ri}{x:Str}{sp:Sp}{c:q4}{vs:List q5}{ns:qQ}
  (KX:K.In c.heap)(tI:c.heap.Ns mainGlobals mg)(y:c.heap.Ns builtinsNs mb)(hbb:∀x:Str,x≠"__name__"->mb x=bootBuiltins x)(L:c.heap.NoLimit)(hg:c.gens=#[])
  (C:c.heap.get? pt=some (W.tabObj #[]))(Z:K.lookup pt=none)(hct:isCodeTable c.heap pt)
  (B:c.heap.get? a=some {cls:=.type "list",data:=.seq vs.toArray})(hi:IntsAre vs ns)(hl:ns.length<=sizeLine)(hr:B9 k callerA)
  (hB:c.heap.BuiltinsAt mg pt)(F:∀base:Heap,K.In base->base.Ns mainGlobals mg->Ry base mg->B1 P w K mg base CX k T fd [x] sp)(NQ:∀(s:q4) (u:q5),BindsTo s fd ⟨[u],[]⟩ [(x,u)])
  (zy:∀H:Hp,H pt=some (.tab q pos)->Ao K H a (ns.map V.int)->sp [.ref a] H (λv Q=>v=.bl true/\Q pt=some (.tab q pos)) λ_ _ _=>False)
  (Y:∀H e s',CX [] H c (λ_ _ _=>False) e s'->False):
  codeAny (model P w) callerA (.call (.ref T) ⟨[.ref a],[]⟩) (λr s'=>r=.ok (.ret (.bool true))/\OldK c.heap s'.heap/\s'.os=c.os/\AllBare s'.gens) c:=by
 have rv:=Gh hi;have M:=hi.length
 have N:pt≠a:=λz=>by
  rw[z,B]at C;cases C
 have p:∀H:Hp,(∀b,b≠pt->H b=none\/∃o xs,H b=some (.fA o (.lst xs)))->H pt=some (.tab q pos)->Ao K H a (ns.map V.int)->Fj P w H c.heap->(∀b,H b≠none->b=a\/b=pt)->(H a≠none->K.lookup a=none)->
   codeAny (model P w) callerA (.call (.ref T) ⟨[.ref a],[]⟩) (λr s'=>r=.ok (.ret (.bool true))/\OldK c.heap s'.heap/\s'.os=c.os/\AllBare s'.gens) c:=by
  intro H hO hPt hS aP U hK;have oQ:∀{b:Addr}{o:Obj},c.heap.get? b=some o->H b=none->(Mu c.heap H).get? b=some o:=λe n=>Yd e n
  have MQ:∀{b:Addr}{o:Obj}{G:Array DictEntry}{E:Nat},c.heap.get? b=some o->o.data=.dict G E->H b=none:=λ{b o G E} e d=>by
   cases i:H b with
   |none=>rfl
   |some u=>
    rcases U b (by rw[i];simp)with g|g
    ·subst g;rw[B]at e;cases e;have d':Data.seq vs.toArray _=Data.dict G E:=d;cases d'
    ·subst g;rw[C]at e;cases e;cases d
  have O:∀{b:Addr}{m:Str->Option q5},c.heap.Ns b m->(Mu c.heap H).Ns b m:=λ{b m} ⟨o,G,E,e,d,r⟩=>⟨o,G,E,oQ e (MQ e d),d,r⟩
  have I:K.In (Mu c.heap H):=λb o e=>oQ (KX b o e) (by
   cases i:H b with
   |none=>rfl
   |some u=>
    rcases U b (by rw[i];simp)with g|g
    ·subst g;rw[hK (by rw[i];simp)]at e;cases e
    ·subst g;rw[Z]at e;cases e)
  have hM:Mod K mg (Mu c.heap H):=⟨I,O tI,⟨mb,O y,hbb⟩,let⟨mc,h1,h2⟩:=L;⟨mc,O h1,h2⟩⟩
  have X:Ry (Mu c.heap H) mg:=by
   obtain⟨S,o,b1,b2,b3,b4,R,b6,b7,b8⟩:=hB;refine⟨S,o,b1,b2,b3,oQ R ?_,b6,b7,b8⟩;cases i:H S with
   |none=>rfl
   |some u=>
    rcases U S (by rw[i];simp)with g|g
    ·rw[g,B]at R;cases R;cases b8
    ·exact absurd g b4
  have e0:Rz P w K mg (Mu c.heap H) callerA [] c H:=⟨rfl,hM,λb o e=>g9 e,Nat.le_of_eq (Wa _ _),trivial,λb y=>absurd (show b∈([]:List Addr)from y) (by simp),aP,.of_eq hg⟩;refine codeAny_mono ((F _ I (O tI) X).run callerA [] c H ⟨[.ref a],[]⟩ [.ref a] [.ref a] _ _ hr e0 (NQ c (.ref a)) (.cons rfl .nil) (zy H hPt hS)) λr s' h=>?_;cases r with
  |error e=>exact(Y H e s' h).elim
  |ok fl=>
   cases fl with
   |next=>exact False.elim h
   |brk=>exact False.elim h
   |cont=>exact False.elim h
   |ret u=>
    obtain⟨v,Q,os,D,un,rK,r',q1,q2⟩:=h;subst q1;obtain rfl:u=Value.bool true:=r';refine⟨rfl,⟨λb o e=>?_,λb o e=>un.there b o e (by simp)⟩,os,D⟩;by_cases J:b=pt
    ·subst J;rw[C]at e;cases e;rcases(show B8 P w Q s'.heap b (.tab q pos)from rK b _ q2)with A|⟨c',_,_,A,_⟩
     ·exact .inl A
     ·exact .inr (.inl ⟨hct,rfl,#[],_,rfl,by simpa using A⟩)
    ·refine .inl ?_;cases i:H b with
     |none=>exact un.keep b o e i (by intro z;exact absurd (show b∈([]:List Addr)from z) (by simp)) (by simp)
     |some u=>
      rcases hO b J with z|⟨ob,xs,z⟩
      ·rw[i]at z;cases z
      ·have z2:=un.gQ b ob _ z;obtain⟨A,_⟩:=aP b _ z;obtain⟨e2,_⟩:=rK b _ z2;rw[e]at A;cases A;exact e2
 have BP:∀H:Hp,B8 P w H c.heap pt (.tab q pos):=λH=>.inl C;cases hk:K.lookup a with
 |some o=>
  have e:=KX a o hk;rw[B]at e;cases e;refine p (λb=>if b=pt then some (.tab q pos)else none) (λb y=>.inl (if_neg y)) (if_pos rfl) (.inr ⟨_,vs.toArray,_,hk,rfl,rfl,rfl,by rw[List.size_toArray,M];exact hl,by simpa using rv⟩) (λb u z=>?_) (λb z=>?_) λz=>absurd (if_neg N.symm) z
  ·by_cases f:b=pt
   ·have j:=(if_pos f).symm.trans z;cases j;subst f;exact BP _
   ·have j:=(if_neg f).symm.trans z;cases j
  ·by_cases f:b=pt
   ·exact .inr f
   ·exact absurd (if_neg f) z
 |none=>
  refine p (λb=>if b=pt then some (.tab q pos)else if b=a then some (.fA {cls:=.type "list",data:=.seq vs.toArray} (.lst (ns.map V.int)))else none) (λb y=>?_) (if_pos rfl) (.inl (.inr ⟨{cls:=.type "list",data:=.seq vs.toArray},(if_neg N.symm).trans (if_pos rfl)⟩)) (λb u z=>?_) (λb z=>?_) λ_=>hk
  ·by_cases l:b=a
   ·exact .inr ⟨_,_,(if_neg y).trans (if_pos l)⟩
   ·exact .inl ((if_neg y).trans (if_neg l))
  ·by_cases f:b=pt
   ·have j:=(if_pos f).symm.trans z;cases j;subst f;exact BP _
   ·have z1:=(if_neg f).symm.trans z;by_cases l:b=a
    ·have j:=(if_pos l).symm.trans z1;cases j;subst l;exact⟨B,by rw[List.length_map];exact hl,vs,_,rv,B⟩
    ·have j:=(if_neg l).symm.trans z1;cases j
  ·by_cases f:b=pt
   ·exact .inr f
   ·by_cases l:b=a
    ·exact .inl l
    ·exact absurd ((if_neg f).trans (if_neg l)) z
theorem walk_ofT{l:W.OpenLaw}{n k:Nat}{q:q7}{j:List Str}{XP:(Str->Option q5)->Heap->Prop}{C:ro->Heap->Prop}{d:DefRec}{K:Params->W.Frag}{CX:ro->Xb}{sp:ro->Sp}{x:Str}{pt:Addr}{lq:Str}{lpos:Pos}
  (hn:l.most=some n)(XC:n<=sizeLine)(O:d.params.defaults=[])(hr:B9 k callerA)
  (hY:∀(w:ro) (h:Heap),C w h->(K w.params).In h)(U:∀(w:ro) (h:Heap),C w h->h.get? pt=some (W.tabObj #[]))
  (F:∀(w:ro) (mg:Str->Option q5) (A:Addr) (h:Heap),(K w.params).In h->h.Ns mainGlobals mg->mg d.name=some (.ref A)->
   ((K w.params).lookup pt=none/\∃c,W.codeHdIn (K w.params) c pt=true)/\∃E:ri,(∀(s:q4) (u:q5),BindsTo s E ⟨[u],[]⟩ [(x,u)])/\
    ∀base:Heap,(K w.params).In base->base.Ns mainGlobals mg->Ry base mg->B1 l.prog w (K w.params) mg base (CX w) k A E [x] (sp w))
  (zy:∀(w:ro) (H:Hp) (a:Addr) (ns:qQ),ns.length<=n->(∀z∈ns,PySem.Builtin.Int.intBits z<=2^20)->H pt=some (.tab lq lpos)->Ao (K w.params) H a (ns.map V.int)->sp w [.ref a] H (λv H'=>v=.bl true/\H' pt=some (.tab lq lpos)) λ_ _ _=>False)
  (J:∀(w:ro) (H:Hp) (s:q4) (e:q5) (s':q4),CX w [] H s (λ_ _ _=>False) e s'->False):
  W.WalkO q j XP C l.row.toRowW d [] (λf vs=>PySem.call f vs):=by
 intro w X b mg mb G Y A o pm cd doc dV kV ho hd rD T P hg Q vals as zO p XO pL hlo;obtain rfl:dV=.none:=W.Dflts.none T O;obtain rfl:kV=.none:=W.Dflts.noKw T;obtain⟨a,vs,ns,rfl,rfl,y,i,g⟩:=Att.vB hn zO pL
 have big:∀z∈ns,PySem.Builtin.Int.intBits z<=2^20:=λz hz=>by
  have l1:=(W.layW_cons p).1;have l2:=W.layableW_item l1 (.int z) (fe.mpr ⟨z,hz,rfl⟩);have l3:=(W.layableW_iff.mp l2).2.2;simpa only[W.WData.weight,Builtin.Int.intBits]using l3
 have B:=hY w _ Y;obtain⟨⟨L,c,M⟩,E,hb,hF⟩:=F w mg A _ B G.T.g P
 have N:isCodeTable b.heap pt:=by
  obtain⟨o,vs,S,tf,I,tg,inF,Z,tt,e1,e2,e3,e4,_⟩:=W.codeHd_of_K B M;exact⟨c,o,vs,e1,e2,e3,e4⟩
 have XM:b.heap.BuiltinsAt mg pt:=by
  obtain⟨bm,ob,b1,b2,m,R,b5,D⟩:=G.T.bmain;refine⟨bm,ob,b1,b2,λz=>?_,λz=>?_,m,R,b5,D⟩
  ·obtain⟨o',es,ep,e,gS,_⟩:=G.T.g;rw[z,e]at m;cases m;rw[gS]at D;cases D
  ·have:=U w _ Y;rw[z,this]at m;cases m;cases R
 refine W.enter_call (codeAny_mono (Wi (q:=lq) (pos:=lpos) B G.T.g G.T.b G.T.builtins G.T.nolimit hg (U w _ Y) L N y i (en g XC) hr XM hF hb (λH hP hS=>zy w H a ns g big hP hS) λH e s'=>J w H b e s') λr s' hq=>?_);obtain⟨rfl,h2,h3,h4⟩:=hq;exact⟨.inl ⟨.bool true,.bool true,[],rfl,λ_=>rfl,.bool true,Att.vC l _,λ_=>⟨List.Pairwise.nil,λ_ hm=>(nomatch hm)⟩⟩,h2,h3,h4⟩
structure dj(K:W.Frag)(x qual:Str)(st:Stmt)(f:Addr)(fd:ri)(c pt:Addr):Prop where
 fn:D8 K x qual st f fd
 code:fd.code=.ref c
 tab:W.codeHdIn K c pt=true
theorem dj.qA{P:q7}{w:ro}{K:W.Frag}{mg:Str->Option q5}{base:Heap}{x a:Str}{st:Stmt}{f:Addr}{d:ri}{c pt:Addr}{N ps:List Str}{k:Nat}{sp:Sp}(F:dj K x a st f d c pt)(S:Ai N ps (A8 st))(b:∀vs H Q E,sp vs H Q E->vs.length=ps.length)
  (i:∀(A:rd) (outer:List Env) (s:q4) (H:Hp) (vs:List V) (Q:VK) (E:XK),B9 k (A.deeper (envOfC a (A8 st) s.heap.objs.size f (.ref c)))->sp vs H Q E->
   ∃t,Mo (Ex (CX1 P w) P w K mg base N a (A8 st) f (.ref c) A outer s H E) (Be st) t/\t {nx:=λ_ e=>Q .aX e,rt:=Q} (start N vs) H):B1 P w K mg base (CX1 P w) (k+1) f d ps sp:=by
 obtain⟨o,p,kV,h,r,m,g,n,q,rfl,j,l⟩:=F.fn.ex;obtain rfl:g=.ref c:=F.code;exact Y7 j l S b i
theorem Qi{env:Env}(c:b.names=[(x,.local),(y,.free)])(h:env.cells.lookup y=some a):closureFor b env=pure [(y,a)]:=by
 unfold closureFor;rw[c];simp[cellOf,h]
def Kt(xs:Array Nat):Prop:=xs.toList.Pairwise (·<·)
theorem S2(q:Kt xs):∀(fuel lo hi:Nat),hi-lo<=fuel->lo<=hi->hi<=xs.size->(∀i a,i<lo->xs[i]?=some a->a<j)->(∀i a,hi<=i->xs[i]?=some a->j<=a)->
  SetTable.below.go xs j fuel lo hi<=xs.size/\(∀i a,i<SetTable.below.go xs j fuel lo hi->xs[i]?=some a->a<j)/\∀i a,SetTable.below.go xs j fuel lo hi<=i->xs[i]?=some a->j<=a
 |0,lo,hi,y,p,m,h,l=>by
  unfold SetTable.below.go;have e:lo=hi:=by omega
  subst e;exact⟨m,h,l⟩
 |fuel+1,lo,hi,y,p,m,h,l=>by
  unfold SetTable.below.go;by_cases s:lo<hi
  ·rw[if_pos s];have g:(lo+hi)/2<xs.size:=by omega
   have f:xs[(lo+hi)/2]?=some (xs[(lo+hi)/2]'g):=Array.getElem?_eq_getElem g;have x:xs.getD ((lo+hi)/2) j=xs[(lo+hi)/2]'g:=by simp[Array.getD,g]
   dsimp only;rw[x];generalize xs[(lo+hi)/2]'g=b at f
   have up:∀i k a c,i<k->xs[i]?=some a->xs[k]?=some c->a<c:=λi k a c o d w=>by
    have r:=ll.mp d;have u:=ll.mp w;have:=List.pairwise_iff_getElem.mp q i k (by simpa using r.1) (by simpa using u.1) o;simp only[Array.getElem_toList]at this;rw[r.2,u.2]at this;exact this
   by_cases n:b<j
   ·rw[if_pos n];refine S2 q fuel _ _ (by omega) (by omega) m (λi a v d=>?_) l;rcases iv i ((lo+hi)/2)with z|z
    ·have:=up i _ a b z d f;omega
    ·rw[show i=(lo+hi)/2 by omega,f]at d;cases d;exact n
   ·rw[if_neg n];refine S2 q fuel _ _ (by omega) (by omega) (by omega) h (λi a v d=>?_);rcases iv ((lo+hi)/2) i with z|z
    ·have:=up _ i b a z f d;omega
    ·rw[show i=(lo+hi)/2 by omega,f]at d;cases d;omega
  ·rw[if_neg s];have e:lo=hi:=by omega
   subst e;exact⟨m,h,l⟩
theorem wj(j:Nat)(b:Kt xs):SetTable.below xs j<=xs.size/\(∀i a,i<SetTable.below xs j->xs[i]?=some a->a<j)/\∀i a,SetTable.below xs j<=i->xs[i]?=some a->j<=a:=
 S2 b xs.size 0 xs.size (by omega) (ml _) (dr _) (λi a h=>absurd h (nP _)) λi a h e=>by
  have:=(ll.mp e).1;omega
theorem jp(f:Kt xs)(h:xs[i]?=some a):SetTable.below xs (a+1)=i+1:=by
 obtain⟨g,b,c⟩:=wj (a+1) f;have e:=ll.mp h;generalize SetTable.below xs (a+1)=p at g b c;rcases Nat.lt_trichotomy p (i+1)with z|z|z
 ·have:=c i a (by omega) h;omega
 ·exact z
 ·have j:xs[i+1]?=some (xs[i+1]'(by omega)):=Array.getElem?_eq_getElem (by omega);have:=b (i+1) _ z j;have d:=List.pairwise_iff_getElem.mp f i (i+1) (by simpa using e.1) (by simp;omega) (by omega);simp only[Array.getElem_toList]at d;rw[e.2]at d;omega
theorem Xj(e:Kt xs):SetTable.below xs 0=0:=by
 obtain⟨b,a,c⟩:=wj 0 e;generalize SetTable.below xs 0=p at b a c;cases p with
 |zero=>rfl
 |succ p=>
  have d:xs[0]?=some (xs[0]'(by omega)):=Array.getElem?_eq_getElem (by omega);exact absurd (a 0 _ (by omega) d) (nP _)
theorem Tb(g:Kt xs)(q:j∉xs.toList):Kt (SetTable.insertAt xs (SetTable.below xs j) j):=by
 obtain⟨o,h,l⟩:=wj j g;generalize SetTable.below xs j=p at o h l⊢;unfold Kt;rw[SetTable.toList_insertAt]
 have n:∀a∈xs.toList.take p,a<j:=λa f=>by
  obtain⟨i,c⟩:=gy.mp f;rw[List.getElem?_take]at c;split at c
  ·exact h i a (by assumption) (by simpa using c)
  ·cases c
 have m:∀b∈xs.toList.drop p,j<b:=λb d=>by
  obtain⟨i,c⟩:=gy.mp d;rw[List.getElem?_drop]at c;have:=l (p+i) b (by omega) (by simpa using c);have r:j≠b:=λe=>q (e▸List.mem_of_mem_drop d);omega
 refine List.pairwise_append.mpr ⟨List.Pairwise.sublist (List.take_sublist ..) g,List.pairwise_cons.mpr ⟨m,List.Pairwise.sublist (List.drop_sublist ..) g⟩,λa f b d=>?_⟩;rcases eu.mp d with e|d
 ·rw[e];exact n a f
 ·exact Nat.lt_trans (n a f) (m b d)
theorem Wz(n:Nat):Kt (Array.range n):=by
 unfold Kt;rw[Array.toList_range];exact List.pairwise_lt_range
structure Bo(t:SetTable)(led:Bool):Prop where
 zE:Kt t.place
 dum:t.dummies=#[]
 led:t.led=led
theorem Bo.fresh(a b:Nat)(led:Bool):Bo (.fresh a b led) led:=⟨List.Pairwise.nil,rfl,rfl⟩
theorem Bo.standIn{t:SetTable}{led:Bool}(h:Bo t led)(n:Nat):Bo (t.standIn n) led:=⟨Wz n,rfl,h.led⟩
theorem Bo.off{t:SetTable}{led:Bool}(h:Bo t led):Bo {t with plain:=false} led:=⟨h.zE,h.dum,h.led⟩
theorem Um(j:Nat):SetTable.has #[] j=false:=by
 unfold SetTable.has;simp
theorem Bo.probe{t:SetTable}{led:Bool}(g:Bo t led)(f:Nat->Int)(h:Int):∀(fuel:Nat) (p:SetTable.Probe) (j:Nat) (d:Option Nat),SetTable.probe.go t f h fuel p=some (.empty j d)->d=p.dummy/\t.slot j=.empty
 |0,p,j,d,e=>by
  unfold SetTable.probe.go at e;cases e
 |fuel+1,p,j,d,e=>by
  unfold SetTable.probe.go at e;split at e
  ·rename_i a;cases e;exact⟨rfl,a⟩
  ·rename_i a;unfold SetTable.slot at a;simp only[g.dum,Um]at a;split at a
   ·cases a
   ·cases a
  ·split at e
   ·cases e
   ·have:=Bo.probe g f h fuel _ j d e;refine⟨this.1.trans ?_,this.2⟩;unfold SetTable.advance;split<;>rfl
theorem Bo.free{t:SetTable}{led:Bool}(g:Bo t led){h:Int}{j:Nat}{b:Bool}(e:t.freeSlot h=some (j,b)):j∉t.place.toList:=by
 unfold SetTable.freeSlot at e;split at e
 ·rename_i a d w;obtain⟨s,c⟩:=g.probe _ _ _ _ _ _ w;have o:d=none:=s;subst o;cases e;intro v;obtain⟨i,u⟩:=gy.mp v;obtain⟨x,p,q⟩:=wj a g.zE;have f:t.place[i]?=some a:=by simpa using u
  have m:i=SetTable.below t.place a:=by
   rcases Nat.lt_trichotomy i (SetTable.below t.place a)with z|z|z
   ·have:=p i a z f;omega
   ·exact z
   ·have n:=(ll.mp f).1;have r:t.place[SetTable.below t.place a]?=some (t.place[SetTable.below t.place a]'(by omega)):=Array.getElem?_eq_getElem (by omega);have y:=q _ _ (dr _) r;have l:=List.pairwise_iff_getElem.mp g.zE _ i (by simp;omega) (by simpa using n) z;simp only[Array.getElem_toList]at l;rw[(Array.getElem?_eq_some_iff.mp f).2]at l;omega
  unfold SetTable.slot at c;dsimp only at c;rw[<- m,f]at c;simp at c
 ·cases e
theorem Bo.put{t:SetTable}{led:Bool}(g:Bo t led){j:Nat}(h:j∉t.place.toList):Bo (t.put j).1 led:=by
 refine⟨Tb g.zE h,?_,g.led⟩;show(if SetTable.has t.dummies j then _ else t.dummies)=_;rw[g.dum,Um];rfl
theorem Bo.orStandIn{t:SetTable}{led:Bool}(g:Bo t led)(n:Nat):Bo (t.orStandIn n) led:=by
 unfold SetTable.orStandIn;split
 ·exact g
 ·exact g.standIn n
theorem Bo.layNew{t:SetTable}{led:Bool}(g:Bo t led)(es:Array (Int×q5))(h:Int)(x:q5):Bo (layNew t es h x).2.1 led:=by
 unfold PySem.layNew;split
 ·rename_i a b e;exact(g.put (g.free e)).orStandIn _
 ·exact g.standIn _
theorem Bo.laid{g a b:Nat}{led h:Bool}{q:Array Int}{t:SetTable}{o:Array Nat}(e:SetTable.laid g a b led h q=some (t,o)):Bo t led:=by
 unfold SetTable.laid at e;cases p:SetTable.layClean g q with
 |none=>rw[p]at e;cases e
 |some f=>
  rw[p]at e;cases e;refine⟨?_,rfl,rfl⟩;show List.Pairwise _ _;simp only[List.toList_toArray];rw[List.map_filterMap];refine List.Pairwise.filterMap _ (R:=(·<·)) (λi k r a j b l=>?_) List.pairwise_lt_range;cases m:f.getD i none with
  |none=>simp[m]at j
  |some c=>
   cases n:f.getD k none with
   |none=>simp[n]at l
   |some d=>
    simp[m]at j;simp[n]at l;omega
theorem Bo.NR{t:SetTable}{led:Bool}(g:Bo t led)(es:Array (Int×q5))(n:Nat):Bo (relayAll t es n).2.1 led:=by
 unfold relayAll;split
 ·rename_i b a e;dsimp only;split
  ·have:=Bo.laid e;rw[g.led]at this;exact this
  ·exact g.standIn _
 ·exact g.standIn _
section
variable {P:q7}{w:ro}{A:rd}{E:pP}{s:q4}{κ:Type} [DecidableEq κ]
def Kv(knd:KeyKind P w κ)(h:Heap)(a:Addr)(led:Bool)(d:List κ)(n:Nat):Prop:=
 ∃(o:Obj) (b:Array (Int×q5)) (c:Nat) (t:SetTable),h.get? a=some o/\o.ExactSet/\o.data=.set b c t/\ElemsOf knd b.toList/\(∀k,k∈d↔∃e∈b.toList,knd.is k e.2=true)/\b.size<=n/\t.fits b.size=true/\Bo t led
variable {knd:KeyKind P w κ}
theorem Kv.at{h h':Heap}{a:Addr}{led:Bool}{c:List κ}{n:Nat}(g:Kv knd h a led c n)(keep:∀o,h.get? a=some o->h'.get? a=some o):Kv knd h' a led c n:=by
 obtain⟨o,e,d,t,f,b⟩:=g;exact⟨o,e,d,t,keep _ f,b⟩
theorem stored{h:Heap}{a:Addr}{o:Obj}{b es:Array (Int×q5)}{ep:Nat}{t0:SetTable}(t:SetTable)(c:h.get? a=some o)(hd:o.data=.set b ep t0):
  (h.update a (Obj.putSet es t)).get? a=some {o with data:=.set es (ep+1) t}:=by
 have e:=gK (Obj.putSet es t) c (by rw[putSet_of es t hd];rfl);rw[putSet_of es t hd]at e;exact e
theorem ji{B:Bool->Sem Unit}(r:∀(b:Bool) (z:q4) (R:Unit->q4->Prop),R () z->wpAny (model P w) A (B b) R E z){a:Addr}{o:Obj}{i es:Array (Int×q5)}{ep n:Nat}{t0 t:SetTable}{led:Bool}{D:List κ}(C:s.heap.get? a=some o)(ex:o.ExactSet)(hd:o.data=.set i ep t0)
  (x:ElemsOf knd es.toList)(g:∀k,k∈D↔∃e∈es.toList,knd.is k e.2=true)(le:es.size<=n)(H:n<scanBound)(j:t.fits es.size=true)(c:Bo t led){G:Bool}{R:Option Bool->q4->Prop}
  (q:∀h',Heap.SameBut a s.heap h'->Kv knd h' a led D n->R (some true) {s with heap:=h'}):
  wpAny (model P w) A (do
    storeSet a es t
    if(!G&&t.tooFull)=true then do
      B (relayAll t es (SetTable.grown es.size)).2.2
      storeSet a (relayAll t es (SetTable.grown es.size)).1 (relayAll t es (SetTable.grown es.size)).2.1
      pure (some true)
     else pure (some true)) R E s:=by
 have h:es.size<=sizeLine:=fits_of_scanBound (by omega);refine aN (wpAny_storeSet_of C hd ?_ h);have u:=stored (es:=es) t C hd;have v:=g6 s.heap a (Obj.putSet es t);split
 ·have d:=relayAll_perm t es (SetTable.grown es.size);have l:=relayAll_fits t es (SetTable.grown es.size);have m:=c.NR es (SetTable.grown es.size);generalize relayAll t es (SetTable.grown es.size)=all at d l m⊢;obtain⟨f,F,y⟩:=all;dsimp only at d l m⊢
  have sz:f.size=es.size:=by
   have:=d.length_eq;simpa using this
  refine aN (r _ _ _ ?_);refine aN (wpAny_storeSet_of u rfl ?_ (by omega));refine a6 (q _ (v.trans (g6 _ a _)) ⟨_,f,_,F,stored F u rfl,ex,rfl,x.perm d,λk=>(g k).trans ⟨λ⟨e,p,z⟩=>⟨e,d.mem_iff.mpr p,z⟩,λ⟨e,p,z⟩=>⟨e,d.mem_iff.mp p,z⟩⟩,by omega,l,m⟩)
 ·exact a6 (q _ v ⟨_,es,_,t,u,ex,rfl,x,g,le,j,c⟩)
theorem xp{a:Addr}{led:Bool}{G:List κ}{n:Nat}{k:κ}{x:q5}{Q:Bool->q4->Prop}(D:knd.is k x=true)(H:x.scannable=true)(g:Kv knd s.heap a led G n)(S:n+1<scanBound)
  (q:∀b h',Heap.SameBut a s.heap h'->Kv knd h' a led (k::G) (n+1)->Q b {s with heap:=h'}):wpAny (model P w) A (setAddHashed a x (knd.hash k)) Q E s:=by
 obtain⟨o,d,T,t,F,I,C,u,p,Z,m,f⟩:=g;unfold setAddHashed setAddHashedIn;refine fC (aN (wpAny_setState_of F C m ?_));dsimp only;rw[byScan_of H (by omega) u];simp only[↓reduceIte];unfold setAddByScan;refine aN ?_;refine aN (m8 ?_);refine aN (wpAny_setScan_of D F C m u ?_);cases L:List.findIdx? (λe=>knd.is k e.2) d.toList with
 |some j=>
  dsimp only;obtain⟨U,X,_⟩:=List.findIdx?_eq_some_iff_getElem.mp L;have r:k∈G:=(p k).mpr ⟨d.toList[j],oa U,X⟩;refine a6 (a6 ?_);have e:s={s with heap:=s.heap}:=by cases s;rfl
  rw[e];refine q _ s.heap (Heap.SameBut.refl a s.heap) ⟨o,d,T,t,F,I,C,u,λl=>?_,by omega,m,f⟩;rw[List.mem_cons,<- p l];exact⟨λz=>z.elim (λe=>e▸r) id,.inr⟩
 |none=>
  dsimp only;have c:=layNew_perm t d (knd.hash k) x;have y:=layNew_fits t d (knd.hash k) x;have B:=f.layNew d (knd.hash k) x;generalize layNew t d (knd.hash k) x=all at c y B⊢;obtain⟨v,t1,Y,O⟩:=all;dsimp only at c y B⊢;rw[Array.toList_push]at c
  have sz:v.size=d.size+1:=by
   have:=c.length_eq;simpa using this
  have N:∀l,l∈k::G↔∃e∈v.toList,knd.is l e.2=true:=λl=>by
   rw[List.mem_cons,p l];constructor
   ·rintro(rfl|⟨e,i,z⟩)
    ·exact⟨(knd.hash l,x),c.mem_iff.mpr (gd _ (i0.mpr rfl)),D⟩
    ·exact⟨e,c.mem_iff.mpr (gv _ i),z⟩
   ·rintro⟨e,i,z⟩;rcases fy.mp (c.mem_iff.mp i)with i|i
    ·exact .inr ⟨e,i,z⟩
    ·rw[List.mem_singleton]at i;subst i;exact .inl (knd.inj x l k z D)
  have K:∀(b:Bool) {z:q4}{R:Unit->q4->Prop},R () z->wpAny (model P w) A (match b with|true=>rule "set.scan.the-table-gave-way"|false=>pure ()) R E z:=λb z R h=>by
   cases b
   ·exact a6 h
   ·exact m8 h
  refine aN (K _ ?_);split
  ·refine aN ?_;rw[hashByValue_scannable 8 H];refine a6 ?_;refine ji (led:=led) (λb z R h=>?_) F I C ((u.push D H).perm c) N (n:=n+1) (by omega) S ?_ ?_ λh' M J=>?_
   ·exact K b h
   ·split
    ·exact y
    ·exact SetTable.fits_plain_off y
   ·split
    ·exact B
    ·exact B.off
   ·exact a6 (q _ h' M J)
  ·refine aN (a6 ?_);simp only[↓reduceIte];refine ji (led:=led) (λb z R h=>?_) F I C ((u.push D H).perm c) N (n:=n+1) (by omega) S y B λh' M J=>?_
   ·exact K b h
   ·exact a6 (q _ h' M J)
end
section
variable {P:q7}{w:ro}{A:rd}{R:Result->q4->Prop}{κ:Type} [DecidableEq κ] {knd:KeyKind P w κ}
theorem tm{I S:Addr}{led:Bool}{B j:List Addr}{G:Array GenState->Array GenState->Prop}{n:Nat}{x:Nat->q5->Prop}{St:Nat->q4->Prop}(W:WalksS P w A.in1 I B j G n x St)(out:S∉B){f:Nat->κ}(Y:∀i v,x i v->knd.is (f i) v=true/\v.scannable=true)(qB:n+1<scanBound):
  ∀(m i:Nat) (s:q4),n=i+m->St i s->Kv knd s.heap S led ((List.range i).map f) i->
   (∀z,Moved (S::j) G s z->Kv knd z.heap S led ((List.range n).map f) n->R (.ok (.ret .none)) z)->codeAny (model P w) A (.builtin "set.update.loop" ⟨[.ref S,.ref I],[]⟩) R s:=by
 have u:S∉j:=λz=>out (W.sub _ z);have a:∀b∈j,b∈S::j:=λb z=>d3 _ z;intro m
 induction m with
 |zero=>
  intro i s e r g q;obtain rfl:n=i:=by omega
  refine codeAny_builtin PyProof.Rows.F.entry_set_update_loop ?_;rw[Around.under_plainId PyProof.Rows.F.plain_set_update_loop _];show wpAny _ A.in1 (pyNext (.ref I)>>=_) _ _ s;refine aN (W.done s _ _ r λz h=>?_);show wpAny _ A.in1 (ret Value.none) _ _ z;exact a6 (q z (h.mono a) (g.at λo c=>h.heap S o u c))
 |succ m Z=>
  intro i s e r g q;refine codeAny_builtin PyProof.Rows.F.entry_set_update_loop ?_;rw[Around.under_plainId PyProof.Rows.F.plain_set_update_loop _];show wpAny _ A.in1 (pyNext (.ref I)>>=_) _ _ s;refine aN (W.item i s _ _ (by omega) r λv z pr E h=>?_);obtain⟨C,vD⟩:=Y i v pr;have O:=g.at λo c=>h.heap S o u c;show wpAny _ A.in1 (holding [v] (setAdd S v)>>=_) _ _ z;refine aN (fC ?_);unfold setAdd;refine fC (aN (knd.pyHash C ?_));refine xp (s:={z with toks:=z.toks+1}) C vD O (by omega) λb X D Q=>?_
  have T:Kv knd X S led ((List.range (i+1)).map f) (i+1):=by
   obtain⟨o,N,M,t,F,H,J,K,L,d⟩:=Q;refine⟨o,N,M,t,F,H,J,K,λk=>?_,d⟩;rw[<- L k,List.range_succ,List.map_append,List.mem_append,List.mem_cons];simp only[List.map_cons,List.map_nil,List.mem_singleton];exact⟨λz=>z.elim .inr .inl,λz=>z.elim .inr .inl⟩
  refine a6 ⟨nf PyProof.Rows.F.plain_set_update_loop _,Z (i+1) _ (by omega) (W.frame _ z _ _ E (Nat.le_succ _) λb p o c=>?_) T λy my U=>?_⟩
  ·rw[D.2 b (λl:b=S=>out (by rw[<- l];exact p))];exact c
  ·refine q y (Moved.trans W.gtrans ((h.mono a).then_heap (Nat.le_succ _) λb o p c=>?_) my) U;rw[D.2 b (λl:b=S=>p (by rw[l];exact List.mem_cons_self))];exact c
end
section
variable {P:q7}{w:ro}{A:rd}{E:pP}{s:q4}{κ:Type} [DecidableEq κ] {knd:KeyKind P w κ}
abbrev Nr(w:ro):Bool:= !w.params.followText "set-order"
theorem Vo(a:q5)(q:Q (.ref s.heap.objs.size) {s with heap:=s.heap.push (En (Nr w)) }):
  codeAny (model P w) A (.call (.builtin "set.__new__") ⟨[.type "set",a],[]⟩) (wants Q E) s:=by
 refine codeAny_of_tree ?_;show wpAny _ A.in1 (checkBuiltinCall "set.__new__" ⟨[.type "set",a],[]⟩>>=λ_=>again (.builtin "set.__new__" ⟨[.type "set",a],[]⟩)) _ _ s;refine aN (wpAny_of_eq (PySem.F.newCall_set_1 a) (a6 ⟨nf PySem.F.plain_set_new _,codeAny_builtin PySem.F.entry_set_new ?_⟩));rw[Around.under_plainId PySem.F.plain_set_new _];unfold Builtin.«set.__new__» Builtin.Frozenset.newClass;have b:=sub_set_self;obtain⟨c,g,d,f,e⟩:=s;dsimp only
 wp_walk
 refine wpAny_askSetting (a6 ?_);dsimp only;simp only[newObj];refine aN (wpAny_alloc (a6 ?_));exact a6 q
theorem sj{l:Addr}{a:Array q5}{f:Nat->κ}{Q:pP}(no:A.handled=none)(hl:s.heap.IsList l a)(Y:∀i v,a[i]?=some v->knd.is (f i) v=true/\v.scannable=true)(qB:a.size+1<scanBound)
  (q:∀(d:Heap) (h:Nat),Kv knd d s.heap.objs.size (Nr w) ((List.range a.size).map f) a.size->(∀b o,b<s.heap.objs.size->s.heap.get? b=some o->d.get? b=some o)->Q (.ref s.heap.objs.size) {s with heap:=d,toks:=h}):
  wpAny (model P w) A (call (.type "set") [.ref l]) Q E s:=by
 have L:=PySem.F.called_set.mro;obtain⟨cc,tl,L⟩:=L;have md:=PySem.F.called_set.made;have sb:=PySem.F.called_set.sub;refine wpAny_call (codeAny_of_tree ?_);show wpAny _ _ (callAny (.type "set") _) _ _ _;refine a6 (And.intro (Code.quiet_builtin _ (by decide+kernel)) (codeAny_builtin PySem.F.entry_type_call ?_));rw[Around.under_plain (weight_type_call_type "set" [.ref l] []) rfl];have nt:=PySem.F.called_set.notType;have cn:=PySem.F.called_set.canCreate;have tc:=PySem.F.typeCall_set_1 (.ref l)
 repeat (any_goals (first|wp_step|assumption))
 refine codeAny_mono (Vo (.ref l) (E:=E) (Q:=λx z=>x=.ref s.heap.objs.size/\z={s with heap:=s.heap.push (En (Nr w)) }) ⟨rfl,rfl⟩) λr z n=>?_;cases r with
 |error e=>exact n
 |ok U=>
  cases U with
  |ret x=>
   obtain⟨rfl,rfl⟩:=n;generalize G:Nr w=c at*;have M:(s.heap.push (En c)).get? s.heap.objs.size=some (En c):=c4 _ rfl;have ty:Shared.TypeIs {s with heap:=s.heap.push (En c) } (.ref s.heap.objs.size) "set":=⟨_,M,rfl⟩;have li:=PySem.F.called_set.init.lookup;have bi:=PySem.F.called_set.init.bind (.ref s.heap.objs.size)
   repeat (any_goals (first|wp_step|assumption))
   refine codeAny_mono (codeAny_call_builtin (R:=wants (λr y=>r=.none/\∃d h,y={s with heap:=d,toks:=h}/\Kv knd d s.heap.objs.size c ((List.range a.size).map f) a.size/\∀b o,b<s.heap.objs.size->s.heap.get? b=some o->d.get? b=some o) E) PySem.F.called_set.init.plain PySem.F.entry_set_init (check_set_init_1 ty ?_)) λr2 y p=>?_
   ·obtain⟨⟨c0,O,S,B⟩,H,D,J,F⟩:=hl;simp only at D F;subst D F;have N:(s.heap.push (En c)).get? l=some {cls:=.type "list",dict:=O,data:=.seq a J,slots:=B}:=bD _ H;have n1:=PySem.F.sub_list_set;have n2:=PySem.F.sub_list_frozenset;have n3:(Value.type "list"==Value.type "dict")=false:=by decide
    have I:(s.heap.push (En c)).IsList l a:=⟨_,N,rfl,J,rfl⟩;have K:l<s.heap.objs.size:=dI H;unfold Builtin.«set.__init__» noKeywords Builtin.Frozenset.updateFrom;generalize m:pyIter=it
    wp_walk
    subst m;refine wpAny_pyIter_list I (aN (wpAny_runValue ?_));have u:A.in1.in1.in1.handled=none:=by simp[no]
    have sz:(s.heap.push (En c)).objs.size=s.heap.objs.size+1:=Heap.size_push ..;refine tm (knd:=knd) (f:=f) (led:=c) ((Walks.list u _ l (by rw[sz];exact eI (Nat.lt_succ_of_lt K)) a).toS) (S:=s.heap.objs.size) (λz=>by rcases eu.mp z with e|e;exact absurd e (by rw[sz];exact eI (Nat.lt_succ_self _));exact absurd (i0.mp e) (Nat.ne_of_gt K)) Y qB a.size 0 _ (by omega) ⟨⟨_,c4 _ rfl,rfl,rfl⟩,(I.push _)⟩ ?_ λz j g=>?_
    ·have Z:((s.heap.push (En c)).push {cls:=.type "list_iterator",data:=.fields #[.ref l,.int 0 0] }).get? s.heap.objs.size=some (En c):=bD _ M;exact⟨_,#[],0,_,Z,⟨rfl,rfl,rfl⟩,rfl,(λe z=>by simp at z),(λk=>by simp),dr _,rfl,Bo.fresh 0 0 c⟩
    ·obtain⟨d,X,R,h,os⟩:=z;obtain rfl:X=s.gens:=j.gens;obtain rfl:R=s.drawn:=j.drawn;obtain rfl:os=s.os:=j.os;show wpAny _ _ _ _ _ _;refine a6 ?_;show wpAny _ _ (ret Value.none) _ _ _;refine a6 ⟨rfl,d,h,rfl,g,λb o C e=>j.heap b o (λz=>?_) (bD _ (bD _ e))⟩;rcases eu.mp z with y|y
     ·exact absurd y (eI C)
     ·exact absurd (i0.mp y) (by rw[sz];exact eI (Nat.lt_succ_of_lt C))
   ·cases r2 with
    |error e=>exact p
    |ok T=>
     cases T with
     |ret r=>
      obtain⟨rfl,d,h,rfl,g,kp⟩:=p
      repeat (any_goals (first|wp_step|assumption))
      exact q _ _ g kp
     |_=>exact p.elim
  |_=>exact n.elim
end
theorem Rj:Manifest.owners.lookup (String.ofList ['r','o','t','a','r','e','t','i','_','t','e','s'].reverse)=some Manifest.sig_set_iterator:=by kernel_rfl
theorem Fd:Slot "set_iterator" "__next__" "set_iterator.__next__":=.of (owner:="set_iterator") (n:="__next__") (by rw[typeLookup_type,builtinLookup_eq_fast];kernel_rfl) (by decide+kernel) (by decide+kernel) (by decide+kernel) (by first|exact .inl (by decide+kernel)|exact .inr (by decide+kernel)) (by rw[isSubtype_type];kernel_rfl)
theorem Ri:entryFor table "set_iterator.__next__"=some Builtin.«set_iterator.__next__»:=entryFor_of_tree (by kernel_rfl)
theorem V7(a:q5):argsOk "set_iterator.__next__" ⟨[a],[]⟩:=by
 unfold argsOk;rw[signature?_of (id:="set_iterator.__next__") (n:=['_','_','t','x','e','n','_','_']) (o:=['r','o','t','a','r','e','t','i','_','t','e','s']) (by kernel_rfl) Rj]
 kernel_rfl
theorem V8:Slot "set_iterator" "__iter__" "set_iterator.__iter__":=.of (owner:="set_iterator") (n:="__iter__") (by rw[typeLookup_type,builtinLookup_eq_fast];kernel_rfl) (by decide+kernel) (by decide+kernel) (by decide+kernel) (by first|exact .inl (by decide+kernel)|exact .inr (by decide+kernel)) (by rw[isSubtype_type];kernel_rfl)
theorem Pp(a:q5):argsOk "set_iterator.__iter__" ⟨[a],[]⟩:=by
 unfold argsOk;rw[signature?_of (id:="set_iterator.__iter__") (n:=['_','_','r','e','t','i','_','_']) (o:=['r','o','t','a','r','e','t','i','_','t','e','s']) (by kernel_rfl) Rj]
 kernel_rfl
theorem Mz:entryFor table "set_iterator.__iter__"=some Builtin.«dict_keyiterator.__iter__»:=entryFor_alias (id':="dict_keyiterator.__iter__") (by kernel_rfl) (by first|rfl|decide+kernel|(unfold String.splitOn;simp+decide [String.splitOnAux])) (by decide+kernel) (by kernel_rfl)
theorem Mg:entryFor table "set.__iter__"=some Builtin.«frozenset.__iter__»:=entryFor_alias (id':="frozenset.__iter__") (by kernel_rfl) (by first|rfl|decide+kernel|(unfold String.splitOn;simp+decide [String.splitOnAux])) (by decide+kernel) (by kernel_rfl)
def Es(h:Heap)(it:Addr)(first:q5)(i:Nat)(S:Addr)(n ep:Nat):Prop:=∃o,h.get? it=some o/\o.cls=.type "set_iterator"/\o.data=.fields #[first,rawInt i,.ref S,rawInt n,rawInt ep]
theorem Es.ty{s:q4}{it S:Addr}{first:q5}{i n ep:Nat}(x:Es s.heap it first i S n ep):s.TypeIs (.ref it) "set_iterator":=let⟨o,b,a,_⟩:=x;⟨o,b,a⟩
theorem Es.at{first:q5}(x:Es h it first i S n ep)(k:∀o,h.get? it=some o->h'.get? it=some o):Es h' it first i S n ep:=let⟨o,a,r⟩:=x;⟨o,k _ a,r⟩
theorem Hb:∀{l:List a}{i:Nat}{x:a},l[i]?=some x->(x::l.eraseIdx i).Perm l
 |[],i,x,h=>by cases h
 |y::l,0,x,h=>by
  cases h;exact List.Perm.refl _
 |y::l,i+1,x,h=>by
  have b:=Hb (l:=l) (i:=i) (x:=x) (by simpa using h);exact(List.Perm.swap y x _).trans (b.cons y)
theorem Us(a:Nat->Nat):∀(fuel k:Nat) (left:List c) (out:Array c),left.length<=fuel->(pickOrder.go a fuel k left out).toList.Perm (out.toList++left)
 |0,k,left,out,h=>by
  unfold pickOrder.go;have e:left=[]:=List.length_eq_zero_iff.mp (by omega);rw[e];simp
 |fuel+1,k,left,out,h=>by
  unfold pickOrder.go;split
  ·rename_i x b;have d:=(bt.mp b);have g:=Us a fuel (k+1) (left.eraseIdx (a k%left.length)) (out.push x) (by rw[List.length_eraseIdx,if_pos d.1];omega);refine g.trans ?_;rw[Array.toList_push,List.append_assoc];refine List.Perm.append_left _ ?_;exact Hb b
  ·rename_i b;have:left.length<=a k%left.length:=List.getElem?_eq_none_iff.mp b
   have f:left.length=0:=by
    rcases Nat.eq_zero_or_pos left.length with z|z
    ·exact z
    ·have:=Nat.mod_lt (a k) z;omega
   rw[List.length_eq_zero_iff.mp f];simp
theorem Ww(a:Nat->Nat)(xs:Array b):(pickOrder a xs).toList.Perm xs.toList:=by
 have:=Us a xs.size 0 xs.toList #[] (by simp);simpa[pickOrder]using this
section
variable {P:q7}{w:ro}{A:rd}{E:pP}{s:q4}
theorem X6(a:0<n)(q:∀i d,i<n->Q i {s with drawn:=d}):wpAny (model P w) A (choose .order n) Q E s:=λc p b=>by
 show Sem.wp _ _ (.choose .order n .pure) _ _ _ _;rw[Sem.wp_choose];refine⟨by omega,?_⟩;show Sem.wp _ _ (Sem.pure _) _ _ _ _;rw[Sem.wp_pure];exact q _ _ (Nat.mod_lt _ a)
theorem Iv:∀(n:Nat) (xs:List c) (s:q4) {Q:List c->q4->Prop},xs.length=n->(∀ys d,ys.Perm xs->Q ys {s with drawn:=d})->wpAny (model P w) A (drawOrder n xs) Q E s
 |0,xs,s,Q,h,q=>by
  rw[List.length_eq_zero_iff.mp h]at q⊢;unfold drawOrder;have e:s={s with drawn:=s.drawn}:=by cases s;rfl
  rw[e];exact a6 (q [] s.drawn (List.Perm.refl _))
 |n+1,[],s,Q,h,q=>by cases h
 |n+1,x::xs,s,Q,h,q=>by
  unfold drawOrder;refine aN (X6 (by rw[h];omega) λi d a=>?_);have b:(x::xs)[i]?=some ((x::xs)[i]'a):=ed a;rw[b];dsimp only;refine aN (Iv n _ _ (by rw[List.length_eraseIdx,if_pos a];omega) λys f g=>a6 ?_);refine q _ f ?_;exact(List.Perm.cons _ g).trans (Hb b)
end
def Oq(es:Array (Int×q5))(t:SetTable):Bool:= !t.plain&&decide (es.size>1)
inductive Mp(w:ro)(h:Heap)(S:Addr)(es:Array (Int×q5))(ep:Nat)(t:SetTable)(T:Addr)(ord:List q5)(i:Nat):q5->Prop
 |text (slot:Nat):w.params.followText "set-order"=true->ord=(pickOrder (w.params.setOrder S ep) es).toList.map (·.2)->Mp w h S es ep t T ord i (rawInt slot)
 |plain (slot:Nat):w.params.followText "set-order"=false->Oq es t=false->t.led=true->Kt t.place->ord=es.toList.map (·.2)->SetTable.below t.place slot=i->Mp w h S es ep t T ord i (rawInt slot)
 |drawn (pl:List Nat):h.IsTuple T (pl.map λ(k:Nat)=>rawInt k).toArray->(∀k∈pl,k<es.size)->ord=pl.filterMap (λk=>(es[k]?).map (·.2))->ord.length=pl.length->Mp w h S es ep t T ord i (.ref T)
theorem iw{b d:Type}{f:b->Option d}:∀{l:List b},(∀x∈l,(f x).isSome)->∀(i:Nat),(l.filterMap f)[i]?=l[i]?.bind f
 |[],_,i=>by simp
 |x::l,h,i=>by
  have a:=h x dm;cases e:f x with
  |none=>rw[e]at a;cases a
  |some y=>
   rw[List.filterMap_cons_some e];cases i with
   |zero=>simp[e]
   |succ i=>simpa using iw (λz c=>h z (d3 _ c)) i
section
variable {P:q7}{w:ro}{A:rd}{E:pP}{s:q4}{S:Addr}{o:Obj}{es:Array (Int×q5)}{ep:Nat}{t:SetTable}
theorem Nw(d:s.heap.get? S=some o)(hd:o.data=.set es ep t)(b:t.fits es.size=true)(c:w.params.followText "set-order"=true)
  (q:Q (((pickOrder (w.params.setOrder S ep) es)[i]?).map λe=>(e.2,a)) s):wpAny (model P w) A (setNext S a i ep) Q E s:=by
 unfold setNext;refine aN (wpAny_setState_of d hd b ?_);dsimp only;refine aN (aN (wpAny_askSetting (a6 ?_)));show wpAny _ _ (if(w.params.followText "set-order")=true then _ else _) _ _ _;rw[if_pos c];show wpAny _ _ (if(ep != ep)=true then _ else _) _ _ _;rw[if_neg (by simp)];refine aN ?_;unfold setWalk;refine aN (wpAny_setState_of d hd b ?_);dsimp only;refine aN (aN (wpAny_askSetting (a6 ?_)));show wpAny _ _ (if(w.params.followText "set-order")=true then _ else _) _ _ _;rw[if_pos c];refine aN (wpAny_askSetting (a6 (a6 ?_)));exact q
theorem Ly(d:s.heap.get? S=some o)(hd:o.data=.set es ep t)(b:t.fits es.size=true)(c:w.params.followText "set-order"=false)(e:Oq es t=false)(led:t.led=true)
  (q:Q (match es[SetTable.below t.place a]?,t.place[SetTable.below t.place a]? with|some (_,x),some j=>some (x,j+1)|_,_=>none) s):wpAny (model P w) A (setNext S a i ep) Q E s:=by
 unfold setNext;refine aN (wpAny_setState_of d hd b ?_);dsimp only;refine aN (aN (wpAny_askSetting (a6 ?_)));show wpAny _ _ (if(w.params.followText "set-order")=true then _ else _) _ _ _;rw[if_neg (by rw[c];decide)];show wpAny _ _ (if Oq es t=true then _ else _) _ _ _;rw[if_neg (by rw[e];decide)];refine aN ?_;show wpAny _ _ (if(!t.led&& !es.isEmpty)=true then _ else _) _ _ _;rw[if_neg (by rw[led];simp)];exact a6 (a6 q)
theorem Ik{h:Heap}{it S:Addr}{a:Obj}{first x y:q5}{i n ep:Nat}(c:h.get? it=some a)(b:a.cls=.type "set_iterator")(hd:a.data=.fields #[first,rawInt i,.ref S,rawInt n,rawInt ep]):
  Es (h.update it (Obj.mapFields (·.setIfInBounds 1 (rawInt ((i:Int)+1))))) it first (i+1) S n ep/\(h.update it (Obj.mapFields (·.setIfInBounds 0 x))).get? it=some (Obj.mapFields (·.setIfInBounds 0 x) a)/\(Obj.mapFields (·.setIfInBounds 0 x) a).cls=.type "set_iterator"/\(Obj.mapFields (·.setIfInBounds 0 x) a).data=.fields #[x,rawInt i,.ref S,rawInt n,rawInt ep]:=by
 refine⟨⟨_,gK _ c (Obj.isFreed_of_fields (Obj.data_mapFields hd _)),(Obj.cls_mapFields ..).trans b,?_⟩,gK _ c (Obj.isFreed_of_fields (Obj.data_mapFields hd _)),(Obj.cls_mapFields ..).trans b,?_⟩
 ·rw[Obj.data_mapFields hd];simp[rawInt]
 ·rw[Obj.data_mapFields hd];simp
theorem Yk{it T:Addr}{first v:q5}{i:Nat}{ord:List q5}{Q:Option q5->q4->Prop}(p:Es s.heap it first i S es.size ep)(G:s.heap.get? S=some o)(hd:o.data=.set es ep t)(b:t.fits es.size=true)(hm:Mp w s.heap S es ep t T ord i first)(h:ord[i]?=some v)(nT:it≠T)
  (q:∀oS h',Es h' it oS (i+1) S es.size ep->Mp w h' S es ep t T ord (i+1) oS->Heap.SameBut it s.heap h'->Q (some v) {s with heap:=h'}):wpAny (model P w) A (pyNext (.ref it)) Q E s:=by
 have ty:=p.ty;obtain⟨o',u,Y,n⟩:=p;unfold pyNext;refine aN (ov (oe (name:=Str.ofString "__next__") ty Fd (g0 Fd ty Ri ?_ (V7 _))));unfold Builtin.«set_iterator.__next__»;refine aN (wpAny_of_eq (a:=(Value.ref it,[])) rfl ?_);refine aN (wpAny_fieldsOf u n ?_);show wpAny _ _ (setEntries S>>=_) _ _ _;refine aN (wpAny_setEntries_of G hd b ?_);show wpAny _ _ (if(((es.size:Nat):Int) != ((es.size:Nat):Int))=true then _ else _) _ _ _;rw[if_neg (by simp)]
 have d:∀(l:Nat),Mp w ((s.heap.update it (Obj.mapFields (·.setIfInBounds 0 (rawInt l)))).update it (Obj.mapFields (·.setIfInBounds 1 (rawInt ((i:Int)+1))))) S es ep t T ord (i+1) (rawInt l)->∀{R:Fin->q4->Prop}{F:pP},(∀j,Q (some v) j->R (.done (.ret v)) j)->wpAny (model P w) A.in1 (do setField (.ref it) 0 (rawInt l);setField (.ref it) 1 (rawInt ((i:Int)+1));ret v) R F s:=λl oO R F hR=>
  hH (Q:=λf j=>f=.done (.ret v)/\Q (some v) j) (E:=λ_ _=>False) (by
   obtain⟨_,N,e2,O⟩:=Ik (x:=rawInt l) (y:=v) u Y n;refine aN (wpAny_setField u n (by simp) ?_);refine aN (wpAny_setField (s:={s with heap:=s.heap.update it (Obj.mapFields (·.setIfInBounds 0 (rawInt l))) }) N O (by simp) ?_);obtain⟨H,_⟩:=Ik (x:=rawInt l) (y:=v) N e2 O;exact a6 ⟨rfl,q _ _ H oO ((g6 ..).trans (g6 ..))⟩) (λf j ⟨e,r⟩=>by rw[e];exact hR j r) λ_ _ z=>z.elim
 cases hm with
 |text a m c=>
  show wpAny _ _ (setNext S (a:Int).toNat ((i:Nat):Int).toNat ((ep:Nat):Int).toNat>>=_) _ _ _;refine aN (Nw G hd b m ?_);simp only[Int.toNat_natCast];rw[c,List.getElem?_map,Array.getElem?_toList]at h;obtain⟨e,g,rfl⟩:=d0.mp h;rw[g];exact d a (.text a m c) λj r=>⟨_,rfl,a6 r⟩
 |plain a m Z y zE c hb=>
  show wpAny _ _ (setNext S (a:Int).toNat ((i:Nat):Int).toNat ((ep:Nat):Int).toNat>>=_) _ _ _;refine aN (Ly G hd b m Z y ?_);simp only[Int.toNat_natCast];rw[c,List.getElem?_map,Array.getElem?_toList]at h;obtain⟨e,g,rfl⟩:=d0.mp h
  have hsz:t.place.size=es.size:=by
   simp only[SetTable.fits,Bool.and_eq_true,beq_iff_eq]at b;exact b.1
  have hi:=(ll.mp g).1;have X:t.place[i]?=some (t.place[i]'(by omega)):=Array.getElem?_eq_getElem (by omega);rw[hb,g,X];exact d _ (.plain _ m Z y zE c (jp zE X)) λj r=>⟨_,rfl,a6 r⟩
 |drawn B U J c hl=>
  obtain⟨oT,K,_,nT2,I⟩:=id U;show wpAny _ _ (seqItems? (Value.ref T)>>=_) _ _ _;refine aN (fO K I ?_);have hi:=(bt.mp h).1;have D:B[i]?=some (B[i]'(by omega)):=ed (by omega);have C:=J _ (cI D);generalize B[i]'(by omega)=k at D C;have g:es[k]?=some (es[k]'C):=Array.getElem?_eq_getElem C;generalize es[k]'C=e at g
  have M:v=e.2:=by
   rw[c,iw (λx hx=>by rw[Array.getElem?_eq_getElem (J x hx)];rfl),D]at h;simp[g]at h;exact h.symm
  subst M
  have L:(B.map λ(k:Nat)=>rawInt k).toArray[((i:Nat):Int).toNat]?=some (rawInt k):=by
   rw[Int.toNat_natCast,List.getElem?_toArray,List.getElem?_map,D];rfl
  dsimp only;rw[L];show wpAny _ _ (setNextDrawn S ((k:Nat):Int).toNat ((ep:Nat):Int).toNat>>=_) _ _ _;refine aN ?_;unfold setNextDrawn;refine aN (wpAny_setState_of G hd b ?_);dsimp only;rw[if_neg (by simp)];simp only[Int.toNat_natCast,g];refine a6 ?_;obtain⟨H,_⟩:=Ik (x:=e.2) (y:=e.2) u Y n;refine aN (wpAny_setField u n (by simp) ?_);refine a6 ⟨_,rfl,a6 (q _ _ H (.drawn B ?_ J c hl) (g6 ..))⟩;exact U.at λo e=>(eH _ _ nT).trans e
theorem cz{it T:Addr}{first:q5}{i:Nat}{ord:List q5}{Q:Option q5->q4->Prop}(C:A.handled=none)(f:Es s.heap it first i S es.size ep)(n:s.heap.get? S=some o)(hd:o.data=.set es ep t)(c:t.fits es.size=true)(D:Mp w s.heap S es ep t T ord i first)(F:ord.length=i)(M:ord.length=es.size)
  (q:∀h',Heap.ExtBut it s.heap h'->Q none {s with heap:=h'}):wpAny (model P w) A (pyNext (.ref it)) Q E s:=by
 have ty:=f.ty;obtain⟨X,g,H,d⟩:=f;unfold pyNext;refine aN (ov (oe (name:=Str.ofString "__next__") ty Fd (g0 Fd ty Ri ?_ (V7 _))));unfold Builtin.«set_iterator.__next__»;refine aN (wpAny_of_eq (a:=(Value.ref it,[])) rfl ?_);refine aN (wpAny_fieldsOf g d ?_);show wpAny _ _ (setEntries S>>=_) _ _ _;refine aN (wpAny_setEntries_of n hd c ?_);show wpAny _ _ (if(((es.size:Nat):Int) != ((es.size:Nat):Int))=true then _ else _) _ _ _;rw[if_neg (by simp)]
 have out:∀(u:Heap) {R:Fin->q4->Prop},Heap.ExtBut it s.heap u->wpAny (model P w) A.in1 (do let e <- newExc (.type "StopIteration") [];raiseNew e) R (λe L=>wpAny (model P w) A (do let b <- isInstance e (Value.type "StopIteration");if b=true then pure none else throw e) Q E L) {s with heap:=u}:=λu R G=>by
  refine aN ?_;simp only[newExc,newTuple];refine aN (gR ?_ (by size_fits));refine aN (m:=firstArgMember _ _) (wpAny_of_eq (a:=Value.none) (by first|rfl|(simp only[firstArgMember];rfl)) ?_);refine gR ?_ (by size_fits);simp only[raiseNew];refine aN (wpAny_handled ?_);rw[show A.in1.handled=none from C];refine aN (a6 (wpAny_throw ?_));refine aN (mZ (T:="StopIteration") (b:=true) ⟨_,c4 _ rfl,rfl⟩ isSubtype_stop ?_);exact a6 (q _ ((G.push _).push _))
 cases D with
 |text a h j=>
  show wpAny _ _ (setNext S (a:Int).toNat ((i:Nat):Int).toNat ((ep:Nat):Int).toNat>>=_) _ _ _;refine aN (Nw n hd c h ?_);simp only[Int.toNat_natCast]
  have m:(pickOrder (w.params.setOrder S ep) es)[i]?=none:=by
   rw[Array.getElem?_eq_none_iff];rw[j,List.length_map,Array.length_toList]at F;omega
  rw[m];refine aN (wpAny_setField g d (by simp) ?_);exact out _ (g6 ..).extBut
 |plain a h J v Z j B=>
  show wpAny _ _ (setNext S (a:Int).toNat ((i:Nat):Int).toNat ((ep:Nat):Int).toNat>>=_) _ _ _;refine aN (Ly n hd c h J v ?_);simp only[Int.toNat_natCast]
  have m:es[i]?=none:=by
   rw[Array.getElem?_eq_none_iff];omega
  rw[B,m];refine aN (wpAny_setField g d (by simp) ?_);exact out _ (g6 ..).extBut
 |drawn K z O j U=>
  obtain⟨Y,p,_,I,l⟩:=id z;show wpAny _ _ (seqItems? (Value.ref T)>>=_) _ _ _;refine aN (fO p l ?_)
  have r:(K.map λ(k:Nat)=>rawInt k).toArray[((i:Nat):Int).toNat]?=none:=by
   rw[Int.toNat_natCast,List.getElem?_toArray,List.getElem?_map,List.getElem?_eq_none (by omega)];rfl
  dsimp only;rw[r];obtain⟨_,x,N,y⟩:=Ik (x:=rawInt 0) (y:=rawInt 0) g H d;refine aN (wpAny_setField g d (by simp) ?_);refine aN (wpAny_setField (s:={s with heap:=s.heap.update it (Obj.mapFields (·.setIfInBounds 0 (rawInt 0))) }) x y (by simp) ?_);exact out _ ((g6 ..).trans (g6 ..)).extBut
theorem ay{first:q5}(a:Es s.heap it first i S n ep)(q:Q (.ref it) s):wpAny (model P w) A (pyIter (.ref it)) Q E s:=by
 refine wpAny_pyIter_slot a.ty V8 (g0 V8 a.ty Mz ?_ (Pp _));show wpAny _ _ (ret (.ref it)) _ _ s;refine a6 ⟨_,rfl,"set_iterator",_,a.ty,Fd.lookup,q⟩
theorem X5{ord:List q5}(D:A.handled=none)(F:it≠S)(G:it≠T)(hd:o.data=.set es ep t)(r:t.fits es.size=true)(C:ord.length=es.size):
  Walks P w A it [it,S,T] [it] ord.length (λi v=>ord[i]?=some v) (λi h=>h.get? S=some o/\∃first,Es h it first i S es.size ep/\Mp w h S es ep t T ord i first)where
 sub:=λb n=>by simp at n;simp[n]
 frame:=λi h m ⟨j,first,g,p⟩ x=>⟨x S (by simp) _ j,first,g.at λo e=>x it (by simp) o e,by
  cases p with
  |text l a b=>exact .text l a b
  |plain l a b c d e f=>exact .plain l a b c d e f
  |drawn J a b c d=>exact .drawn J (a.at λo e=>x T (by simp) o e) b c d⟩
 item:=λi s Q E y ⟨j,first,g,p⟩ q=>by
  have z:ord[i]?=some (ord[i]'y):=ed y;refine Yk g j hd r p z G λI m u H B=>?_;have e:({s with heap:=m}:q4)={s with heap:=m,toks:=s.toks}:=rfl;rw[e];refine q _ m s.toks z ⟨(B.2 S (Ne.symm F)).trans j,I,u,H⟩ λb o n j=>(B.2 b (by simpa using n)).trans j
 done:=λs Q E ⟨j,first,g,p⟩ q=>by
  refine cz D g j hd r p rfl C λm K=>?_;have e:({s with heap:=m}:q4)={s with heap:=m,toks:=s.toks}:=rfl;rw[e];exact q m s.toks λb o n j=>K b o (by simpa using n) j
 self:=λi s Q E ⟨j,first,g,p⟩ q=>ay g q
end
open PySem PySem.Spec PySem.SeqAt PyProof.Rows
theorem Rr:isSubtype (.type "set") (.type "set")=pure true:=by rw[isSubtype_type];kernel_rfl
theorem Y6{es:Array (Int×q5)}{pl:List Nat}(h:pl.Perm (List.range es.size)):(pl.filterMap λk=>(es[k]?).map (·.2)).Perm (es.toList.map (·.2)):=by
 refine(h.filterMap _).trans ?_
 have e:(List.range es.size).filterMap (λk=>(es[k]?).map (·.2))=es.toList.map (·.2):=by
  rw[<- filterMap_getElem?_range es,List.map_filterMap]
 rw[e]
section
variable {P:q7}{w:ro}{A:rd}{E:pP}{s:q4}{S:Addr}{o:Obj}{es:Array (Int×q5)}{ep:Nat}{t:SetTable}
theorem Ym{Q:pP}(g:s.heap.get? S=some o)(ex:o.ExactSet)(hd:o.data=.set es ep t)(f:t.fits es.size=true)(c:Bo t (Nr w))(D:es.size<=1000)
  (q:∀(first:q5) (T it:Addr) (ord:List q5) (h':Heap) (d:Drawn),(∀b u,s.heap.get? b=some u->h'.get? b=some u)->s.heap.objs.size<=it->it≠T->(T=S\/s.heap.objs.size<=T)->ord.Perm (es.toList.map (·.2))->Es h' it first 0 S es.size ep->Mp w h' S es ep t T ord 0 first->Q (.ref it) {s with heap:=h',drawn:=d}):wpAny (model P w) A (pyIter (.ref S)) Q E s:=by
 have v:s.TypeIs (.ref S) "set":=⟨o,g,ex.1⟩;refine wpAny_pyIter_slot v PySem.F.slot_set_iter (g0 PySem.F.slot_set_iter v Mg ?_ (PySem.F.args_set_iter_1 _));unfold Builtin.«frozenset.__iter__»;refine aN (wpAny_of_eq (a:=S) rfl ?_);refine aN (aN (wpAny_setEntries_of g hd f (a6 ?_)));unfold setDrawn;refine aN (aN (wpAny_setState_of g hd f ?_));dsimp only;refine aN (aN (wpAny_askSetting (a6 ?_)));refine a6 ?_;have r:=dI g;have a:∀{h:Heap}{x:Obj}{b u},h.get? b=some u->(h.push x).get? b=some u:=λe=>bD _ e;refine wpAny_ite_split (λy=>?_) (λy=>?_)
 ·refine aN (Iv _ _ _ List.length_range λl d n=>?_);have C:l.length=es.size:=by rw[n.length_eq,List.length_range]
  refine aN (wpAny_newTuple ?_ (by rw[List.length_map,sizeLine_eq];omega));refine aN (wpAny_setEpoch_of (a g) hd f ?_);refine aN (gR (a6 ⟨_,rfl,"set_iterator",_,⟨_,c4 _ rfl,rfl⟩,Fd.lookup,?_⟩));have p:∀x:Obj,(s.heap.push x).objs.size=s.heap.objs.size+1:=λx=>Heap.size_push ..;have m:∀k∈l,k<es.size:=λk m=>oP.mp (n.mem_iff.mp m);have i:=Y6 n;refine q (.ref s.heap.objs.size) s.heap.objs.size _ (l.filterMap λk=>(es[k]?).map (·.2)) _ d (λb u e=>a (a e)) (by rw[p];exact Nat.le_succ _) (by rw[p];exact Nat.succ_ne_self _) (.inr (dr _)) i ⟨_,c4 _ rfl,rfl,rfl⟩ (.drawn l ⟨_,a (c4 _ rfl),rfl,_,rfl⟩ m rfl ?_);rw[i.length_eq,List.length_map,Array.length_toList,C]
 ·refine aN (a6 ?_);refine aN (wpAny_setEpoch_of g hd f ?_);refine aN (gR (a6 ⟨_,rfl,"set_iterator",_,⟨_,c4 _ rfl,rfl⟩,Fd.lookup,?_⟩));have z:¬((!w.params.followText "set-order"&&Oq es t)=true):=y;cases j:w.params.followText "set-order" with
  |true=>
   exact q (rawInt 0) S _ ((pickOrder (w.params.setOrder S ep) es).toList.map (·.2)) _ s.drawn (λb u e=>a e) (dr _) (Nat.ne_of_gt r) (.inl rfl) ((Ww _ es).map _) ⟨_,c4 _ rfl,rfl,rfl⟩ (.text 0 j rfl)
  |false=>
   rw[j]at z;have B:t.led=true:=by rw[c.led];show(!w.params.followText "set-order")=true;rw[j];rfl
   exact q (rawInt 0) S _ (es.toList.map (·.2)) _ s.drawn (λb u e=>a e) (dr _) (Nat.ne_of_gt r) (.inl rfl) (List.Perm.refl _) ⟨_,c4 _ rfl,rfl,rfl⟩ (.plain 0 j (by simpa using z) B c.zE rfl (Xj c.zE))
theorem Ye(b:s.TypeIs (.ref S) "set")(q:Q false s):wpAny (model P w) A (Builtin.List.listLengthHint (.ref S)) Q E s:=by
 unfold Builtin.List.listLengthHint;refine aN (wpAny_specialOf b PySem.F.slot_set_len.lookup ?_);generalize a:("set.__len__":String)=c
 wp_delta;rw[show splitId c=some ("set","__len__")from by subst a;decide+kernel];subst a;refine aN (mZ (T:="set") (b:=true) b Rr ?_);refine wpAny_ite_split (λz=>absurd z (by decide)) (λ_=>?_);refine wpAny_ite_split (λ_=>?_) (λz=>absurd (by decide+kernel) z);refine aN (wpAny_typeOf b ?_);exact a6 q
end
open PySem PySem.Spec PySem.SeqAt PyProof.Rows
section
variable {P:q7}{w:ro}{A:rd}{E:pP}{s:q4}{S:Addr}{o:Obj}{es:Array (Int×q5)}{ep:Nat}{t:SetTable}
theorem Xm(hh:A.handled=none)(ho:s.heap.get? S=some o)(ex:o.ExactSet)(hd:o.data=.set es ep t)(n:t.fits es.size=true)(p:Bo t (Nr w))(qB:es.size<=1000)
  (q:∀(vs:List q5) (h':Heap) (d:Drawn) (tk:Nat),(∀b u,s.heap.get? b=some u->h'.get? b=some u)->s.heap.objs.size<=h'.objs.size->vs.Perm (es.toList.map (·.2))->Q vs {s with heap:=h',drawn:=d,toks:=tk}):wpAny (model P w) A (collect (.ref S)) Q E s:=by
 have G:=dI ho;unfold collect;refine aN (wpAny_runValue (codeAny_builtin F.entry_proto_collect ?_));rw[Around.under_plainId F.plain_proto_collect _];show wpAny _ A.in1 (newList []>>=λl=>again (.builtin "list.__iadd__" ⟨[l,.ref S],[]⟩)) _ _ s;refine aN (gR ?_);refine a6 ⟨nf F.plain_list_iadd _,codeAny_builtin F.entry_list_iadd ?_⟩;rw[Around.under_plainId F.plain_list_iadd _];show wpAny _ A.in1 (Builtin.List.listExtendWith (.ref s.heap.objs.size) (.ref S) (.ref s.heap.objs.size)) _ _ _;have BR:∀x:Obj,(s.heap.push x).objs.size=s.heap.objs.size+1:=λx=>Heap.size_push ..;have j:(s.heap.push {cls:=.type "list",data:=.seq ([]:List q5).toArray}).get? S=some o:=bD _ ho;have hN:(s.heap.push {cls:=.type "list",data:=.seq ([]:List q5).toArray}).get? s.heap.objs.size=some {cls:=.type "list",data:=.seq ([]:List q5).toArray}:=c4 _ rfl;generalize Z:s.heap.push {cls:=.type "list",data:=.seq ([]:List q5).toArray}=C at j hN;have U:C.objs.size=s.heap.objs.size+1:=by rw[<- Z];exact BR _
 have N:∀b u,s.heap.get? b=some u->C.get? b=some u:=λb u e=>by rw[<- Z];exact bD _ e
 unfold Builtin.List.listExtendWith;refine aN (wpAny_typeOf (T:="set") ⟨o,j,ex.1⟩ ?_);have k1:Builtin.List.listSameRef (.ref s.heap.objs.size) (.ref S)=false:=by simp[Builtin.List.listSameRef];exact Nat.ne_of_gt G
 have k2:(Value.type "set"==Value.type "list")=false:=by decide
 have k3:(Value.type "set"==Value.type "tuple")=false:=by decide
 simp only[k1,k2,k3,Bool.or_false,Bool.false_eq_true,if_false];refine aN (Ym (s:={s with heap:=C}) j ex hd n p qB λfirst T D c r d H a nT M Y K I=>?_);have a:C.objs.size<=D:=a;rw[U]at a;refine aN (fC (Ye (S:=S) ⟨o,H _ _ j,ex.1⟩ ?_));refine wpAny_ite_split (λ_=>?_) (λz=>absurd (by decide+kernel) z);refine aN (m8 ?_);refine aN ?_;show wpAny _ A.in1 (updateSeq s.heap.objs.size (·.push .none)>>=λ_=>updateSeq s.heap.objs.size (·.pop)) _ _ _;have X:=H _ _ hN;refine aN (wpAny_updateSeq X rfl ?_);have v:=gK (Obj.mapSeq (·.push Value.none)) X rfl;refine wpAny_updateSeq v rfl ?_;have J:=gK (Obj.mapSeq (·.pop)) v rfl
 have off:∀b u,b≠s.heap.objs.size->r.get? b=some u->((r.update s.heap.objs.size (Obj.mapSeq (·.push Value.none))).update s.heap.objs.size (Obj.mapSeq (·.pop))).get? b=some u:=
  λb u f e=>(eH _ _ (Ne.symm f)).trans ((eH _ _ (Ne.symm f)).trans e)
 have nS:D≠S:=λe=>by
  rw[e]at a;exact absurd (fx (Nat.lt_succ_self _) a) (Nat.not_lt.mpr (nX G))
 have R:c.length=es.size:=by rw[Y.length_eq,List.length_map,Array.length_toList]
 have nN:s.heap.objs.size∉[D,S,T]:=λz=>by
  rcases eu.mp z with e|z
  ·rw[<- e]at a;exact absurd a (Nat.not_succ_le_self _)
  ·rcases eu.mp z with e|z
   ·exact absurd e (Nat.ne_of_gt G)
   ·have e:=i0.mp z;rcases M with h|h
    ·rw[h]at e;exact absurd e (Nat.ne_of_gt G)
    ·have h:C.objs.size<=T:=h;rw[U,<- e]at h;exact absurd h (Nat.not_succ_le_self _)
 have W:=X5 (P:=P) (w:=w) (A:=A.in1) (it:=D) (T:=T) (ord:=c) (show A.in1.handled=none from hh) nS nT hd n R
 have L:(λi h=>h.get? S=some o/\∃first,Es h D first i S es.size ep/\Mp w h S es ep t T c i first) 0 ((r.update s.heap.objs.size (Obj.mapSeq (·.push Value.none))).update s.heap.objs.size (Obj.mapSeq (·.pop))):=
  W.frame 0 r _ ⟨H _ _ j,first,K,I⟩ λb f u e=>off b u (λz=>nN (z▸f)) e
 refine a6 ⟨nf F.plain_extend_loop _,codeAny_extend_loopS W.toS (by rw[R,sizeLine_eq];omega) _ nN _ c.length 0 _ _ _ rfl (ml _) L J (ItemsOf.nil _) λO g c' hm B ha=>?_⟩;show wpAny _ A (load s.heap.objs.size>>=_) _ _ O;refine aN (wpAny_load B (a6 ?_))
 have m:g.toList=c:=by
  obtain⟨r,h2⟩:=ha;refine List.ext_getElem? λi=>?_;rcases iv i g.size with z|z
  ·have e:=h2 i g[i] (Array.getElem?_eq_getElem z);rw[e];simp[z]
  ·rw[List.getElem?_eq_none (by simpa using z),List.getElem?_eq_none (by omega)]
 rw[Moved.eq_with hm];refine q _ O.heap d O.toks (λb u e=>hm.heap b u (λz=>?_) (off b u (eI (dI e)) (H _ _ (N b u e)))) (nX (dI B)) (by rw[m];exact Y);have f:=dI e;rcases eu.mp z with y|y
 ·exact absurd y (eI f)
 ·rw[List.mem_singleton.mp y]at f;exact absurd (fx f (Nat.le_of_succ_le a)) (Nat.lt_irrefl _)
end
theorem Ug:∀{vs:List q5},(∀v∈vs,∃y t,v=.int y t)->∃ys:qQ,IntsAre vs ys/\ys.length=vs.length/\∀y,y∈ys↔∃t,Value.int y t∈vs
 |[],_=>⟨[],.nil,rfl,λy=>by simp⟩
 |v::vs,h=>by
  obtain⟨y,t,rfl⟩:=h v dm;obtain⟨ys,b,c,d⟩:=Ug λv f=>h v (d3 _ f);refine⟨y::ys,.cons y t b,by rw[List.length_cons,List.length_cons,c],λz=>?_⟩;rw[List.mem_cons,d z];constructor
  ·rintro(rfl|⟨u,a⟩)
   ·exact⟨t,dm⟩
   ·exact⟨u,d3 _ a⟩
  ·rintro⟨u,a⟩;rcases eu.mp a with e|a
   ·cases e;exact .inl rfl
   ·exact .inr ⟨u,a⟩
section
variable {prog:q7}{w:ro}{E:pP}
theorem Rm{A:rd}{s:q4}{r:q5}{Q:pP}{C:qQ->Prop}(z:∀R:List q5->q4->Prop,(∀vs ns h1 d a,IntsAre vs ns->vs.length<64->C ns->(∀b u,s.heap.get? b=some u->h1.get? b=some u)->s.heap.objs.size<=h1.objs.size->R vs {s with heap:=h1,drawn:=d,toks:=a})->wpAny (model prog w) A.in1 (collect r) R E s)
  (h:∀(out:Array q5) (ns f:qQ) (N:Addr) (h':Heap) (d:Drawn) (a c:Nat),C ns->IntsAre out.toList f->f.Perm ns->f.Pairwise (·<=·)->(∀b u,s.heap.get? b=some u->h'.get? b=some u)->s.heap.objs.size<=N->f.length<64->h'.get? N=some (seqObj "list" out c)->Q (.ref N) {s with heap:=h',drawn:=d,toks:=a}):
  wpAny (model prog w) A (call (.builtin "sorted") [r]) Q E s:=by
 refine Calls.call_function_entry kind_sorted plain_sorted entry_sorted (args_sorted1 _) ?_;unfold Builtin.«sorted»;refine aN (m:=checkCount "sorted" 1 1 _) (a6 ?_);refine aN (z _ λvs ns h1 d a l n p v g=>?_);have i:vs.length<=sizeLine:=by rw[sizeLine_eq];omega
 refine aN (wpAny_newList ?_ i);have j:(h1.push (seqObj "list" vs.toArray 0)).get? h1.objs.size=some (seqObj "list" vs.toArray 0):=c4 _ rfl;show wpAny _ _ _ _ _ {s with heap:=h1.push (seqObj "list" vs.toArray 0),drawn:=d,toks:=a};refine aN (fC (g0 slot_list_sort ⟨_,j,rfl⟩ entry_list_sort (list_sort_tree (s:={s with heap:=h1.push (seqObj "list" vs.toArray 0),drawn:=d,toks:=a}) j l n λout f x m y=>⟨_,rfl,?_⟩) (args_list_sort _)));obtain⟨c,q⟩:∃c,(sortedHeap (h1.push (seqObj "list" vs.toArray 0)) h1.objs.size vs out).get? h1.objs.size=some (seqObj "list" out c):=sortedHeap_at j;refine a6 ⟨_,rfl,h out ns f _ _ d a c p x m y (λb o e=>?_) g (by rw[m.length_eq,<- l.length];exact n) q⟩;have e:=v b o e;rw[sortedHeap_old (Nat.ne_of_lt (Heap.lt_size e)) (by rw[size_push'];exact Nat.lt_succ_of_lt (Heap.lt_size e))];exact bD _ e
end
open PySem PySem.Spec PySem.SeqAt PyProof.Rows
section
variable {X:Cx}
theorem Ak.draws(I:Ak X a b H s)(d:Drawn):Ak X a b H {s with drawn:=d}:=⟨I.ok,I.os,I.bare,I.base,I.loc,I.cell,I.free,I.cA,I.pin,I.aP,I.len⟩
def d8(K:W.Frag)(d:TA):TE:=λf H Q=>d f H λe b=>∃(l:Addr) (c:qQ),e=[.ref l]/\Ao K b l (c.map V.int)/\c.length<64/\∀(p:Addr) (a:qQ),b p=none->a.length<64->(∀y,y∈a↔y∈c)->a.Pairwise (·<=·)->Q (.ref p) (upd b p (.lst (a.map V.int)))
theorem ka{ns:qQ}{a:List q5}(r:As (ns.map V.int) a){i:Nat}{v:q5}(h:a[i]?=some v):∃t,v=.int (ns.getD i 0) t:=by
 have f:=(bt.mp h).1;have c:=r.length;rw[List.length_map]at c
 have e:(ns.map V.int)[i]?=some (.int (ns.getD i 0)):=by
  rw[List.getElem?_map,List.getElem?_eq_getElem (by omega),List.getD_eq_getElem?_getD,List.getElem?_eq_getElem (by omega)];rfl
 obtain⟨u,b,d⟩:=r.get e;rw[h]at b;cases b;exact d
theorem Mw{ns:qQ}{k:Int}:k∈(List.range ns.length).map (λi=>ns.getD i 0)↔k∈ns:=by
 have e:(List.range ns.length).map (λk=>ns.getD k 0)=ns:=by
  refine List.ext_getElem (by simp) λi a b=>?_;simp[List.getElem_map,List.getElem_range,List.getD_eq_getElem?_getD,List.getElem?_eq_getElem b]
 rw[e]
theorem Sy{a:Expr}{ta:TA}{p m pos D:Pos}(hc:X.calm=true)(hg:Gl X "sorted")(hm:X.mg "sorted"=none)(XJ:Gl X "set")(T:X.mg "set"=none)(ha:PA X [a] ta)
  (hs:starEach [a] X.env=[(false,eval a X.env)]:=by rfl)(vA:starEach [Expr.Call (.Name "set" m) [a] [] D] X.env=[(false,eval (.Call (.Name "set" m) [a] [] D) X.env)]:=by rfl):
  PE X (.Call (.Name "sorted" p) [.Call (.Name "set" m) [a] [] D] [] pos) (d8 X.K ta):=by
 intro C s σ H Q I h;refine wpAny_Call_Name_kw (Eo I hg hm boot_sorted (PyProof.Rows.callWith_builtin1 ?_ vA rfl));rw[vA];show wpAny _ _ (spliced ((false,eval (.Call (.Name "set" m) [a] [] D) X.env)::[])) _ _ s;refine Calls.spliced_cons (wpAny_Call_Name_kw (Eo I XJ T PyProof.Rows.boot_set (PyProof.Rows.callWith_type1 (Bh (ha D C s σ H _ I h) λus n ⟨Z,H1,r,r1,q1⟩=>?_) hs rfl)));obtain⟨l,G,e,hq,qB,q⟩:=q1;subst e;obtain⟨u1,rfl,ND⟩:=E6 r1;cases ND;obtain⟨aL,rv,pl,hz⟩:=r.list hq;have f:=rv.length;rw[List.length_map]at f;have e3:aL.toArray.size=G.length:=by rw[List.size_toArray,f]
 refine sj (knd:=intKind X.prog X.w) (f:=λi=>G.getD i 0) (r.ok.hd hc) pl.isList (λi v U=>?_) (by rw[e3];unfold scanBound;omega) λF tk g kp=>?_
 ·obtain⟨t,rfl⟩:=ka rv (by rw[<- List.getElem?_toArray];exact U);exact⟨intKind_is _ _ _ _,rfl⟩
 refine Calls.spliced_nil ?_;rw[e3]at g;obtain⟨o,es,ep,tb,ho,M,hd,L,mO,hsz,A,w⟩:=g;have Y:∀b u,n.heap.get? b=some u->F.get? b=some u:=λb u e=>kp b u (dI e) e;refine Rm (s:={n with heap:=F,toks:=tk}) (C:=λJ=>∀y,y∈J↔y∈G) (λR hR=>?_) λout J zz N K d zV c hC p0 p1 m j hN zT e'=>?_
 ·refine Xm (s:={n with heap:=F,toks:=tk}) (show X.A.in1.handled=none from r.ok.hd hc) ho M hd A w (by omega) λZ K d zV j S E=>?_
  have x:∀v∈Z,∃y t,v=.int y t:=λv U=>by
   obtain⟨e,z,rfl⟩:=fe.mp (E.mem_iff.mp U);obtain⟨⟨k,P,_⟩,_⟩:=L e z;obtain⟨t,B⟩:=Value.isInt_shape P;exact⟨k,t,B⟩
  obtain⟨J,h1,h2',h3⟩:=Ug x;refine hR Z J K d zV h1 ?_ (λy=>?_) j S
  ·rw[E.length_eq,List.length_map,Array.length_toList];omega
  ·rw[h3 y,<- Mw (ns:=G),mO y];constructor
   ·rintro⟨t,B⟩;obtain⟨e,z,ee⟩:=fe.mp (E.mem_iff.mp B);exact⟨e,z,by rw[ee];exact intKind_is _ _ _ _⟩
   ·rintro⟨e,z,P⟩;obtain⟨t,B⟩:=Value.isInt_shape P;exact⟨t,E.mem_iff.mpr (fe.mpr ⟨e,z,B⟩)⟩
 ·have kk:∀b u,n.heap.get? b=some u->K.get? b=some u:=λb u e=>j b u (Y b u e)
  have NV:n.heap.objs.size<=N:=by
   have O:n.heap.objs.size<F.objs.size:=dI ho;exact en (nX O) hN
  have I2:=(r.laid (a:=N) (o:=.lst (zz.map V.int)) (t':=zV) kk NV ⟨by rw[List.length_map,sizeLine_eq];omega,out.toList,c,Gh p0,e'⟩).draws d;exact⟨.ref N,upd H1 N (.lst (zz.map V.int)),I2,rfl,q N zz (r.aP.fresh NV) zT (λy=>(p1.mem_iff).trans (hC y)) m⟩
end
section
variable {X:Cx}{p pos kpos:Pos}{e d:Expr}{t:TA}{td:TE}{x:Str}
def vw(K:W.Frag)(t:TA)(td:TE):TE:=λg H Q=>t g H λi h=>d6 td ia g h λj f=>∃(a:Addr) (c:qQ),i=[.ref a]/\j=[.aX]/\Ao K f a (c.map V.int)/\(c=[]->Q .aX f)/\∀m:Int,m∈c->(∀b∈c,b<=m)->Q (.int m) f
theorem gm(O:X.calm=true)(P:Gl X x)(S:X.mg x=none)(Y:bootBuiltins x=some (.builtin "max"))(N:PA X [e] t)(g:PE X d td)(T:x≠"__name__":=by decide)(Z:(x==("__debug__":Str))=false:=by decide)
  (he:starEach [e] X.env=[(false,eval e X.env)]:=by rfl):PE X (.Call (.Name x p) [e] [⟨some "default",d,kpos⟩] pos) (vw X.K t td):=by
 intro f s E H Q I h;refine wpAny_Call_Name_kw (Eo I P S Y ?_ T Z);refine callWith_kw (he:=by rw[he];rfl) (hplain:=by rw[he];rfl) (Bh (N pos f s E H _ I h) λus s1 o=>?_);obtain⟨vs,F,G,r1,q1⟩:=o;refine Bh (gn (kpos:=kpos) (nm:=some "default") g o9 pos f s1 E F _ G q1) λks s2 o=>?_;obtain⟨n,v,l,r2,q2⟩:=o
 ·obtain⟨a,D,rfl,rfl,U,q0,q⟩:=q2;obtain⟨u,rfl,ru⟩:=E6 r1;cases ru;obtain⟨u2,rfl,J⟩:=E6 r2;obtain⟨aL,rv,pl,hz⟩:=l.list U;have B:=F7 rv;obtain⟨n,y⟩:=B.allInts.items
  have r:D=n.toList.map (·.1):=by
   have L:=B.numsOf;have w:=nums_intItems n;rw[<- y]at w;exact L.symm.trans w
  have c:D.length=n.size:=by rw[r,List.length_map,Array.length_toList]
  have C:=pl.isList;rw[y]at C;refine W3 (l.ok.hd O) C (λz M tk g=>?_) λz m t M tk top g=>?_
  ·refine⟨.aX,v,l.kept g,J,q0 ?_⟩;rw[z]at c;exact List.length_eq_zero_iff.mp c
  ·refine⟨.int m,v,l.kept g,⟨t,rfl⟩,q _ ?_ λb A=>?_⟩
   ·obtain⟨⟨i,oK,K⟩,_⟩:=top;rw[K,r,numAt_eq];exact getD_mem (by rw[List.length_map,Array.length_toList];omega)
   ·rw[r]at A;obtain⟨j,R,rfl⟩:=mem_getD A;rw[List.length_map,Array.length_toList]at R;rw[<- numAt_eq];exact top.2 j (by omega)
end
def rh(x:Str):It:=⟨λi _=>i<x.cps.toList.length,λi H v a=>a=H/\∃c,x.cps.toList[i]?=some c/\v=.str ⟨#[c]⟩,λi _=>i=x.cps.toList.length⟩
theorem Ru{P:q7}{w:ro}{K:PySem.W.Frag}{tg:Expr}(x:Str)(t:Tok)(it:Addr)(n:String)(Y:["enumerate","zip","dict_itemiterator","dict_reverseitemiterator","odict_iterator","itertools.zip_longest","itertools.pairwise"].contains n=false)
  (W:∀N:rd,N.handled=none->Walks P w N it [it] [it] x.cps.size (SignAt x) (λi h=>h.IsStrIter it n x t i))
  (Z:∀(A:rd) (i:Nat) (s:q4) (Q:pP) (E:pP),s.heap.IsStrIter it n x t i->Q (.ref it) s->wpAny (model P w) A (pyIter (.ref it)) Q E s):
  Q9 P w K tg (rh x) [it] it (λi h=>h.IsStrIter it n x t i)where
 mem:=by simp
 obj:=λi h a b g=>by
  have e:b=it:=by simpa using g
  subst e;obtain⟨o,e,c,d⟩:=a;exact⟨o,e,λv z=>by rw[d]at z;cases z⟩
 keep:=λi h l a k=>by
  obtain⟨o,e,r⟩:=a;exact⟨o,k it (by simp) o e,r⟩
 item:=by
  intro X F L D G i f s R H E I m a J;subst F L D;obtain⟨p,q,U,y,B,C⟩:=m it (by simp);refine(W X.A (I.ok.hd G)).item i s _ E (by have:i<x.cps.toList.length:=J;simpa using this) a λv l j hv O M=>?_;obtain⟨c,u,hx,rfl⟩:=hv;have S:Ak X f R H {s with heap:=l,toks:=j}:=I.turned (t':=j) (λb o g e=>M b o (by simpa using g) e) p q y B C;obtain⟨o,e,T,d⟩:=id O;exact⟨_,rfl,Ue (s:={s with heap:=l,toks:=j}) e T d Y ⟨.str ⟨#[c]⟩,H,S,⟨u,rfl⟩,⟨rfl,c,by simpa using hx,rfl⟩,O,λb g=>(m b g).1⟩⟩
 done:=by
  intro X F L D G i f s R H E I m a J;subst F L D;obtain⟨p,q,U,y,B,C⟩:=m it (by simp)
  have e:i=x.cps.size:=by
   have:i=x.cps.toList.length:=J;simpa using this
  subst e;exact(W X.A (I.ok.hd G)).done s _ E a λl j M=>⟨rfl,I.turned (t':=j) (λb o g e=>M b o (by simpa using g) e) p q y B C⟩
 self:=λA i s Q E a h=>Z A i s Q E a h
def xt(b:TE):TI:=λc H R=>b c H λv a=>∃x,v=.str x/\R (rh x) a
theorem Z8{X:Cx}{D l:Expr}{p:TE}(z:PE X l p):PI X D l (xt p):=by
 intro a s F H R I h;refine Bh (z a s F H _ I h) λv c u=>?_;obtain⟨y,g,f,C,B⟩:=u;obtain⟨x,e,q⟩:=B;subst e;obtain⟨t,rfl⟩:=C
 have d:∀b∈[c.heap.objs.size],K7 X a g b:=λb w=>by
  have e:b=c.heap.objs.size:=by simpa using w
  subst e;exact f.rE (dr _) (f.aP.fresh (dr _))
 cases n:x.cps.all (·<128)
 ·refine wpAny_pyIter_wide n ⟨c.heap.objs.size,[c.heap.objs.size],_,rh x,g,rfl,f.kept (t':=c.toks) λb o e=>bD _ e,Ru x t _ "str_iterator" (by decide) (λr j=>Walks.strWide j _ x t) (λA i s Q E m h=>wpAny_pyIter_striter_wide m h),⟨_,c4 _ rfl,rfl,rfl⟩,d,q⟩
 ·refine wpAny_pyIter_ascii n ⟨c.heap.objs.size,[c.heap.objs.size],_,rh x,g,rfl,f.kept (t':=c.toks) λb o e=>bD _ e,Ru x t _ "str_ascii_iterator" (by decide) (λr j=>Walks.strAscii j _ x t) (λA i s Q E m h=>wpAny_pyIter_striter_ascii m h),⟨_,c4 _ rfl,rfl,rfl⟩,d,q⟩
theorem Qk(a:Nat->List V->Hp->Prop)(n:a 0 [] (upd d D (.lst [])))
  (r:∀i c ys H,x.cps.toList[i]?=some c->a i ys H->∀f:VK,(∀y b,b D=some (.lst ys)->ys.length<sizeLine->a (i+1) (ys++[y]) (upd b D (.lst (ys++[y])))->f y b)->j (some (.str ⟨#[c]⟩)::D2 h l) H f)
  (hd:∀ys H,a x.cps.toList.length ys H->Q H):Dk 1 h (rh x) (Hs 0) N4 j l D d Q:=by
 refine⟨λi m ys H=>m=x.cps.toList.length-i/\i<=x.cps.toList.length/\a i ys H,⟨x.cps.toList.length,by simp,ml _,n⟩,?_⟩;rintro i m ys u ⟨rfl,z,p⟩;by_cases g:i<x.cps.toList.length
 ·refine .inr ⟨g,λv w y=>?_⟩;obtain⟨e,c,q,y⟩:=y;subst e y;refine⟨⟨[some (.str ⟨#[c]⟩)],rfl,rfl⟩,?_⟩;simp only[N4,↓reduceIte];exact r i c ys _ q p _ λy b o s pv=>⟨o,s,x.cps.toList.length-(i+1),by omega,rfl,g,pv⟩
 ·have e:i=x.cps.toList.length:=by omega
  subst e;exact .inl ⟨rfl,hd _ _ p⟩
theorem O9:∀l:List (Str×Tok),As ((l.map (·.1)).map V.str) (strValues l)
 |[]=>.nil
 |(x,t)::l=>.cons ⟨t,rfl⟩ (O9 l)
section
variable {X:Cx}
def oj:V->List V->Hp->VK->Prop:=λv a H Q=>∃x y:Str,v=.str x/\a=[.str y]/\(y.length==0)=false/\x.length<=100000/\∀p,H p=none->Q (.ref p) (upd H p (.lst ((Txt.split x y).map V.str)))
theorem Hz:qw X "str.split" oj:=by
 intro a s g H v C B A Q I p rv h;obtain⟨x,y,rfl,rfl,f,n,q⟩:=h;obtain⟨t,rfl⟩:=p;obtain⟨z,rfl,o⟩:=rv.one;obtain⟨u,rfl⟩:=o;have w:100000+2<=sizeLine:=by decide
 have m:(Builtin.Str.partsBetween x (Builtin.Str.occurrences x y 0 x.length (x.length+1)) y.length).length<=sizeLine:=by
  have r:=StrLaws.occ_length_le x y 0 x.length (x.length+1);rw[length_partsBetween];omega
 have b:∀(l:List (Str×Tok)) (k:Nat),l.map (·.1)=Txt.split x y->l.length<=sizeLine->EP X a g Q (.ref s.heap.objs.size) {s with heap:=s.heap.push {cls:=.type "list",data:=.seq (strValues l).toArray},toks:=k}:=λl k e j=>by
  refine⟨.ref _,_,I.MU (t':=k) (O9 l) (by rw[List.length_map,List.length_map];exact j),rfl,?_⟩;rw[e];exact q _ I.fresh
 cases c:(decide (x.length<y.length)||decide (Builtin.Str.strKind x<Builtin.Str.strKind y))
 ·cases d:(Builtin.Str.occurrences x y 0 x.length (x.length+1)).isEmpty
  ·refine call_meets F.slot_str_split (typeIs_str _ _ _) F.entry_str_split (F.args_str_split_2 _ _) (meets_str_split_sep x y t u c f d (by omega) m) ?_;show wants (EP X a g Q) X.xe _ {s with toks:=_,heap:=s.heap.push {cls:=.type "list",data:=.seq (strsFrom s.toks (Builtin.Str.partsBetween x (Builtin.Str.occurrences x y 0 x.length (x.length+1)) y.length)).toArray} };rw[strsFrom_eq];have e:=numbered_texts s.toks (Builtin.Str.partsBetween x (Builtin.Str.occurrences x y 0 x.length (x.length+1)) y.length);refine b _ _ (e.trans ((if_neg (ne_true_of_eq_false c)).trans (if_neg (ne_true_of_eq_false d))).symm) ?_;have i:=congrArg List.length e;rw[List.length_map]at i;omega
  ·exact call_meets F.slot_str_split (typeIs_str _ _ _) F.entry_str_split (F.args_str_split_2 _ _) (meets_str_split_not_found x y t u c f d)
    (b [(x,t)] s.toks ((if_neg (ne_true_of_eq_false c)).trans (if_pos d)).symm (by show 1<=sizeLine;decide))
 ·exact call_meets F.slot_str_split (typeIs_str _ _ _) F.entry_str_split (F.args_str_split_2 _ _) (meets_str_split_cannot_occur x y t u c)
   (b [(x,t)] s.toks (if_pos c).symm (by show 1<=sizeLine;decide))
theorem Nf:D7 X (.type "int") (λxs H Q=>∃(x:Str) (n:Int),xs=[.str x]/\intText? x=some n/\x.length<=640/\Q (.int n) H):=by
 intro a s f H xs e Q I r h;obtain⟨x,n,rfl,c,b,q⟩:=h;obtain⟨u,rfl,d⟩:=r.one;obtain⟨t,rfl⟩:=d;exact W.KIN.call_text c b ⟨.int n,H,I.tok _,⟨_,rfl⟩,q⟩
end
def jn:List (List Nat)->List Nat
 |[]=>[]
 |[w]=>w
 |w::v::r=>w++32::jn (v::r)
theorem fm:∀{ws vs:List (List Nat)},ws≠[]->vs≠[]->(∀w∈ws,32∉w)->(∀w∈vs,32∉w)->jn ws=jn vs->ws=vs:=by
 have f:∀{a b r s:List Nat},32∉a->32∉b->a++32::r=b++32::s->a=b/\r=s:=by
  intro a
  induction a with
  |nil=>
   intro b r s _ l e;cases b with
   |nil=>
    injection e with _ g;exact⟨rfl,g⟩
   |cons x b=>
    injection e with d _;exact absurd (d▸dm) l
  |cons y a n=>
   intro b r s p l e;cases b with
   |nil=>
    injection e with d _;exact absurd (d▸dm) p
   |cons x b=>
    injection e with d g;obtain⟨i,j⟩:=n (λz=>p (d3 _ z)) (λz=>l (d3 _ z)) g;exact⟨by rw[d,i],j⟩
 intro ws
 induction ws with
 |nil=>intro vs h;exact absurd rfl h
 |cons w ws n=>
  intro vs _ C q o e;cases vs with
  |nil=>exact absurd rfl C
  |cons v vs=>
   have B:=q w dm;have u:=o v dm;cases ws with
   |nil=>
    cases vs with
    |nil=>
     have c:w=v:=e;rw[c]
    |cons A vs=>
     have c:w=v++32::jn (A::vs):=e;exact absurd (c▸gd _ dm) B
   |cons D ws=>
    cases vs with
    |nil=>
     have c:w++32::jn (D::ws)=v:=e;exact absurd (c▸gd _ dm) u
    |cons A vs=>
     obtain⟨i,j⟩:=f B u e;rw[i,n (by simp) (by simp) (λz m=>q z (List.mem_cons_of_mem _ m)) (λz m=>o z (List.mem_cons_of_mem _ m)) j]
theorem Ko:∀ws:List Str,(Str.join " " ws).cps.toList=jn (ws.map λx=>x.cps.toList)
 |[]=>rfl
 |[w]=>rfl
 |w::v::r=>by
  have a:=Ko (v::r);show(w++" "++Str.join " " (v::r)).cps.toList=_;rw[Str.cps_append,Str.cps_append,Array.toList_append,Array.toList_append,a,W.KWk.blank_list,List.append_assoc];rfl
theorem Qd:(Str.ofString " ")=⟨#[32]⟩:=by decide
theorem Im{x y:Str}(h:x.cps.toList=y.cps.toList):x=y:=Str.ext' (Array.toList_inj.mp h)
theorem K0:∀{ws vs:List Str},(ws.map λx=>x.cps.toList)=(vs.map λx=>x.cps.toList)->ws=vs
 |[],[],_=>rfl
 |[],_::_,h=>by cases h
 |_::_,[],h=>by cases h
 |w::ws,v::vs,h=>by
  injection h with a b;rw[Im a,K0 b]
theorem Ro{x:Str}{ws:List Str}(i:ws≠[])(j:∀w∈ws,32∉w.cps.toList)(h:x.cps.toList=jn (ws.map λx=>x.cps.toList)):Txt.split x " "=ws:=by
 have e:=StrLaws.join_split x " ";have d:=StrLaws.split_free x 32;rw[<- Qd]at d;refine K0 (fm ?_ (by simpa using i) ?_ ?_ ?_)
 ·intro z;have c:Txt.split x " "=[]:=by simpa using z
  rw[c]at e;have f:=congrArg (λy:Str=>y.cps.toList) e;have g:([]:List Nat)=x.cps.toList:=f;have l:x=⟨#[]⟩:=Im g.symm;rw[l]at c;exact absurd c (by decide)
 ·intro w b;obtain⟨y,a,rfl⟩:=fe.mp b;exact d y a
 ·intro w b;obtain⟨y,a,rfl⟩:=fe.mp b;exact j y a
 ·rw[<- Ko,e,h]
open PySem PySem.Spec PyProof.Rows PySem.NumText
def Bm(n:Int):Str:=Str.ofString (toString n)
def Bg(x:Str):Bool:=(x.cps.toList.all λc=>decide (48<=c/\c<=57))&&(decide (1<=x.length/\x.length<=100)&&(decide (x="0")||decide (x.cps.toList.head? ≠some 48)))
theorem Qp:∀m:Nat,0<m->∃c r,Nat.toDigits 10 m=c::r/\c≠'0':=λm=>by
 induction m using Nat.strongRecOn with
 |_ m g=>
  intro a;by_cases h:m<10
  ·rw[Nat.toDigits_of_lt_base h];refine⟨_,_,rfl,?_⟩;have:∀d:Nat,d<10->0<d->Nat.digitChar d≠'0':=by decide
   exact this m h a
  ·have f:m%10<10:=Nat.mod_lt m (by decide);have t:Nat.toDigits 10 (m/10)++Nat.toDigits 10 (m%10)=Nat.toDigits 10 (10*(m/10)+m%10):=Nat.toDigits_append_toDigits (by decide) (by omega) f;rw[Nat.div_add_mod]at t;obtain⟨c,r,e,b⟩:=g (m/10) (by omega) (by omega);rw[<- t,e];exact⟨c,_,rfl,b⟩
theorem Dy(m:Nat):(Bm (m:Int)).cps.toList=(Nat.toDigits 10 m).map Char.toNat:=W.KIN.signs_num m
theorem g8(m:Nat):AllDigits (Bm (m:Int)).cps.toList:=by
 intro c a;rw[Dy]at a;obtain⟨d,b,e⟩:=fe.mp a;rw[<- e];exact digit_range (Nat.isDigit_of_mem_toDigits (by decide) (by decide) b)
theorem kn(m:Nat):(Bm (m:Int)).cps.toList≠[]:=by
 rw[Dy];intro e;by_cases h:0<m
 ·obtain⟨c,r,a,_⟩:=Qp m h;rw[a]at e;cases e
 ·have:m=0:=by omega
  subst this;exact absurd e (by decide)
theorem Ss{m:Nat}(h:m<10^100):(Bm (m:Int)).length<=100:=by
 have e:(Bm (m:Int)).length=(Bm (m:Int)).cps.toList.length:=by simp[Str.length]
 rw[e,Dy,List.length_map];exact toDigits_len_pow (by decide) (by decide) h
structure rn(x:Str)(n:Int):Prop where
 is:Bg x=true
 val:intText? x=some n
 fre:32∉x.cps.toList
 len:x.length<=100
 sgn:∀c∈x.cps.toList,48<=c/\c<=57
theorem Ed{n:Int}(g:0<=n)(h1:n<10^100):rn (Bm n) n:=by
 obtain⟨m,rfl⟩:=Int.eq_ofNat_of_zero_le g
 have h:m<10^100:=by
  have:((10:Int)^100)=((10^100:Nat):Int):=by norm_cast
  omega
 have a:=g8 m;have f:=kn m;have d:=Ss h;refine⟨?_,?_,λz=>?_,d,a⟩
 ·unfold Bg;rw[Bool.and_eq_true,Bool.and_eq_true,Bool.or_eq_true];refine⟨List.all_eq_true.mpr λc b=>decide_eq_true (a c b),decide_eq_true ⟨?_,d⟩,?_⟩
  ·have e:(Bm (m:Int)).length=(Bm (m:Int)).cps.toList.length:=by simp[Str.length]
   rw[e];exact List.length_pos_iff.mpr f
  ·by_cases z:0<m
   ·refine .inr (decide_eq_true ?_);rw[Dy];obtain⟨c,r,e,b⟩:=Qp m z;rw[e];intro y;have i:c.toNat=48:=by simpa using y
    exact b (Char.toNat_inj.mp i)
   ·have:m=0:=by omega
    subst this;exact .inl (by decide)
 ·have e:=intText_digits a f (en d (by decide));rw[Dy,W.KIN.val_back]at e;exact e
 ·have:=a 32 z;omega
open Builtin.Str in
theorem Ja(z:Str){a b:Nat}(d:a<=b)(f:b<=z.length){lo hi:q3}(e:strSliceIndices lo hi 1 z.length=strSliceIndices (some (a:Int)) (some (b:Int)) 1 z.length):(El z lo hi).cps.toList=(z.cps.toList.drop a).take (b-a):=by
 have i:z.cps.toList.length=z.length:=by simp[Str.length]
 have hi:=StrLaws.strSliceIndices_plain d f;unfold El;rw[e];split
 ·rename_i h;have h:=(Bool.and_eq_true_iff.mp h).2;rw[hi,beq_iff_eq,List.length_map,List.length_range]at h;have g:a=0:=by omega
  have c:b=z.length:=by omega
  subst g c;rw[List.drop_zero,List.take_of_length_le (by omega)]
 ·rw[StrLaws.sliced_plain z d f]
theorem du(z:Str)(a:b<=z.length):(El z none (some (b:Int))).cps.toList=z.cps.toList.take b:=by
 rw[Ja z (Nat.zero_le b) a (by rw[StrLaws.sliceIdx_none_lo];rfl)];rfl
theorem Vq(z:Str)(b:a<=z.length):(El z (some (a:Int)) none).cps.toList=z.cps.toList.drop a:=by
 rw[Ja z b (Nat.le_refl _) (by rw[StrLaws.sliceIdx_none_hi])];exact List.take_of_length_le (by simp[Str.length])
section
variable {X:Cx}{o e:Expr}{es:List Expr}{ta:TE}{t:TA}{C f:Addr}{m:Str}{fd:ri}{ps:List Str}{sp:Sp}{k:Nat}{ds:List q5}{gT:List V}{R:St->XK->Prop}{pos apos:Pos}
def qg(C:Addr)(m:Str)(sp:Sp)(gT:List V)(R:St->XK->Prop)(ta:TE)(t:TA):TE:=λb H Q=>ta b H λx c=>∃a g fs,x=.ref a/\c a=some (.ins C g fs)/\fs.lookup m=none/\
 t b c λh d=>∃E,R b E/\sp (x::(h++gT)) d Q E
theorem M7{pl:Sem Bool}(he:PE X o ta)(c:Xc X.K C)(i:Q6 X.K C m f)(F:B1 X.prog X.w X.K X.mg X.base (CX1 X.prog X.w) k f fd ps sp)(B:B9 k X.A)(A:Di X.K fd ps ds)(hd:As gT ds)(G:Q7 X R)(z:PA X (e::es) t)
  (J:starEach (e::es) X.env=(false,eval e X.env)::starEach es X.env:=by rfl)(K:(backTo pos (starEach es X.env)).any (·.1)=false:=by rfl)
  (D:eval (.Call (.Attribute o m apos) (e::es) [] pos) X.env=(do
   let j <- eval o X.env
   standAt apos.atName;let(f,first) <- holding [j] (getMethod j m pl)
   callWith pos f first (backTo pos (starEach (e::es) X.env)) (backToKw pos (keywordEach [] X.env))):=by rfl):
  PE X (.Call (.Attribute o m apos) (e::es) [] pos) (qg C m sp gT R ta t):=by
 intro b s n H Q I h;refine W.methodCall_KW (pl:=pl) (Bh (he b s n H _ I h) λu N ⟨x,p,d,M,a,T,fs,w,v,l,q⟩=>?_) D;subst w;obtain rfl:u=Value.ref a:=M;refine Lj d v c i l ?_;refine W.callWith_K (first:=[.ref a]) (h₀:=X.base) I.ok.mod.fB i.kp (Bh (z pos b N n p _ d q) λO U ⟨P,S,g,r,E,y,L⟩=>⟨g.iG,?_⟩) J K;exact Uw (us:=.ref a::O) (vs:=.ref a::P) F B A hd G g (.cons rfl r) y L
end
section
variable {X:Cx}
def ze(c:Str)(t1 e:TE):TE:=λa H Q=>t1 a H λv b=>∃i:Int,v=.int i/\i.natAbs.log2<1920/\c.length<=100/\e a b λu d=>∃j:Int,u=.int j/\j.natAbs.log2<1920/\Q (.str ((toString i:Str)++c++(toString j:Str))) d
theorem o4{k p1 p2 p3 p}(h1:PE X f t1)(A:PE X g m):PE X (.JoinedStr [.FormattedValue f (-1) none p1,.Constant (.str c) k p2,.FormattedValue g (-1) none p3] p) (ze c t1 m):=by
 intro a s n H Q I h;refine wpAny_JoinedStr ?_
 have big:∀i:Int,i.natAbs.log2<1920->(toString i:Str).length<=4000:=λi b=>by
  have e:=int_text_length_le (k:=1920) (by decide) b;show(Str.ofString (toString i)).length<=4000;rw[PySem.ofString_length];omega
 refine PySem.wpAny_FormattedValue_plain (Bh (h1 a s n H _ I h) λv F d=>?_);obtain⟨x,o,u,D,B⟩:=d;obtain⟨i,e,b,L,q⟩:=B;subst e;obtain⟨t,rfl⟩:=D;have K:10000<=sizeLine:=by decide
 have G:=big i b;refine PySem.wpAny_formatField_int b ⟨_,_,rfl,?_,?_⟩
 ·rw[strLen_append];show 0+_<=_;omega
 refine Calls.Constant_str ⟨_,_,rfl,?_,?_⟩
 ·rw[strLen_append,strLen_append];show 0+_+_<=_;omega
 refine PySem.wpAny_FormattedValue_plain (Bh (A a _ n o _ (u.tok _) q) λv F d=>?_);obtain⟨x,r,w,E,C⟩:=d;obtain⟨j,e,l,q⟩:=C;subst e;obtain⟨t,rfl⟩:=E;have J:=big j l;refine PySem.wpAny_formatField_int l ⟨_,_,rfl,?_,?_,?_⟩
 ·rw[strLen_append,strLen_append,strLen_append];show 0+_+_+_<=_;omega
 ·rw[strLen_append,strLen_append,strLen_append];show 0+_+_+_<=_;omega
 ·have z:∀y:Str,Str.empty++y=y:=λy=>Str.ext' (by rw[Str.cps_append];exact Array.empty_append);rw[z];exact⟨.str _,r,w.tok _,⟨_,rfl⟩,q⟩
end
end L2
namespace Law
local macro_rules | `(tactic| ac_rfl) => `(tactic| first | exact ⟨rfl,rfl,rfl,by decide +kernel,rfl,by decide +kernel,by decide +kernel⟩ | exact ⟨rfl,by decide +kernel,by decide +kernel,by decide +kernel,by decide +kernel⟩)
local macro_rules | `(tactic| omega) => `(tactic| lia)
open PySem L2 PyProof.Rows
open PySem.Builtin.Int (intBits)
def top(i:Nat):Stmt:=PySem.Challenge.pw_roundcall_k91_rows_read.main.body.getD i (.Pass ⟨0,0,0,0⟩)
abbrev ag:Stmt:=top 14
abbrev Zo:Stmt:=top 15
abbrev V5:Stmt:=top 16
abbrev Uz:Stmt:=top 18
abbrev Zw:Stmt:=top 19
abbrev Zt:Stmt:=top 20
abbrev oy:Stmt:=top 21
abbrev Ij:Stmt:=top 22
abbrev a8:Stmt:=top 23
abbrev Rg:Stmt:=top 24
abbrev Zp:Stmt:=top 25
abbrev Rf:Stmt:=top 26
abbrev Zx:Stmt:=top 27
abbrev Fg:Stmt:=top 31
abbrev Zy:Stmt:=top 32
abbrev a9:Stmt:=top 33
abbrev Zq:Stmt:=top 34
abbrev ow:Stmt:=top 35
abbrev Ux:Stmt:=top 36
abbrev pd:Stmt:=top 37
abbrev Fh:Stmt:=top 38
abbrev Zu:Stmt:=top 39
abbrev Zn:Stmt:=top 41
abbrev aa:Stmt:=top 42
abbrev V2:Stmt:=top 43
abbrev V0:Stmt:=top 44
abbrev ox:Stmt:=top 46
abbrev ah:Stmt:=top 47
abbrev ou:Stmt:=top 48
abbrev V6:Stmt:=top 49
abbrev V1:Stmt:=top 67
abbrev Re:Stmt:=top 68
abbrev ak:Stmt:=top 69
abbrev ac:Stmt:=top 70
abbrev Zv:Stmt:=top 72
abbrev oz:Stmt:=G9 (top 73) 0
abbrev ot:Stmt:=G9 (top 73) 3
abbrev ae:Stmt:=G9 (top 73) 4
abbrev pc:Stmt:=G9 (top 73) 5
abbrev i4:Stmt:=G9 (top 73) 6
abbrev Zz:Stmt:=G9 (top 73) 1
abbrev ai:Stmt:=top 75
abbrev af:Stmt:=top 76
abbrev Zr:Stmt:=top 77
abbrev Zs:Stmt:=top 78
abbrev aj:Stmt:=top 79
abbrev i5:Stmt:=top 80
abbrev Uy:Stmt:=top 81
abbrev V4:Stmt:=top 82
abbrev V3:Stmt:=top 83
abbrev a7:Stmt:=top 84
abbrev Ii:Stmt:=top 85
theorem Pn:Ai (["one","other","rest"]:List Str) ["one","other"] (A8 ag):=by ac_rfl
theorem Pj:Ai (["numbers","common","number"]:List Str) ["numbers"] (A8 Zo):=by ac_rfl
theorem Po:Ai (["numbers","bottom","top","both"]:List Str) ["numbers"] (A8 V5):=by ac_rfl
def Qn:Scope:={kind:=.function,names:=[(Str.ofString ".0",NameKind.local),(Str.ofString "number",NameKind.local),(Str.ofString "bottom",NameKind.free)],isGenerator:=false,isCoroutine:=false,more:=[] }
theorem Ql:Br (A8 V5) Qn (["numbers","bottom","top","both"]:List Str) (["number"]:List Str) [1]:=by ac_rfl
theorem R8:(B5 (["numbers","bottom","top","both"]:List Str) (["number"]:List Str) [1]).Nodup:=by decide+kernel
theorem ap:Ai (["periods","rising"]:List Str) ["periods"] (A8 Uz):=by ac_rfl
def L8:Scope:={kind:=.function,names:=[(Str.ofString ".0",NameKind.local),(Str.ofString "earlier",NameKind.local),(Str.ofString "later",NameKind.local)],isGenerator:=false,isCoroutine:=false,more:=[] }
theorem Kz:Br (A8 Uz) L8 (["periods","rising"]:List Str) (["earlier","later"]:List Str) []:=by ac_rfl
theorem Fu:(B5 (["periods","rising"]:List Str) (["earlier","later"]:List Str) []).Nodup:=by decide+kernel
theorem aq:Ai (["periods","told"]:List Str) ["periods"] (A8 Zw):=by ac_rfl
theorem G0:Ai (["levels","taken","first","step","period","size"]:List Str) ["levels","taken"] (A8 Zt):=by ac_rfl
theorem Mf:Ai (["periods","levels","taken","firsts","period"]:List Str) ["periods"] (A8 oy):=by ac_rfl
theorem Me:Ai (["periods","order","rows","number","first"]:List Str) ["periods"] (A8 Ij):=by ac_rfl
def Jb:Scope:={kind:=.function,names:=[(Str.ofString ".0",NameKind.local),(Str.ofString "period",NameKind.local)],isGenerator:=false,isCoroutine:=false,more:=[] }
theorem J2:Br (A8 Ij) Jb (["periods","order","rows","number","first"]:List Str) (["period"]:List Str) []:=by ac_rfl
theorem Jg:(B5 (["periods","order","rows","number","first"]:List Str) (["period"]:List Str) []).Nodup:=by decide+kernel
def Jc:Scope:={kind:=.function,names:=[(Str.ofString ".0",NameKind.local),(Str.ofString "period",NameKind.local)],isGenerator:=false,isCoroutine:=false,more:=[] }
theorem J5:Br (A8 Ij) Jc (["periods","order","rows","number","first"]:List Str) (["period"]:List Str) []:=by ac_rfl
theorem Jh:(B5 (["periods","order","rows","number","first"]:List Str) (["period"]:List Str) []).Nodup:=by decide+kernel
theorem au:Ai (["wait","base","times"]:List Str) ["wait","base"] (A8 a8):=by ac_rfl
theorem pw:Ai (["waits","base"]:List Str) ["waits","base"] (A8 Rg):=by ac_rfl
def Ol:Scope:={kind:=.function,names:=[(Str.ofString ".0",NameKind.local),(Str.ofString "wait",NameKind.local),(Str.ofString "base",NameKind.free)],isGenerator:=false,isCoroutine:=false,more:=[] }
theorem Oh:Br (A8 Rg) Ol (["waits","base"]:List Str) (["wait"]:List Str) [1]:=by ac_rfl
theorem P5:(B5 (["waits","base"]:List Str) (["wait"]:List Str) [1]).Nodup:=by decide+kernel
def Om:Scope:={kind:=.function,names:=[(Str.ofString ".0",NameKind.local),(Str.ofString "wait",NameKind.local),(Str.ofString "doubling",NameKind.globalImplicit),(Str.ofString "base",NameKind.free)],isGenerator:=false,isCoroutine:=false,more:=[] }
theorem Oi:Br (A8 Rg) Om (["waits","base"]:List Str) (["wait"]:List Str) [1]:=by ac_rfl
theorem P6:(B5 (["waits","base"]:List Str) (["wait"]:List Str) [1]).Nodup:=by decide+kernel
theorem al:Ai (["wait","most"]:List Str) ["wait","most"] (A8 Zp):=by ac_rfl
theorem Td:Ai (["waits","least","bases"]:List Str) ["waits"] (A8 Rf):=by ac_rfl
def L9:Scope:={kind:=.function,names:=[(Str.ofString ".0",NameKind.local),(Str.ofString "wait",NameKind.local),(Str.ofString "halved_down",NameKind.globalImplicit),(Str.ofString "least",NameKind.free)],isGenerator:=false,isCoroutine:=false,more:=[] }
theorem L3:Br (A8 Rf) L9 (["waits","least","bases"]:List Str) (["wait"]:List Str) [1]:=by ac_rfl
theorem Lr:(B5 (["waits","least","bases"]:List Str) (["wait"]:List Str) [1]).Nodup:=by decide+kernel
def La:Scope:={kind:=.function,names:=[(Str.ofString ".0",NameKind.local),(Str.ofString "base",NameKind.local),(Str.ofString "have_room",NameKind.globalImplicit),(Str.ofString "doubled",NameKind.globalImplicit),(Str.ofString "waits",NameKind.free)],isGenerator:=false,isCoroutine:=false,more:=[] }
theorem L4:Br (A8 Rf) La (["waits","least","bases"]:List Str) (["base"]:List Str) [0]:=by ac_rfl
theorem Ls:(B5 (["waits","least","bases"]:List Str) (["base"]:List Str) [0]).Nodup:=by decide+kernel
theorem ar:Ai (["waits","base"]:List Str) ["waits"] (A8 Zx):=by ac_rfl
theorem px:Ai (["waits","calm"]:List Str) ["waits","calm"] (A8 Fg):=by ac_rfl
theorem pj:Ai (["hall"]:List Str) ["hall"] (A8 Zy):=by ac_rfl
theorem pp:Ai (["hall","standing"]:List Str) ["hall","standing"] (A8 a9):=by ac_rfl
theorem pf:Ai (["hall","who"]:List Str) ["hall","who"] (A8 Zq):=by ac_rfl
theorem vb:Ai (["hall","standing","who","lost"]:List Str) ["hall","standing","who","lost"] (A8 ow):=by ac_rfl
theorem am:Ai (["hall","standing","who","lost","left"]:List Str) ["hall","standing","who","lost"] (A8 Ux):=by ac_rfl
def Jd:Scope:={kind:=.function,names:=[(Str.ofString ".0",NameKind.local),(Str.ofString "turns",NameKind.local)],isGenerator:=false,isCoroutine:=false,more:=[] }
theorem J6:Br (A8 Ux) Jd (["hall","standing","who","lost","left"]:List Str) (["turns"]:List Str) []:=by ac_rfl
theorem Ji:(B5 (["hall","standing","who","lost","left"]:List Str) (["turns"]:List Str) []).Nodup:=by decide+kernel
theorem vf:Ai (["hall","standing","lost"]:List Str) ["hall","standing","lost"] (A8 pd):=by ac_rfl
theorem aw:Ai (["hall","standing","who","lost","left"]:List Str) ["hall","standing","who","lost"] (A8 Fh):=by ac_rfl
theorem ao:Ai (["hall","standing","who","behind"]:List Str) ["hall","standing","who"] (A8 Zu):=by ac_rfl
theorem pe:Ai (["hall"]:List Str) ["hall"] (A8 Zn):=by ac_rfl
theorem Pm:Ai (["hall","product","wait"]:List Str) ["hall"] (A8 aa):=by ac_rfl
theorem Jn:Ai (["waits","rows","wait","longer","row"]:List Str) ["waits"] (A8 V2):=by ac_rfl
def Ms:Scope:={kind:=.function,names:=[(Str.ofString ".0",NameKind.local),(Str.ofString "turns",NameKind.local),(Str.ofString "row",NameKind.free)],isGenerator:=false,isCoroutine:=false,more:=[] }
theorem Mq:Br (A8 V2) Ms (["waits","rows","wait","longer","row"]:List Str) (["turns"]:List Str) [4]:=by ac_rfl
theorem Mx:(B5 (["waits","rows","wait","longer","row"]:List Str) (["turns"]:List Str) [4]).Nodup:=by decide+kernel
theorem Te:Ai (["hall","told","left"]:List Str) ["hall"] (A8 V0):=by ac_rfl
def Lc:Scope:={kind:=.function,names:=[(Str.ofString ".0",NameKind.local),(Str.ofString "quiet",NameKind.local),(Str.ofString "left",NameKind.free)],isGenerator:=false,isCoroutine:=false,more:=[] }
theorem L6:Br (A8 V0) Lc (["hall","told","left"]:List Str) (["quiet"]:List Str) [2]:=by ac_rfl
theorem Lx:(B5 (["hall","told","left"]:List Str) (["quiet"]:List Str) [2]).Nodup:=by decide+kernel
theorem O3:Ai (["hall","pending","standing","calls","who","behind"]:List Str) ["hall"] (A8 ox):=by ac_rfl
theorem Hh:Ai (["pending","ways","standing","calls","who","behind","later"]:List Str) ["pending"] (A8 ah):=by ac_rfl
theorem O2:Ai (["pending","ways","ranked","bare","later","standing","who","calls"]:List Str) ["pending","ways","ranked"] (A8 ou):=by ac_rfl
theorem Fc:Ai (["hall","pending","ways","table","rank","ranked","standing"]:List Str) ["hall"] (A8 V6):=by ac_rfl
def S5:Scope:={kind:=.function,names:=[(Str.ofString ".0",NameKind.local),(Str.ofString "standing",NameKind.local),(Str.ofString "calls",NameKind.local)],isGenerator:=false,isCoroutine:=false,more:=[] }
theorem S4:Br (A8 V6) S5 (["hall","pending","ways","table","rank","ranked","standing"]:List Str) (["standing","calls"]:List Str) []:=by ac_rfl
theorem Lw:(B5 (["hall","pending","ways","table","rank","ranked","standing"]:List Str) (["standing","calls"]:List Str) []).Nodup:=by decide+kernel
theorem pk:Ai (["word"]:List Str) ["word"] (A8 V1):=by ac_rfl
def Lb:Scope:={kind:=.function,names:=[(Str.ofString ".0",NameKind.local),(Str.ofString "sign",NameKind.local),(Str.ofString "FIGURES",NameKind.globalImplicit)],isGenerator:=false,isCoroutine:=false,more:=[] }
theorem L5:Br (A8 V1) Lb (["word"]:List Str) (["sign"]:List Str) []:=by ac_rfl
theorem Lu:(B5 (["word"]:List Str) (["sign"]:List Str) []).Nodup:=by decide+kernel
theorem pi:Ai (["words"]:List Str) ["words"] (A8 Re):=by ac_rfl
def Kd:Scope:={kind:=.function,names:=[(Str.ofString ".0",NameKind.local),(Str.ofString "word",NameKind.local),(Str.ofString "is_number",NameKind.globalImplicit)],isGenerator:=false,isCoroutine:=false,more:=[] }
theorem Ka:Br (A8 Re) Kd (["words"]:List Str) (["word"]:List Str) []:=by ac_rfl
theorem Ki:(B5 (["words"]:List Str) (["word"]:List Str) []).Nodup:=by decide+kernel
def Ke:Scope:={kind:=.function,names:=[(Str.ofString ".0",NameKind.local),(Str.ofString "word",NameKind.local),(Str.ofString "int",NameKind.globalImplicit)],isGenerator:=false,isCoroutine:=false,more:=[] }
theorem Kb:Br (A8 Re) Ke (["words"]:List Str) (["word"]:List Str) []:=by ac_rfl
theorem Kj:(B5 (["words"]:List Str) (["word"]:List Str) []).Nodup:=by decide+kernel
theorem qa:Ai (["word","size"]:List Str) ["word","size"] (A8 ak):=by ac_rfl
theorem Jo:Ai (["row","words","calm","numbers"]:List Str) ["row"] (A8 ac):=by ac_rfl
theorem Tc:Ai (["place","period","first"]:List Str) ["place"] (A8 Zv):=by ac_rfl
theorem vd:Ai (["self"]:List Str) ["self"] (A8 oz):=by ac_rfl
theorem va:Ai (["self","word"]:List Str) ["self","word"] (A8 ot):=by ac_rfl
theorem pq:Ai (["self","hall","standing","table"]:List Str) ["self","hall","standing","table"] (A8 ae):=by ac_rfl
theorem j6:Ai (["self","hall","table"]:List Str) ["self","hall"] (A8 pc):=by ac_rfl
theorem vc:Ai (["self","found"]:List Str) ["self","found"] (A8 i4):=by ac_rfl
def Gj:Scope:={kind:=.function,names:=[(Str.ofString ".0",NameKind.local),(Str.ofString "place",NameKind.local),(Str.ofString "place_text",NameKind.globalImplicit)],isGenerator:=false,isCoroutine:=false,more:=[] }
theorem Gi:Br (A8 i4) Gj (["self","found"]:List Str) (["place"]:List Str) []:=by ac_rfl
theorem Gm:(B5 (["self","found"]:List Str) (["place"]:List Str) []).Nodup:=by decide+kernel
theorem Pl:Ai (["self","row","read","word","numbers"]:List Str) ["self","row"] (A8 Zz):=by ac_rfl
theorem pz:Ai (["cell"]:List Str) ["cell"] (A8 ai):=by ac_rfl
theorem Tf:Ai (["number","signs"]:List Str) ["number"] (A8 af):=by ac_rfl
theorem ph:Ai (["number","head"]:List Str) ["number","head"] (A8 Zr):=by ac_rfl
theorem Dt:Ai (["cell","number","head","many","words","k"]:List Str) ["cell"] (A8 Zs):=by ac_rfl
theorem G1:Ai (["cell","number","row","place","sign","words","at"]:List Str) ["cell"] (A8 aj):=by ac_rfl
theorem ve:Ai (["word"]:List Str) ["word"] (A8 i5):=by ac_rfl
def Gy:Scope:={kind:=.function,names:=[(Str.ofString ".0",NameKind.local),(Str.ofString "sign",NameKind.local)],isGenerator:=false,isCoroutine:=false,more:=[] }
theorem Gx:Br (A8 i5) Gy (["word"]:List Str) (["sign"]:List Str) []:=by ac_rfl
theorem Hc:(B5 (["word"]:List Str) (["sign"]:List Str) []).Nodup:=by decide+kernel
theorem Pk:Ai (["row","words","rest"]:List Str) ["row"] (A8 Uy):=by ac_rfl
def Kc:Scope:={kind:=.function,names:=[(Str.ofString ".0",NameKind.local),(Str.ofString "word",NameKind.local),(Str.ofString "_law_is_number",NameKind.globalImplicit)],isGenerator:=false,isCoroutine:=false,more:=[] }
theorem K9:Br (A8 Uy) Kc (["row","words","rest"]:List Str) (["word"]:List Str) []:=by ac_rfl
theorem Kh:(B5 (["row","words","rest"]:List Str) (["word"]:List Str) []).Nodup:=by decide+kernel
theorem G3:Ai (["row","words","numbers","many","listeners","number"]:List Str) ["row"] (A8 V4):=by ac_rfl
def On:Scope:={kind:=.function,names:=[(Str.ofString ".0",NameKind.local),(Str.ofString "word",NameKind.local),(Str.ofString "int",NameKind.globalImplicit)],isGenerator:=false,isCoroutine:=false,more:=[] }
theorem Oj:Br (A8 V4) On (["row","words","numbers","many","listeners","number"]:List Str) (["word"]:List Str) []:=by ac_rfl
theorem P7:(B5 (["row","words","numbers","many","listeners","number"]:List Str) (["word"]:List Str) []).Nodup:=by decide+kernel
theorem av:Ai (["e","some"]:List Str) ["e"] (A8 V3):=by ac_rfl
def Mt:Scope:={kind:=.function,names:=[(Str.ofString ".0",NameKind.local),(Str.ofString "one",NameKind.local),(Str.ofString "int",NameKind.globalImplicit)],isGenerator:=false,isCoroutine:=false,more:=[] }
theorem Mr:Br (A8 V3) Mt (["e","some"]:List Str) (["one"]:List Str) []:=by ac_rfl
theorem My:(B5 (["e","some"]:List Str) (["one"]:List Str) []).Nodup:=by decide+kernel
theorem Jm:Ai (["desk","row","caught","found","e"]:List Str) ["desk","row"] (A8 a7):=by ac_rfl
theorem Hg:Ai (["script","one","other","cell","row","due","desk"]:List Str) ["script"] (A8 Ii):=by ac_rfl
abbrev lamQ:Str:="chain_wheel.<locals>.<lambda>"
abbrev lamP:Pos:=⟨77,44,77,74⟩
set_option genInjectivity false in
set_option genSizeOf false in
structure yq where
 iU:Addr
 kS:Addr
 kT:Addr
 kU:Addr
 iV:Addr
 kW:Addr
 qC:Addr
 fQ:Addr
 kX:Addr
 iW:Addr
 kY:Addr
 kZ:Addr
 lA:Addr
 fR:Addr
 lB:Addr
 iX:Addr
 lC:Addr
 qD:Addr
 lD:Addr
 qE:Addr
 fS:Addr
 lF:Addr
 iY:Addr
 lG:Addr
 lH:Addr
 lI:Addr
 qF:Addr
 lJ:Addr
 qG:Addr
 lK:Addr
 lL:Addr
 lM:Addr
 lN:Addr
 lO:Addr
 lP:Addr
 qH:Addr
 qI:Addr
 lQ:Addr
 qJ:Addr
 qK:Addr
 lR:Addr
 iZ:Addr
 lS:Addr
 lU:Addr
 lV:Addr
 lW:Addr
 qL:Addr
 lX:Addr
 lY:Addr
 lZ:Addr
 mB:Addr
 mC:Addr
structure Txt(K:W.Frag)(mg:Str->Option q5)(ad:yq)(aA aF aG aD aB aE aC aJ aK aS aU aV aH aI aW aQ aO:Addr):Prop where
 BU:mg "divisor"=some (.ref ad.iU)
 BV:W.keepIn K (.ref ad.iU)=true
 NW:mg "least_round"=some (.ref ad.kS)
 NX:W.keepIn K (.ref ad.kS)=true
 NY:mg "shares"=some (.ref ad.kT)
 NZ:W.keepIn K (.ref ad.kT)=true
 OA:mg "are_chain"=some (.ref ad.kU)
 OB:W.keepIn K (.ref ad.kU)=true
 BW:mg "have_room"=some (.ref ad.iV)
 BX:W.keepIn K (.ref ad.iV)=true
 OC:mg "free_first"=some (.ref ad.kW)
 OD:W.keepIn K (.ref ad.kW)=true
 m_x5:mg "rising_firsts"=some (.ref ad.qC)
 k_x5:W.keepIn K (.ref ad.qC)=true
 OE:mg "chain_wheel"=some (.ref ad.fQ)
 tL:W.keepIn K (.ref ad.fQ)=true
 OF:mg "doubling"=some (.ref ad.kX)
 OG:W.keepIn K (.ref ad.kX)=true
 BZ:mg "doubled"=some (.ref ad.iW)
 CA:W.keepIn K (.ref ad.iW)=true
 OH:mg "halved_down"=some (.ref ad.kY)
 OI:W.keepIn K (.ref ad.kY)=true
 OJ:mg "best_base"=some (.ref ad.kZ)
 OK:W.keepIn K (.ref ad.kZ)=true
 OL:mg "wheel_for"=some (.ref ad.lA)
 OM:W.keepIn K (.ref ad.lA)=true
 ON:mg "hall_of"=some (.ref ad.fR)
 wK:W.keepIn K (.ref ad.fR)=true
 OO:mg "beginning"=some (.ref ad.lB)
 OP:W.keepIn K (.ref ad.lB)=true
 CB:mg "may_lose"=some (.ref ad.iX)
 CC:W.keepIn K (.ref ad.iX)=true
 OQ:mg "is_listener"=some (.ref ad.lC)
 OS:W.keepIn K (.ref ad.lC)=true
 m_x2:mg "refuse_wrong_turn"=some (.ref ad.qD)
 k_x2:W.keepIn K (.ref ad.qD)=true
 OT:mg "left_behind"=some (.ref ad.lD)
 OU:W.keepIn K (.ref ad.lD)=true
 m_x9:mg "quiet_behind"=some (.ref ad.qE)
 k_x9:W.keepIn K (.ref ad.qE)=true
 CD:mg "after"=some (.ref ad.fS)
 tM:W.keepIn K (.ref ad.fS)=true
 OV:mg "all_behind"=some (.ref ad.lF)
 OW:W.keepIn K (.ref ad.lF)=true
 CF:mg "quiet_values"=some (.ref ad.iY)
 CG:W.keepIn K (.ref ad.iY)=true
 OX:mg "how_many"=some (.ref ad.lG)
 OY:W.keepIn K (.ref ad.lG)=true
 OZ:mg "all_left"=some (.ref ad.lH)
 PB:W.keepIn K (.ref ad.lH)=true
 PD:mg "standings"=some (.ref ad.lI)
 PF:W.keepIn K (.ref ad.lI)=true
 m_x3:mg "calls_by_standing"=some (.ref ad.qF)
 k_x3:W.keepIn K (.ref ad.qF)=true
 PH:mg "ways_to"=some (.ref ad.lJ)
 PJ:W.keepIn K (.ref ad.lJ)=true
 m_x1:mg "without_calls_left"=some (.ref ad.qG)
 k_x1:W.keepIn K (.ref ad.qG)=true
 PL:mg "ranks"=some (.ref ad.lK)
 PM:W.keepIn K (.ref ad.lK)=true
 PN:mg "is_number"=some (.ref ad.lL)
 PQ:W.keepIn K (.ref ad.lL)=true
 CH:mg "numbers_of"=some (.ref ad.lM)
 CI:W.keepIn K (.ref ad.lM)=true
 PR:mg "takes"=some (.ref ad.lN)
 PU:W.keepIn K (.ref ad.lN)=true
 PV:mg "row_read"=some (.ref ad.lO)
 PX:W.keepIn K (.ref ad.lO)=true
 PY:mg "place_text"=some (.ref ad.lP)
 PZ:W.keepIn K (.ref ad.lP)=true
 CJ:mg "_law_big"=some (.ref ad.iZ)
 CK:W.keepIn K (.ref ad.iZ)=true
 QA:mg "_law_sign"=some (.ref ad.lS)
 QB:W.keepIn K (.ref ad.lS)=true
 QC:mg "_law_figures"=some (.ref ad.lU)
 QD:W.keepIn K (.ref ad.lU)=true
 QE:mg "_law_written"=some (.ref ad.lV)
 QF:W.keepIn K (.ref ad.lV)=true
 QG:mg "_law_row"=some (.ref ad.lW)
 QH:W.keepIn K (.ref ad.lW)=true
 QI:mg "_law_is_number"=some (.ref ad.qL)
 QJ:W.keepIn K (.ref ad.qL)=true
 QK:mg "_law_is_row"=some (.ref ad.lX)
 QL:W.keepIn K (.ref ad.lX)=true
 QM:mg "_law_due"=some (.ref ad.lY)
 QN:W.keepIn K (.ref ad.lY)=true
 QO:mg "_law_kind"=some (.ref ad.lZ)
 QP:W.keepIn K (.ref ad.lZ)=true
 tO:mg "_law_asked"=some (.ref ad.mB)
 tP:W.keepIn K (.ref ad.mB)=true
 m_law:mg "law"=some (.ref ad.mC)
 wL:W.keepIn K (.ref ad.mC)=true
 CL:mg "sum"=none
 jA:mg "sorted"=none
 qM:mg "all"=none
 CM:mg "zip"=none
 CN:mg "any"=none
 jB:mg "range"=none
 cB:mg "len"=none
 wM:mg "min"=none
 CO:mg "max"=none
 QQ:mg "set"=none
 tQ:mg "tuple"=none
 CP:mg "enumerate"=none
 oA:mg "int"=none
 aM:mg "isinstance"=none
 mD:mg "str"=none
 oU:mg "ValueError"=none
 jU:∃t,mg "MOST_LISTENERS"=some (.int 8 t)
 jV:∃t,mg "MOST_STANDINGS"=some (.int 3000 t)
 nA:∃t,mg "MOST_FIGURES"=some (.int 100 t)
 vF:∃t,mg "FIGURES"=some (.str "0123456789" t)
 oV:mg "ROWS_ALONE"=some (.ref aW)
 fK:∀H:Hp,Cp K H aW ([.str "best",.str "rank"]:List V)
 mP:mg "ROWS_WITH_ONE"=some (.ref aQ)
 dR:∀H:Hp,Cp K H aQ ([.str "call",.str "lost",.str "answer",.str "join",.str "leave",.str "turn"]:List V)
 jW:mg "ROWS_WITH_SOME"=some (.ref aO)
 cT:∀H:Hp,Cp K H aO ([.str "hall",.str "wheel"]:List V)
 gO:mg "NoWheel"=some (.ref aA)
 oB:mg "NoChain"=some (.ref aF)
 oC:mg "TooMuch"=some (.ref aG)
 jC:mg "NoHall"=some (.ref aD)
 oE:mg "TooMany"=some (.ref aB)
 mV:mg "NoRow"=some (.ref aE)
 jX:mg "NoStand"=some (.ref aC)
 oW:mg "RoundError"=some (.ref aJ)
 oX:mg "NoListener"=some (.ref aK)
 wN:mg "NoLoss"=some (.ref aS)
 wO:mg "NoPart"=some (.ref aU)
 wQ:mg "Unsafe"=some (.ref aV)
 rL:mg "Desk"=some (.ref aH)
 aY:Xc K aH
 oY:Mk K aH ad.qH
 QR:Q6 K aH "told" ad.lR
 M_x0:Q6 K aH "refuse_without_stand" ad.qI
 QS:Q6 K aH "put" ad.lQ
 M_x7:Q6 K aH "new_hall" ad.qJ
 M_x4:Q6 K aH "new_wheel" ad.qK
 eP:Ej K aH "hall"
 bP:Ej K aH "standing"
 gW:Ej K aH "table"
 bU:Ej K aH "wheel"
 fG:Kr K aA
 jY:Kr K aF
 jZ:Kr K aG
 fT:Kr K aD
 kA:Kr K aB
 jD:Kr K aE
 gP:Kr K aC
 fL:Kr K aJ
 fM:W.subIn K (.ref aJ) (.type "BaseException")=some true
 GQ:W.specialIn K (.builtin "object.__class__") "__get__"=some (some (.builtin "getset_descriptor.__get__"))
 GR:W.takesIn K (.builtin "object.__class__")=some true
 kB:W.findIn K (.ref aE) "__getattribute__"=some (some (.builtin "BaseException.__getattribute__"))
 kC:W.findIn K (.ref aE) "__getattr__"=some none
 kD:W.findIn K (.ref aE) "__class__"=some (some (.builtin "object.__class__"))
 kE:W.mroIn K aE (.type "object")=some true
 kG:W.subIn K (.ref aE) (.type "BaseException")=some true
 bW:W.subIn K (.ref aE) (.ref aJ)=some true
 bX:W.kitOne K (.ref aE) (.ref aK)=some false
 eS:W.kitOne K (.ref aE) (.ref aS)=some false
 dU:W.kitOne K (.ref aE) (.ref aF)=some false
 dW:W.kitOne K (.ref aE) (.ref aG)=some false
 eU:W.kitOne K (.ref aE) (.ref aU)=some false
 eV:W.kitOne K (.ref aE) (.ref aV)=some false
 fE:W.kitOne K (.ref aE) (.ref aE)=some true
 dX:W.kitOne K (.ref aE) (.ref aC)=some false
 eX:W.kitOne K (.ref aE) (.ref aD)=some false
 dY:W.kitOne K (.ref aE) (.ref aB)=some false
 dZ:W.kitOne K (.ref aE) (.ref aA)=some false
 bZ:W.kitOne K (.ref aE) (.type "ValueError")=some true
 fU:W.findIn K (.ref aC) "__getattribute__"=some (some (.builtin "BaseException.__getattribute__"))
 fV:W.findIn K (.ref aC) "__getattr__"=some none
 fX:W.findIn K (.ref aC) "__class__"=some (some (.builtin "object.__class__"))
 fY:W.mroIn K aC (.type "object")=some true
 fZ:W.subIn K (.ref aC) (.type "BaseException")=some true
 bE:W.subIn K (.ref aC) (.ref aJ)=some true
 bG:W.kitOne K (.ref aC) (.ref aK)=some false
 cU:W.kitOne K (.ref aC) (.ref aS)=some false
 cC:W.kitOne K (.ref aC) (.ref aF)=some false
 cD:W.kitOne K (.ref aC) (.ref aG)=some false
 cV:W.kitOne K (.ref aC) (.ref aU)=some false
 cW:W.kitOne K (.ref aC) (.ref aV)=some false
 eA:W.kitOne K (.ref aC) (.ref aE)=some false
 cE:W.kitOne K (.ref aC) (.ref aC)=some true
 cX:W.kitOne K (.ref aC) (.ref aD)=some false
 cF:W.kitOne K (.ref aC) (.ref aB)=some false
 cH:W.kitOne K (.ref aC) (.ref aA)=some false
 bH:W.kitOne K (.ref aC) (.type "ValueError")=some true
 hJ:W.findIn K (.ref aD) "__getattribute__"=some (some (.builtin "BaseException.__getattribute__"))
 hU:W.findIn K (.ref aD) "__getattr__"=some none
 hV:W.findIn K (.ref aD) "__class__"=some (some (.builtin "object.__class__"))
 hZ:W.mroIn K aD (.type "object")=some true
 iA:W.subIn K (.ref aD) (.type "BaseException")=some true
 bR:W.subIn K (.ref aD) (.ref aJ)=some true
 bS:W.kitOne K (.ref aD) (.ref aK)=some false
 eC:W.kitOne K (.ref aD) (.ref aS)=some false
 cY:W.kitOne K (.ref aD) (.ref aF)=some false
 cZ:W.kitOne K (.ref aD) (.ref aG)=some false
 eE:W.kitOne K (.ref aD) (.ref aU)=some false
 eG:W.kitOne K (.ref aD) (.ref aV)=some false
 eY:W.kitOne K (.ref aD) (.ref aE)=some false
 dA:W.kitOne K (.ref aD) (.ref aC)=some false
 eJ:W.kitOne K (.ref aD) (.ref aD)=some true
 dB:W.kitOne K (.ref aD) (.ref aB)=some false
 dC:W.kitOne K (.ref aD) (.ref aA)=some false
 bT:W.kitOne K (.ref aD) (.type "ValueError")=some true
 gA:W.findIn K (.ref aB) "__getattribute__"=some (some (.builtin "BaseException.__getattribute__"))
 gB:W.findIn K (.ref aB) "__getattr__"=some none
 gC:W.findIn K (.ref aB) "__class__"=some (some (.builtin "object.__class__"))
 gD:W.mroIn K aB (.type "object")=some true
 gE:W.subIn K (.ref aB) (.type "BaseException")=some true
 bI:W.subIn K (.ref aB) (.ref aJ)=some true
 bJ:W.kitOne K (.ref aB) (.ref aK)=some false
 dD:W.kitOne K (.ref aB) (.ref aS)=some false
 cJ:W.kitOne K (.ref aB) (.ref aF)=some false
 cK:W.kitOne K (.ref aB) (.ref aG)=some false
 dE:W.kitOne K (.ref aB) (.ref aU)=some false
 dG:W.kitOne K (.ref aB) (.ref aV)=some false
 eK:W.kitOne K (.ref aB) (.ref aE)=some false
 cL:W.kitOne K (.ref aB) (.ref aC)=some false
 dH:W.kitOne K (.ref aB) (.ref aD)=some false
 cM:W.kitOne K (.ref aB) (.ref aB)=some true
 cN:W.kitOne K (.ref aB) (.ref aA)=some false
 bK:W.kitOne K (.ref aB) (.type "ValueError")=some true
 gF:W.findIn K (.ref aA) "__getattribute__"=some (some (.builtin "BaseException.__getattribute__"))
 gG:W.findIn K (.ref aA) "__getattr__"=some none
 gH:W.findIn K (.ref aA) "__class__"=some (some (.builtin "object.__class__"))
 gI:W.mroIn K aA (.type "object")=some true
 gJ:W.subIn K (.ref aA) (.type "BaseException")=some true
 bL:W.subIn K (.ref aA) (.ref aJ)=some true
 bM:W.kitOne K (.ref aA) (.ref aK)=some false
 dJ:W.kitOne K (.ref aA) (.ref aS)=some false
 cO:W.kitOne K (.ref aA) (.ref aF)=some false
 cP:W.kitOne K (.ref aA) (.ref aG)=some false
 dM:W.kitOne K (.ref aA) (.ref aU)=some false
 dN:W.kitOne K (.ref aA) (.ref aV)=some false
 eM:W.kitOne K (.ref aA) (.ref aE)=some false
 cQ:W.kitOne K (.ref aA) (.ref aC)=some false
 dQ:W.kitOne K (.ref aA) (.ref aD)=some false
 cR:W.kitOne K (.ref aA) (.ref aB)=some false
 cS:W.kitOne K (.ref aA) (.ref aA)=some true
 bN:W.kitOne K (.ref aA) (.type "ValueError")=some true
inductive Fk(p0 p1 p2:Prop):Prop where
 |mk (h0:p0) (h1:p1) (h2:p2):Fk p0 p1 p2
inductive Iw(p0 p1 p2 p3:Prop):Prop where
 |mk (h0:p0) (h1:p1) (h2:p2) (h3:p3):Iw p0 p1 p2 p3
inductive Fl(p0 p1 p2 p3 p4:Prop):Prop where
 |mk (h0:p0) (h1:p1) (h2:p2) (h3:p3) (h4:p4):Fl p0 p1 p2 p3 p4
inductive Hi(p0 p1 p2 p3 p4 p5:Prop):Prop where
 |mk (h0:p0) (h1:p1) (h2:p2) (h3:p3) (h4:p4) (h5:p5):Hi p0 p1 p2 p3 p4 p5
inductive Kq(p0 p1 p2 p3 p4 p5 p6:Prop):Prop where
 |mk (h0:p0) (h1:p1) (h2:p2) (h3:p3) (h4:p4) (h5:p5) (h6:p6):Kq p0 p1 p2 p3 p4 p5 p6
inductive Px(p0 p1 p2 p3 p4 p5 p6 p7:Prop):Prop where
 |mk (h0:p0) (h1:p1) (h2:p2) (h3:p3) (h4:p4) (h5:p5) (h6:p6) (h7:p7):Px p0 p1 p2 p3 p4 p5 p6 p7
inductive Py(p0 p1 p2 p3 p4 p5 p6 p7 p8:Prop):Prop where
 |mk (h0:p0) (h1:p1) (h2:p2) (h3:p3) (h4:p4) (h5:p5) (h6:p6) (h7:p7) (h8:p8):Py p0 p1 p2 p3 p4 p5 p6 p7 p8
inductive Pw(p0 p1 p2 p3 p4 p5 p6 p7 p8 p9:Prop):Prop where
 |mk (h0:p0) (h1:p1) (h2:p2) (h3:p3) (h4:p4) (h5:p5) (h6:p6) (h7:p7) (h8:p8) (h9:p9):Pw p0 p1 p2 p3 p4 p5 p6 p7 p8 p9
inductive Tx(p0 p1 p2 p3 p4 p5 p6 p7 p8 p9 CQ:Prop):Prop where
 |mk (h0:p0) (h1:p1) (h2:p2) (h3:p3) (h4:p4) (h5:p5) (h6:p6) (h7:p7) (h8:p8) (h9:p9) (h10:CQ):Tx p0 p1 p2 p3 p4 p5 p6 p7 p8 p9 CQ
inductive ie(p0 p1 p2 p3 p4 p5 p6 p7 p8 p9 CQ QT QU QV QW:Prop):Prop where
 |mk (h0:p0) (h1:p1) (h2:p2) (h3:p3) (h4:p4) (h5:p5) (h6:p6) (h7:p7) (h8:p8) (h9:p9) (h10:CQ) (h11:QT) (h12:QU) (h13:QV) (h14:QW):ie p0 p1 p2 p3 p4 p5 p6 p7 p8 p9 CQ QT QU QV QW
inductive ig(p0 p1 p2 p3 p4 p5 p6 p7 p8 p9 CQ QT QU QV QW p15:Prop):Prop where
 |mk (h0:p0) (h1:p1) (h2:p2) (h3:p3) (h4:p4) (h5:p5) (h6:p6) (h7:p7) (h8:p8) (h9:p9) (h10:CQ) (h11:QT) (h12:QU) (h13:QV) (h14:QW) (h15:p15):ig p0 p1 p2 p3 p4 p5 p6 p7 p8 p9 CQ QT QU QV QW p15
inductive Js{T0 T1:Type}(p:T0->T1->Prop):Prop where
 |mk (x0:T0) (x1:T1) (h:p x0 x1):Js p
inductive Mn{T0 T1 T2:Type}(p:T0->T1->T2->Prop):Prop where
 |mk (x0:T0) (x1:T1) (x2:T2) (h:p x0 x1 x2):Mn p
inductive di{T0 T1 T2 T3:Type}(p:T0->T1->T2->T3->Prop):Prop where
 |mk (x0:T0) (x1:T1) (x2:T2) (x3:T3) (h:p x0 x1 x2 x3):di p
inductive jj{T0 T1 T2 T3 T4:Type}(p:T0->T1->T2->T3->T4->Prop):Prop where
 |mk (x0:T0) (x1:T1) (x2:T2) (x3:T3) (x4:T4) (h:p x0 x1 x2 x3 x4):jj p
inductive rb{T0 T1 T2 T3 T4 T5:Type}(p:T0->T1->T2->T3->T4->T5->Prop):Prop where
 |mk (x0:T0) (x1:T1) (x2:T2) (x3:T3) (x4:T4) (x5:T5) (h:p x0 x1 x2 x3 x4 x5):rb p
inductive re{T0 T1 T2 T3 T4 T5 T6:Type}(p:T0->T1->T2->T3->T4->T5->T6->Prop):Prop where
 |mk (x0:T0) (x1:T1) (x2:T2) (x3:T3) (x4:T4) (x5:T5) (x6:T6) (h:p x0 x1 x2 x3 x4 x5 x6):re p
inductive rf{T0 T1 T2 T3 T4 T5 T6 T7:Type}(p:T0->T1->T2->T3->T4->T5->T6->T7->Prop):Prop where
 |mk (x0:T0) (x1:T1) (x2:T2) (x3:T3) (x4:T4) (x5:T5) (x6:T6) (x7:T7) (h:p x0 x1 x2 x3 x4 x5 x6 x7):rf p
inductive wd{T0 T1 T2 T3 T4 T5 T6 T7 T8:Type}(p:T0->T1->T2->T3->T4->T5->T6->T7->T8->Prop):Prop where
 |mk (x0:T0) (x1:T1) (x2:T2) (x3:T3) (x4:T4) (x5:T5) (x6:T6) (x7:T7) (x8:T8) (h:p x0 x1 x2 x3 x4 x5 x6 x7 x8):wd p
inductive ra{T0 T1 T2 T3 T4 T5 T6 T7 T8 T9:Type}(p:T0->T1->T2->T3->T4->T5->T6->T7->T8->T9->Prop):Prop where
 |mk (x0:T0) (x1:T1) (x2:T2) (x3:T3) (x4:T4) (x5:T5) (x6:T6) (x7:T7) (x8:T8) (x9:T9) (h:p x0 x1 x2 x3 x4 x5 x6 x7 x8 x9):ra p
def Bf(H:Hp)(a:Addr)(ws:qQ)(calm:q3):Prop:=∃t,H a=some (.tup [.ref t,vO calm])/\H t=some (.tup (ws.map V.int))
def Et(H:Hp)(b:Addr)(a:qQ)(q:Int):Prop:=∃u,H b=some (.tup [.ref u,.int q])/\H u=some (.tup (a.map V.int))
theorem Bf.same{H b:Hp}{a:Addr}{ws:qQ}{calm:q3}(s:A7 H b)(h:Bf H a ws calm):Bf b a ws calm:=by
 obtain⟨t,c,d⟩:=h;exact⟨t,s _ _ c,s _ _ d⟩
theorem Et.same{H b:Hp}{a:Addr}{c:qQ}{q:Int}(s:A7 H b)(h:Et H a c q):Et b a c q:=by
 obtain⟨t,d,e⟩:=h;exact⟨t,s _ _ d,s _ _ e⟩
theorem qo(c:q3):decide (vO c=V.aX)=decide (c=none):=by cases c<;>simp[vO]
def Hw(ws c:qQ)(b:Nat)(a:Bool):qQ:=if a=true then c.map (λx=>x-1)else(c.map (λx=>x-1)).set b (ws.getD b 0)
def Mb(calm:q3)(q:Int)(a:Bool):Int:=if a=true then calm.getD 0 else max (q-1) 0
def Xe(calm:q3)(q:Int)(a:Bool):Prop:=a=true->calm≠none/\q=0
theorem Qu(x:Int):∀ns:qQ,Gr (.int x) (ns.map V.int)=decide (x∈ns)
 |[]=>rfl
 |n::ns=>by
  show(Y2 (V.int n) (V.int x)||Gr (.int x) (ns.map V.int))=_;rw[Qu x ns];show((n==x)||decide (x∈ns))=_;by_cases h:n=x
  ·simp[h]
  ·have a:¬x=n:=λe=>h e.symm;simp[h,a]
theorem G8:∀ns:qQ,(ns.map V.int).all Fs=true
 |[]=>rfl
 |n::ns=>by
  show(Fs (V.int n)&&(ns.map V.int).all Fs)=true;rw[G8 ns];rfl
theorem ff{ws:qQ}{k:Nat}(h:k<ws.length):Hm (ws.map V.int) (k:Int)=some (.int (ws.getD k 0)):=by
 refine Hn ?_;rw[List.getElem?_map,List.getElem?_eq_getElem h,List.getD_eq_getElem?_getD,List.getElem?_eq_getElem h];rfl
theorem Uh{n k:Nat}(h:k<n):Sf n (k:Int)=some k:=by
 unfold Sf;rw[if_pos (by omega),if_pos (by omega)];simp
theorem Vk{a b:Int}{m:Nat}(c:intBits a<=m)(d:intBits b<=m):intBits (a+b)<=m+1:=by
 have h:=bits_add c d;rw[Nat.max_self]at h;exact h
theorem F3{a:Int}{n:Nat}(h:a.natAbs<2^n):intBits a<=n:=intBits_le h
theorem Bd(x:Int){m:Int}(h:0<m):0<=x%m/\x%m<m:=⟨oI x (by omega),pb x h⟩
theorem j0:(0:Int)<10^(60:Int).toNat:=by decide+kernel
def Xo(xs:qQ)(lo hi:q3):qQ:=(xs.drop (HT.iQ xs.length 0 lo)).take (HT.iQ xs.length xs.length hi-HT.iQ xs.length 0 lo)
theorem Ni(xs:qQ)(lo hi:q3):L7 (xs.map V.int) lo hi=(Xo xs lo hi).map V.int:=by
 unfold L7 Xo;rw[List.length_map,List.map_take,List.map_drop]
theorem dv{xs:List V}{c:Int}(a:0<=c)(h:c<=xs.length):L7 xs none (some c)=xs.take c.toNat:=by
 obtain⟨n,rfl⟩:∃n:Nat,c=n:=⟨c.toNat,by omega⟩;unfold L7;rw[HT.eR,HT.iR];have e:min n xs.length=n:=by omega
 rw[e];simp
theorem Vl{a b:Int}{m n:Nat}(e:intBits a<=m)(f:intBits b<=n):intBits (a*b)<=m+n:=by
 apply intBits_le;rw[Int.natAbs_mul,Nat.pow_add];have c:=fx (natAbs_lt_pow_bits a) (Nat.pow_le_pow_right (by decide) e);have d:=fx (natAbs_lt_pow_bits b) (Nat.pow_le_pow_right (by decide) f);exact Nat.mul_lt_mul'' c d
theorem Ez{n:Nat}(h:n<=10000):n<sizeLine:=n4 h (by decide)
def Ax(H c:Hp):Prop:=∀b a,H b=some (.tup a)->c b=some (.tup a)
theorem Ax.of{H a:Hp}(s:A7 H a):Ax H a:=λb c e=>s b _ e
theorem Ax.trans{H d f:Hp}(a:Ax H d)(b:Ax d f):Ax H f:=λc g e=>b c g (a c g e)
theorem Ax.lst{H:Hp}{D:Addr}{a:List V}{o:HO}(h:H D=some (.lst a)):Ax H (upd H D o):=λb c e=>by
 rw[A9 (Bj e h (by intro z;cases z))];exact e
def E9(H:Hp)(r:qQ)(v:V):Prop:=∃p,v=.ref p/\H p=some (.tup (r.map V.int))
def Ju(H:Hp)(z:qQ×Int)(v:V):Prop:=∃p u,v=.ref p/\H p=some (.tup [.ref u,.int z.2])/\H u=some (.tup (z.1.map V.int))
theorem E9.up{H a:Hp}{r:qQ}{v:V}(t:Ax H a)(h:E9 H r v):E9 a r v:=by
 obtain⟨p,e,b⟩:=h;exact⟨p,e,t _ _ b⟩
theorem Ju.up{H a:Hp}{z:qQ×Int}{v:V}(t:Ax H a)(h:Ju H z v):Ju a z v:=by
 obtain⟨p,u,e,b,c⟩:=h;exact⟨p,u,e,t _ _ b,t _ _ c⟩
def Aq{a:Type}(P:a->V->Prop)(b:List a)(vs:List V):Prop:=vs.length=b.length/\∀(i:Nat) (r:a) (v:V),b[i]?=some r->vs[i]?=some v->P r v
theorem Aq.nil{a:Type}{P:a->V->Prop}:Aq P [] []:=⟨rfl,λi r v e=>by cases e⟩
theorem Aq.imp{c:Type}{P a:c->V->Prop}{b:List c}{vs:List V}(f:∀r v,P r v->a r v)(h:Aq P b vs):Aq a b vs:=⟨h.1,λi r v d e=>f _ _ (h.2 i r v d e)⟩
theorem Aq.append{d:Type}{P:d->V->Prop}{c ss:List d}{vs us:List V}(h:Aq P c vs)(g:Aq P ss us):Aq P (c++ss) (vs++us):=by
 refine⟨by rw[List.length_append,List.length_append,h.1,g.1],λi r v a b=>?_⟩;rcases iv i c.length with z|z
 ·rw[List.getElem?_append_left z]at a;rw[List.getElem?_append_left (by rw[h.1];exact z)]at b;exact h.2 i r v a b
 ·rw[List.getElem?_append_right z]at a;rw[List.getElem?_append_right (by rw[h.1];exact z),h.1]at b;exact g.2 _ r v a b
theorem Aq.one{b:Type}{P:b->V->Prop}{r:b}{v:V}(h:P r v):Aq P [r] [v]:=by
 refine⟨rfl,λi d e a c=>?_⟩;cases i with
 |zero=>cases a;cases c;exact h
 |succ i=>cases a
theorem Aq.get{d:Type}{P:d->V->Prop}{a:List d}{vs:List V}(h:Aq P a vs){i:Nat}{v:V}(e:vs[i]?=some v):∃r,a[i]?=some r/\P r v:=by
 have f:=(bt.mp e).1
 have b:i<a.length:=by
  rw[<- h.1];exact f
 have c:a[i]?=some a[i]:=ed b;exact⟨_,c,h.2 i _ v c e⟩
def qv:q3->Int
 |none=>1
 |some c=>c+1
def B0(q:Int)(ws:qQ):Int:=ws.foldl (·*·) q
def Oz(r:qQ)(w:Int):List (qQ):=(List.range w.toNat).map λt=>r++[1+((t:Nat):Int)]
def Cm(a:List (qQ))(w:Int):List (qQ):=a.flatMap λr=>Oz r w
def Bz(ws:qQ):List (qQ):=ws.foldl Cm [[]]
def F0(r:qQ)(q:Int):List (qQ×Int):=(List.range q.toNat).map λk=>(r,0+((k:Nat):Int))
def Ca(ws:qQ)(q:Int):List (qQ×Int):=(Bz ws).flatMap λr=>F0 r q
theorem Dx{a c:Type}(f:c->a->c)(b:c)(xs:List a){i:Nat}{x:a}(h:xs[i]?=some x):(xs.take (i+1)).foldl f b=f ((xs.take i).foldl f b) x:=by
 rw[List.take_add_one,h,List.foldl_append];rfl
theorem Nm{a b:Type}(f:a->List b)(xs:List a){i:Nat}{x:a}(h:xs[i]?=some x):(xs.take (i+1)).flatMap f=(xs.take i).flatMap f++f x:=by
 rw[List.take_add_one,h,List.flatMap_append];simp
theorem Jl{q:Int}(a:intBits q<=400):∀{ws:qQ},(∀w∈ws,intBits w<=400)->∀i,i<=ws.length->intBits (B0 q (ws.take i))<=400*(i+1)
 |ws,h,0,_=>by simpa[B0]using a
 |ws,h,i+1,d=>by
  have c:ws[i]?=some ws[i]:=ed (by omega);have b:=Jl a h i (by omega);unfold B0 at b⊢;rw[Dx _ _ _ c];exact en (Vl b (h _ (oa _))) (by omega)
theorem Sz(q:Int):∀(ws:qQ) (a:Int),B0 (q*a) ws=q*B0 a ws
 |[],a=>rfl
 |w::ws,a=>by
  show B0 (q*a*w) ws=q*B0 (a*w) ws;rw[Int.mul_assoc,Sz q ws (a*w)]
theorem Li{a c:Type}{f:a->List c}{n:Nat}:∀{xs:List a},(∀x∈xs,(f x).length=n)->(xs.flatMap f).length=xs.length*n
 |[],_=>by simp
 |x::xs,h=>by
  rw[List.flatMap_cons,List.length_append,h x (List.mem_cons_self ..),Li λy b=>h y (List.mem_cons_of_mem _ b),List.length_cons,Nat.succ_mul];omega
theorem R3(r:qQ)(w:Int):(Oz r w).length=w.toNat:=by simp[Oz]
theorem O7(r:qQ)(q:Int):(F0 r q).length=q.toNat:=by simp[F0]
theorem Mi(a:List (qQ))(w:Int):(Cm a w).length=a.length*w.toNat:=Li λr _=>R3 r w
theorem Md:∀(ws:qQ) (rows:List (qQ)),(∀w∈ws,1<=w)->((ws.foldl Cm rows).length:Int)=B0 (rows.length:Int) ws
 |[],rows,_=>rfl
 |w::ws,rows,h=>by
  have b:=h w (dm ..);show((ws.foldl Cm (Cm rows w)).length:Int)=B0 ((rows.length:Int)*w) ws;rw[Md ws _ (λx a=>h x (List.mem_cons_of_mem _ a)),Mi];congr 1;rw[Int.natCast_mul];congr 1;omega
theorem Ic:∀(ws:qQ) (a:Int),0<=a->(∀w∈ws,1<=w)->a<=B0 a ws
 |[],a,_,_=>Int.le_refl _
 |w::ws,a,c,h=>by
  have d:=h w (dm ..)
  have b:a<=a*w:=by
   have:=i3 d c;rw[Int.mul_one]at this;exact this
  exact oD b (Ic ws (a*w) (oD c b) λx e=>h x (d3 _ e))
theorem Wy{ws:qQ}{a:Int}(c:0<=a)(h:∀w∈ws,1<=w)(i:Nat):B0 a (ws.take i)<=B0 a ws:=by
 have e:B0 a ws=B0 (B0 a (ws.take i)) (ws.drop i):=by
  unfold B0;rw[<- List.foldl_append,List.take_append_drop]
 rw[e];refine Ic _ _ (oD c (Ic _ _ c λw b=>h w (List.mem_of_mem_take b))) λw b=>h w (List.mem_of_mem_drop b)
theorem P1{r x:qQ}{w:Int}(h:x∈Oz r w):∃t:Nat,t<w.toNat/\x=r++[1+(t:Int)]:=by
 unfold Oz at h;obtain⟨t,a,rfl⟩:=fe.mp h;exact⟨t,oP.mp a,rfl⟩
theorem Ig(ws:qQ):∀i,i<=ws.length->∀r∈Bz (ws.take i),r.length=i/\∀(k:Nat) (x w:Int),r[k]?=some x->ws[k]?=some w->1<=x/\x<=w
 |0,_,r,h=>by
  have e:r=[]:=i0.mp h;subst e;exact⟨rfl,λk x w e=>by cases e⟩
 |i+1,o,r,h=>by
  have d:ws[i]?=some ws[i]:=ed (by omega);have e:Bz (ws.take (i+1))=Cm (Bz (ws.take i)) ws[i]:=Dx _ _ _ d;rw[e]at h;obtain⟨f,g,j⟩:=List.mem_flatMap.mp h;obtain⟨t,n,rfl⟩:=P1 j;obtain⟨c,l⟩:=Ig ws i (by omega) f g;refine⟨by simp[c],λk x w a b=>?_⟩;rcases iv k f.length with z|z
  ·rw[List.getElem?_append_left z]at a;exact l k x w a b
  ·have m:k=i:=by
    have:=(bt.mp a).1;rw[List.length_append,List.length_singleton]at this;omega
   subst m;rw[List.getElem?_append_right z,c,Nat.sub_self]at a;cases a;rw[d]at b;cases b;omega
def Ve(r s:qQ):Prop:=bV (r.map PyData.int) (s.map PyData.int)=true
theorem Km(a b:Int):PyData.eqv (.int a) (.int b)=decide (a=b):=by
 show(a==b)=_;by_cases h:a=b<;>simp[h]
theorem P0:∀r:qQ,¬Ve r r
 |[]=>by unfold Ve;simp[bV]
 |x::r=>λh=>by
  have a:=P0 r;unfold Ve at h a;rw[List.map_cons,bV,Km,if_pos (by simp)]at h;exact a h
theorem R5:∀{r s:qQ}{x y:Int},r.length=s.length->Ve r s->Ve (r++[x]) (s++[y])
 |[],[],x,y,_,h=>absurd h (P0 [])
 |[],_::_,_,_,c,_=>by simp at c
 |_::_,[],_,_,c,_=>by simp at c
 |a::r,b::s,x,y,c,h=>by
  unfold Ve at h⊢;rw[List.cons_append,List.cons_append,List.map_cons,List.map_cons,bV]at*;by_cases e:PyData.eqv (.int a) (.int b)=true
  ·rw[if_pos e]at h⊢;exact R5 (r:=r) (s:=s) (by simpa using c) h
  ·rw[if_neg e]at h⊢;exact h
theorem R4:∀{r:qQ}{x y:Int},x<y->Ve (r++[x]) (r++[y])
 |[],x,y,h=>by
  unfold Ve;show bV [PyData.int x] [PyData.int y]=true;rw[bV,Km,if_neg (by simp;omega),qy];exact decide_eq_true h
 |a::r,x,y,h=>by
  unfold Ve;rw[List.cons_append,List.cons_append,List.map_cons,List.map_cons,bV,Km,if_pos (by simp)];exact R4 (r:=r) h
theorem Sj(r:qQ)(w:Int):(Oz r w).Pairwise Ve:=by
 unfold Oz;rw[List.pairwise_map];exact List.pairwise_lt_range.imp λh=>R4 (by omega)
theorem K3(ws:qQ):∀i,i<=ws.length->(Bz (ws.take i)).Pairwise Ve
 |0,_=>by
  show([[]]:List (qQ)).Pairwise Ve;exact List.pairwise_singleton _ _
 |i+1,n=>by
  have f:ws[i]?=some ws[i]:=ed (by omega);have e:Bz (ws.take (i+1))=Cm (Bz (ws.take i)) ws[i]:=Dx _ _ _ f;rw[e];unfold Cm;rw[List.pairwise_flatMap];refine⟨λr _=>Sj r _,?_⟩;refine(K3 ws i (by omega)).imp_of_mem λ{a b} c d h x g y j=>?_;obtain⟨t,_,rfl⟩:=P1 g;obtain⟨u,_,rfl⟩:=P1 j;have l:=(Ig ws i (by omega) a c).1;have m:=(Ig ws i (by omega) b d).1;exact R5 (by omega) h
def dS(z:qQ×Int):rr:=dP (dT z.1) (.int z.2)
theorem Yr{a b:qQ×Int}(h:Ve a.1 b.1\/(a.1=b.1/\a.2<b.2)):qy (dS a) (dS b)=true:=by
 show bV [dT a.1,.int a.2] [dT b.1,.int b.2]=true;rw[bV,jw];rcases h with h|⟨d,f⟩
 ·have c:¬a.1=b.1:=λe=>by
   rw[e]at h;exact P0 _ h
  rw[if_neg (by simpa using c)];exact h
 ·rw[if_pos (by simpa using d),bV,Km,if_neg (by simp;omega),qy];exact decide_eq_true f
theorem P2{r:qQ}{q:Int}{z:qQ×Int}(h:z∈F0 r q):z.1=r/\0<=z.2/\z.2<q:=by
 unfold F0 at h;obtain⟨k,a,rfl⟩:=fe.mp h;have:=oP.mp a;exact⟨rfl,by show 0<=0+(k:Int);omega,by show 0+(k:Int)<q;omega⟩
theorem Ps(ws:qQ)(q:Int):(Ca ws q).Pairwise λa b=>qy (dS a) (dS b)=true:=by
 unfold Ca;rw[List.pairwise_flatMap];refine⟨λr _=>?_,?_⟩
 ·unfold F0;rw[List.pairwise_map];exact List.pairwise_lt_range.imp λ{a b} h=>Yr (a:=(r,0+((a:Nat):Int))) (b:=(r,0+((b:Nat):Int))) (.inr ⟨rfl,by show 0+((a:Nat):Int)<0+((b:Nat):Int);omega⟩)
 ·have h:=K3 ws ws.length (dr _);rw[List.take_length]at h;refine h.imp λ{a b} h x c y d=>?_;exact Yr (.inl (by rw[(P2 c).1,(P2 d).1];exact h))
theorem O4{ws:qQ}{q:Int}(h:∀w∈ws,1<=w)(a:0<=q):((Ca ws q).length:Int)=B0 q ws:=by
 unfold Ca;rw[Li λr _=>O7 r q,Int.natCast_mul];have e:((Bz ws).length:Int)=B0 1 ws:=Md ws [[]] h;rw[e,Int.toNat_of_nonneg a,Int.mul_comm,<- Sz,Int.mul_one]
theorem X2{ws:qQ}{q:Int}{z:qQ×Int}(h:z∈Ca ws q):z.1.length=ws.length/\(∀(k:Nat) (x w:Int),z.1[k]?=some x->ws[k]?=some w->1<=x/\x<=w)/\0<=z.2/\z.2<q:=by
 obtain⟨r,b,c⟩:=List.mem_flatMap.mp h;obtain⟨d,e,f⟩:=P2 c;have a:=Ig ws ws.length (dr _) r (by rw[List.take_length];exact b);rw[d];exact⟨a.1,a.2,e,f⟩
theorem O0{ws:qQ}(h:∀w∈ws,1<=w)(d:B0 1 ws<=3000)(i:Nat):(Bz (ws.take i)).length<=3000:=by
 have e:=Md (ws.take i) [[]] λw a=>h w (List.mem_of_mem_take a);have b:=Wy (ws:=ws) (a:=1) (by decide) h i;have c:B0 (([[]]:List (qQ)).length:Int) (ws.take i)=B0 1 (ws.take i):=rfl;unfold Bz;omega
def qx(H:Hp)(v:V):Option (qQ×Int)->Prop
 |none=>v=.aX
 |some r=>∃b,v=.ref b/\Et H b r.1 r.2
def jr:Option (qQ×Int)->rr
 |none=>.none
 |some r=>dP (dT r.1) (.int r.2)
theorem ol{H:Hp}{v:V}{r:Option (qQ×Int)}(h:qx H v r):Rp H (jr r) v:=by
 cases r with
 |none=>
  cases h;exact Zk
 |some r=>
  obtain⟨b,rfl,t,a,c⟩:=h;exact uy a (uz c) (om _)
theorem Aq.tail{c:Type}{P:c->V->Prop}{r:c}{v:V}{d:List c}{vs:List V}(h:Aq P (r::d) (v::vs)):P r v/\Aq P d vs:=⟨h.2 0 r v rfl rfl,by have:=h.1;simpa using this,λi a b e f=>h.2 (i+1) a b e f⟩
theorem Lq{a:Type}{P:a->Prop}{xs:List a}{x:a}(h:∀y∈xs,P y)(b:P x):∀y∈xs++[x],P y:=λy c=>by
 rcases fy.mp c with z|z
 ·exact h y z
 ·cases i0.mp z;exact b
theorem Et.up{H a:Hp}{b:Addr}{c:qQ}{q:Int}(t:Ax H a)(h:Et H b c q):Et a b c q:=by
 obtain⟨u,d,e⟩:=h;exact⟨u,t _ _ d,t _ _ e⟩
theorem qx.up{H a:Hp}{v:V}{r:Option (qQ×Int)}(s:Ax H a)(h:qx H v r):qx a v r:=by
 cases r with
 |none=>exact h
 |some r=>
  obtain⟨b,e,h⟩:=h;exact⟨b,e,h.up s⟩
def iq(ws c:qQ)(cm:q3)(q:Int)(b:Nat)(a:Bool):Option (qQ×Int):=if(0:Int)∈Hw ws c b a then none else some (Hw ws c b a,Mb cm q a)
def Yt(cm:q3)(q:Int):Bool:= !decide (cm=none)&&decide (q=0)
def Bs(ws b:qQ)(cm:q3)(q:Int)(a:Nat):List (Option (qQ×Int)):=iq ws b cm q a false::if Yt cm q=true then[iq ws b cm q a true]else[]
def K6(H:Hp)(r:Option (qQ×Int))(v:V):Prop:=qx H v r
theorem K6.up{H a:Hp}{v:V}{r:Option (qQ×Int)}(s:Ax H a)(h:K6 H r v):K6 a r v:=qx.up s h
theorem Aq.cons{a:Type}{P:a->V->Prop}{r:a}{v:V}{b:List a}{vs:List V}(h:P r v)(g:Aq P b vs):Aq P (r::b) (v::vs):=(Aq.one h).append g
theorem O1{H:Hp}:∀{a:List (Option (qQ×Int))}{us:List V},Aq (K6 H) a us->aR H (a.map jr) us
 |[],[],_=>by unfold aR;rfl
 |[],_::_,h=>by have:=h.1;simp at this
 |_::_,[],h=>by have:=h.1;simp at this
 |r::a,u::us,h=>by
  obtain⟨b,c⟩:=h.tail;show aR H (jr r::a.map jr) (u::us);unfold aR;exact⟨_,_,rfl,ol b,O1 c⟩
theorem fc(r:Option (qQ×Int)):PyData.eqv (jr r) .none=decide (r=none):=by cases r<;>rfl
theorem Od:∀a:List (Option (qQ×Int)),(a.map jr).any (λe=>PyData.eqv e .none)=decide (none∈a)
 |[]=>rfl
 |r::a=>by
  rw[List.map_cons,List.any_cons,Od a,fc,Bool.eq_iff_iff];simp only[Bool.or_eq_true,decide_eq_true_eq,List.mem_cons];exact⟨λz=>z.imp Eq.symm id,λz=>z.imp Eq.symm id⟩
def SV(H:Hp)(v:V):Prop:=∃b k,v=.ref b/\Jt H b k
def Tz(H:Hp)(cs:List (Dw×V)):Prop:=∀e∈cs,(∃i:Int,e.1=.inl i)/\∃(l:Addr) (a:List V),e.2=.ref l/\H l=some (.lst a)/\a.length<=2/\∀u∈a,SV H u
def r9(H:Hp)(v:V):Prop:=∃(c:Addr) (a:List (Dw×V)),v=.ref c/\H c=some (.dK a)/\a.length<=8/\Tz H a
def LT(H a:Hp):Prop:=(∀b c,H b=some (.lst c)->a b=some (.lst c))/\Ax H a
theorem LT.of{H a:Hp}(s:A7 H a):LT H a:=⟨λb c e=>s b _ e,Ax.of s⟩
theorem LT.dT{H:Hp}{D:Addr}{kvs:qs}{o:HO}(h:H D=some (.dT kvs)):LT H (upd H D o):=
 ⟨λb a e=>by rw[A9 (Bj e h (by intro z;cases z))];exact e,λb a e=>by rw[A9 (Bj e h (by intro z;cases z))];exact e⟩
theorem LT.dK{H:Hp}{D:Addr}{kvs:List (Dw×V)}{o:HO}(h:H D=some (.dK kvs)):LT H (upd H D o):=
 ⟨λb a e=>by rw[A9 (Bj e h (by intro z;cases z))];exact e,λb a e=>by rw[A9 (Bj e h (by intro z;cases z))];exact e⟩
theorem LT.trans{H d f:Hp}(a:LT H d)(b:LT d f):LT H f:=⟨λc g e=>b.1 c g (a.1 c g e),a.2.trans b.2⟩
def Gv(H:Hp)(kvs:qs):Prop:=∀a∈kvs,r9 H a.2
theorem Ra{c:Type}[DecidableEq c]{P:V->Prop}{kvs:List (c×V)}{k:c}{v:V}(h:∀a∈kvs,P a.2)(d:P v):∀a∈Cf kvs k v,P a.2:=λa b=>by
 unfold Cf at b;split at b
 ·obtain⟨x,e,rfl⟩:=fe.mp b;split
  ·exact d
  ·exact h x e
 ·rcases fy.mp b with z|z
  ·exact h a z
  ·cases i0.mp z;exact d
theorem D4{n:Nat}(h:n<=200000):n<sizeLine:=n4 h (by decide)
theorem B3{a:Type}[DecidableEq a]{kvs:List (a×V)}{k:a}{v:V}(h:Ar kvs k=some v):(k,v)∈kvs:=by
 unfold Ar at h;obtain⟨p,b,rfl⟩:=d0.mp h;have c:=List.find?_some b;have d:=List.mem_of_find?_eq_some b;have e:p.1=k:=by simpa using c
 rw[<- e];exact d
theorem K5{a:Type}[DecidableEq a]{kvs:List (a×V)}{k:a}{v:V}(h:(k,v)∈kvs):∃w,Ar kvs k=some w:=by
 cases e:Ar kvs k with
 |some w=>exact⟨w,rfl⟩
 |none=>exact absurd (List.mem_map_of_mem (f:=(·.1)) h) (Rx e)
def E7(kvs:qs)(H a:Hp):Prop:=∀b o,H b=some o->(∀c∈kvs,c.2≠ .ref b)->a b=some o
theorem E7.of{kvs:qs}{H a:Hp}(s:A7 H a):E7 kvs H a:=λb o e _=>s b o e
theorem E7.trans{kvs:qs}{H d f:Hp}(a:E7 kvs H d)(b:E7 kvs d f):E7 kvs H f:=λc o e n=>b c o (a c o e n) n
theorem E7.new{kvs:qs}{H c:Hp}{p:Addr}{o:HO}(a:E7 kvs H c)(h:H p=none):E7 kvs H (upd c p o):=λb u e n=>by
 rw[A9 (Ag e h)];exact a b u e n
theorem E7.keep{kvs:qs}{H d:Hp}{b:Addr}{o:HO}(a:E7 kvs H d)(p:Gv H kvs)(e:H b=some o)(n:∀cs,o≠ .dK cs):d b=some o:=a b o e λi h z=>by
 obtain⟨c,cs,f,g,_⟩:=p i h;rw[z]at f;cases f;rw[e]at g;exact n cs (eo g)
theorem E7.lt{kvs:qs}{H c:Hp}(a:E7 kvs H c)(p:Gv H kvs):LT H c:=⟨λb f e=>a.keep p e (λd z=>nomatch z),λb f e=>a.keep p e (λd z=>nomatch z)⟩
theorem E7.pop{kvs:qs}{H:Hp}{c:Addr}{o:HO}{a:(qQ×Int)×V}(h:a∈kvs)(e:a.2=.ref c):E7 kvs H (upd H c o):=λb u d n=>by
 rw[A9 (λz=>n a h (by rw[e,z]))];exact d
def jh(H:Hp):V->Nat
 | .ref c=>match H c with
  |some (.dK a)=>a.length
  |_=>0
 |_=>0
def Ch(H:Hp)(kvs:qs):Nat:=(kvs.map λa=>jh H a.2).sum
theorem Mj{H:Hp}{c:Addr}{cs:List (Dw×V)}(h:H c=some (.dK cs)):jh H (.ref c)=cs.length:=by
 unfold jh;simp only[h]
theorem E2{H a:Hp}:∀{kvs:qs},Gv H kvs->(∀c cs,H c=some (.dK cs)->a c=some (.dK cs))->Ch a kvs=Ch H kvs
 |[],_,_=>rfl
 |kv::kvs,p,k=>by
  obtain⟨c,cs,e,b,_⟩:=p kv (by simp);have d:=E2 (kvs:=kvs) (λx f=>p x (d3 _ f)) k;unfold Ch at d⊢;rw[List.map_cons,List.map_cons,List.sum_cons,List.sum_cons,d,e,Mj b,Mj (k c cs b)]
theorem Ln{H:Hp}:∀{kvs:qs},Gv H kvs->Ch H kvs<=8*kvs.length
 |[],_=>ml _
 |kv::kvs,p=>by
  obtain⟨c,f,e,a,g,_⟩:=p kv (by simp);have d:=Ln (kvs:=kvs) (λx b=>p x (d3 _ b));unfold Ch at d⊢;rw[List.map_cons,List.sum_cons,e,Mj a,List.length_cons];omega
theorem Nt{H:Hp}{c:Addr}{cs a:List (Dw×V)}(e:H c=some (.dK cs))(g:a.length<cs.length):∀{kvs:qs},Ch (upd H c (.dK a)) kvs<=Ch H kvs/\((∃kv∈kvs,kv.2=.ref c)->Ch (upd H c (.dK a)) kvs+1<=Ch H kvs)
 |[]=>⟨dr _,λ⟨kv,h,_⟩=>by cases h⟩
 |kv::kvs=>by
  obtain⟨m,f⟩:=Nt e g (kvs:=kvs)
  have one:jh (upd H c (.dK a)) kv.2<=jh H kv.2/\(kv.2=.ref c->jh (upd H c (.dK a)) kv.2+1<=jh H kv.2):=by
   by_cases z:kv.2=.ref c
   ·rw[z,Mj e,Mj A2];omega
   ·refine⟨Nat.le_of_eq ?_,λy=>absurd y z⟩;unfold jh;cases j:kv.2 with
    |ref d=>
     rw[j]at z;have i:d≠c:=λy=>z (by rw[y]);simp only[A9 i]
    |_=>rfl
  unfold Ch at m f⊢;rw[List.map_cons,List.map_cons,List.sum_cons,List.sum_cons];refine⟨by omega,λ⟨x,l,b⟩=>?_⟩;rcases eu.mp l with y|y
  ·subst y;have:=one.2 b;omega
  ·have:=f ⟨x,y,b⟩;omega
theorem f8{cs:List (Dw×V)}{k:Dw}{v:V}(h:Ar cs k=some v):(Bq cs k).length<cs.length:=by
 have a:=B3 h;unfold Bq;exact List.length_filter_lt_length_iff_exists.mpr ⟨(k,v),a,by simp⟩
theorem Lg{cs:List (Dw×V)}{k:Dw}{e:Dw×V}(h:e∈Bq cs k):e∈cs:=(pa.mp h).1
def Vf(B:Addr)(H:Hp)(kvs:qs):Prop:=∀b∈kvs,∀c a,b.2=.ref c->H c=some (.dK a)->∀e∈a,e.2≠ .ref B
theorem Vf.start{B:Addr}{H:Hp}{kvs:qs}(p:Gv H kvs)(h:H B=none):Vf B H kvs:=λq i c r j m e o z=>by
 obtain⟨d,s,a,b,_,n⟩:=p q i;rw[j]at a;cases a;rw[m]at b;cases b;obtain⟨_,l,u,f,g,_⟩:=n e o;rw[z]at f;cases f;rw[h]at g;cases g
theorem Vf.keep{B:Addr}{H a:Hp}{kvs:qs}(n:Vf B H kvs)(p:Gv H kvs)(k:∀c cs,H c=some (.dK cs)->a c=some (.dK cs)):Vf B a kvs:=λh e c cs f i=>by
 obtain⟨d,l,j,g,_⟩:=p h e;have b:=j;rw[f]at b;cases b;have:=k _ _ g;rw[i]at this;cases this;exact n h e c cs f g
theorem Vf.pop{B c:Addr}{H:Hp}{cs:List (Dw×V)}{k:Dw}{kvs:qs}(n:Vf B H kvs)(j:H c=some (.dK cs)):Vf B (upd H c (.dK (Bq cs k))) kvs:=λh b d i f a e g=>by
 by_cases z:d=c
 ·subst z;rw[A2]at a;cases a;exact n h b d cs f j e (Lg g)
 ·rw[A9 z]at a;exact n h b d i f a e g
theorem fu(k:qQ×Int):qy (dS k) (dS k)=false:=by
 have a:PyData.eqv (dT k.1) (dT k.1)=true:=by
  show PyData.eqvAll (k.1.map PyData.int) (k.1.map PyData.int)=true;rw[Fq];simp
 show bV [dT k.1,.int k.2] [dT k.1,.int k.2]=false;rw[bV,if_pos a,bV,if_pos (show PyData.eqv (.int k.2) (.int k.2)=true from PySem.SeqAt.eqv_refl _ rfl)];rfl
theorem K4(ws:qQ)(q:Int):(Ca ws q).Nodup:=(Ps ws q).imp λ{a b} h e=>by
 rw[e,fu]at h;cases h
theorem Nx{c:Type}{xs:List c}{i:Nat}{x:c}(h:xs.Nodup)(e:xs[i]?=some x):x∉xs.take i:=λz=>by
 obtain⟨j,a⟩:=gy.mp z
 have b:j<i:=by
  apply Classical.byContradiction;intro y;rw[List.getElem?_take_eq_none (by omega)]at a;cases a
 rw[List.getElem?_take_of_lt b]at a;have m:=(bt.mp a);have n:=(bt.mp e);obtain⟨d,f⟩:=m;obtain⟨g,l⟩:=n;exact(List.pairwise_iff_getElem.mp h) j i d g b (f.trans l.symm)
theorem D5{b:Type}[DecidableEq b]{kvs:List (b×V)}{k:b}{v:V}(a:(kvs.map (·.1)).Nodup)(h:(k,v)∈kvs):Ar kvs k=some v:=by
 induction kvs with
 |nil=>cases h
 |cons p r d=>
  rw[List.map_cons,List.nodup_cons]at a;rcases eu.mp h with z|z
  ·subst z;exact Bu rfl
  ·have c:¬p.1=k:=λe=>a.1 (by rw[e];exact List.mem_map_of_mem (f:=(·.1)) z);rw[Bt c];exact d a.2 z
theorem Pt{d:Type}{kvs:List (d×V)}{x y:d×V}(b:(kvs.map (·.2)).Nodup)(c:x∈kvs)(f:y∈kvs)(e:x.2=y.2):x=y:=by
 induction kvs with
 |nil=>cases c
 |cons p r g=>
  rw[List.map_cons,List.nodup_cons]at b;rcases eu.mp c with z|z<;>rcases eu.mp f with a|a
  ·rw[z,a]
  ·subst z;exact absurd (by rw[e];exact List.mem_map_of_mem (f:=(·.2)) a) b.1
  ·subst a;exact absurd (by rw[<- e];exact List.mem_map_of_mem (f:=(·.2)) z) b.1
  ·exact g b.2 z a
theorem Ze{a:Type}[DecidableEq a]{kvs:List (a×V)}{k:a}{v:V}{e:a×V}(h:e∈Cf kvs k v):e∈kvs\/e=(k,v):=by
 unfold Cf at h;split at h
 ·obtain⟨x,c,rfl⟩:=fe.mp h;split
  ·rename_i b;exact .inr (by rw[b])
  ·exact .inl c
 ·rcases fy.mp h with z|z
  ·exact .inl z
  ·exact .inr (i0.mp z)
theorem Se{a:Type}[DecidableEq a]{kvs:List (a×V)}{k j:a}{v:V}(h:(Ar kvs j).isSome=true\/j=k):(Ar (Cf kvs k v) j).isSome=true:=by
 rw[Iu];split
 ·rfl
 ·rename_i b;rcases h with h|h
  ·exact h
  ·exact absurd h b
def Fm(ws:qQ)(cm:q3)(z:qQ×Int)(H:Hp)(cs:List (Dw×V)):Prop:=∀e∈cs,∃(a:Nat) (l:Addr) (b:List V),e.1=.inl (a:Int)/\a<ws.length/\none∉Bs ws z.1 cm z.2 a/\e.2=.ref l/\H l=some (.lst b)/\Aq (K6 H) (Bs ws z.1 cm z.2 a) b
def Ty(ws:qQ)(cm:q3)(H:Hp)(z:qQ×Int)(v:V):Prop:=∃(c:Addr) (a:List (Dw×V)),v=.ref c/\H c=some (.dK a)/\a.length<=8/\Fm ws cm z H a
theorem Fm.up{ws:qQ}{cm:q3}{z:qQ×Int}{H b:Hp}{cs:List (Dw×V)}(t:LT H b)(h:Fm ws cm z H cs):Fm ws cm z b cs:=λe m=>by
 obtain⟨a,l,n,c,d,f,g,i,j⟩:=h e m;exact⟨a,l,n,c,d,f,g,t.1 _ _ i,j.imp λ_ _ y=>K6.up t.2 y⟩
theorem Fm.ok{ws:qQ}{cm:q3}{z:qQ×Int}{H:Hp}{cs:List (Dw×V)}(h:Fm ws cm z H cs):Tz H cs:=λe j=>by
 obtain⟨s,l,q,a,v,f,g,i,c⟩:=h e j;refine⟨⟨_,a⟩,l,q,g,i,?_,λu o=>?_⟩
 ·rw[c.1];unfold Bs;split<;>simp
 ·obtain⟨m,n⟩:=gy.mp o;obtain⟨r,p,b⟩:=c.get n;cases r with
  |none=>exact absurd (cI p) f
  |some r=>
   obtain⟨d,e,a⟩:=b;exact⟨d,r,e,a⟩
theorem Ty.up{ws:qQ}{cm:q3}{z:qQ×Int}{H a:Hp}{v:V}(t:LT H a)(k:∀c cs,H c=some (.dK cs)->a c=some (.dK cs))(h:Ty ws cm H z v):Ty ws cm a z v:=by
 obtain⟨c,cs,e,b,d,f⟩:=h;exact⟨c,cs,e,k _ _ b,d,f.up t⟩
def Ck(ws:qQ)(cm:q3)(H:Hp)(kvs:qs):Prop:=(∀a∈kvs,Ty ws cm H a.1 a.2)/\(kvs.map (·.1)).Nodup/\(kvs.map (·.2)).Nodup
theorem Ck.ok{ws:qQ}{cm:q3}{H:Hp}{kvs:qs}(h:Ck ws cm H kvs):Gv H kvs:=λi a=>by
 obtain⟨c,b,e,d,f,g⟩:=h.1 i a;exact⟨c,b,e,d,f,g.ok⟩
theorem Ck.keep{ws:qQ}{cm:q3}{H a:Hp}{kvs:qs}(p:Ck ws cm H kvs)(t:LT H a)(k:∀c cs,H c=some (.dK cs)->a c=some (.dK cs)):Ck ws cm a kvs:=⟨λd b=>(p.1 d b).up t k,p.2⟩
def Ks(ws:qQ)(cm:q3)(H:Hp)(kvs:qs):Prop:=∀b∈kvs,∀c d,b.2=.ref c->H c=some (.dK d)->∀a:Nat,a<ws.length->none∉Bs ws b.1.1 cm b.1.2 a->(Ar d (.inl (a:Int))).isSome=true
theorem Ks.keep{ws:qQ}{cm:q3}{H a:Hp}{kvs:qs}(f:Ks ws cm H kvs)(p:Ck ws cm H kvs)(k:∀c cs,H c=some (.dK cs)->a c=some (.dK cs)):Ks ws cm a kvs:=λi e c cs g j=>by
 obtain⟨d,m,l,h,_⟩:=p.1 i e;have b:=l;rw[g]at b;cases b;have:=k _ _ h;rw[j]at this;cases this;exact f i e c cs g h
def Al(H:Hp)(kvs:qs)(k:qQ×Int)(a:Nat):Prop:=∃(c:Addr) (b:List (Dw×V)),Ar kvs k=some (.ref c)/\H c=some (.dK b)/\(Ar b (.inl (a:Int))).isSome=true
theorem Ec{c:Type}{xs:List c}{x:c}(h:xs.Nodup)(g:x∉xs):(xs++[x]).Nodup:=by
 rw[List.nodup_append];refine⟨h,by simp,λa d b f e=>?_⟩;rw[List.mem_singleton.mp f]at e;exact g (e▸d)
def Oc(ws:qQ)(cm:q3)(kvs:qs)(H:Hp)(a:qQ×Int)(u:V):Prop:=∃(t b:Addr) (c:Nat) (k:qQ×Int),u=.ref t/\H t=some (.tup [.ref b,.int (c:Int)])/\Jt H b k/\(∃v,Ar kvs k=some v)/\some a∈Bs ws k.1 cm k.2 c
theorem Oc.up{ws:qQ}{cm:q3}{kvs:qs}{H d:Hp}{c:qQ×Int}{u:V}(t:Ax H d)(h:Oc ws cm kvs H c u):Oc ws cm kvs d c u:=by
 obtain⟨a,b,i,k,e,f,g,j,l⟩:=h;exact⟨a,b,i,k,e,t _ _ f,g.up t,j,l⟩
def Eu(ws:qQ)(cm:q3)(d:Hp)(kvs:qs)(n:Nat)(H:Hp)(c:qs):Prop:=(∀b∈c,∃(l:Addr) (a:List V),b.2=.ref l/\d l=none/\H l=some (.lst a)/\a.length<=n/\∀u∈a,Oc ws cm kvs H b.1 u)/\(c.map (·.2)).Nodup
theorem Eu.up{ws:qQ}{cm:q3}{b H a:Hp}{kvs c:qs}{n m:Nat}(t:LT H a)(r:n<=m)(h:Eu ws cm b kvs n H c):Eu ws cm b kvs m a c:=⟨λo d=>by
 obtain⟨l,p,e,f,g,q,i⟩:=h.1 o d;exact⟨l,p,e,f,t.1 _ _ g,by omega,λu j=>(i u j).up t.2⟩,h.2⟩
theorem Eu.app{ws:qQ}{cm:q3}{f H:Hp}{kvs d:qs}{n:Nat}{l:Addr}{us:List V}{x:V}{a:qQ×Int}(h:Eu ws cm f kvs n H d)(s:(a,V.ref l)∈d)(r:H l=some (.lst us))(b:us.length<=n)(q:∀u∈us,Oc ws cm kvs H a u)(v:Oc ws cm kvs H a x):Eu ws cm f kvs (n+1) (upd H l (.lst (us++[x]))) d:=⟨λj g=>by
 have t:Ax H (upd H l (.lst (us++[x]))):=Ax.lst r;obtain⟨c,w,e,i,o,y,p⟩:=h.1 j g;by_cases z:c=l
 ·subst z;have m:j=(a,V.ref c):=Pt h.2 g s e;refine⟨c,us++[x],e,i,A2,by rw[List.length_append,List.length_singleton];omega,λu b=>?_⟩;rw[m];exact(Lq q v u b).up t
 ·exact⟨c,w,e,i,(A9 z).trans o,by omega,λu b=>(p u b).up t⟩,h.2⟩
def C9(H:Hp)(e:qs)(a k:qQ×Int)(c:Nat):Prop:=∃(l:Addr) (d:List V) (t b:Addr),Ar e a=some (.ref l)/\H l=some (.lst d)/\V.ref t∈d/\H t=some (.tup [.ref b,.int (c:Int)])/\Jt H b k
theorem C9.up{H e:Hp}{f:qs}{c k:qQ×Int}{d:Nat}(t:LT H e)(h:C9 H f c k d):C9 e f c k d:=by
 obtain⟨l,o,a,b,g,i,j,m,n⟩:=h;exact⟨l,o,a,b,g,t.1 _ _ i,j,t.2 _ _ m,n.up t.2⟩
theorem C9.put{H:Hp}{g:qs}{c k i:qQ×Int}{d:Nat}{v:V}(m:Ar g i=none)(h:C9 H g c k d):C9 H (Cf g i v) c k d:=by
 obtain⟨l,n,a,b,f,j⟩:=h;refine⟨l,n,a,b,?_,j⟩;rw[Iu,if_neg (λe=>by rw[e,m]at f;cases f)];exact f
theorem C9.app{H:Hp}{o:qs}{c k:qQ×Int}{d:Nat}{l:Addr}{us:List V}{x:V}(n:H l=some (.lst us))(h:C9 H o c k d):C9 (upd H l (.lst (us++[x]))) o c k d:=by
 have t:Ax H (upd H l (.lst (us++[x]))):=Ax.lst n;obtain⟨f,p,a,b,g,e,i,j,m⟩:=h;by_cases z:f=l
 ·subst z;rw[n]at e;cases e;exact⟨f,_,a,b,g,A2,gv _ i,t _ _ j,m.up t⟩
 ·exact⟨f,p,a,b,g,(A9 z).trans e,i,t _ _ j,m.up t⟩
theorem Qt{cs:List (Dw×V)}{k j:Dw}:Ar (Bq cs k) j=if j=k then none else Ar cs j:=by
 induction cs with
 |nil=>split<;>rfl
 |cons p r a=>
  by_cases e:p.1=k
  ·rw[W5 e,a];by_cases z:j=k
   ·rw[if_pos z,if_pos z]
   ·rw[if_neg z,if_neg z,Bt (λy=>z (by rw[<- y,e]))]
  ·have b:Bq (p::r) k=p::Bq r k:=by
    unfold Bq;rw[List.filter_cons,if_pos (by simpa using e)]
   rw[b];by_cases z:p.1=j
   ·rw[Bu z,Bu z,if_neg (λy=>e (z.trans y))]
   ·rw[Bt z,Bt z,a]
theorem Al.keep{ws:qQ}{cm:q3}{H h:Hp}{kvs:qs}{k:qQ×Int}{a:Nat}(p:Ck ws cm H kvs)(j:∀c cs,H c=some (.dK cs)->h c=some (.dK cs)):Al h kvs k a↔Al H kvs k a:=by
 constructor
 ·rintro⟨c,cs,b,f,g⟩;obtain⟨d,l,e,i,_⟩:=p.1 _ (B3 b);cases e;have:=j _ _ i;rw[f]at this;cases this;exact⟨c,cs,b,i,g⟩
 ·rintro⟨c,cs,b,f,g⟩;exact⟨c,cs,b,j _ _ f,g⟩
theorem Al.pop{ws:qQ}{cm:q3}{H:Hp}{kvs:qs}{k h:qQ×Int}{e g:Nat}{c:Addr}{cs:List (Dw×V)}(p:Ck ws cm H kvs)(l:Ar kvs k=some (.ref c))(m:H c=some (.dK cs)):
  Al (upd H c (.dK (Bq cs (.inl (e:Int))))) kvs h g↔Al H kvs h g/\¬(h=k/\g=e):=by
 constructor
 ·rintro⟨d,i,a,f,b⟩;by_cases z:d=c
  ·subst z;rw[A2]at f;cases f;have j:(h,V.ref d)=(k,V.ref d):=Pt p.2.2 (B3 a) (B3 l) rfl;cases j;rw[Qt]at b;by_cases y:(Sum.inl (g:Int):Dw)=.inl (e:Int)
   ·rw[if_pos y]at b;cases b
   ·rw[if_neg y]at b;exact⟨⟨d,cs,a,m,b⟩,λw=>y (by rw[w.2])⟩
  ·rw[A9 z]at f;refine⟨⟨d,i,a,f,b⟩,λw=>z ?_⟩;rw[w.1,l]at a;cases a;rfl
 ·rintro⟨⟨d,i,a,f,b⟩,n⟩;by_cases z:d=c
  ·subst z;have j:(h,V.ref d)=(k,V.ref d):=Pt p.2.2 (B3 a) (B3 l) rfl;cases j;rw[m]at f;cases f;refine⟨d,_,a,A2,?_⟩;rw[Qt,if_neg]
   ·exact b
   ·intro y;have o:(g:Int)=(e:Int):=Sum.inl.inj y;exact n ⟨rfl,by omega⟩
  ·exact⟨d,i,a,(A9 z).trans f,b⟩
theorem Ck.pop{ws:qQ}{cm:q3}{H:Hp}{c:Addr}{cs:List (Dw×V)}{k:Dw}{kvs:qs}(p:Ck ws cm H kvs)(g:H c=some (.dK cs)):Ck ws cm (upd H c (.dK (Bq cs k))) kvs:=⟨λl h=>by
 obtain⟨d,i,e,a,b,f⟩:=p.1 l h;have t:LT H (upd H c (.dK (Bq cs k))):=LT.dK g;by_cases z:d=c
 ·subst z;rw[g]at a;cases a;exact⟨d,Bq cs k,e,A2,en (Qs cs k) b,λx j=>(f.up t) x (Lg j)⟩
 ·exact⟨d,i,e,(A9 z).trans a,b,f.up t⟩,p.2⟩
theorem Ck.QY{ws:qQ}{cm:q3}{B:Addr}{H a:Hp}{kvs:qs}(p:Ck ws cm H kvs)(n:Vf B H kvs)(t:Ax H a)(w:∀l us,l≠B->H l=some (.lst us)->a l=some (.lst us))(k:∀c cs,H c=some (.dK cs)->a c=some (.dK cs)):Ck ws cm a kvs:=⟨λj d=>by
 obtain⟨c,cs,f,g,m,o⟩:=p.1 j d;refine⟨c,cs,f,k _ _ g,m,λe i=>?_⟩;obtain⟨b,l,us,q,r,s,h,u,v⟩:=o e i;exact⟨b,l,us,q,r,s,h,w _ _ (λz=>n j d c cs f g e i (by rw[h,z])) u,v.imp λ_ _ y=>K6.up t y⟩,p.2⟩
theorem Jz:∀{xs ys:qQ},xs.map V.int=ys.map V.int->xs=ys
 |[],[],_=>rfl
 |[],_::_,h=>by cases h
 |_::_,[],h=>by cases h
 |x::xs,y::ys,h=>by
  rw[List.map_cons,List.map_cons]at h;injection h with a b;injection a with a;rw[a,Jz b]
def Q8(ws:qQ)(cm:q3)(d:qs)(k:qQ×Int)(m:Int):Prop:=
 (∀b,b<ws.length->none∈Bs ws k.1 cm k.2 b\/∃a c,some a∈Bs ws k.1 cm k.2 b/\Ar d a=some (.int c)/\c<=m-1)/\
 (m=1\/∃b,b<ws.length/\none∉Bs ws k.1 cm k.2 b/\∀a c,some a∈Bs ws k.1 cm k.2 b->Ar d a=some (.int c)->m-1<=c)
def Oa(ws:qQ)(cm:q3)(c:qs):Prop:=
 (∀k v,Ar c k=some v->∃m:Int,v=.int m/\1<=m/\k∈Ca ws (qv cm)/\Q8 ws cm c k m)/\
 (∀k,k∈Ca ws (qv cm)->Ar c k=none->∃b,b<ws.length/\none∉Bs ws k.1 cm k.2 b/\∀a,some a∈Bs ws k.1 cm k.2 b->Ar c a=none)
def Fe(ws:qQ)(cm:q3)(c:qs)(d:List (qQ×Int))(r:Int)(e:(qQ×Int)->Nat->Prop):Prop:=
 1<=r/\(∀f∈c,∃n:Int,f.2=.int n/\1<=n/\n<r)/\(∀k∈d,k∈Ca ws (qv cm)/\Ar c k=none)/\(∀k v,Ar c k=some v->k∈Ca ws (qv cm))/\
 (∀k a,e k a↔(k∈Ca ws (qv cm)/\a<ws.length/\none∉Bs ws k.1 cm k.2 a/\∀b,some b∈Bs ws k.1 cm k.2 a->Ar c b=none))/\
 (∀k,k∈Ca ws (qv cm)->((∀a,¬e k a)↔(k∈d\/(Ar c k).isSome=true)))/\
 (∀k m,Ar c k=some (.int m)->Q8 ws cm c k m)/\∀k∈d,Q8 ws cm c k r
theorem Fe.done{ws:qQ}{cm:q3}{c:qs}{r:Int}{b:(qQ×Int)->Nat->Prop}(h:Fe ws cm c [] r b):Oa ws cm c:=by
 obtain⟨C,s,D,x,l,m,A,o⟩:=h;refine⟨λk v e=>?_,λk p e=>?_⟩
 ·obtain⟨n,d,f,_⟩:=s _ (B3 e);have w:v=.int n:=d;subst w;exact⟨n,rfl,f,x k _ e,A k n e⟩
 ·have q:¬ ∀a,¬b k a:=λz=>by
   rcases(m k p).mp z with y|y
   ·cases y
   ·rw[e]at y;cases y
  obtain⟨a,u⟩:=Classical.not_forall.mp q;obtain⟨B,g,i,j⟩:=(l k a).mp (Classical.not_not.mp u);exact⟨a,g,i,j⟩
theorem Fe.step{ws:qQ}{cm:q3}{o d:qs}{f g:List (qQ×Int)}{r:Int}{G H:(qQ×Int)->Nat->Prop}(h:Fe ws cm o f r G)
  (q:∀k,Ar d k=if k∈f then some (.int r)else Ar o k)(zx:∀kv∈d,∃n:Int,kv.2=.int n/\1<=n/\n<r+1)
  (Y:∀k b,H k b↔(G k b/\∀a∈f,some a∉Bs ws k.1 cm k.2 b))(I:∀k,k∈g↔((∃b,G k b)/\∀b,¬H k b)):Fe ws cm d g (r+1) H:=by
 obtain⟨h0,hv,iH,mQ,M,C,zX,N⟩:=h
 have J:∀k,Ar d k=none↔(k∉f/\Ar o k=none):=λk=>by
  rw[q];by_cases z:k∈f
  ·rw[if_pos z];exact⟨λy=>(nomatch y),λy=>absurd z y.1⟩
  ·rw[if_neg z];exact⟨λy=>⟨z,y⟩,λy=>y.2⟩
 have D:∀a c,Ar o a=some (.int c)->Ar d a=some (.int c):=λa c e=>by
  rw[q,if_neg (λz=>by rw[(iH a z).2]at e;cases e)];exact e
 have back:∀a c,Ar d a=some (.int c)->(a∈f/\c=r)\/Ar o a=some (.int c):=λa c e=>by
  rw[q]at e;by_cases z:a∈f
  ·rw[if_pos z]at e;cases e;exact .inl ⟨z,rfl⟩
  ·rw[if_neg z]at e;exact .inr e
 have i:∀k m,m<=r->Q8 ws cm o k m->Q8 ws cm d k m:=λk m hm ⟨p1,p2⟩=>by
  refine⟨λb l=>?_,?_⟩
  ·rcases p1 b l with y|⟨a,c,E,F,S⟩
   ·exact .inl y
   ·exact .inr ⟨a,c,E,D _ _ F,S⟩
  ·rcases p2 with y|⟨b,E,F,S⟩
   ·exact .inl y
   ·refine .inr ⟨b,E,F,λa c T U=>?_⟩;rcases back a c U with⟨_,e⟩|e
    ·omega
    ·exact S a c T e
 have wI:∀k b,H k b↔(k∈Ca ws (qv cm)/\b<ws.length/\none∉Bs ws k.1 cm k.2 b/\∀a,some a∈Bs ws k.1 cm k.2 b->Ar d a=none):=λk b=>by
  rw[Y,M];constructor
  ·rintro⟨⟨u,A,B,p⟩,g5⟩;exact⟨u,A,B,λa z=>(J a).mpr ⟨λy=>g5 a y z,p a z⟩⟩
  ·rintro⟨u,A,B,p⟩;exact⟨⟨u,A,B,λa z=>((J a).mp (p a z)).2⟩,λa y z=>((J a).mp (p a z)).1 y⟩
 refine⟨by omega,zx,λk j=>?_,λk v e=>?_,wI,λk j=>?_,λk m e=>?_,λk j=>?_⟩
 ·obtain⟨⟨b,l⟩,Z⟩:=(I k).mp j;have P:=((M k b).mp l).1;refine⟨P,(J k).mpr ⟨λz=>?_,?_⟩⟩
  ·exact(C k P).mpr (.inl z) b l
  ·cases Q:Ar o k with
   |none=>rfl
   |some v=>exact absurd l ((C k P).mpr (.inr (by rw[Q];rfl)) b)
 ·rw[q]at e;by_cases z:k∈f
  ·exact(iH k z).1
  ·rw[if_neg z]at e;exact mQ k v e
 ·constructor
  ·intro z;by_cases y:∃b,G k b
   ·exact .inl ((I k).mpr ⟨y,z⟩)
   ·right;rcases(C k j).mp (λb w=>y ⟨b,w⟩)with x|x
    ·rw[q,if_pos x];rfl
    ·obtain⟨v,K⟩:=Option.isSome_iff_exists.mp x;obtain⟨n,s,_⟩:=hv _ (B3 K);have R:v=.int n:=s;rw[R]at K;rw[D k n K];rfl
  ·rintro(z|z) b w
   ·exact((I k).mp z).2 b w
   ·have w1:=((Y k b).mp w).1;rw[q]at z;by_cases y:k∈f
    ·exact(C k j).mpr (.inl y) b w1
    ·rw[if_neg y]at z;exact(C k j).mpr (.inr z) b w1
 ·rcases back k m e with⟨E,F⟩|y
  ·subst F;exact i k m (Int.le_refl _) (N k E)
  ·obtain⟨n,s,e2,e3⟩:=hv _ (B3 y);cases s;exact i k m (by omega) (zX k m y)
 ·obtain⟨⟨X,LR⟩,Z⟩:=(I k).mp j;obtain⟨u,A,B,p⟩:=(M k X).mp LR;refine⟨λb l=>?_,.inr ⟨X,A,B,λa c T U=>?_⟩⟩
  ·by_cases y:none∈Bs ws k.1 cm k.2 b
   ·exact .inl y
   ·right;have O:¬ ∀a,some a∈Bs ws k.1 cm k.2 b->Ar d a=none:=λz=>Z b ((wI k b).mpr ⟨u,l,y,z⟩);obtain⟨a,hx⟩:=Classical.not_forall.mp O;obtain⟨x1,x2⟩:=Classical.not_imp.mp hx;cases L:Ar d a with
    |none=>exact absurd L x2
    |some v=>
     obtain⟨n,s,e2,e3⟩:=zx _ (B3 L);have R:v=.int n:=s;exact⟨a,n,x1,by rw[L,R],by omega⟩
  ·rcases back a c U with⟨_,e⟩|e
   ·omega
   ·rw[p a T]at e;cases e
theorem km{b:Type}[DecidableEq b]{kvs:List (b×V)}{k:b}{v:V}(c:(kvs.map (·.1)).Nodup):((Cf kvs k v).map (·.1)).Nodup:=by
 cases e:Ar kvs k with
 |none=>
  rw[Ie v e,List.map_append];exact Ec c (Rx e)
 |some w=>
  have d:(kvs.any λa=>decide (a.1=k))=true:=by
   rw[E5,e];rfl
  unfold Cf;rw[if_pos d,List.map_map]
  have:(kvs.map ((λx=>x.1) ∘ λa=>if a.1=k then(a.1,v)else a))=kvs.map (·.1):=by
   apply List.map_congr_left;intro x _;show(if x.1=k then(x.1,v)else x).1=x.1;split<;>rfl
  rw[this];exact c
def Xd(H:Hp)(v:V):Prop:=∃c,v=.ref c/\H c=some (.dK [])
theorem Fe.start{ws:qQ}{cm:q3}{H:Hp}{kvs:qs}{w:List (qQ×Int)}(i:Ck ws cm H kvs)(M:kvs.map (·.1)=Ca ws (qv cm))(L:Ks ws cm H kvs)(C:∀k,k∈w↔∃v,(k,v)∈kvs/\Xd H v):Fe ws cm [] w 1 (Al H kvs):=by
 have f:∀k,k∈Ca ws (qv cm)↔∃v,(k,v)∈kvs:=λk=>by
  rw[<- M,List.mem_map];exact⟨λ⟨x,g,p⟩=>⟨x.2,by rw[<- p];exact g⟩,λ⟨v,g⟩=>⟨_,g,rfl⟩⟩
 have D:∀k a,Al H kvs k a↔(k∈Ca ws (qv cm)/\a<ws.length/\none∉Bs ws k.1 cm k.2 a):=λk a=>by
  constructor
  ·rintro⟨c,o,g,p,B⟩;have b:=B3 g;obtain⟨d,T,e,h,_,q⟩:=i.1 _ b;cases e;rw[p]at h;cases h;obtain⟨Y,O⟩:=Option.isSome_iff_exists.mp B;obtain⟨F,l,Q,n,r,A,_⟩:=q _ (B3 O);have K:(a:Int)=(F:Int):=Sum.inl.inj n;have:a=F:=by omega
   subst this;exact⟨(f k).mpr ⟨_,b⟩,r,A⟩
  ·rintro⟨g,p,B⟩;obtain⟨v,b⟩:=(f k).mp g;obtain⟨c,o,e,h,_,q⟩:=i.1 _ b;have u:v=.ref c:=e;subst u;exact⟨c,o,D5 i.2.1 b,h,L _ b c o rfl h a p B⟩
 have E:∀k,k∈Ca ws (qv cm)->((∀a,¬Al H kvs k a)↔k∈w):=λk j=>by
  obtain⟨v,b⟩:=(f k).mp j;obtain⟨c,o,e,h,_,q⟩:=i.1 _ b;have u:v=.ref c:=e;subst u;rw[C];constructor
  ·intro z;refine⟨_,b,c,rfl,?_⟩;cases o with
   |nil=>exact h
   |cons x Z=>
    obtain⟨a,l,Q,n,_⟩:=q x (by simp);exact absurd ⟨c,_,D5 i.2.1 b,h,by rw[Bu n];rfl⟩ (z a)
  ·rintro⟨X,P,R,I,J⟩ a ⟨S,G,n,r,A⟩;have g:=D5 i.2.1 b;rw[D5 i.2.1 P,I]at g;cases g;rw[D5 i.2.1 b]at n;cases n;rw[J]at r;cases r;cases A
 refine⟨Int.le_refl _,(λU z=>by cases z),λk s=>?_,(λk v z=>by cases z),λk a=>?_,λk j=>?_,(λk m z=>by cases z),λk s=>?_⟩
 ·obtain⟨v,b,_⟩:=(C k).mp s;exact⟨(f k).mpr ⟨v,b⟩,rfl⟩
 ·rw[D];exact⟨λz=>⟨z.1,z.2.1,z.2.2,λ_ _=>rfl⟩,λz=>⟨z.1,z.2.1,z.2.2.1⟩⟩
 ·rw[E k j];exact⟨λz=>.inl z,λz=>z.elim id (λy=>by cases y)⟩
 ·obtain⟨v,b,_⟩:=(C k).mp s;have j:=(f k).mpr ⟨v,b⟩;refine⟨λa N=>?_,.inl rfl⟩;left;apply Classical.byContradiction;intro y;exact(E k j).mpr s a ((D k a).mpr ⟨j,N,y⟩)
theorem Iq{a:Type}{xs:List a}{i:Nat}{x:a}(h:xs[i]?=some x):xs.take (i+1)=xs.take i++[x]:=by
 rw[List.take_add_one,h];rfl
def xi(b:qs)(m:Int):Prop:=∃a∈b,a.2=.int m
theorem R9{ws:qQ}{cm:q3}{b:qs}(h:Oa ws cm b)(g:(b.map (·.1)).Nodup):∀(n:Nat) (m:Int),xi b m->1<=m-n->xi b (m-n)
 |0,m,c,_=>by
  rw[show m-((0:Nat):Int)=m by omega];exact c
 |n+1,m,c,B=>by
  obtain⟨j,o,e⟩:=c;have i:=D5 g (show(j.1,j.2)∈b from o);rw[e]at i;obtain⟨m0,p,A,_,s,u⟩:=h.1 _ _ i;cases p;rcases u with z|⟨f,v,w,x⟩
  ·omega
  ·rcases s f v with z|⟨a,d,y,l,C⟩
   ·exact absurd z w
   ·have r:=x a d y l;have q:d=m-1:=by omega
    have:=R9 h g n (m-1) ⟨(a,.int d),B3 l,by rw[q]⟩ (by omega);rw[show m-((n+1:Nat):Int)=m-1-(n:Int)by omega];exact this
theorem Jv{a:Type}{f:a->rr}{n:Nat}(h:∀x,(f x).depth<=n):∀xs:List a,PyData.depthAll (xs.map f)<=n
 |[]=>ml _
 |x::xs=>Nat.max_le.mpr ⟨h x,Jv h xs⟩
theorem Gf{H:Hp}{a:Addr}{ss:List Str}(e:H a=some (.lst (ss.map V.str)))(b:∀s∈ss,PyData.strOk s=true):Rp H (.list (ss.map PyData.str)) (.ref a):=by
 have c:∀{ss:List Str},(∀s∈ss,PyData.strOk s=true)->aR H (ss.map PyData.str) (ss.map V.str):=by
  intro ss
  induction ss with
  |nil=>intro _;unfold aR;rfl
  |cons s ss f=>
   intro b;rw[List.map_cons,List.map_cons];unfold aR;exact⟨_,_,rfl,by unfold Rp;exact⟨rfl,b s dm⟩,f λx d=>b x (d3 _ d)⟩
 unfold Rp;exact⟨a,_,rfl,e,c b⟩
theorem Ha(ss:List Str):(PyData.list (ss.map PyData.str)).depth<=60:=by
 have:=Jv (f:=PyData.str) (n:=0) (λ_=>dr _) ss;show PyData.depthAll (ss.map PyData.str)+1<=60;omega
def Gn(x:Addr)(H a:Hp):Prop:=∀b o,b≠x->H b=some o->a b=some o
theorem Gn.of{x:Addr}{H a:Hp}(s:A7 H a):Gn x H a:=λb o _ e=>s b o e
theorem Gn.trans{x:Addr}{H a c:Hp}(s:Gn x H a)(t:Gn x a c):Gn x H c:=λb o n e=>t b o n (s b o n e)
theorem Gn.ins{x:Addr}{H:Hp}{o:HO}:Gn x H (upd H x o):=λb u n e=>by rw[A9 n];exact e
theorem Gn.tup{x C c:Addr}{fs:List (Str×V)}{H b:Hp}(s:Gn x H b)(d:H x=some (.ins C c fs)){a:Addr}{xs:List V}(h:H a=some (.tup xs)):b a=some (.tup xs):=s _ _ (Bj h d HO.noConfusion) h
theorem Gn.lst{x C c:Addr}{fs:List (Str×V)}{H b:Hp}(s:Gn x H b)(d:H x=some (.ins C c fs)){a:Addr}{xs:List V}(h:H a=some (.lst xs)):b a=some (.lst xs):=s _ _ (Bj h d HO.noConfusion) h
theorem Gn.dT{x C c:Addr}{fs:List (Str×V)}{H b:Hp}(s:Gn x H b)(d:H x=some (.ins C c fs)){a:Addr}{xs:qs}(h:H a=some (.dT xs)):b a=some (.dT xs):=s _ _ (Bj h d HO.noConfusion) h
theorem Bf.but{x C d:Addr}{fs:List (Str×V)}{H b:Hp}(s:Gn x H b)(c:H x=some (.ins C d fs)){a:Addr}{ws:qQ}{cm:q3}(h:Bf H a ws cm):Bf b a ws cm:=by
 obtain⟨t,e,f⟩:=h;exact⟨t,s.tup c e,s.tup c f⟩
theorem Et.but{x C e:Addr}{fs:List (Str×V)}{H b:Hp}(s:Gn x H b)(c:H x=some (.ins C e fs)){a:Addr}{d:qQ}{q:Int}(h:Et H a d q):Et b a d q:=by
 obtain⟨t,f,g⟩:=h;exact⟨t,s.tup c f,s.tup c g⟩
def Kf(c:Nat):Bool:=decide (48<=c/\c<=57)
theorem Yf(c:Nat):(!(Builtin.Str.occurrences "0123456789" ⟨#[c]⟩ 0 (Str.ofString "0123456789").length 1).isEmpty)=Kf c:=by
 rw[StrLaws.found_one];have e:(Str.ofString "0123456789").cps.toList=[48,49,50,51,52,53,54,55,56,57]:=by decide
 rw[e];unfold Kf;rw[Bool.eq_iff_iff,decide_eq_true_iff,decide_eq_true_iff];simp only[List.mem_cons,List.not_mem_nil,or_false];omega
theorem Gu{a:Type}{f:Nat->a}{xs:List Nat}{i c:Nat}(h:xs[i]?=some c):(xs.take (i+1)).map f=(xs.take i).map f++[f c]:=by
 rw[List.take_add_one,h,List.map_append];rfl
theorem az{n:Nat}(h:n<100000):n<sizeLine:=fx h (by decide)
theorem fi{xs:List Nat}(h:xs≠[]):∃c,xs[0]?=some c/\xs.head?=some c:=by
 cases xs with
 |nil=>exact absurd rfl h
 |cons c r=>exact⟨c,rfl,rfl⟩
theorem U4{v:V}{xs:List V}:Hm (v::xs) 0=some v:=Hn (show(v::xs)[0]?=some v from rfl)
def C3:q3->List Str
 |none=>[]
 |some c=>[Str.ofString "calm",Bm c]
def D1(w:Str)(n:Int):Bool:=if Gr (.str w) [.str "best",.str "rank"]=true then decide (V.int n=V.int 0)else if Gr (.str w) [.str "call",.str "lost",.str "answer",.str "join",.str "leave",.str "turn"]=true then decide (V.int n=V.int 1)else(Gr (.str w) [.str "hall",.str "wheel"]&&decide (n>0))
structure Ku(x hd:Str)(ns:qQ)(cm:q3):Prop where
 cut:Txt.split x " "=hd::(ns.map Bm++C3 cm)
 len:x.length<=100000
 big:∀n∈ns,0<=n/\n<10^100
 calm:∀c,cm=some c->(0<=c/\c<10^100)/\hd=Str.ofString "hall"
 tak:D1 hd (ns.length:Int)=true
 qB:ns.length<=300
 ok:PyData.strOk hd=true
def Cw(ws:List Str)(lo hi:q3):List Str:=(ws.drop (HT.iQ ws.length 0 lo)).take (HT.iQ ws.length ws.length hi-HT.iQ ws.length 0 lo)
theorem Bi(ws:List Str)(lo hi:q3):L7 (ws.map V.str) lo hi=(Cw ws lo hi).map V.str:=by
 unfold L7 Cw;rw[List.length_map,List.map_take,List.map_drop]
theorem Hq(w:Str)(ws:List Str):Cw (w::ws) (some 1) none=ws:=by
 unfold Cw;rw[HT.eR,show HT.iQ (w::ws).length 0 (some 1)=min 1 (w::ws).length from HT.iR _ 0 1,List.length_cons,show min 1 (ws.length+1)=1 by omega];simp
theorem Dz(ws:List Str)(a b:Str):Cw (ws++[a,b]) (some (-2)) (some (-1))=[a]/\Cw (ws++[a,b]) (some (-1)) none=[b]/\Cw (ws++[a,b]) none (some (-2))=ws:=by
 have f:(ws++[a,b]).length=ws.length+2:=by simp
 have e:∀d,HT.iQ (ws++[a,b]).length d (some (-2))=ws.length:=λd=>by
  unfold HT.iQ;simp only[show(-2:Int)<0 by decide,if_true];omega
 have c:∀d,HT.iQ (ws++[a,b]).length d (some (-1))=ws.length+1:=λd=>by
  unfold HT.iQ;simp only[show(-1:Int)<0 by decide,if_true];omega
 refine⟨?_,?_,?_⟩
 ·unfold Cw;rw[e,c,List.drop_left,show ws.length+1-ws.length=1 by omega];rfl
 ·unfold Cw;rw[c,HT.eR,f,show ws++[a,b]=(ws++[a])++[b]by simp,List.drop_left' (by simp),show ws.length+2-(ws.length+1)=1 by omega];rfl
 ·unfold Cw;rw[HT.eR,e,List.drop_zero,Nat.sub_zero,List.take_left]
theorem Vt{ws:List Str}{a:Str}(h:a∉ws):Cw ws (some (-2)) (some (-1))≠[a]:=λe=>by
 have:a∈Cw ws (some (-2)) (some (-1)):=by rw[e];simp
 exact h (List.mem_of_mem_drop (List.mem_of_mem_take this))
theorem Ga{n:Int}{x:Str}(h:0<=n/\n<10^100)(a:Bg x=false):Bm n≠x:=λe=>by
 have:=(Ed h.1 h.2).is;rw[e,a]at this;cases this
theorem O6{n:Int}(h:0<=n/\n<10^100):PyData.strOk (Bm n)=true:=by
 have b:=(Ed h.1 h.2).sgn;unfold PyData.strOk;rw[<- Array.all_toList,List.all_eq_true];intro c a;have:=b c a;simp;omega
theorem F9{n:Int}(h:0<=n/\n<10^100):n.natAbs.log2<1920:=by
 by_cases z:n.natAbs=0
 ·rw[z];decide
 ·rw[Nat.log2_lt z]
  have a:n.natAbs<10^100:=by
   have e:((10:Int)^100)=((10^100:Nat):Int):=by norm_cast
   omega
  exact Nat.lt_trans a (by decide+kernel)
theorem Lh:∀xs ys:List Str,PyData.eqv (.list (xs.map PyData.str)) (.list (ys.map PyData.str))=decide (xs=ys):=by
 have a:∀xs ys:List Str,PyData.eqvAll (xs.map PyData.str) (ys.map PyData.str)=decide (xs=ys):=by
  intro xs
  induction xs with
  |nil=>intro ys;cases ys<;>simp[PyData.eqvAll]
  |cons x xs b=>
   intro ys;cases ys with
   |nil=>simp[PyData.eqvAll]
   |cons y ys=>
    show(PyData.eqv (.str x) (.str y)&&PyData.eqvAll (xs.map PyData.str) (ys.map PyData.str))=_;rw[b ys,Bool.eq_iff_iff,Bool.and_eq_true];simp[PyData.eqv]
 exact a
theorem Dv(a b:Str):(a++b).length=a.length+b.length:=by
 show(a++b).cps.size=_;rw[Str.cps_append,Array.size_append];rfl
def Cq(h s t w:V):List (Str×V):=[("hall",h),("standing",s),("table",t),("wheel",w)]
def ii(C:Addr)(H:Hp)(x d:Addr)(ws:qQ)(cm:q3)(e:qQ)(q:Int)(f:qs)(w:V):Prop:=
 ∃a b c,H x=some (.ins C d (Cq (.ref a) (.ref b) (.ref c) w))/\Bf H a ws cm/\Et H b e q/\H c=some (.dT f)
def ik(ws:qQ)(cm:q3):Prop:=(∀w∈ws,1<=w/\w<=3000)/\(∀c,cm=some c->1<=c/\c<=3000)/\0<ws.length/\ws.length<=8/\B0 (qv cm) ws<=3000
def U2(ws:qQ)(cm:q3)(a:qs):Prop:=Oa ws cm a/\(a.map (·.1)).Nodup/\a.length<=60000
theorem Zg{ws:qQ}{cm:q3}{a:qs}{k:qQ×Int}{m:Int}(h:U2 ws cm a)(f:Ar a k=some (.int m)):1<=m/\m<=(a.length:Int):=by
 obtain⟨d,o,r⟩:=h;obtain⟨m0,j,l,_⟩:=d.1 _ _ f;cases j;have p:xi a m:=⟨(k,.int m),B3 f,rfl⟩;refine⟨l,?_⟩;have q:(List.range m.toNat).Nodup:=List.nodup_range
 have c:List.range m.toNat ⊆ a.map λb=>match b.2 with| .int i=>(i-1).toNat|_=>0:=λi n=>by
  have s:=oP.mp n;obtain⟨b,g,e⟩:=R9 d o (m.toNat-(i+1)) m p (by omega);refine fe.mpr ⟨b,g,?_⟩;rw[e];show(m-((m.toNat-(i+1):Nat):Int)-1).toNat=i;omega
 have:=List.Nodup.length_le_of_subset q c;rw[List.length_range,List.length_map]at this;omega
theorem gx{ws:qQ}{cm:q3}{a:qs}{k:qQ×Int}{m:Int}(h:U2 ws cm a)(b:Ar a k=some (.int m)):1<=m/\m<=60000:=by
 have c:=Zg h b;have d:=h.2.2;omega
def ix(a:qs)(k:qQ×Int):Str:=match Ar a k with
 |some (.int m)=>Str.ofString "broken within "++Bm m
 |_=>Str.ofString "kept"
theorem Zi{x hd:Str}{ns:qQ}{cm:q3}(h:x.cps.toList=jn ((hd::(ns.map Bm++C3 cm)).map λx=>x.cps.toList))(e:32∉hd.cps.toList)(g:x.length<=100000)(a:∀n∈ns,0<=n/\n<10^100)(b:∀c,cm=some c->(0<=c/\c<10^100)/\hd=Str.ofString "hall")(j:D1 hd (ns.length:Int)=true)(f:ns.length<=300)(i:PyData.strOk hd=true):Ku x hd ns cm:=by
 refine⟨Ro (by simp) (λw l=>?_) h,g,a,b,j,f,i⟩;rcases eu.mp l with z|z
 ·rw[z];exact e
 ·rcases fy.mp z with z|z
  ·obtain⟨n,d,rfl⟩:=fe.mp z;exact(Ed (a n d).1 (a n d).2).fre
  ·cases cm with
   |none=>cases z
   |some c=>
    rcases eu.mp z with z|z
    ·rw[z];decide
    ·rw[List.mem_singleton.mp z];exact(Ed (b c rfl).1.1 (b c rfl).1.2).fre
theorem Vh(a b:Str):(a++b).cps.toList=a.cps.toList++b.cps.toList:=by rw[Str.cps_append,Array.toList_append]
theorem gz{x hd:Str}{n:Int}(a:0<=n/\n<10^100)(h:x.cps.toList=hd.cps.toList++[32])(b:32∉hd.cps.toList)(j:x.length<=100)(i:D1 hd 1=true)(g:PyData.strOk hd=true):Ku (x++Bm n) hd [n] none:=by
 have f:=(Ed a.1 a.2).len;refine Zi ?_ b (by rw[Dv];omega) (λm e=>by rw[List.mem_singleton.mp e];exact a) (λc d=>by cases d) i (by show 1<=300;decide) g;rw[Vh,h];show _=hd.cps.toList++32::(Bm n).cps.toList;simp
theorem Zh:Ku (Str.ofString "best") (Str.ofString "best") [] none:=
 Zi (by decide) (by decide) (by decide) (λn b=>by cases b) (λc a=>by cases a) (by decide) (by decide) (by decide+kernel)
theorem Ik{a b u:V}{i:Nat}(h:i<2):([a,b]:List V).set i u=[if 0=i then u else a,if 1=i then u else b]:=by
 have:i=0\/i=1:=by omega
 rcases this with rfl|rfl<;>rfl
theorem dq:intBits (618033988749894848204586834365638117720309179805762862137:Int)<=200:=by decide+kernel
theorem xv:(10:Int)^(60:Int).toNat<2^200:=by decide+kernel
theorem yx(a b:Int):decide (V.int a=V.int b)=decide (a=b):=by simp
theorem Ya{x y:Int}(c:0<=x)(d:0<y):Int.gcd y (x%y)=Int.gcd x y:=by
 obtain⟨a,rfl⟩:∃a:Nat,x=a:=⟨x.toNat,by omega⟩;obtain⟨b,rfl⟩:∃b:Nat,y=b:=⟨y.toNat,by omega⟩;rw[<- Int.natCast_emod,Int.gcd_natCast_natCast,Int.gcd_natCast_natCast,Nat.gcd_comm b,<- Nat.gcd_rec,Nat.gcd_comm]
def Wj(c:Nat)(xs:qQ):Nat:=xs.foldl (λc n=>Nat.lcm c n.natAbs) c
def Dr(xs:qQ):Nat:=Wj 1 xs
theorem Wk(xs:qQ)(x:Int):Dr (xs++[x])=Nat.lcm (Dr xs) x.natAbs:=by
 unfold Dr Wj;rw[List.foldl_append];rfl
theorem Jr{xs:qQ}{i:Nat}{x:Int}(h:xs[i]?=some x):xs.take (i+1)=xs.take i++[x]:=by
 rw[List.take_add_one,h];rfl
theorem fq{c:Nat}{x:Int}(a:1<=x):(c:Int)/((Int.gcd (c:Int) x:Nat):Int)*x=((Nat.lcm c x.natAbs:Nat):Int):=by
 obtain⟨n,rfl⟩:∃n:Nat,x=n:=⟨x.toNat,by omega⟩;rw[Int.gcd_natCast_natCast,Int.natAbs_natCast,<- Int.natCast_ediv,<- Int.natCast_mul];unfold Nat.lcm;rw[Nat.div_mul_right_comm (Nat.gcd_dvd_left c n)]
theorem k8{c:Nat}{x:Int}(e:0<c)(f:1<=x):0<((Int.gcd (c:Int) x:Nat):Int)/\((Int.gcd (c:Int) x:Nat):Int)<=x:=by
 have a:((Int.gcd (c:Int) x:Nat):Int)∣x:=Int.gcd_dvd_right ..;have b:=mv (by omega) a
 have d:Int.gcd (c:Int) x≠0:=λz=>by
  have:=(Int.gcd_eq_zero_iff.mp z).2;omega
 omega
def F4(B:Int)(xs:qQ):qQ:=xs.map λx=>B/x
theorem Vz(B:Int)(xs:qQ)(x:Int):F4 B (xs++[x])=F4 B xs++[B/x]:=by
 unfold F4;rw[List.map_append];rfl
theorem U9{B:Int}(a:0<=B):∀{xs:qQ},(∀x∈xs,1<=x)->0<=(F4 B xs).sum
 |[],_=>by simp[F4]
 |x::xs,h=>by
  have b:=U9 a λy c=>h y (d3 _ c);have d:=h x (dm ..);have e:0<=B/x:=mY a (by omega);unfold F4 at b⊢;rw[List.map_cons,List.sum_cons];omega
def Vg(H:Hp)(r:Int×Int)(v:V):Prop:=∃p,v=.ref p/\H p=some (.tup [.int r.1,.int r.2])
theorem Vg.up{H a:Hp}{r:Int×Int}{v:V}(t:Ax H a)(h:Vg H r v):Vg a r v:=by
 obtain⟨p,e,b⟩:=h;exact⟨p,e,t _ _ b⟩
theorem Co:1<=sizeLine:=by decide
def rv:qQ->Int->Int
 |p::q::r,u=>rv (q::r) (u/(p/q))+u%(p/q)*q
 |_,u=>u
inductive Lv:qQ->Prop
 |one:Lv [1]
 |cons {p q:Int}{r:qQ}:q<p->q∣p->Lv (q::r)->Lv (p::q::r)
theorem Lv.pos{q:Int}{r:qQ}(h:Lv (q::r)):1<=q:=by
 generalize e:q::r=l at h
 induction h generalizing q r with
 |one=>cases e;decide
 |cons b c d a=>
  cases e;have:=a rfl;omega
theorem Cr{p q:Int}(b:1<=q)(a:1<=p)(h:q∣p):1<=p/q/\p=q*(p/q):=by
 obtain⟨c,rfl⟩:=h;rw[Int.mul_ediv_cancel_left _ (by omega)];refine⟨?_,rfl⟩;by_cases z:1<=c
 ·exact z
 ·have:q*c<=0:=Int.mul_nonpos_of_nonneg_of_nonpos (by omega) (by omega);omega
theorem Hr{u c q:Int}(b:1<=c)(a:0<=u)(h:u<q*c):0<=u/c/\u/c<q:=
 ⟨mY a (by omega),Int.ediv_lt_of_lt_mul (by omega) h⟩
theorem j5:∀{l:qQ},Lv l->∀{q:Int}{r:qQ},l=q::r->
  (∀u,0<=u->u<q->0<=rv (q::r) u/\rv (q::r) u<q)/\∀u v,0<=u->u<q->0<=v->v<q->rv (q::r) u=rv (q::r) v->u=v:=by
 intro l h
 induction h with
 |one=>
  rintro q r e;cases e;exact⟨λu a b=>⟨a,b⟩,λu v a b c d _=>by omega⟩
 |@cons p q r U L M Q=>
  rintro Y Z e;cases e;obtain⟨O,P⟩:=Q rfl;have N:=M.pos;obtain⟨n,J⟩:=Cr N (by omega) L
  have f:∀u,0<=u->u<p->0<=rv (q::r) (u/(p/q))/\rv (q::r) (u/(p/q))<q/\0<=u%(p/q)/\u%(p/q)<p/q:=λu g i=>by
   have y:=Hr (q:=q) n g (by omega);have z:=O _ y.1 y.2;exact⟨z.1,z.2,oI _ (by omega),pb _ (by omega)⟩
  have m:∀u,rv (p::q::r) u=rv (q::r) (u/(p/q))+u%(p/q)*q:=λu=>rfl;constructor
  ·intro u g i;obtain⟨o,s,w,C⟩:=f u g i;rw[m];have m1:0<=u%(p/q)*q:=Int.mul_nonneg w (by omega);have R:(u%(p/q)+1)*q<=p/q*q:=Int.mul_le_mul_of_nonneg_right (by omega) (by omega);rw[Int.add_mul,Int.one_mul,Int.mul_comm (p/q) q,<- J]at R;omega
  ·intro u v g i x K e;obtain⟨o,s,w,C⟩:=f u g i;obtain⟨D,E,S,T⟩:=f v x K;rw[m,m]at e;have j:=congrArg (·%q) e;simp only[Int.add_mul_emod_self_right]at j;rw[Int.emod_eq_of_lt o s,Int.emod_eq_of_lt D E]at j;have G:u%(p/q)*q=v%(p/q)*q:=by omega
   have H:=Int.eq_of_mul_eq_mul_right (show q≠0 by omega) G;have A:=Hr (q:=q) n g (by omega);have B:=Hr (q:=q) n x (by omega);have I:=P _ _ A.1 A.2 B.1 B.2 j;have F:=Int.mul_ediv_add_emod u (p/q);have X:=Int.mul_ediv_add_emod v (p/q);rw[I,H]at F;omega
theorem oq{p q:Int}{r:qQ}(i:Lv (p::q::r)){u:Int}(g:0<=u)(h1:u<p):rv (p::q::r) u%q=rv (q::r) (u/(p/q)):=by
 have d:Lv (q::r)/\q<p/\q∣p:=by
  cases i with
  |cons a b c=>exact⟨c,a,b⟩
 have j:=d.1.pos;obtain⟨h,l⟩:=Cr j (by omega) d.2.2;have e:=Hr (q:=q) h g (by omega);have f:=(j5 d.1 rfl).1 _ e.1 e.2;show(rv (q::r) (u/(p/q))+u%(p/q)*q)%q=_;rw[Int.add_mul_emod_self_right,Int.emod_eq_of_lt f.1 f.2]
theorem Lv.drop:∀{d:qQ} (k:Nat),Lv d->k<d.length->Lv (d.drop k):=by
 intro d k h
 induction h generalizing k with
 |one=>intro e;cases k with
  |zero=>exact .one
  |succ k=>simp at e
 |cons a b c f=>intro e;cases k with
  |zero=>exact .cons a b c
  |succ k=>exact f k (by simpa using e)
theorem Lv.take{a:qQ}{i:Nat}(h:Lv a.reverse)(b:0<i)(hi:i<=a.length):Lv (a.take i).reverse:=by
 rw[List.reverse_take];exact h.drop _ (by rw[List.length_reverse];omega)
theorem Lv.dvd:∀{l:qQ},Lv l->∀{q:Int}{r:qQ},l=q::r->∀p∈l,p∣q:=by
 intro l h
 induction h with
 |one=>
  rintro q r e p d;cases e;rw[List.mem_singleton.mp d];exact Int.dvd_refl _
 |cons a b c f=>
  rintro q r e p d;cases e;rcases eu.mp d with rfl|d
  ·exact Int.dvd_refl _
  ·exact Int.dvd_trans (f rfl p d) b
theorem Lv.first{a:qQ}(h:Lv a.reverse){p:Int}(b:a[0]?=some p):p=1:=by
 have f:0<a.length:=(bt.mp b).1;have c:=h.take (i:=1) (by decide) f;cases a with
 |nil=>cases b
 |cons x g=>
  have e:(List.take 1 (x::g)).reverse=[x]:=rfl;have d:x=p:=by simpa using b
  rw[e,d]at c;cases c;rfl
inductive FF(ls:qQ)(top t0:Int):Nat->Int->Int->Int->Prop
 |zero:FF ls top t0 0 0 t0 1
 |succ {i:Nat}{step:Int}{r:qQ}:(ls.take i).reverse=step::r->FF ls top t0 i (rv (step::r) (t0/(top/step))) (t0%(top/step)) step
theorem FF.pos{a:qQ}{top t0:Int}{i:Nat}{f t s:Int}(h:FF a top t0 i f t s)(b:Lv a.reverse)(l:0<=t0)(n:∃r,a.reverse=top::r):1<=s/\s∣top/\0<=t:=by
 obtain⟨u,c⟩:=n;have o:1<=top:=by rw[c]at b;exact b.pos
 cases h with
 |zero=>exact⟨by decide,Int.one_dvd _,l⟩
 |@succ _ _ r e=>
  have m:s∈a.reverse:=by
   have:s∈(a.take i).reverse:=by rw[e];exact dm
   exact List.mem_reverse.mpr (List.mem_of_mem_take (List.mem_reverse.mp this))
  have q:0<i:=by
   cases i with
   |zero=>simp at e
   |succ i=>omega
  have j:Lv (s::r):=by
   rw[<- e,List.reverse_take];refine b.drop _ ?_
   have:(a.take i).length≠0:=λz=>by
    have:=congrArg List.length e;rw[List.length_reverse,z]at this;simp at this
   rw[List.length_take]at this;rw[List.length_reverse];omega
  have g:=j.pos;have d:=b.dvd c s m;obtain⟨p,_⟩:=Cr g o d;exact⟨g,d,oI _ (by omega)⟩
theorem kj{a b c:Int}(d:0<=a)(e:1<=b)(f:1<=c):a%(b*c)/b=a/b%c:=by
 obtain⟨a,rfl⟩:∃n:Nat,a=n:=⟨a.toNat,by omega⟩;obtain⟨b,rfl⟩:∃n:Nat,b=n:=⟨b.toNat,by omega⟩;obtain⟨c,rfl⟩:∃n:Nat,c=n:=⟨c.toNat,by omega⟩;have:=Nat.mod_mul_right_div_self a b c
 exact_mod_cast this
theorem FF.step{d:qQ}{top t0:Int}{i:Nat}{f t s p:Int}(h:FF d top t0 i f t s)(g:Lv d.reverse)(w:0<=t0)(y:∃r,d.reverse=top::r)(n:d[i]?=some p):
  1<=top/p/\p∣top/\1<=p/\FF d top t0 (i+1) (f+t/(top/p)*s) (t%(top/p)) p:=by
 have F:=h.pos g w y;obtain⟨L,u⟩:=y;have J:1<=top:=by rw[u]at g;exact g.pos
 have K:=(bt.mp n).1;have H:p∈d.reverse:=List.mem_reverse.mpr (cI n);have x:=g.dvd u p H;have m:=g.take (i:=i+1) (by omega) (by omega)
 have l:(d.take (i+1)).reverse=p::(d.take i).reverse:=by
  rw[List.take_add_one,n];simp
 have q:1<=p:=by rw[l]at m;exact m.pos
 obtain⟨j,o⟩:=Cr q J x;refine⟨j,x,q,?_⟩;cases h with
 |zero=>
  have A:=g.first n;subst A;have:=FF.succ (top:=top) (t0:=t0) l;rw[List.take_zero,List.reverse_nil]at this
  have B:(0:Int)+t0/(top/1)*1=rv [1] (t0/(top/1)):=by
   show _=t0/(top/1);omega
  rw[B];exact this
 |@succ _ _ r e=>
  have:=FF.succ (top:=top) (t0:=t0) l;rw[e]at this;rw[l,e]at m
  have I:s∣p:=by
   cases m with
   |cons a b c=>exact b
  obtain⟨G,E⟩:=Cr F.1 q I
  have v:top/s=top/p*(p/s):=by
   have e:top=s*(top/p*(p/s)):=by
    calc top=p*(top/p):=o
     _=s*(p/s)*(top/p):=by rw[<- E]
     _=s*(top/p*(p/s)):=by rw[Int.mul_assoc,Int.mul_comm (p/s)]
   generalize top/p*(p/s)=z at e⊢;rw[e,Int.mul_ediv_cancel_left _ (by omega)]
  have C:rv (s::r) (t0/(top/s))+t0%(top/s)/(top/p)*s=rv (p::s::r) (t0/(top/p)):=by
   show _=rv (s::r) (t0/(top/p)/(p/s))+t0/(top/p)%(p/s)*s;rw[v,kj w j G,Int.ediv_ediv_of_nonneg (by omega)]
  have D:t0%(top/s)%(top/p)=t0%(top/p):=by
   rw[v,Int.emod_emod_of_dvd _ (Int.dvd_mul_right ..)]
  rw[C,D];exact this
theorem FF.last{a:qQ}{top t0:Int}{i:Nat}{f t s:Int}(h:FF a top t0 i f t s)(hi:i=a.length){r:qQ}(b:a.reverse=top::r)(c:1<=top):f=rv (top::r) t0:=by
 cases h with
 |zero=>
  have:a=[]:=List.length_eq_zero_iff.mp (by omega);rw[this]at b;cases b
 |@succ _ _ d e=>
  rw[hi,List.take_length,b]at e;cases e;rw[Int.ediv_self (by omega),Int.ediv_one]
def Fi(q:Int)(dn:List (Int×Int)):Int:=(dn.map λx=>q/x.1).sum
structure Hk(dn:List (Int×Int))(q:Int)(r:qQ)(t:Int):Prop where
 lv:Lv (q::r)
 sum:t=Fi q dn
 all:∀x∈dn,1<=x.1/\x.1∣q/\0<=x.2/\x.2<x.1/\∀u,t<=u->u<q->rv (q::r) u%x.1≠x.2
 pair:dn.Pairwise λx y=>x.1∣y.1/\y.2%x.1≠x.2
theorem Rs{q:Int}(a:0<=q):∀{dn:List (Int×Int)},(∀x∈dn,1<=x.1)->0<=Fi q dn
 |[],_=>Int.le_refl 0
 |x::dn,h=>by
  have b:=Rs a λy c=>h y (d3 _ c);have d:0<=q/x.1:=mY a (by have:=h x dm;omega);unfold Fi at b⊢;rw[List.map_cons,List.sum_cons];omega
theorem Jw{p q x:Int}(f:1<=x)(h:x∣q)(a:1<=q)(d:1<=p)(hd:q∣p):p/x=q/x*(p/q):=by
 obtain⟨_,b⟩:=Cr f a h;obtain⟨_,c⟩:=Cr a d hd;have e:p=x*(q/x*(p/q)):=by rw[<- Int.mul_assoc,<- b,<- c]
 generalize q/x*(p/q)=z at e⊢;rw[e,Int.mul_ediv_cancel_left _ (by omega)]
theorem Gg{p q:Int}(d:1<=q)(c:1<=p)(hd:q∣p):∀{dn:List (Int×Int)},(∀x∈dn,1<=x.1/\x.1∣q)->Fi p dn=Fi q dn*(p/q)
 |[],_=>by simp[Fi]
 |x::dn,h=>by
  have a:=Gg d c hd λy e=>h y (d3 _ e);have b:=h x dm;unfold Fi at a⊢;rw[List.map_cons,List.sum_cons,List.map_cons,List.sum_cons,a,Int.add_mul,Jw b.1 b.2 d c hd]
theorem Hk.begin:Hk [] 1 [] 0:=⟨.one,rfl,(λ_ z=>nomatch z),.nil⟩
theorem Hk.same{dn:List (Int×Int)}{q:Int}{r:qQ}{t:Int}(h:Hk dn q r t):t*(q/q)=t:=by
 have:=h.lv.pos;rw[Int.ediv_self (by omega),Int.mul_one]
theorem Hk.nn{dn:List (Int×Int)}{q:Int}{r:qQ}{t:Int}(h:Hk dn q r t):0<=t:=by
 have:=h.lv.pos;rw[h.sum];exact Rs (by omega) λx a=>(h.all x a).1
theorem Hk.grow{dn:List (Int×Int)}{p q:Int}{r:qQ}{t:Int}(h:Hk dn q r t)(c:q<p)(hd:q∣p):Hk dn p (q::r) (t*(p/q)):=by
 have g:=h.lv.pos;have s:=h.nn;obtain⟨o,w⟩:=Cr g (by omega) hd;refine⟨.cons c hd h.lv,?_,λx a=>?_,h.pair⟩
 ·rw[Gg g (by omega) hd λx a=>⟨(h.all x a).1,(h.all x a).2.1⟩,<- h.sum]
 ·obtain⟨i,b,j,l,m⟩:=h.all x a;refine⟨i,Int.dvd_trans b hd,j,l,λu f n e=>?_⟩;have d:0<=u:=oD (Int.mul_nonneg s (by omega)) f;have v:=Hr (q:=q) o d (by omega);refine m (u/(p/q)) (Int.le_ediv_of_mul_le (by omega) f) v.2 ?_;rw[<- oq (.cons c hd h.lv) d n,Int.emod_emod_of_dvd _ b];exact e
theorem Hk.put{dn:List (Int×Int)}{q:Int}{r:qQ}{t:Int}(h:Hk dn q r t)(d:t<q):Hk (dn++[(q,rv (q::r) t)]) q r (t+1):=by
 have v:=h.lv.pos;have m:=h.nn;obtain⟨o,A⟩:=j5 h.lv rfl;have p:=o t m d;refine⟨h.lv,?_,λx f=>?_,?_⟩
 ·have:=h.sum;unfold Fi at this⊢;rw[List.map_append,List.sum_append,<- this];simp only[List.map_cons,List.map_nil,List.sum_cons,List.sum_nil];rw[Int.ediv_self (by omega)];rfl
 ·rcases fy.mp f with z|z
  ·obtain⟨g,b,i,j,c⟩:=h.all x z;exact⟨g,b,i,j,λu s a=>c u (by omega) a⟩
  ·rw[List.mem_singleton.mp z];refine⟨v,Int.dvd_refl _,p.1,p.2,λu s a e=>?_⟩;have n:=o u (by omega) a;have l:rv (q::r) u%q=rv (q::r) t:=e;rw[Int.emod_eq_of_lt n.1 n.2]at l;have:=A u t (by omega) a m d l;omega
 ·refine List.pairwise_append.mpr ⟨h.pair,List.pairwise_singleton ..,λx f y w=>?_⟩;rw[List.mem_singleton.mp w];obtain⟨g,b,i,j,c⟩:=h.all x f;exact⟨b,c t (Int.le_refl _) d⟩
theorem X1{B:Int}{ps:qQ}(g:1<=B)(a:∀p∈ps,1<=p/\p∣B)(e:(ps.map λp=>B/p).sum<=B){i:Nat}{p:Int}(j:ps[i]?=some p){dn:List (Int×Int)}(q:dn.map Prod.fst=ps.take i)(c:∀x∈dn,1<=x.1/\x.1∣p):Fi p dn<p:=by
 have b:=a p (cI j)
 have nn:∀{l:qQ},(∀p∈l,1<=p/\p∣B)->0<=(l.map λp=>B/p).sum:=by
  intro l
  induction l with
  |nil=>exact λ_=>Int.le_refl 0
  |cons x l s=>
   intro h;have f:=s λy d=>h y (d3 _ d);have u:0<=B/x:=mY (by omega) (by have:=h x dm;omega);rw[List.map_cons,List.sum_cons];omega
 have m:ps=ps.take i++p::ps.drop (i+1):=by
  have r:=(bt.mp j);rw[<- r.2,List.getElem_cons_drop,List.take_append_drop]
 have w:=nn (l:=ps.drop (i+1)) λy d=>a y (List.mem_of_mem_drop d);rw[m,List.map_append,List.sum_append,List.map_cons,List.sum_cons,<- q,List.map_map]at e;have n:(dn.map ((λp=>B/p) ∘ Prod.fst)).sum=Fi B dn:=rfl;rw[n,Gg b.1 g b.2 c]at e;obtain⟨v,o⟩:=Cr b.1 g b.2;by_cases z:Fi p dn<p
 ·exact z
 ·have f:p*(B/p)<=Fi p dn*(B/p):=Int.mul_le_mul_of_nonneg_right (by omega) (by omega);rw[<- o]at f;omega
def xm(xs fs:qQ):Prop:=fs.length=xs.length/\(∀(i:Nat) (x f:Int),xs[i]?=some x->fs[i]?=some f->0<=f/\f<x)/\
 ∀(i j:Nat) (x y f g:Int),i≠j->xs[i]?=some x->xs[j]?=some y->fs[i]?=some f->fs[j]?=some g->(f-g)%min x y≠0
theorem Qc{x y f g:Int}(l:1<=x)(m:1<=y)(h:x∣y)(b:0<=f)(h1:f<x)(i:g%x≠f):(f-g)%min x y≠0/\(g-f)%min y x≠0:=by
 have j:=mv (by omega) h;have c:min x y=x:=by omega
 have e:min y x=x:=by omega
 rw[c,e]
 have k:∀d,f-g=x*d\/g-f=x*d->False:=λd a=>by
  refine i ?_;rcases a with a|a
  ·have:g=f+(-d)*x:=by rw[Int.neg_mul,Int.mul_comm d x];omega
   rw[this,Int.add_mul_emod_self_right,Int.emod_eq_of_lt b h1]
  ·have:g=f+d*x:=by rw[Int.mul_comm d x];omega
   rw[this,Int.add_mul_emod_self_right,Int.emod_eq_of_lt b h1]
 constructor
 ·intro z;obtain⟨d,a⟩:=Int.dvd_of_emod_eq_zero z;exact k d (.inl a)
 ·intro z;obtain⟨d,a⟩:=Int.dvd_of_emod_eq_zero z;exact k d (.inr a)
theorem qr{xs fs:qQ}{dn:List (Int×Int)}{ord:List Nat}(F:fs.length=xs.length)(B:ord.Perm (List.range xs.length))(v:ord.length=dn.length)
  (I:∀(k o:Nat) (x:Int×Int),ord[k]?=some o->dn[k]?=some x->xs[o]?=some x.1/\fs[o]?=some x.2)
  (c:∀x∈dn,1<=x.1/\0<=x.2/\x.2<x.1)(u:dn.Pairwise λx y=>x.1∣y.1/\y.2%x.1≠x.2):xm xs fs:=by
 have get:∀(i:Nat) (x f:Int),xs[i]?=some x->fs[i]?=some f->∃k,ord[k]?=some i/\dn[k]?=some (x,f):=λi x f l n=>by
  have E:=(bt.mp l).1;have p:i∈ord:=B.mem_iff.mpr (oP.mpr E);obtain⟨k,h⟩:=gy.mp p;have J:=(bt.mp h).1;have d:dn[k]?=some (dn[k]'(by omega)):=ed (by omega);obtain⟨r,s⟩:=I k i _ h d;rw[l]at r;rw[n]at s;refine⟨k,h,d.trans ?_⟩;generalize dn[k]'(by omega)=y at r s;obtain⟨K,L⟩:=y;cases r;cases s;rfl
 refine⟨F,λi x f l n=>?_,λi j x y f g C l G n D=>?_⟩
 ·obtain⟨k,_,d⟩:=get i x f l n;exact⟨(c _ (cI d)).2.1,(c _ (cI d)).2.2⟩
 ·obtain⟨k,w,d⟩:=get i x f l n;obtain⟨m,H,p⟩:=get j y g G D;have a:=c _ (cI d);have b:=c _ (cI p)
  have A:k≠m:=λe=>by
   rw[e,H]at w;cases w;exact C rfl
  have h:=(bt.mp d);have q:=(bt.mp p);rw[List.pairwise_iff_getElem]at u;rcases Nat.lt_or_gt_of_ne A with z|z
  ·have:=u k m h.1 q.1 z;rw[h.2,q.2]at this;exact(Qc a.1 b.1 this.1 a.2.1 a.2.2 this.2).1
  ·have:=u m k q.1 h.1 z;rw[h.2,q.2]at this;exact(Qc b.1 a.1 this.1 b.2.1 b.2.2 this.2).2
theorem N3{xs ys:qQ}{ord:List Nat}(h1:ys.Perm xs)(c:ys.Pairwise (·<=·))(d:ord.Perm (List.range xs.length))(f:(ord.map λk=>xs.getD k 0).Pairwise (·<=·)):ord.map (λk=>xs.getD k 0)=ys:=by
 have e:(List.range xs.length).map (λk=>xs.getD k 0)=xs:=by
  refine List.ext_getElem (by simp) λi a b=>?_;have:i<xs.length:=b;simp[List.getElem_map,List.getElem_range,List.getD_eq_getElem?_getD,List.getElem?_eq_getElem this]
 refine List.Perm.eq_of_pairwise (le:=(·<=·)) (λa b _ _ x y=>Int.le_antisymm x y) f c ?_;refine(d.map _).trans ?_;rw[e];exact h1.symm
theorem Oy:∀(xs:qQ) (c:Nat),0<c->(∀x∈xs,1<=x)->0<Wj c xs/\c∣Wj c xs/\(∀x∈xs,x.natAbs∣Wj c xs)/\(∀m:Nat,c∣m->(∀x∈xs,x.natAbs∣m)->Wj c xs∣m)
 |[],c,b,_=>⟨b,Nat.dvd_refl _,(λ_ z=>nomatch z),λm h _=>h⟩
 |x::xs,c,b,h=>by
  have p:=h x (dm ..);have o:0<x.natAbs:=by omega
  have n:0<Nat.lcm c x.natAbs:=Nat.lcm_pos b o;obtain⟨g,d,i,j⟩:=Oy xs (Nat.lcm c x.natAbs) n λy a=>h y (d3 _ a);refine⟨g,Nat.dvd_trans (Nat.dvd_lcm_left _ _) d,λy a=>?_,λm l f=>?_⟩
  ·rcases eu.mp a with e|a
   ·rw[e];exact Nat.dvd_trans (Nat.dvd_lcm_right _ _) d
   ·exact i y a
  ·exact j m (Nat.lcm_dvd l (f x (dm ..))) λy a=>f y (d3 _ a)
theorem ki{xs:qQ}{B:Int}(f:1<=B)(h:∀x∈xs,1<=x/\x∣B):0<Dr xs/\(∀x∈xs,x∣((Dr xs:Nat):Int))/\((Dr xs:Nat):Int)∣B/\((Dr xs:Nat):Int)<=B:=by
 obtain⟨b,_,c,e⟩:=Oy xs 1 (by decide) λx a=>(h x a).1;have d:((Dr xs:Nat):Int)∣B:=Int.dvd_natAbs.mp (Int.natCast_dvd_natCast.mpr (e _ (Nat.one_dvd _) λx a=>Int.natAbs_dvd_natAbs.mpr (h x a).2));exact⟨b,λx a=>Int.natAbs_dvd.mp (Int.natCast_dvd_natCast.mpr (c x a)),d,mv (by omega) d⟩
def B9(xs:qQ):Prop:=(F4 ((Dr xs:Nat):Int) xs).sum<=((Dr xs:Nat):Int)
instance (xs:qQ):Decidable (B9 xs):=inferInstanceAs (Decidable (_<=_))
theorem Qr{p q:Int}(d:1<=q)(c:1<=p)(hd:q∣p):∀{xs:qQ},(∀x∈xs,1<=x/\x∣q)->(F4 p xs).sum=(F4 q xs).sum*(p/q)
 |[],_=>by simp[F4]
 |x::f,h=>by
  have a:=Qr d c hd λy e=>h y (d3 _ e);have b:=h x dm;unfold F4 at a⊢;rw[List.map_cons,List.sum_cons,List.map_cons,List.sum_cons,a,Int.add_mul,Jw b.1 b.2 d c hd]
theorem Mc{xs:qQ}{B:Int}(b:1<=B)(h:∀x∈xs,1<=x/\x∣B):B9 xs↔(F4 B xs).sum<=B:=by
 obtain⟨i,d,a,f⟩:=ki b h;unfold B9;have c:1<=((Dr xs:Nat):Int):=by omega
 generalize((Dr xs:Nat):Int)=L at d a f c⊢;obtain⟨j,g⟩:=Cr c b a;rw[Qr c b a λx e=>⟨(h x e).1,d x e⟩];constructor
 ·intro z;have:=Int.mul_le_mul_of_nonneg_right z (show 0<=B/L by omega);omega
 ·intro z;rw[g,Int.mul_ediv_cancel_left _ (show L≠0 by omega)]at z;exact Int.le_of_mul_le_mul_right z (by omega)
def Go(xs:qQ):Prop:=∀x∈xs,∀y∈xs,x∣y\/y∣x
theorem og{ys:qQ}(h:∀k,k+1<ys.length->ys.getD k 0∣ys.getD (k+1) 0):ys.Pairwise (·∣·):=by
 rw[List.pairwise_iff_getElem];intro i j b c f
 have a:∀d,i+d<ys.length->ys.getD i 0∣ys.getD (i+d) 0:=by
  intro d
  induction d with
  |zero=>exact λ_=>Int.dvd_refl _
  |succ d e=>exact λg=>Int.dvd_trans (e (by omega)) (h (i+d) (by omega))
 have:=a (j-i) (by omega);rw[show i+(j-i)=j by omega,List.getD_eq_getElem?_getD,List.getD_eq_getElem?_getD,List.getElem?_eq_getElem b,List.getElem?_eq_getElem c]at this;exact this
theorem Qh{xs ys:qQ}(e:ys.Perm xs)(h:ys.Pairwise (·∣·)):Go xs:=λx f y g=>by
 obtain⟨i,d⟩:=gy.mp (e.mem_iff.mpr f);obtain⟨j,c⟩:=gy.mp (e.mem_iff.mpr g);have a:=bt.mp d;have b:=bt.mp c;rw[List.pairwise_iff_getElem]at h;rcases Nat.lt_trichotomy i j with z|z|z
 ·have:=h i j a.1 b.1 z;rw[a.2,b.2]at this;exact .inl this
 ·subst z;rw[d]at c;cases c;exact .inl (Int.dvd_refl _)
 ·have:=h j i b.1 a.1 z;rw[a.2,b.2]at this;exact .inr this
theorem Eh{xs ys:qQ}(c:ys.Perm xs)(f:ys.Pairwise (·<=·))(h1:∀x∈xs,1<=x)(h:Go xs):ys.Pairwise (·∣·):=by
 refine f.imp_of_mem λ{a b} d e g=>?_;have j:=h1 b (c.mem_iff.mp e);have i:=h1 a (c.mem_iff.mp d);rcases h a (c.mem_iff.mp d) b (c.mem_iff.mp e)with z|z
 ·exact z
 ·have:=mv (by omega) z;rw[show a=b by omega];exact Int.dvd_refl _
theorem Tq:∀{ys:qQ},ys.Pairwise (·∣·)->∃B:Int,((ys=[]/\B=1)\/B∈ys)/\∀y∈ys,y∣B
 |[],_=>⟨1,.inl ⟨rfl,rfl⟩,λ_ z=>nomatch z⟩
 |y::l,h=>by
  obtain⟨c,d⟩:=List.pairwise_cons.mp h;obtain⟨B,b,f⟩:=Tq d;rcases b with⟨e,_⟩|b
  ·subst e;refine⟨y,.inr dm,λz a=>?_⟩;rw[List.mem_singleton.mp a];exact Int.dvd_refl _
  ·refine⟨B,.inr (d3 _ b),λz a=>?_⟩;rcases eu.mp a with rfl|a
   ·exact c B b
   ·exact f z a
def iy(ys:qQ)(i:Nat):List Bool:=(List.range i).map λk=>decide (ys.getD (k+1) 0%ys.getD k 0=0)
theorem Yv(ys:qQ)(i:Nat):iy ys (i+1)=iy ys i++[decide (ys.getD (i+1) 0%ys.getD i 0=0)]:=by
 unfold iy;rw[List.range_succ,List.map_append];rfl
theorem So(ys:qQ)(i:Nat):(iy ys i).length=i:=by
 unfold iy;simp
theorem g7{xs ys:qQ}(b:ys.Perm xs)(d:ys.Pairwise (·<=·))(h1:∀x∈xs,1<=x):((iy ys (ys.length-1)).all id=true)↔Go xs:=by
 unfold iy;rw[List.all_map,List.all_eq_true];constructor
 ·intro h;refine Qh b (og λk a=>Int.dvd_of_emod_eq_zero ?_);have:=h k (oP.mpr (by omega));simpa using this
 ·intro h k a;have f:=oP.mp a;have c:=Eh b d h1 h;rw[List.pairwise_iff_getElem]at c;have:=c k (k+1) (by omega) (by omega) (by omega)
  have e:ys.getD (k+1) 0%ys.getD k 0=0:=by
   rw[List.getD_eq_getElem?_getD,List.getD_eq_getElem?_getD,List.getElem?_eq_getElem (show k<ys.length by omega),List.getElem?_eq_getElem (show k+1<ys.length by omega)];exact Int.emod_eq_zero_of_dvd this
  simpa using e
theorem uj{a b:Int}{g:Nat}(d:0<g)(h1:(g:Int)∣a)(c:(g:Int)∣b):a/g<=b/g↔a<=b:=by
 obtain⟨x,rfl⟩:=h1;obtain⟨y,rfl⟩:=c;rw[Int.mul_ediv_cancel_left _ (by omega),Int.mul_ediv_cancel_left _ (by omega)];constructor
 ·intro h;exact i3 h (by omega)
 ·intro h;exact Int.le_of_mul_le_mul_left h (by omega)
theorem Z6{a b:qQ}(h:a.Perm b):a.sum=b.sum:=by
 induction h with
 |nil=>rfl
 |cons x _ e=>rw[List.sum_cons,List.sum_cons,e]
 |swap x y l=>simp only[List.sum_cons];omega
 |trans _ _ c d=>exact c.trans d
theorem Ff{a B:Int}(c:0<=a)(h1:a<=B)(b:B<2^4000):intBits a<=4000:=by
 refine F3 ?_;obtain⟨n,rfl⟩:∃n:Nat,a=n:=⟨a.toNat,by omega⟩;rw[Int.natAbs_natCast];have e:((2^4000:Nat):Int)=2^4000:=by simp
 rw[<- e]at b;generalize(2:Nat)^4000=Z at b⊢;omega
theorem fb{t s:Int}(a:0<=t)(b:0<s):t%s<=t:=by
 rcases Int.lt_or_le t s with z|z
 ·rw[Int.emod_eq_of_lt a z];exact Int.le_refl _
 ·have:=pb t b;omega
theorem Uk{q:Int}{r a:qQ}(h:a.reverse=q::r):Hm (a.map V.int) (-1)=some (.int q):=by
 have e:a=r.reverse++[q]:=by
  have:=congrArg List.reverse h;rw[List.reverse_reverse,List.reverse_cons]at this;exact this
 subst e;unfold Hm Sf;rw[List.length_map,List.length_append,List.length_singleton,if_neg (by decide),if_pos (by omega)];show((r.reverse++[q]).map V.int)[(((r.reverse.length+1:Nat):Int)+-1).toNat]?=_;rw[show(((r.reverse.length+1:Nat):Int)+-1).toNat=r.reverse.length by omega,List.getElem?_map,List.getElem?_concat_length];rfl
theorem Aq.set{c:Type}{P:c->V->Prop}{d:List c}{vs:List V}(h:Aq P d vs)(i:Nat){r:c}{v:V}(g:P r v):Aq P (d.set i r) (vs.set i v):=by
 refine⟨by rw[List.length_set,List.length_set];exact h.1,λj x y a b=>?_⟩;rw[List.getElem?_set]at a b;by_cases z:i=j
 ·rw[if_pos z]at a b;split at a
  ·split at b
   ·cases a;cases b;exact g
   ·cases b
  ·cases a
 ·rw[if_neg z]at a b;exact h.2 j x y a b
theorem dt{t:Int}(h:1<=t):∃k:Nat,((intBits t:Nat):Int)-1=(k:Nat)/\(2:Int)^k<=t/\t<2*2^k:=by
 obtain⟨n,rfl⟩:∃n:Nat,t=n:=⟨t.toNat,by omega⟩;have c:n≠0:=by omega
 have e:intBits ((n:Nat):Int)=n.log2+1:=by
  unfold PySem.Builtin.Int.intBits;rw[if_neg (by simp;omega),Int.natAbs_natCast]
 have a:=Nat.log2_self_le c;have b:=Nat.lt_log2_self (n:=n);refine⟨n.log2,by rw[e];omega,?_,?_⟩
 ·have:((2^n.log2:Nat):Int)<=(n:Int):=Int.ofNat_le.mpr a;simpa using this
 ·have:((n:Nat):Int)<((2^(n.log2+1):Nat):Int):=Int.ofNat_lt.mpr b;rw[Nat.pow_succ]at this;simp at this;omega
theorem Vw{w b t:Int}{p:Int}(h:1<=b)(e:t=w/b)(h1:p<=t)(g:t<2*p):b*p<=w/\w<2*(b*p):=by
 have d:=Int.mul_ediv_add_emod w b;have m:=oI w (show b≠0 by omega);have i:=pb w (show 0<b by omega);rw[<- e]at d;have a:b*p<=b*t:=i3 h1 (by omega);have c:b*t<=b*(2*p-1):=i3 (by omega) (by omega);have f:b*(2*p-1)=2*(b*p)-b:=by grind
 omega
def Em(b x:Int):Int:=b*2^((x/b).toNat.log2)
theorem Ei(k:Nat):(1:Int)<=2^k:=Int.pow_pos (by decide)
theorem Jk{i j:Nat}(h:(2:Int)^i<2^j):i<j:=by
 rcases iv i j with z|z
 ·exact z
 ·have c:=Nat.pow_le_pow_right (show 0<2 by decide) z;have a:((2^i:Nat):Int)=2^i:=by simp
  have b:((2^j:Nat):Int)=2^j:=by simp
  omega
theorem Ep{b x y:Int}(a:1<=b)(h:b*x<b*y):x<y:=Int.lt_of_mul_lt_mul_left h (by omega)
theorem Xt{b x:Int}(g:1<=b){i j:Nat}(h1:b*2^i<=x)(d:x<2*(b*2^i))(h:b*2^j<=x)(f:x<2*(b*2^j)):i=j:=by
 have e:∀k:Nat,2*(b*2^k)=b*2^(k+1):=λk=>by rw[Int.pow_succ,<- Int.mul_assoc b,Int.mul_comm 2]
 rw[e]at d f;have a:=Jk (Ep g (la h1 f));have c:=Jk (Ep g (la h d));omega
theorem Gz{b x:Int}(o:1<=b)(q:b<=x):Em b x<=x/\x<2*Em b x:=by
 unfold Em;have m:1<=x/b:=(Int.le_ediv_iff_mul_le (by omega)).mpr (by omega);obtain⟨n,a⟩:∃n:Nat,x/b=n:=⟨(x/b).toNat,by omega⟩;rw[a,Int.toNat_natCast];have e:n≠0:=by omega
 have r:=Nat.log2_self_le e;have s:=Nat.lt_log2_self (n:=n);have d:((2^n.log2:Nat):Int)=2^n.log2:=by simp
 have l:(2:Nat)^(n.log2+1)=2^n.log2*2:=Nat.pow_succ ..;generalize(2:Int)^n.log2=p at d⊢;have c:=Int.mul_ediv_add_emod x b;have i:=oI x (show b≠0 by omega);have j:=pb x (show 0<b by omega);rw[a]at c;have g:p<=(n:Int):=by omega
 have h:(n:Int)+1<=p*2:=by omega
 have m1:=i3 g (show 0<=b by omega);have f:=i3 h (show 0<=b by omega);rw[Int.mul_add,Int.mul_one,<- Int.mul_assoc]at f;omega
theorem Xr{b x:Int}(d:1<=b){k:Nat}(h1:b*2^k<=x)(e:x<2*(b*2^k)):b*2^k=Em b x:=by
 have f:b<=x:=by
  have:=i3 (Ei k) (show 0<=b by omega);omega
 obtain⟨a,c⟩:=Gz d f;unfold Em at a c⊢;rw[Xt d h1 e a c]
theorem S6{b x:Int}(a:1<=b):b<=Em b x:=by
 unfold Em;have:=i3 (Ei ((x/b).toNat.log2)) (show 0<=b by omega);omega
theorem Vx{b x:Int}(d:1<=b)(h:2*b<=x):Em (2*b) x=Em b x:=by
 obtain⟨a,c⟩:=Gz (b:=2*b) (x:=x) (by omega) h
 have e:Em (2*b) x=b*2^((x/(2*b)).toNat.log2+1):=by
  unfold Em;rw[Int.pow_succ,<- Int.mul_assoc,Int.mul_comm 2 b,Int.mul_assoc,Int.mul_assoc,Int.mul_comm 2]
 rw[e]at a c⊢;exact Xr d a c
theorem X0{xs ys:qQ}(g:ys.length=xs.length)(h1:∀x∈xs,1<=x)(d:∀(i:Nat) (x y:Int),xs[i]?=some x->ys[i]?=some y->x<=y)(j:B9 xs):B9 ys:=by
 have e:∀y∈ys,1<=y:=λy A=>by
  obtain⟨i,o⟩:=gy.mp A;have b:xs[i]?=some (xs[i]'(by rw[<- g];exact(bt.mp o).1)):=ed _;have:=d i _ _ b o;have:=h1 _ (cI b);omega
 obtain⟨m,p,n,q⟩:=Oy (xs++ys) 1 (by decide) λx b=>(fy.mp b).elim (h1 x) (e x);have f:∀x∈xs++ys,x∣((Dr (xs++ys):Nat):Int):=λx b=>Int.natAbs_dvd.mp (Int.natCast_dvd_natCast.mpr (n x b))
 have h:1<=((Dr (xs++ys):Nat):Int):=by
  have:0<Dr (xs++ys):=m;omega
 generalize((Dr (xs++ys):Nat):Int)=B at f h;rw[Mc h λx b=>⟨h1 x b,f x (List.mem_append_left _ b)⟩]at j;rw[Mc h λx b=>⟨e x b,f x (List.mem_append_right _ b)⟩];refine oD ?_ j;clear j f m p n q
 induction ys generalizing xs with
 |nil=>
  rw[List.length_eq_zero_iff.mp g.symm];exact Int.le_refl _
 |cons y ys C=>
  cases xs with
  |nil=>cases g
  |cons x xs=>
   have u:=C (xs:=xs) (by simpa using g) (λz l=>h1 z (d3 _ l)) (λi a c r s=>d (i+1) a c (by simpa using r) (by simpa using s)) (λz l=>e z (d3 _ l));have v:=d 0 x y rfl rfl;have D:=h1 x dm
   have E:B/y<=B/x:=by
    refine(Int.le_ediv_iff_mul_le (by omega)).mpr ?_;have w:0<=B/y:=mY (by omega) (by omega);have m1:=i3 v w;have F:=Int.ediv_mul_le B (show y≠0 by omega);omega
   unfold F4 at u⊢;rw[List.map_cons,List.sum_cons,List.map_cons,List.sum_cons];omega
def S0(w m r:Int):Prop:=1<=r/\r<=m/\∃j:Nat,r=w/2^j/\∀i,i<j->m<w/2^i
theorem Np{w:Int}{j:Nat}(a:0<=w):w/2^(j+1)=w/2^j/2:=by
 rw[Int.pow_succ,Int.ediv_ediv_of_nonneg (Int.le_trans (by decide) (Ei j))]
theorem W8{w:Int}(a:0<=w){i j:Nat}(h:i<j):2*(w/2^j)<=w/2^i:=by
 induction j with
 |zero=>exact absurd h (nP _)
 |succ j b=>
  rw[Np a];have c:0<=w/2^j:=mY a (oD (by decide) (Ei j));rcases iv i j with z|z
  ·have:=b z;omega
  ·rw[show i=j by omega];omega
theorem Xs{b c x:Int}(r:1<=b)(d:b<=c){k:Nat}(j:Em b x=b*2^k)(i:c*2^k<=x):Em b x<=Em c x:=by
 have h:1<=c:=by omega
 have f:c<=x:=by
  have:=i3 (Ei k) (show 0<=c by omega);omega
 obtain⟨g,a⟩:=Gz h f;have m:b*2^k<=c*2^k:=Int.mul_le_mul_of_nonneg_right d (by have:=Ei k;omega);rw[j];refine oD m ?_;unfold Em at g a⊢;generalize(x/c).toNat.log2=l at g a⊢;have e:2*(c*2^l)=c*2^(l+1):=by rw[Int.pow_succ,<- Int.mul_assoc c,Int.mul_comm 2]
 rw[e]at a;have s:=Jk (Ep h (la i a))
 have n:(2:Int)^k<=2^l:=by
  have q:=Nat.pow_le_pow_right (show 0<2 by decide) (show k<=l by omega);have o:((2^k:Nat):Int)=2^k:=by simp
  have p:((2^l:Nat):Int)=2^l:=by simp
  omega
 exact i3 n (by omega)
theorem Yu(f:Int->Int):∀{xs:qQ},xs≠[]->∃w∈xs,∀x∈xs,f w<=f x
 |[x],_=>⟨x,dm,λy c=>by rw[List.mem_singleton.mp c];exact Int.le_refl _⟩
 |x::y::l,_=>by
  obtain⟨w,b,h⟩:=Yu f (xs:=y::l) (by simp);rcases Int.le_total (f x) (f w)with z|z
  ·exact⟨x,dm,λu a=>(eu.mp a).elim (λe=>by rw[e];exact Int.le_refl _) λa=>oD z (h u a)⟩
  ·exact⟨w,d3 _ b,λu a=>(eu.mp a).elim (λe=>by rw[e];exact z) λa=>h u a⟩
theorem U5{xs:qQ}{m:Int}(a:∀x∈xs,m<=x):∀(n:Nat) (b:Int),m.toNat-b.toNat<=n->1<=b->b<=m->∃c,b<=c/\c<=m/\m<2*c/\xs.map (Em c)=xs.map (Em b)
 |n,b,l,h,d=>by
  rcases Int.lt_or_le m (2*b)with z|z
  ·exact⟨b,Int.le_refl _,d,z,rfl⟩
  ·cases n with
   |zero=>exact⟨b,Int.le_refl _,d,by omega,rfl⟩
   |succ n=>
    obtain⟨c,j,e,f,g⟩:=U5 a n (2*b) (by omega) (by omega) z;refine⟨c,by omega,e,f,g.trans (List.map_congr_left λx i=>Vx h ?_)⟩;have:=a x i;omega
theorem N6{xs:qQ}{m b:Int}(h:m∈xs)(o:∀x∈xs,m<=x)(I:1<=b)(M:b<=m)(C:B9 (xs.map (Em b))):∃w∈xs,∀r,S0 w m r->b<=r/\B9 (xs.map (Em r)):=by
 obtain⟨c,N,O,P,G⟩:=U5 o _ b (dr _) I M;rw[<- G]at C;have s:1<=c:=by omega
 obtain⟨w,g,a⟩:=Yu (λx=>x/2^((x/c).toNat.log2)) (xs:=xs) (λe=>by rw[e]at h;cases h)
 have B:∀x∈xs,c<=x/2^((x/c).toNat.log2)/\x/2^((x/c).toNat.log2)<2*c:=λx d=>by
  obtain⟨u,v⟩:=Gz s (show c<=x by have:=o x d;omega);unfold Em at u v;have S:=Ei ((x/c).toNat.log2);refine⟨(Int.le_ediv_iff_mul_le (by omega)).mpr u,Int.ediv_lt_of_lt_mul (by omega) (by rw[Int.mul_assoc];exact v)⟩
 have p:m/2^((m/c).toNat.log2)<=m:=Int.ediv_le_self _ (by omega);have L:w/2^((w/c).toNat.log2)<=m:=oD (a m h) p;refine⟨w,g,λr ⟨R,K,j,H,J⟩=>?_⟩;have F:0<=w:=by have:=o w g;omega
 have n:j=(w/c).toNat.log2:=by
  rcases Nat.lt_trichotomy j ((w/c).toNat.log2)with z|z|z
  ·have l:=W8 F z;have Q:=(B w g).1;omega
  ·exact z
  ·have:=J _ z;omega
 have A:r=w/2^((w/c).toNat.log2):=by rw[H,n]
 have E:c<=r:=by rw[A];exact(B w g).1
 refine⟨by omega,X0 (xs:=xs.map (Em c)) (by rw[List.length_map,List.length_map]) (λy f=>?_) (λi x y d f=>?_) C⟩
 ·obtain⟨x,d,rfl⟩:=fe.mp f;have:=S6 (x:=x) s;omega
 ·rw[List.getElem?_map]at d f;obtain⟨z,D,rfl⟩:=d0.mp d;rw[D]at f;cases f;have q:=cI D;refine Xs s E (k:=(z/c).toNat.log2) rfl ?_;have l:=a z q;rw[<- A]at l;exact(Int.le_ediv_iff_mul_le (by have:=Ei ((z/c).toNat.log2);omega)).mp l
def Pz(xs:qQ):q3->Prop
 |none=>∀b,1<=b->(∀x∈xs,b<=x)->¬B9 (xs.map (Em b))
 |some b=>1<=b/\(∀x∈xs,b<=x)/\B9 (xs.map (Em b))/\∀c,b<c->(∀x∈xs,c<=x)->¬B9 (xs.map (Em c))
theorem Vi{xs ys:qQ}{m:Int}(c:m∈xs)(g:∀x∈xs,m<=x)(l:∀w∈xs,∃r∈ys,S0 w m r)(e:∀y∈ys,¬B9 (xs.map (Em y))):Pz xs none:=λb f n i=>by
 obtain⟨w,j,h⟩:=N6 c g f (n m c) i;obtain⟨r,a,d⟩:=l w j;exact e r a (h r d).2
theorem Vj{xs ys:qQ}{m b:Int}(f:m∈xs)(g:∀x∈xs,m<=x)(q:∀w∈xs,∃r∈ys,S0 w m r)(h1:1<=b)(s:b<=m)(n:B9 (xs.map (Em b)))(i:∀y∈ys,B9 (xs.map (Em y))->y<=b):Pz xs (some b):=by
 refine⟨h1,λx p=>oD s (g x p),n,λc v a d=>?_⟩;obtain⟨w,o,h⟩:=N6 f g (by omega) (a m f) d;obtain⟨r,e,j⟩:=q w o;have l:=h r j;have u:=i r e l.2;omega
theorem df{xs ys:qQ}{b:Int}(g:1<=b)(j:ys.length=xs.length)(h:∀(i:Nat) (x y:Int),xs[i]?=some x->ys[i]?=some y->∃k:Nat,y=b*2^k/\b*2^k<=x/\x<2*(b*2^k)):ys=xs.map (Em b):=by
 refine List.ext_getElem? λi=>?_;rw[List.getElem?_map];rcases iv i xs.length with z|z
 ·have a:xs[i]?=some (xs[i]'z):=ed z;have c:ys[i]?=some (ys[i]'(by omega)):=ed (by omega);obtain⟨k,e,d,f⟩:=h i _ _ a c;rw[a,c,e,Xr g d f];rfl
 ·rw[List.getElem?_eq_none z,List.getElem?_eq_none (by omega)];rfl
theorem dw{b x y:Int}:Em b x∣Em b y\/Em b y∣Em b x:=by
 unfold Em
 have a:∀{i j:Nat},i<=j->b*2^i∣b*2^j:=λ{i j} h=>by
  refine Int.mul_dvd_mul_left b ⟨2^(j-i),?_⟩;rw[<- Int.pow_add,show i+(j-i)=j by omega]
 rcases Nat.le_total ((x/b).toNat.log2) ((y/b).toNat.log2)with z|z
 ·exact .inl (a z)
 ·exact .inr (a z)
theorem Nj(b:Int)(xs:qQ):Go (xs.map (Em b)):=λu a v c=>by
 obtain⟨x,_,rfl⟩:=fe.mp a;obtain⟨y,_,rfl⟩:=fe.mp c;exact dw
theorem Vn{xs:qQ}(h1:∀x∈xs,1<=x)(j:Go xs):∃B:Int,(B=1\/B∈xs)/\1<=B/\∀x∈xs,1<=x/\x∣B:=by
 obtain⟨g,e,l⟩:∃g:qQ,g.Perm xs/\g.Pairwise (·<=·):=⟨xs.mergeSort (λa b=>decide (a<=b)),List.mergeSort_perm ..,by
  have:=List.pairwise_mergeSort (le:=λ(a b:Int)=>decide (a<=b)) (λa b c h1 d=>by simp at h1 d⊢;omega) (λa b=>by simp;omega) xs;exact this.imp λh=>by simpa using h⟩
 obtain⟨B,d,i⟩:=Tq (Eh e l h1 j);rcases d with⟨_,rfl⟩|d
 ·exact⟨1,.inl rfl,by decide,λx f=>⟨h1 x f,i x (e.mem_iff.mpr f)⟩⟩
 ·exact⟨B,.inr (e.mem_iff.mp d),h1 B (e.mem_iff.mp d),λx f=>⟨h1 x f,i x (e.mem_iff.mpr f)⟩⟩
theorem dz{xs:qQ}{b:Int}(g:1<=b)(i:∀x∈xs,b<=x/\x<2^400):∃B:Int,1<=B/\B<2^4000/\∀y∈xs.map (Em b),1<=y/\y∣B:=by
 have d:∀y∈xs.map (Em b),1<=y/\y<2^400:=λy c=>by
  obtain⟨x,h,rfl⟩:=fe.mp c;have a:=S6 (x:=x) g;have e:=(Gz g (i x h).1).1;have f:=(i x h).2;exact⟨by omega,by omega⟩
 obtain⟨B,a,e,f⟩:=Vn (λy c=>(d y c).1) (Nj b xs);refine⟨B,e,?_,f⟩;have k:(2:Int)^400<2^4000:=by decide+kernel
 rcases a with rfl|a
 ·exact la (by decide) k
 ·exact Int.lt_trans (d B a).2 k
theorem Ta(h s t w v:V):Fy "wheel" v (Cq h s t w)=Cq h s t v:=rfl
def Er(r:Int×Int):Str:=Bm r.1++Str.ofString "+"++Bm r.2
def qp(b:Int)(a:List (Int×Int)):Str:=Txt.join " " ((Str.ofString "base "++Bm b)::a.map Er)
theorem Wx{r:Int×Int}(h1:0<=r.1/\r.1<10^100)(a:0<=r.2/\r.2<10^100):(Er r).length<=201:=by
 have b:=(Ed h1.1 h1.2).len;have c:=(Ed a.1 a.2).len;unfold Er;rw[Dv,Dv,show(Str.ofString "+").length=1 from rfl];omega
def Ix(ws:qQ)(cm:q3):Prop:=ws.length<1\/8<ws.length\/(∃x∈ws,x<1)\/∃c,cm=some c/\c<1
def K8(H:Hp)(v:V):Prop:=v=.aX\/(∃i,v=.int i)\/(∃b,v=.bl b)\/∃a,v=.ref a/\((∃d,H a=some (.lst d))\/(∃d,H a=some (.tup d))\/∃c,H a=some (.dT c))
theorem K8.same{H c:Hp}{v:V}(s:A7 H c)(h:K8 H v):K8 c v:=by
 rcases h with h|h|h|⟨a,e,⟨b,h⟩|⟨b,h⟩|⟨b,h⟩⟩
 ·exact .inl h
 ·exact .inr (.inl h)
 ·exact .inr (.inr (.inl h))
 ·exact .inr (.inr (.inr ⟨a,e,.inl ⟨b,s _ _ h⟩⟩))
 ·exact .inr (.inr (.inr ⟨a,e,.inr (.inl ⟨b,s _ _ h⟩)⟩))
 ·exact .inr (.inr (.inr ⟨a,e,.inr (.inr ⟨b,s _ _ h⟩)⟩))
theorem Qy:Mv "dict" "str"=some false:=by decide+kernel
theorem Qz:Mv "list" "str"=some false:=by decide+kernel
theorem Ox:Mv "tuple" "str"=some false:=by decide+kernel
theorem Sh:Mv "int" "str"=some false:=by decide+kernel
theorem Qx:Mv "bool" "str"=some false:=by decide+kernel
theorem K8.ty{K:W.Frag}{H:Hp}{v:V}(h:K8 H v):∃T,Hl K H v (.type T)/\Mv T "str"=some false:=by
 rcases h with rfl|⟨i,rfl⟩|⟨b,rfl⟩|⟨a,rfl,⟨c,h⟩|⟨c,h⟩|⟨c,h⟩⟩
 ·exact⟨_,.aX,R0⟩
 ·exact⟨_,.int i,Sh⟩
 ·exact⟨_,.bl b,Qx⟩
 ·exact⟨_,.lst h,Qz⟩
 ·exact⟨_,.tup h,Ox⟩
 ·exact⟨_,.dT h,Qy⟩
def Xa(hd:Str)(ws:List Str):Prop:=(∀w∈ws,w.length<=100000)/\ws.length<=300/\((∃w∈ws,Bg w=false)\/∃a:qQ,ws=a.map Bm/\(∀n∈a,0<=n/\n<10^100)/\D1 hd (a.length:Int)=false)
def Xg(x:Str):Prop:=x.length<=100000/\∃(a:Str) (b:List Str),Txt.split x " "=a::b/\(∀w∈a::b,PyData.strOk w=true)/\
 (((a≠Str.ofString "hall"\/Cw (a::b) (some (-2)) (some (-1))≠[Str.ofString "calm"])/\Xa a b)\/∃(d:List Str) (c:Str),a=Str.ofString "hall"/\b=d++[Str.ofString "calm",c]/\c.length<=100000/\(Bg c=false\/(∃n:Int,c=Bm n/\0<=n/\n<10^100)/\Xa a d))
def Q0(H:Hp)(v:V)(d:Int):Prop:=
 (d=1/\(K8 H v\/∃x,v=.str x/\Xg x))\/∃(x b:Str) (a:qQ) (c:q3),v=.str x/\Ku x b a c/\a.length<64/\
  ((d=2/\b≠Str.ofString "hall"/\b≠Str.ofString "wheel")\/(b=Str.ofString "wheel"/\d=5/\∃n∈a,n<1)\/(b=Str.ofString "wheel"/\d=6/\∀n∈a,1<=n)\/(b=Str.ofString "hall"/\d=3/\Ix a c)\/
   (b=Str.ofString "hall"/\d=4/\¬Ix a c/\3000<B0 (qv c) a)\/(b=Str.ofString "hall"/\d=6/\¬Ix a c/\B0 (qv c) a<=12)\/d=0)
theorem Ov{w:Str}{as:List Str}(h:w∉as):Gr (.str w) (as.map V.str)=false:=by
 unfold Gr;rw[List.any_map,List.any_eq_false];intro a c z;have b:Y2 (.str a) (.str w)=true:=z;simp[Y2]at b;exact h (b▸c)
theorem Fo{n:Int}(h:0<=n/\n<10^100):intBits n<=400/\intBits (n+1)<=400:=by
 have a:(10:Int)^100<2^399:=by decide+kernel
 exact⟨en (F3 (n:=399) (by omega)) (by decide),en (F3 (n:=399) (by omega)) (by decide)⟩
theorem P8{ns:qQ}{cm:q3}(h:¬Ix ns cm):0<ns.length/\ns.length<=8/\(∀x∈ns,1<=x)/\∀c,cm=some c->1<=c:=by
 unfold Ix at h;rw[not_or,not_or,not_or]at h;obtain⟨f,g,a,b⟩:=h
 exact⟨by omega,by omega,λx e=>by
  by_cases z:x<1
  ·exact absurd ⟨x,e,z⟩ a
  ·omega,λc d=>by
  by_cases z:c<1
  ·exact absurd ⟨c,d,z⟩ b
  ·omega⟩
theorem Ut:∀{ws:qQ}{q:Int},1<=q->(∀w∈ws,1<=w)->q<=B0 q ws/\∀w∈ws,w<=B0 q ws
 |[],q,c,_=>⟨Int.le_refl _,λw a=>by cases a⟩
 |w::ws,q,c,h=>by
  have a:=h w dm
  have e:q<=q*w:=by
   have:=i3 a (show 0<=q by omega);omega
  have f:w<=q*w:=by
   have:=Int.mul_le_mul_of_nonneg_right c (show 0<=w by omega);omega
  obtain⟨d,g⟩:=Ut (ws:=ws) (q:=q*w) (by omega) λx b=>h x (d3 _ b);refine⟨oD e d,λx b=>?_⟩;rcases eu.mp b with z|z
  ·rw[z];exact oD f d
  ·exact g x z
theorem Yc{ns:qQ}{cm:q3}(h:¬Ix ns cm)(m:B0 (qv cm) ns<=12):ik ns cm:=by
 obtain⟨f,g,a,b⟩:=P8 h
 have i:1<=qv cm:=by
  cases cm with
  |none=>exact Int.le_refl _
  |some c=>
   have:=b c rfl;show 1<=c+1;omega
 obtain⟨j,l⟩:=Ut i a;refine⟨λw d=>⟨a w d,by have:=l w d;omega⟩,λc e=>⟨b c e,?_⟩,f,g,by omega⟩;subst e;have:c+1<=B0 (qv (some c)) ns:=j;omega
theorem U8:∀d:Nat,d<10->(Nat.toDigits 10 d).map Char.toNat=[d+48]:=by decide
theorem Qq:∀(b:List Nat) (a:Nat),0<a->(∀c∈b,48<=c/\c<=57)->(Nat.toDigits 10 (b.foldl (λa c=>10*a+(c-48)) a)).map Char.toNat=(Nat.toDigits 10 a).map Char.toNat++b
 |[],a,_,_=>by simp
 |c::b,a,d,h=>by
  have g:=h c dm;have f:=Qq b (10*a+(c-48)) (by omega) λx e=>h x (d3 _ e);show(Nat.toDigits 10 (b.foldl (λa c=>10*a+(c-48)) (10*a+(c-48)))).map Char.toNat=_;rw[f,<- Nat.toDigits_append_toDigits (by decide) d (by omega),List.map_append,List.append_assoc,U8 (c-48) (by omega),show c-48+48=c by omega];rfl
theorem Nk:∀(b:List Nat) (a k:Nat),a<10^k->(∀c∈b,48<=c/\c<=57)->b.foldl (λa c=>10*a+(c-48)) a<10^(k+b.length)
 |[],a,k,h,_=>h
 |c::b,a,k,g,h=>by
  have i:=h c dm;have e:10^(k+1)=10^k*10:=by rw[Nat.pow_succ]
  have f:=Nk b (10*a+(c-48)) (k+1) (by omega) λx d=>h x (d3 _ d);rw[List.length_cons,show k+(b.length+1)=k+1+b.length by omega];exact f
theorem Su{x:Str}(h:Bg x=true):∃n:Int,x=Bm n/\0<=n/\n<10^100:=by
 unfold Bg at h;rw[Bool.and_eq_true,Bool.and_eq_true,Bool.or_eq_true,decide_eq_true_iff,decide_eq_true_iff,decide_eq_true_iff,List.all_eq_true]at h;obtain⟨i,⟨o,p⟩,b⟩:=h;rcases b with b|b
 ·exact⟨0,by rw[b];decide,Int.le_refl _,by decide⟩
 have g:x.cps.toList.length=x.length:=by simp[Str.length]
 cases e:x.cps.toList with
 |nil=>
  rw[e]at g;have:x.length=0:=g.symm;omega
 |cons c r=>
  rw[e]at i b g;have f:∀d∈c::r,48<=d/\d<=57:=λd f=>of_decide_eq_true (i d f);have u:=f c dm;have m:c≠48:=λz=>b (by rw[z];rfl);have j:=Qq r (c-48) (by omega) λd h=>f d (d3 _ h);rw[U8 (c-48) (by omega),show c-48+48=c by omega]at j;have s:=Nk r (c-48) 1 (by omega) λd h=>f d (d3 _ h);refine⟨((r.foldl (λa c=>10*a+(c-48)) (c-48):Nat):Int),Im ?_,by omega,?_⟩
  ·rw[Dy,j,e];rfl
  ·have q:10^(1+r.length)<=10^100:=Nat.pow_le_pow_right (by decide) (by rw[List.length_cons]at g;omega);have l:((10:Int)^100)=((10^100:Nat):Int):=by norm_cast
   omega
theorem Kp:∀ws:List Str,(∃w∈ws,Bg w=false)\/∃ns:qQ,ws=ns.map Bm/\∀n∈ns,0<=n/\n<10^100
 |[]=>.inr ⟨[],rfl,λn a=>by cases a⟩
 |w::ws=>by
  cases e:Bg w with
  |false=>exact .inl ⟨w,dm,e⟩
  |true=>
   obtain⟨n,rfl,a⟩:=Su e;rcases Kp ws with⟨v,c,h⟩|⟨ns,rfl,h⟩
   ·exact .inl ⟨v,d3 _ c,h⟩
   ·refine .inr ⟨n::ns,rfl,λm b=>?_⟩;rcases eu.mp b with z|z
    ·rw[z];exact a
    ·exact h m z
theorem Qa{ns:qQ}(h:∀n∈ns,0<=n/\n<10^100):(ns.map Bm).all Bg=true:=by
 rw[List.all_eq_true];intro w b;obtain⟨n,a,rfl⟩:=fe.mp b;exact(Ed (h n a).1 (h n a).2).is
def U1(k:Nat)(x:Str):Prop:=x.length<=20000/\x.cps.toList.count 32<=k/\∀c∈x.cps.toList,c<128
theorem Lm:∀ws:List (List Nat),(∀w∈ws,32∉w)->(jn ws).count 32=ws.length-1
 |[],_=>rfl
 |[w],h=>List.count_eq_zero.mpr (h w dm)
 |w::v::r,h=>by
  have b:=Lm (v::r) λx a=>h x (d3 _ a);show(w++32::jn (v::r)).count 32=_;rw[List.count_append,List.count_cons_self,b,List.count_eq_zero.mpr (h w List.mem_cons_self)];simp only[List.length_cons];omega
theorem Sg:∀{ws:List (List Nat)}{w:List Nat},w∈ws->(∀c∈w,c∈jn ws)/\w.length<=(jn ws).length
 |[],w,h=>by cases h
 |[v],w,h=>by
  rw[List.mem_singleton.mp h];exact⟨λc a=>a,dr _⟩
 |v::u::r,w,h=>by
  show(∀c∈w,c∈v++32::jn (u::r))/\w.length<=(v++32::jn (u::r)).length;rw[List.length_append,List.length_cons];rcases eu.mp h with z|z
  ·rw[z];exact⟨λc a=>gv _ a,by omega⟩
  ·obtain⟨b,d⟩:=Sg z;exact⟨λc a=>gd _ (d3 _ (b c a)),by omega⟩
theorem Rn{k:Nat}{x:Str}(h:U1 k x):∃(hd:Str) (ws:List Str),Txt.split x " "=hd::ws/\ws.length<=k/\x.cps.toList=jn ((hd::ws).map λx=>x.cps.toList)/\∀w∈hd::ws,32∉w.cps.toList/\w.length<=20000/\(∀c∈w.cps.toList,c<128)/\PyData.strOk w=true:=by
 have e:=StrLaws.join_split x " ";have i:=StrLaws.split_free x 32;rw[<- Qd]at i;have b:x.cps.toList=jn ((Txt.split x " ").map λx=>x.cps.toList):=by rw[<- Ko,e]
 have j:x.cps.toList.length=x.length:=by simp[Str.length]
 have a:∀w∈Txt.split x " ",32∉w.cps.toList/\w.length<=20000/\(∀c∈w.cps.toList,c<128)/\PyData.strOk w=true:=λw a=>by
  obtain⟨l,q⟩:=Sg (List.mem_map_of_mem (f:=λx:Str=>x.cps.toList) a);rw[<- b]at l q;have u:w.cps.toList.length=w.length:=by simp[Str.length]
  have f:∀c∈w.cps.toList,c<128:=λc f=>h.2.2 c (l c f);refine⟨i w a,by have:=h.1;omega,f,?_⟩;unfold PyData.strOk;rw[<- Array.all_toList,List.all_eq_true];intro c s;have:=f c s;simp;omega
 have g:=Lm ((Txt.split x " ").map λx=>x.cps.toList) λw r=>by
  obtain⟨v,o,rfl⟩:=fe.mp r;exact(a v o).1
 rw[<- b,List.length_map]at g;cases d:Txt.split x " " with
 |nil=>
  rw[d]at e;have m:=congrArg (λy:Str=>y.cps.toList) e;have n:([]:List Nat)=x.cps.toList:=m;have p:x=⟨#[]⟩:=Im n.symm;rw[p]at d;exact absurd d (by decide)
 |cons hd ws=>
  rw[d]at b a g;refine⟨hd,ws,rfl,?_,b,a⟩;have:=h.2.1;rw[List.length_cons]at g;omega
theorem Rt{hd:Str}(h:hd=Str.ofString "best"\/hd=Str.ofString "rank")(n:Int):D1 hd n=decide (V.int n=V.int 0):=by
 unfold D1;rcases h with rfl|rfl<;>rw[if_pos (by decide)]
theorem Yg{hd:Str}(a:hd≠Str.ofString "best"/\hd≠Str.ofString "rank"):Gr (.str hd) [.str "best",.str "rank"]=false:=Ov (as:=[Str.ofString "best",Str.ofString "rank"]) (by simp[a.1,a.2])
theorem da{hd:Str}(a:hd≠Str.ofString "best"/\hd≠Str.ofString "rank")(h:Gr (.str hd) [.str "call",.str "lost",.str "answer",.str "join",.str "leave",.str "turn"]=true)(n:Int):D1 hd n=decide (V.int n=V.int 1):=by
 unfold D1;rw[if_neg (by rw[Yg a];decide),if_pos h]
theorem Ip{hd:Str}(a:hd≠Str.ofString "best"/\hd≠Str.ofString "rank")(h:Gr (.str hd) [.str "call",.str "lost",.str "answer",.str "join",.str "leave",.str "turn"]=false)(n:Int):D1 hd n=(Gr (.str hd) [.str "hall",.str "wheel"]&&decide (n>0)):=by
 unfold D1;rw[if_neg (by rw[Yg a];decide),if_neg (by rw[h];decide)]
theorem si{hd:Str}{ws:List Str}(h1:∀w∈ws,w.length<=20000)(c:ws.length<=60)(h:∀ns:qQ,ws=ns.map Bm->(∀n∈ns,0<=n/\n<10^100)->D1 hd (ns.length:Int)=false):Xa hd ws:=by
 refine⟨λw b=>en (h1 w b) (by decide),by omega,?_⟩;rcases Kp ws with z|⟨ns,e,a⟩
 ·exact .inl z
 ·exact .inr ⟨ns,e,a,h ns e a⟩
theorem Ml{ws:List Str}(h:2<=ws.length):∃vs a c,ws=vs++[a,c]:=by
 rcases List.eq_nil_or_concat ws with rfl|⟨b,c,rfl⟩
 ·simp at h
 rcases List.eq_nil_or_concat b with rfl|⟨vs,a,rfl⟩
 ·simp at h
 ·exact⟨vs,a,c,by simp⟩
theorem Xq{hd:Str}{ws:List Str}(h:Cw (hd::ws) (some (-2)) (some (-1))=[Str.ofString "calm"])(d:hd=Str.ofString "hall"):∃vs c,ws=vs++[Str.ofString "calm",c]:=by
 by_cases b:2<=ws.length
 ·obtain⟨vs,a,c,rfl⟩:=Ml b;rw[show hd::(vs++[a,c])=(hd::vs)++[a,c]from rfl,(Dz (hd::vs) a c).1]at h;have:a=Str.ofString "calm":=by simpa using h
  rw[this];exact⟨vs,c,rfl⟩
 ·match ws,b,h with
  |[],_,h=>
   rw[d]at h;exact absurd h (by decide)
  |[c],_,h=>
   have:=(Dz [] hd c).1;rw[show([]:List Str)++[hd,c]=[hd,c]from rfl,h,d]at this;exact absurd this (by decide)
  |_::_::_,b,_=>exact absurd (by simp) b
abbrev jo(w:Str):Prop:=32∉w.cps.toList/\w.length<=20000/\(∀c∈w.cps.toList,c<128)/\PyData.strOk w=true
abbrev Ob(x:Str)(b:Bool):Prop:=(b=true->∃d a c,Ku x d a c/\a.length<=60)/\(b=false->Xg x)
theorem Gd{x hd:Str}{ws:List Str}{b:Bool}(es:Txt.split x " "=hd::ws)(o:x.length<=20000)(g:∀w∈hd::ws,jo w)(d:ws.length<=60)(m:¬(hd=Str.ofString "hall"/\∃vs c,ws=vs++[Str.ofString "calm",c]))(i:b=true↔∃ns:qQ,ws=ns.map Bm/\(∀n∈ns,0<=n/\n<10^100)/\D1 hd (ns.length:Int)=true):Ob x b:=by
 refine⟨λh=>?_,λh=>?_⟩
 ·obtain⟨ns,e,a,f⟩:=i.mp h
  have j:ns.length<=60:=by
   rw[e,List.length_map]at d;exact d
  exact⟨hd,ns,none,⟨by rw[es,e];show _=hd::(ns.map Bm++[]);rw[List.append_nil],by omega,a,(λc l=>by cases l),f,by omega,(g hd dm).2.2.2⟩,j⟩
 ·refine⟨by omega,hd,ws,es,(λw h=>(g w h).2.2.2),.inl ⟨?_,si (λw h=>(g w (d3 _ h)).2.1) d λns e a=>?_⟩⟩
  ·by_cases z:hd=Str.ofString "hall"
   ·exact .inr λy=>m ⟨z,Xq y z⟩
   ·exact .inl z
  ·cases f:D1 hd (ns.length:Int)with
   |false=>rfl
   |true=>
    have:=i.mpr ⟨ns,e,a,f⟩;rw[h]at this;cases this
theorem Rc{x c:Str}{vs:List Str}{b:Bool}(es:Txt.split x " "=Str.ofString "hall"::(vs++[Str.ofString "calm",c]))(B:x.length<=20000)(o:∀w∈Str.ofString "hall"::(vs++[Str.ofString "calm",c]),jo w)(m:vs.length<=60)(j:b=true↔vs≠[]/\(vs++[c]).all Bg=true):Ob x b:=by
 have q:∀n:Int,D1 (Str.ofString "hall") n=decide (n>0):=λn=>by
  rw[Ip ⟨by decide,by decide⟩ (by decide),show Gr (.str (Str.ofString "hall")) [.str "hall",.str "wheel"]=true by decide,Bool.true_and]
 have p:∀w∈vs++[c],w∈Str.ofString "hall"::(vs++[Str.ofString "calm",c]):=λw h=>by
  rcases fy.mp h with z|z
  ·exact d3 _ (gv _ z)
  ·rw[List.mem_singleton.mp z];simp
 rw[List.all_append,Bool.and_eq_true]at j;refine⟨λh=>?_,λh=>?_⟩
 ·obtain⟨v,s,u⟩:=j.mp h;have i:Bg c=true:=by simpa using u
  obtain⟨k,rfl,l⟩:=Su i;rcases Kp vs with⟨w,y,A⟩|⟨d,rfl,g⟩
  ·have:=List.all_eq_true.mp s w y;rw[A]at this;cases this
  rw[List.length_map]at m
  have r:0<d.length:=by
   cases d with
   |nil=>exact absurd rfl v
   |cons a b=>simp
  exact⟨_,d,some k,⟨es,by omega,g,(λc f=>by cases f;exact⟨l,rfl⟩),by rw[q];exact decide_eq_true (by omega),by omega,by decide+kernel⟩,m⟩
 ·refine⟨by omega,_,_,es,(λw h=>(o w h).2.2.2),.inr ⟨vs,c,rfl,rfl,en (o c (p c (by simp))).2.1 (by decide),?_⟩⟩;cases f:Bg c with
  |false=>exact .inl rfl
  |true=>
   obtain⟨k,rfl,l⟩:=Su f;refine .inr ⟨⟨k,rfl,l⟩,si (λw h=>(o w (p w (gv _ h))).2.1) m λd e g=>?_⟩;rw[q];refine me λr=>?_;have:b=true:=j.mpr ⟨λz=>?_,?_,by simp[f]⟩
   ·rw[h]at this;cases this
   ·rw[z]at e;have:=congrArg List.length e;rw[List.length_map]at this;have:d.length=0:=this.symm;omega
   ·rw[e];exact Qa g
theorem U3{ws:List Str}:ws.all Bg=true↔∃ns:qQ,ws=ns.map Bm/\∀n∈ns,0<=n/\n<10^100:=by
 constructor
 ·intro h;rcases Kp ws with⟨w,a,b⟩|z
  ·have:=List.all_eq_true.mp h w a;rw[b]at this;cases this
  ·exact z
 ·rintro⟨ns,rfl,h⟩;exact Qa h
theorem G4{a b:Str}:(V.str a=V.str b)↔a=b:=⟨λh=>by injection h,λh=>by rw[h]⟩
theorem Xi{vs:List Str}{a c:Str}:Hm ((vs++[a,c]).map V.str) (-2)=some (.str a):=by
 unfold Hm Sf;have b:((vs++[a,c]).map V.str).length=vs.length+2:=by simp
 rw[if_neg (by decide),b,if_pos (by omega),show(-2:Int)+((vs.length+2:Nat):Int)=(vs.length:Nat)by omega];show((vs++[a,c]).map V.str)[((vs.length:Nat):Int).toNat]?=_;rw[Int.toNat_natCast,List.getElem?_map,List.getElem?_append_right (Nat.le_refl _),Nat.sub_self];rfl
def fW(w:Str):q3:=if w=Str.ofString "calm" then none else intText? w
theorem S9{n:Int}(h:0<=n/\n<10^100):fW (Bm n)=some n:=by
 unfold fW;rw[if_neg (Ga h (by decide)),(Ed h.1 h.2).val]
theorem Uc:∀{ns:qQ},(∀n∈ns,0<=n/\n<10^100)->(ns.map Bm).filterMap fW=ns
 |[],_=>rfl
 |n::ns,h=>by
  rw[List.map_cons,List.filterMap_cons,S9 (h n List.mem_cons_self)];show n::(ns.map Bm).filterMap fW=_;rw[Uc λm a=>h m (List.mem_cons_of_mem _ a)]
theorem jx{ns:qQ}{cm:q3}(h:∀n∈ns,0<=n/\n<10^100)(a:∀c,cm=some c->0<=c/\c<10^100):(ns.map Bm++C3 cm).filterMap fW=ns++cm.toList:=by
 rw[List.filterMap_append,Uc h];cases cm with
 |none=>rfl
 |some c=>
  show ns++[Str.ofString "calm",Bm c].filterMap fW=_;rw[List.filterMap_cons,show fW (Str.ofString "calm")=none by unfold fW;rw[if_pos rfl],List.filterMap_cons,S9 (a c rfl)];rfl
theorem Ou{xs:qQ}{a:Int}:Gr (.int a) (xs.map V.int)=true↔a∈xs:=by
 unfold Gr;rw[List.any_map,List.any_eq_true];constructor
 ·rintro⟨x,c,h⟩;have b:(x==a)=true:=h;rw[<- eq_of_beq b];exact c
 ·intro h;refine⟨a,h,?_⟩;show(a==a)=true;exact beq_self_eq_true a
theorem fh{ns:qQ}{cm:q3}(h:0<ns.length)(b:∀n∈ns,0<=n/\n<10^100):∃w,Hm ((Str.ofString "hall"::(ns.map Bm++C3 cm)).map V.str) (-2)=some (.str w)/\decide (V.str w=V.str (Str.ofString "calm"))=cm.isSome:=by
 cases cm with
 |some c=>
  refine⟨Str.ofString "calm",?_,decide_eq_true rfl⟩;show Hm (((Str.ofString "hall"::ns.map Bm)++[Str.ofString "calm",Bm c]).map V.str) (-2)=_;exact Xi
 |none=>
  obtain⟨g,a,c,e⟩:=Ml (ws:=Str.ofString "hall"::ns.map Bm) (by rw[List.length_cons,List.length_map];omega);refine⟨a,?_,me λz=>?_⟩
  ·show Hm ((Str.ofString "hall"::(ns.map Bm++[])).map V.str) (-2)=_;rw[List.append_nil,e];exact Xi
  ·rw[G4]at z
   have d:Str.ofString "calm"∈Str.ofString "hall"::ns.map Bm:=by
    rw[e,<- z];simp
   rcases eu.mp d with y|y
   ·exact absurd y (by decide)
   ·obtain⟨n,f,y⟩:=fe.mp y;exact Ga (b n f) (by decide) y
theorem sh{xs:qQ}{c:Int}:Hm ((xs++[c]).map V.int) (-1)=some (.int c):=by
 unfold Hm Sf;have a:((xs++[c]).map V.int).length=xs.length+1:=by simp
 rw[if_neg (by decide),a,if_pos (by omega),show(-1:Int)+((xs.length+1:Nat):Int)=(xs.length:Nat)by omega];show((xs++[c]).map V.int)[((xs.length:Nat):Int).toNat]?=_;rw[Int.toNat_natCast,List.getElem?_map,List.getElem?_append_right (Nat.le_refl _),Nat.sub_self];rfl
theorem Q0.same{H a:Hp}{v:V}{d:Int}(s:A7 H a)(h:Q0 H v d):Q0 a v d:=h.imp (λz=>⟨z.1,z.2.imp (K8.same s) id⟩) id
theorem Sa{q:Int}{ns:qQ}{i:Nat}{x:Int}(h:ns[i]?=some x):B0 q (ns.take (i+1))=B0 q (ns.take i)*x:=Dx _ _ _ h
theorem Zj{H:Hp}:∀bs:List Bool,aR H (bs.map PyData.bool) (bs.map V.bl)
 |[]=>by unfold aR;rfl
 |b::bs=>by
  show aR H (PyData.bool b::bs.map PyData.bool) (V.bl b::bs.map V.bl);unfold aR;exact⟨_,_,rfl,by unfold Rp;rfl,Zj bs⟩
theorem fz{H:Hp}{x a C:Addr}(d:H x=none)(c:H a=none):A7 H (upd (upd H a (.own x)) x (.ins C a [])):=λb o e=>by
 rw[A9 (Ag e d),A9 (Ag e c)];exact e
theorem P3{H d:Hp}{x a C:Addr}(f:H x=none)(c:H a=none)(h:∀b o,b≠x->(upd (upd H a (.own x)) x (.ins C a [])) b=some o->d b=some o):A7 H d:=λb o e=>h b o (Ag e f) (fz f c b o e)
def kq(k m:Nat)(x:Str):Bool:=decide (x.length<=m)&&(decide (x.cps.toList.count 32<=k)&&x.cps.toList.all λc=>decide (c<128))
theorem K2{k m:Nat}{x:Str}(b:m<=20000)(h:kq k m x=true):U1 k x/\x.length<=m:=by
 unfold kq at h;rw[Bool.and_eq_true,Bool.and_eq_true,decide_eq_true_iff,decide_eq_true_iff,List.all_eq_true]at h;exact⟨⟨by omega,h.2.1,λc a=>of_decide_eq_true (h.2.2 c a)⟩,h.1⟩
def wm:V->Bool
 | .str x=>kq 0 100 x
 |_=>false
abbrev Wd(m:Nat)(x:Str):Prop:=U1 0 x/\x.length<=m
theorem u4{u:V}(h:wm u=true):∃x,u=.str x/\Wd 100 x:=by
 cases u with
 |str x=>exact⟨x,rfl,K2 (by decide) h⟩
 |_=>exact absurd h (by simp[wm])
theorem Sv{n:Int}(h:0<=n/\n<10^100):Wd 100 (Bm n):=by
 have W:=Ed h.1 h.2;refine⟨⟨en W.len (by decide),?_,λc a=>by have:=W.sgn c a;omega⟩,W.len⟩;rw[List.count_eq_zero.mpr W.fre];exact dr _
theorem Pe{K:W.Frag}{H:Hp}{Q:VK}{L:Addr}{us:List V}{i:Int}(P:V->Prop)(d:Ao K H L us)(b:0<=i)(h1:i<(us.length:Int))(c:∀u∈us,P u)(q:∀u,P u->Q u H):uq K (.ref L) (.int i) H Q:=by
 have a:i.toNat<us.length:=by omega
 have e:Hm us i=some us[i.toNat]:=by
  unfold Hm Sf;rw[if_pos b,if_pos h1];exact ed a
 exact⟨L,us,i,_,rfl,rfl,.inl d,e,q _ (c _ (oa a))⟩
theorem V9{H:Hp}{Q:VK}{S:Str}{i:Int}(f:kq 1000 1000 S=true)(b:0<=i)(h1:i<(S.length:Int))(q:∀c:Nat,c<128->Q (.str ⟨#[c]⟩) H):ur (.str S) (.int i) H Q:=by
 have g:S.cps.toList.length=S.length:=by simp[Str.length]
 have a:i.toNat<S.cps.toList.length:=by omega
 obtain⟨⟨_,_,d⟩,e⟩:=K2 (by decide) f
 have h:Hm S.cps.toList i=some S.cps.toList[i.toNat]:=by
  unfold Hm Sf;rw[if_pos b,g,if_pos h1];exact ed a
 exact⟨S,i,_,rfl,rfl,en e (by decide),h,q _ (d _ (oa a))⟩
theorem Yn:∀{ws:List (List Nat)}{m:Nat},(∀w∈ws,w.length<=m)->(jn ws).length<=ws.length*(m+1)
 |[],m,_=>ml _
 |[w],m,h=>by
  have:=h w dm;show w.length<=1*(m+1);omega
 |w::v::r,m,h=>by
  have c:=h w dm;have b:=Yn (ws:=v::r) λx a=>h x (d3 _ a);show(w++32::jn (v::r)).length<=(r.length+1+1)*(m+1);rw[List.length_append,List.length_cons];have e:(r.length+1+1)*(m+1)=(r.length+1)*(m+1)+(m+1):=Nat.succ_mul _ _;rw[List.length_cons]at b;omega
theorem Uj{ws:List Str}{m n:Nat}(h:∀w∈ws,Wd m w)(C:ws≠[])(q:ws.length<=n+1)(E:(n+1)*(m+1)<=20000):U1 n (Txt.join " " ws)/\(Txt.join " " ws).length<=(n+1)*(m+1):=by
 have e:(Txt.join (Str.ofString " ") ws).cps.toList=jn (ws.map λx=>x.cps.toList):=by
  rw[show Txt.join (Str.ofString " ") ws=Str.join (Str.ofString " ") ws from StrLaws.glued_eq_join _ _];exact Ko ws
 have p:(Txt.join (Str.ofString " ") ws).cps.toList.length=(Txt.join (Str.ofString " ") ws).length:=by simp[Str.length]
 have f:∀w∈ws.map (λx:Str=>x.cps.toList),32∉w/\w.length<=m/\∀c∈w,c<128:=λw b=>by
  obtain⟨v,s,rfl⟩:=fe.mp b;have j:=h v s;have B:v.cps.toList.length=v.length:=by simp[Str.length]
  exact⟨List.count_eq_zero.mp (Nat.le_zero.mp j.1.2.1),by have:=j.2;omega,j.1.2.2⟩
 have l:=Yn λw b=>(f w b).2.1;have o:=Lm _ λw b=>(f w b).1;rw[<- e]at l o;rw[List.length_map]at l o;have D:ws.length*(m+1)<=(n+1)*(m+1):=Nat.mul_le_mul_right _ q;refine⟨⟨by omega,by omega,λc a=>?_⟩,by omega⟩;rw[e]at a
 have i:∀d:List (List Nat),(∀w∈d,∀c∈w,c<128)->∀c∈jn d,c<128:=by
  intro d
  induction d with
  |nil=>intro _ c a;cases a
  |cons w d y=>
   intro g c a;cases d with
   |nil=>exact g w dm c a
   |cons v r=>
    have A:c∈w++32::jn (v::r):=a;rcases fy.mp A with z|z
    ·exact g w dm c z
    ·rcases eu.mp z with z|z
     ·rw[z];decide
     ·exact y (λx u=>g x (d3 _ u)) c z
 exact i _ (λw b=>(f w b).2.2) c a
theorem Vr(z:Str):(El z (some ((z.length+1:Nat):Int)) none).cps.toList=[]:=by
 rw[Ja z (Nat.le_refl z.length) (Nat.le_refl _) (lo:=some ((z.length+1:Nat):Int)) (hi:=none) ?_]
 ·simp
 ·rw[StrLaws.sliceIdx_none_hi]
  have e:∀i:Int,(z.length:Int)<=i->Builtin.Str.strSliceIndices (some i) (some (z.length:Int)) 1 z.length=Builtin.Str.strSliceIndices (some (z.length:Int)) (some (z.length:Int)) 1 z.length:=λi a=>by
   unfold Builtin.Str.strSliceIndices;dsimp only;rw[if_neg (show¬i<0 by omega),if_neg (show¬((z.length:Nat):Int)<0 by omega),show min i (z.length:Int)=min (z.length:Int) (z.length:Int)by omega];rfl
  exact e _ (by omega)
theorem Zd{x s:Str}{a b k:Nat}(h:U1 k x)(v:x.length<=1400)(j:kq 1 1 s=true)(i:a<=x.length)(u:b<=x.length+1):U1 (2*k+1) (El x none (some (a:Int))++s++El x (some (b:Int)) none)/\(El x none (some (a:Int))).length<=1400/\(El x (some (b:Int)) none).length<=1400/\s.length<=1/\U1 (2*k+1) (El x none (some (a:Int))++El x (some (b:Int)) none):=by
 have w:x.cps.toList.length=x.length:=by simp[Str.length]
 have f:(El x none (some (a:Int))).cps.toList=x.cps.toList.take a:=du x i
 have e:∃d,(El x (some (b:Int)) none).cps.toList=x.cps.toList.drop d:=by
  by_cases z:b<=x.length
  ·exact⟨b,Vq x z⟩
  ·have:b=x.length+1:=by omega
   rw[this];exact⟨x.length,by rw[Vr,List.drop_eq_nil_of_le (by omega)]⟩
 obtain⟨d,e⟩:=e;obtain⟨⟨_,y,o⟩,n⟩:=K2 (by decide) j;have l:(El x none (some (a:Int))).cps.toList.length=(El x none (some (a:Int))).length:=by simp[Str.length]
 have m:(El x (some (b:Int)) none).cps.toList.length=(El x (some (b:Int)) none).length:=by simp[Str.length]
 rw[f,List.length_take]at l;rw[e,List.length_drop]at m;have p:(x.cps.toList.take a).count 32<=x.cps.toList.count 32:=(List.take_sublist _ _).count_le _;have q:(x.cps.toList.drop d).count 32<=x.cps.toList.count 32:=(List.drop_sublist _ _).count_le _;have r:=h.2.1;refine⟨⟨?_,?_,λc g=>?_⟩,by omega,by omega,n,⟨?_,?_,λc g=>?_⟩⟩
 ·rw[Dv,Dv];omega
 ·rw[Str.cps_append,Str.cps_append,Array.toList_append,Array.toList_append,List.count_append,List.count_append,f,e];omega
 ·rw[Str.cps_append,Str.cps_append,Array.toList_append,Array.toList_append,f,e,List.mem_append,List.mem_append]at g;rcases g with(z|z)|z
  ·exact h.2.2 c (List.mem_of_mem_take z)
  ·exact o c z
  ·exact h.2.2 c (List.mem_of_mem_drop z)
 ·rw[Dv];omega
 ·rw[Str.cps_append,Array.toList_append,List.count_append,f,e];omega
 ·rw[Str.cps_append,Array.toList_append,f,e,List.mem_append]at g;rcases g with z|z
  ·exact h.2.2 c (List.mem_of_mem_take z)
  ·exact h.2.2 c (List.mem_of_mem_drop z)
theorem Va{c:Nat}(h:c<128):kq 1 1 ⟨#[c]⟩=true:=by
 unfold kq;rw[Bool.and_eq_true,Bool.and_eq_true,decide_eq_true_iff,decide_eq_true_iff,List.all_eq_true];refine⟨dr _,List.count_le_length,λd a=>?_⟩;have:d=c:=by simpa using a
 rw[this];exact decide_eq_true h
theorem Xh{xs:List V}{v:V}:Hm (xs++[v]) (-1)=some v:=by
 unfold Hm Sf;have a:(xs++[v]).length=xs.length+1:=by simp
 rw[if_neg (by decide),a,if_pos (by omega),show(-1:Int)+((xs.length+1:Nat):Int)=(xs.length:Nat)by omega];show(xs++[v])[((xs.length:Nat):Int).toNat]?=_;rw[Int.toNat_natCast,List.getElem?_append_right (Nat.le_refl _),Nat.sub_self];rfl
theorem Vs(ws:List Str)(b:Nat):(Cw ws none (some (b:Int))).length+(Cw ws (some (b:Int)) none).length<=ws.length:=by
 unfold Cw;rw[HT.eR,HT.eR,HT.iR,HT.iR,List.length_take,List.length_take,List.length_drop,List.length_drop];omega
theorem U1.mono{k l:Nat}{x:Str}(h:U1 k x)(a:k<=l):U1 l x:=⟨h.1,en h.2.1 a,h.2.2⟩
theorem de:As [V.aX] [Value.none]:=.cons rfl .nil
theorem Pu:As [V.bl false] [Value.bool false]:=.cons rfl .nil
theorem wb{us:List q5}(h:us.length=0):us=[]:=List.length_eq_zero_iff.mp h
theorem qk{us:List q5}(h:us.length=1):∃b,us=[b]:=by
 cases us with
 |nil=>cases h
 |cons a us=>
  obtain rfl:=wb (Nat.succ.inj h);exact⟨a,rfl⟩
theorem ql{us:List q5}(h:us.length=2):∃c b,us=[c,b]:=by
 cases us with
 |nil=>cases h
 |cons a us=>
  obtain⟨b,rfl⟩:=qk (Nat.succ.inj h);exact⟨a,b,rfl⟩
theorem qm{us:List q5}(h:us.length=3):∃d b c,us=[d,b,c]:=by
 cases us with
 |nil=>cases h
 |cons a us=>
  obtain⟨b,c,rfl⟩:=ql (Nat.succ.inj h);exact⟨a,b,c,rfl⟩
theorem wc{us:List q5}(h:us.length=4):∃e b c d,us=[e,b,c,d]:=by
 cases us with
 |nil=>cases h
 |cons a us=>
  obtain⟨b,c,d,rfl⟩:=qm (Nat.succ.inj h);exact⟨a,b,c,d,rfl⟩
seal Mo PS PE PT PA PI PG PW
structure Gk(P:q7)(w:ro)(K:W.Frag)(mg:Str->Option q5)(base:Heap)(k:Nat)(f:Addr)(ps:List Str)(sp:Sp)(fd:ri):Prop where
 g:B1 P w K mg base (CX1 P w) k f fd ps sp
 b:Di K fd ps []
section
variable {P:q7}{w:ro}{K:W.Frag}{mg:Str->Option q5}{base:Heap}{ad:yq}{aA aF aG aD aB aE aC aJ aK aS aU aV aH aI aW aQ aO:Addr}
variable (T:Txt K mg ad aA aF aG aD aB aE aC aJ aK aS aU aV aH aI aW aQ aO)
include T
def Tl(K:W.Frag):Sp:=λc H Q _=>Js λ(a b:Int)=>Iw (c=[.int a,.int b]) (0<=a) (0<=b) (Q (.int (Int.gcd a b)) H)
theorem nh{n:ri}(F:D8 K "divisor" "divisor" ag ad.iU n):B1 P w K mg base (CX1 P w) 1 ad.iU n ["one","other"] (Tl K):=by
 refine F.okN Pn (λN H Q E h=>?_) (λS A m s H N Q E X h=>?_)
 ·rcases h with⟨a,b,rfl,o,p,q⟩<;>rfl
 ·obtain⟨a,b,rfl,o,p,q⟩:=h;refine⟨_,(A3 (Ma l7 (Aa Ee (pv 1) A5 (Ac _)) (A3 (Ab (i:=2) Pn.nd rfl (Or.inl rfl) (Ah Bc (pv 0) (pv 1))) (A3 (Ab (i:=0) Pn.nd rfl (Or.inl rfl) (pv 1)) (A6 (Ab (i:=1) Pn.nd rfl (Or.inl rfl) (pv 2)))))) (A6 (Af (pv 0)))),?_⟩;refine Mm (λd g=>Mn λ(x y:Int) (r:Option V)=>Fl (d=[some (.int x),some (.int y),r]) (0<=x) (0<=y) (Int.gcd x y=Int.gcd a b) (g=H)) (λ(d:L2.St) (_:L2.Hp)=>match d[1]? with|some (some (V.int y))=>y.toNat|_=>0) ⟨a,b,none,rfl,o,p,rfl,rfl⟩ ?_ ?_
  ·rintro d g ⟨x,y,r,rfl,L,M,u,rfl⟩;refine⟨_,rfl,_,_,rfl,rfl,_,rfl,?_⟩;refine D0 (λl=>?_) (λl=>?_)
   ·have f:0<y:=by simpa using l
    have I:=oI x (show y≠0 by omega);have U:=pb x f;refine⟨_,rfl,_,rfl,_,_,rfl,rfl,f,_,rfl,_,rfl,⟨y,x%y,_,rfl,M,I,(Ya L f).trans u,rfl⟩,?_⟩;show(x%y).toNat<y.toNat;omega
   ·have f:¬0<y:=by simpa using l
    have e:y=0:=by omega
    subst e;refine⟨_,rfl,?_⟩;rw[<- u,Int.gcd_zero,show((x.natAbs:Nat):Int)=x by omega]at q;exact q
  ·rintro d g O R J ⟨v,B,i,j,C,D,c,G,z⟩;exact⟨v,B,i,j,C,D,c,G,J _ _ z⟩
def b0(K:W.Frag):Sp:=λc H Q _=>Mn λ(a:Addr) (b:qQ) (B:Int)=>Hi (c=[.ref a]) (Ao K H a (b.map V.int)) (1<=B) (B<2^4000) ((∀x∈b,1<=x/\x∣B)) (Q (.int ((Dr b:Nat):Int)) H)
theorem kx{C M:ri}(F:D8 K "least_round" "least_round" Zo ad.kS C)(I:Gk P w K mg base 1 ad.iU ["one","other"] (Tl K) M):B1 P w K mg base (CX1 P w) 2 ad.kS C ["numbers"] (b0 K):=by
 refine F.okN Pj (λN H Q E h=>?_) (λO A r s H N Q E L h=>?_)
 ·rcases h with⟨a,b,B,rfl,j,D,d,p,q⟩<;>rfl
 ·obtain⟨a,b,B,rfl,j,D,d,p,q⟩:=h;refine⟨_,(A3 (Ab (i:=1) Pj.nd rfl (Or.inl rfl) A5) (A3 (Ce l7 rfl (C6 (pv 0)) (An (i:=2) Pj.nd rfl (Or.inl rfl)) (A6 (Ab (i:=1) Pj.nd rfl (Or.inl rfl) (Ah Ef (Ah Dp (pv 1) (Am I.g (L.mono (by decide)) rfl T.BU T.BV I.b .nil Az (A0 (pv 1) (A0 (pv 2) A4)))) (pv 2))))) (A6 (Af (pv 1))))),?_⟩;refine⟨_,rfl,a,rfl,.inl ⟨⟨_,j⟩,?_⟩⟩;refine Cc (K:=K) (a:=a) (xs:=b.map V.int) (λi f c=>∃(u:Option V),f=[some (.ref a),some (.int ((Dr (b.take i):Nat):Int)),u]/\c=H) ⟨_,rfl,rfl⟩ (by rintro i f c _ ⟨_,_,e⟩;exact(by rw[e];exact j)) ?_ ?_
  ·rintro i y f c G ⟨u,rfl,rfl⟩;rw[List.getElem?_map]at G;obtain⟨n,o,rfl⟩:=d0.mp G;have R:=(bt.mp o).1;have g:=p n (cI o);obtain⟨J,_,_,m⟩:=ki (xs:=b.take i) D λx h=>p x (List.mem_of_mem_take h);have v:=mv (by omega) g.2;have e:=fq (c:=Dr (b.take i)) g.1;have z:=Wk (b.take i) n;rw[<- Jr o]at z;rw[<- z]at e;have l:=k8 (c:=Dr (b.take i)) J g.1;refine⟨_,rfl,_,rfl,_,rfl,_,n,rfl,by omega,by omega,_,_,rfl,rfl,⟨l.1,en (Ff (by omega) (oD l.2 v) d) (by decide)⟩,_,rfl,_,_,rfl,rfl,Nv (Nb l.1 (Ff (by omega) m d)) (Ff (by omega) v d) (by decide),some (.int n),?_,rfl⟩;show[some (V.ref a),some (V.int (((Dr (b.take i):Nat):Int)/((Int.gcd ((Dr (b.take i):Nat):Int) n:Nat):Int)*n)),some (V.int n)]=_;rw[e]
  ·rintro f c ⟨u,rfl,rfl⟩;refine⟨_,rfl,?_⟩;rw[List.length_map,List.take_length];exact q
def cr(K:W.Frag):Sp:=λe H Q _=>Mn λ(a:Addr) (c:qQ) (B:Int)=>Kq (e=[.ref a]) (Ao K H a (c.map V.int)) (c.length<=80) (1<=B) (B<2^4000) ((∀x∈c,1<=x/\x∣B)) (∀(p:Addr) (t b:Int) (d:Hp),A7 H d->d p=some (.tup [.int t,.int b])->(t<=b↔B9 c)->Q (.ref p) d)
theorem nu{C Y rN:ri}(F:D8 K "shares" "shares" V5 ad.kT C)(X:Gk P w K mg base 2 ad.kS ["numbers"] (b0 K) Y)(U:Gk P w K mg base 1 ad.iU ["one","other"] (Tl K) rN):B1 P w K mg base (CX1 P w) 3 ad.kT C ["numbers"] (cr K):=by
 refine F.okN Po (λvs H Q E h=>?_) (λaZ A u s H vs Q E O h=>?_)
 ·rcases h with⟨a,b,B,rfl,j,iI,o,l,e,q⟩<;>rfl
 ·obtain⟨a,b,B,rfl,j,iI,o,l,e,q⟩:=h;refine⟨_,(A3 (Ab (i:=1) Po.nd rfl (Or.inr rfl) (Am X.g (O.mono (by decide)) rfl T.NW T.NX X.b .nil Az (A0 (pv 0) A4))) (A3 (Ab (i:=2) Po.nd rfl (Or.inl rfl) (Aj (Ng rfl) (by rfl) T.CL boot_sum (A0 (Cj (C6 (pv 0)) _ rfl Ql rfl rfl (λ_ _ _ _=>(An (i:=0) R8 rfl (Or.inl rfl))) (λ_ _ _ _=>C8) (λ_ _ _ _=>(Ah Dp (pv 1) (pv 0)))) A4))) (A3 (Ab (i:=3) Po.nd rfl (Or.inl rfl) (Am U.g (O.mono (by decide)) rfl T.BU T.BV U.b .nil Az (A0 (pv 2) (A0 (pv 1) A4)))) (A6 (Af (Dd (A0 (Ah Dp (pv 2) (pv 3)) (A0 (Ah Dp (pv 1) (pv 3)) A4)))))))),?_⟩;refine⟨_,rfl,a,b,B,rfl,j,o,l,e,?_⟩;obtain⟨I,_,_,d⟩:=ki o e;have m:B9 b↔(F4 ((Dr b:Nat):Int) b).sum<=((Dr b:Nat):Int):=Iff.rfl;generalize Dr b=L at I d m⊢;refine⟨_,rfl,a,rfl,.inl ⟨⟨_,j⟩,λD G=>?_⟩⟩;refine C2 (K:=K) (a:=a) (xs:=b.map V.int) (λi f g=>f=(F4 (L:Int) (b.take i)).map V.int/\g D=some (.lst f)/\A7 H g) ⟨rfl,A2,A7.upd G⟩ (by rintro i f g _ ⟨_,_,s⟩;exact s.seq j) ?_ ?_
  ·rintro i y f g R ⟨rfl,mT,s'⟩ Qe hQ;rw[List.getElem?_map]at R;obtain⟨n,N,rfl⟩:=d0.mp R;have v:=e n (cI N);have Z:=mv (by omega) v.2;refine⟨_,rfl,_,rfl,_,_,rfl,rfl,⟨Int.lt_of_lt_of_le (by decide) v.1,en (Ff (by omega) Z l) (by decide)⟩,?_⟩;refine hQ _ _ mT (Ap ?_) ⟨?_,A2,s'.new G⟩
   ·rw[List.length_map];unfold F4;rw[List.length_map,List.length_take];omega
   ·rw[Jr N,Vz,List.map_append];rfl
  rintro f H1 ⟨rfl,S,s1⟩;rw[List.length_map,List.take_length]at S;have J:=U9 (B:=(L:Int)) (by omega) λx h=>(e x h).1;refine⟨D,_,rfl,Ao.of S,?_⟩;generalize(F4 (L:Int) b).sum=T at J m⊢
  have M:0<Int.gcd T (L:Int)/\Int.gcd T (L:Int)<=L:=by
   have h1:Int.gcd T (L:Int)∣L:=by
    have h2:((Int.gcd T (L:Int):Nat):Int)∣(L:Int):=Int.gcd_dvd_right ..;exact Int.natCast_dvd_natCast.mp h2
   have h3:=Nat.le_of_dvd I h1
   have h4:Int.gcd T (L:Int)≠0:=λz=>by
    have:=(Int.gcd_eq_zero_iff.mp z).2;omega
   exact⟨by omega,h3⟩
  have c:intBits ((Int.gcd T (L:Int):Nat):Int)<=8999:=en (Ff (by omega) (oD (Int.ofNat_le.mpr M.2) d) l) (by decide);have r:=uj M.1 (Int.gcd_dvd_left ..) (Int.gcd_dvd_right ..);refine⟨_,rfl,_,rfl,T,(L:Int),rfl,J,by omega,?_⟩;refine⟨_,rfl,_,rfl,_,_,rfl,rfl,⟨by omega,c⟩,_,rfl,_,rfl,_,_,rfl,rfl,⟨by omega,c⟩,B7,λp hp=>?_⟩;exact q p _ _ _ (s1.trans (A7.upd hp)) A2 (r.trans m.symm)
def bq(K:W.Frag):Sp:=λe H Q _=>Js λ(a:Addr) (c:qQ)=>Fl (e=[.ref a]) (Ao K H a (c.map V.int)) (c.length<64) ((∀x∈c,1<=x)) (∀(b:Bool) (d:Hp),A7 H d->(b=true↔Go c)->Q (.bl b) d)
theorem lw{N:ri}(F:D8 K "are_chain" "are_chain" Uz ad.kU N):B1 P w K mg base (CX1 P w) 1 ad.kU N ["periods"] (bq K):=by
 refine F.okN ap (λvs H Q E h=>?_) (λaZ A D s H vs Q E hr h=>?_)
 ·rcases h with⟨a,L,rfl,S,X,C,q⟩<;>rfl
 ·obtain⟨a,L,rfl,S,X,C,q⟩:=h;refine⟨_,(A3 (Ab (i:=1) ap.nd rfl (Or.inl rfl) (Aj (Ho K) (by rfl) T.jA boot_sorted (A0 (pv 0) A4))) (A6 (Af (Aj (Ev rfl) (by rfl) T.qM boot_all (A0 (Cj (Ur (by rfl) T.CM (A0 (pv 1) (A0 (Bb (Cg K) (pv 1) (Bl A5) Bw) A4))) _ rfl Kz rfl rfl (λ_ _ _ _=>(Gb K (n:=2) rfl (Cl (An (i:=0) Fu rfl (Or.inl rfl)) (Cl (An (i:=1) Fu rfl (Or.inl rfl)) Gc)))) (λ_ _ _ _=>C8) (λ_ _ _ _=>(B6 Ba (Ah Bc (pv 1) (pv 0)) A5 (Ac _)))) A4))))),?_⟩;refine⟨_,rfl,a,L,rfl,S,X,λR b hR o mE=>?_⟩;have Z:A7 H (upd H R (.lst (b.map V.int))):=A7.upd hR;have e:(upd H R (.lst (b.map V.int))) R=some (.lst (b.map V.int)):=A2;generalize upd H R (.lst (b.map V.int))=j at Z e⊢;refine⟨_,rfl,_,rfl,_,rfl,R,_,rfl,Ao.of e,λc kR=>?_⟩;have hyl:b.length=L.length:=o.length_eq
  have rO:L7 (b.map V.int) (some 1) none=(b.drop 1).map V.int:=by
   rw[Ni];unfold Xo;rw[HT.eR,show HT.iQ b.length 0 (some 1)=min 1 b.length from HT.iR b.length 0 1];congr 1;rcases Nat.eq_zero_or_pos b.length with z|z
   ·rw[List.length_eq_zero_iff.mp z];rfl
   ·rw[show min 1 b.length=1 by omega,List.take_of_length_le (by rw[List.length_drop];omega)]
  rw[rO];have I:A7 j (upd j c (.lst ((b.drop 1).map V.int))):=A7.upd kR;have f:(upd j c (.lst ((b.drop 1).map V.int))) c=some (.lst ((b.drop 1).map V.int)):=A2;generalize upd j c (.lst ((b.drop 1).map V.int))=H2 at I f⊢;have l:=I _ _ e;refine⟨false,false,R,c,rfl,⟨_,Ao.of l⟩,⟨_,Ao.of f⟩,λG O=>?_⟩
  refine Vp (K:=K) (b1:=false) (b2:=false) (c:=R) (d:=c) (xs:=b.map V.int) (ys:=(b.drop 1).map V.int) (by rw[List.length_map,List.length_map,List.length_drop];omega)
   (λi g d=>g=(iy b i).map V.bl/\d G=some (.lst g)/\A7 H2 d) ⟨rfl,A2,A7.upd O⟩ (by rintro i g d _ ⟨_,_,s⟩;exact⟨Ao.of (s _ _ l),Ao.of (s _ _ f)⟩) ?_ (λσ d Q1 Q2 p z=>p _ _ z) ?_ ?_
  ·rintro i x y T g n Y M ⟨rfl,m,J⟩ hT;rw[List.getElem?_map]at Y M;obtain⟨u,r,rfl⟩:=d0.mp Y;obtain⟨w,U,rfl⟩:=d0.mp M;rw[List.getElem?_drop,Nat.add_comm]at U;have ex:b.getD i 0=u:=by rw[List.getD_eq_getElem?_getD,r];rfl
   have ey:b.getD (i+1) 0=w:=by rw[List.getD_eq_getElem?_getD,U];rfl
   have hi:=(bt.mp r).1;have B:=C u (o.mem_iff.mp (cI r));have s5:A7 n (upd n T (.tup [V.int u,V.int w])):=A7.upd hT;simp only[N4,↓reduceIte];refine⟨_,rfl,_,rfl,_,_,rfl,rfl,Int.lt_of_lt_of_le (by decide) B,rfl,s5 _ _ m,Ap (by rw[List.length_map,So];omega),?_,A2,(J.trans s5).new O⟩;rw[Yv,ex,ey,List.map_append,yx];rfl
  ·rintro σ d Q1 Q2 p ⟨v,e,v',l,i1,j1,f,e3,c0,e4,z⟩;exact⟨v,e,v',l,i1,j1,f,e3,c0,e4,p _ _ z⟩
  rintro g n ⟨rfl,m,J⟩;refine⟨G,_,rfl,Ao.of m,?_⟩;rw[List.length_map,List.length_drop];exact q _ _ (Z.trans (I.trans J)) (g7 o mE C)
def Tj(K:W.Frag):Sp:=λd H Q _=>Mn λ(a:Addr) (b:qQ) (B:Int)=>Kq (d=[.ref a]) (Ao K H a (b.map V.int)) (b.length<=80) (1<=B) (B<2^4000) ((∀x∈b,1<=x/\x∣B)) (∀(c:Hp),A7 H c->Q (.bl (decide (B9 b))) c)
theorem lz{j v:ri}(F:D8 K "have_room" "have_room" Zw ad.iV j)(u:Gk P w K mg base 3 ad.kT ["numbers"] (cr K) v):B1 P w K mg base (CX1 P w) 4 ad.iV j ["periods"] (Tj K):=by
 refine F.okN aq (λD H Q E h=>?_) (λG A c s H D Q E x h=>?_)
 ·rcases h with⟨a,d,B,rfl,m,o,l,r,n,q⟩<;>rfl
 ·obtain⟨a,d,B,rfl,m,o,l,r,n,q⟩:=h;refine⟨_,(A3 (Ab (i:=1) aq.nd rfl (Or.inl rfl) (Am u.g (x.mono (by decide)) rfl T.NY T.NZ u.b .nil Az (A0 (pv 0) A4))) (A6 (Af (B6 iz (Au (Ay K) (pv 1) A5 (λ_ _=>rfl)) (Au (Ay K) (pv 1) A5 (λ_ _=>rfl)) (Ac _))))),?_⟩;refine⟨_,rfl,a,d,B,rfl,m,o,l,r,n,λp t b f C i g=>?_⟩;refine⟨_,rfl,p,_,_,_,rfl,rfl,.inr (Cp.of i),rfl,_,rfl,p,_,_,_,rfl,rfl,.inr (Cp.of i),rfl,_,_,rfl,rfl,?_⟩
  have e:decide (t<=b)=decide (B9 d):=by
   by_cases z:t<=b
   ·rw[decide_eq_true z,decide_eq_true (g.mp z)]
   ·rw[decide_eq_false z,decide_eq_false λy=>z (g.mpr y)]
  show Q (V.bl (decide (t<=b))) f;rw[e];exact q f C
def bh(K:W.Frag):Sp:=λd H Q _=>jj λ(a:Addr) (c r:qQ) (top b:Int)=>Px (d=[.ref a,.int b]) (Ao K H a (c.map V.int)) (Lv c.reverse) (c.reverse=top::r) (0<=b) (b<top) (top<2^4000) (Q (.int (rv (top::r) b)) H)
theorem lj{L:ri}(F:D8 K "free_first" "free_first" Zt ad.kW L):B1 P w K mg base (CX1 P w) 1 ad.kW L ["levels","taken"] (bh K):=by
 refine F.okN G0 (λZ H Q E h=>?_) (λaZ A D s H Z Q E hr h=>?_)
 ·rcases h with⟨a,C,r,top,o,rfl,n,g,b,x,O,c,q⟩<;>rfl
 ·obtain⟨a,C,r,top,o,rfl,n,g,b,x,O,c,q⟩:=h;refine⟨_,(A3 (Ab (i:=2) G0.nd rfl (Or.inl rfl) A5) (A3 (Ab (i:=3) G0.nd rfl (Or.inl rfl) A5) (A3 (Ce l7 rfl (C6 (pv 0)) (An (i:=4) G0.nd rfl (Or.inl rfl)) (A3 (Ab (i:=5) G0.nd rfl (Or.inl rfl) (Ah Dp (Au (Ay K) (pv 0) (Eg Dh A5) (λ_ _=>rfl)) (pv 4))) (A3 (Za (i:=2) G0.nd rfl (Or.inl rfl) (Ah Ef (Ah Dp (pv 1) (pv 5)) (pv 3)) Yh) (A3 (Ab (i:=1) G0.nd rfl (Or.inl rfl) (Ah Bc (pv 1) (pv 5))) (A6 (Ab (i:=3) G0.nd rfl (Or.inl rfl) (pv 4))))))) (A6 (Af (pv 2)))))),?_⟩;have X:1<=top:=by rw[b]at g;exact g.pos
  refine⟨_,rfl,a,rfl,.inl ⟨⟨_,n⟩,?_⟩⟩;refine Cc (K:=K) (a:=a) (xs:=C.map V.int) (λi v m=>jj λ(f t s:Int) (G I:Option V)=>Iw (v=[some (.ref a),some (.int t),some (.int f),some (.int s),G,I]) (FF C top o i f t s) (t<=o) (m=H)) ⟨0,o,1,none,none,rfl,.zero,Int.le_refl _,rfl⟩ (by rintro i v m _ ⟨_,_,_,_,_,_,_,_,e⟩;exact(by rw[e];exact n)) ?_ ?_
  ·rintro i y v m M ⟨f,t,s,G,I,rfl,d,J,rfl⟩;rw[List.getElem?_map]at M;obtain⟨p,S,rfl⟩:=d0.mp M;have B:=d.pos g x ⟨r,b⟩;obtain⟨U,R,qN,z⟩:=d.step g x ⟨r,b⟩ S;have N:=mv (by omega) R;have Y:=mv (by omega) B.2.1;have l:top/p<=top:=Int.ediv_le_self _ (by omega);have u:0<top/p:=by omega
   have j:intBits (top/p)<=8999:=en (Ff (by omega) l c) (by decide);refine⟨_,rfl,_,rfl,a,_,_,_,rfl,rfl,.inl n,Uk b,_,rfl,_,_,rfl,rfl,⟨by omega,en (Ff (by omega) N c) (by decide)⟩,?_⟩;refine⟨_,rfl,_,rfl,_,rfl,_,_,rfl,rfl,⟨u,j⟩,_,rfl,_,_,rfl,rfl,Nv (Nb u (Ff B.2.2 (by omega) c)) (Ff (by omega) Y c) (by decide),_,_,rfl,rfl,?_⟩;refine⟨_,rfl,_,rfl,_,_,rfl,rfl,u,_,rfl,?_⟩;exact⟨_,_,_,_,_,rfl,z,oD (fb B.2.2 u) J,rfl⟩
  ·rintro v m ⟨f,t,s,G,I,rfl,d,J,rfl⟩;refine⟨_,rfl,?_⟩;rw[List.length_map]at d;rw[d.last rfl b X];exact q
def jc(K:W.Frag):Sp:=λe H Q _=>Mn λ(a:Addr) (b:qQ) (B:Int)=>Py (e=[.ref a]) (H a=some (.lst (b.map V.int))) (b.length<=80) (1<=B) (B<2^4000) ((∀x∈b,1<=x/\x∣B)) (b.Pairwise (·∣·)) ((F4 B b).sum<=B) (∀(D:Addr) (c:List (Int×Int)) (d:Hp),H D=none->A7 H d->d D=some (.lst (c.map λx=>V.int x.2))->c.map Prod.fst=b->(∀x∈c,1<=x.1/\0<=x.2/\x.2<x.1)->(c.Pairwise λx y=>x.1∣y.1/\y.2%x.1≠x.2)->Q (.ref D) d)
theorem uc{fd GX:ri}(F:D8 K "rising_firsts" "rising_firsts" oy ad.qC fd)(tU:Gk P w K mg base 1 ad.kW ["levels","taken"] (bh K) GX):B1 P w K mg base (CX1 P w) 2 ad.qC fd ["periods"] (jc K):=by
 refine F.okN Mf (λvs H Q E h=>?_) (λaZ A outer s H vs Q E hr h=>?_)
 ·rcases h with⟨a,o,B,rfl,ha,pJ,hB,U,hx,NP,gU,q⟩<;>rfl
 ·obtain⟨a,o,B,rfl,ha,pJ,hB,U,hx,NP,gU,q⟩:=h;refine⟨_,(A3 (Ab (i:=1) Mf.nd rfl (Or.inl rfl) (Bp (A0 A5 A4))) (A3 (Ab (i:=2) Mf.nd rfl (Or.inl rfl) A5) (A3 (Ab (i:=3) Mf.nd rfl (Or.inl rfl) (Bp A4)) (A3 (Ce l7 rfl (C6 (pv 0)) (An (i:=4) Mf.nd rfl (Or.inl rfl)) (A3 (Ab (i:=2) Mf.nd rfl (Or.inl rfl) (Ah Ef (pv 2) (Ah Dp (pv 4) (Au (Ay K) (pv 1) (Eg Dh A5) (λ_ _=>rfl))))) (A3 (De (Aa Ee (pv 4) (Au (Ay K) (pv 1) (Eg Dh A5) (λ_ _=>rfl)) (Ac _)) (A6 (Cy (Dq PySem.F.plainAttrs_list PySem.F.slot_list_append PySem.F.type_list_append D6 (pv 1) (A0 (pv 4) A4)))) Ad) (A3 (Cy (Dq PySem.F.plainAttrs_list PySem.F.slot_list_append PySem.F.type_list_append D6 (pv 3) (A0 (Am tU.g (hr.mono (by decide)) rfl T.OC T.OD tU.b .nil Az (A0 (pv 1) (A0 (pv 2) A4))) A4))) (A6 (Za (i:=2) Mf.nd rfl (Or.inl rfl) A5 Yh)))))) (A6 (Af (pv 3))))))),?_⟩;refine⟨B7,λL hL=>?_⟩;have s1:A7 H (upd H L (.lst [.int 1])):=A7.upd hL;have e1:(upd H L (.lst [.int 1])) L=some (.lst [.int 1]):=A2;generalize upd H L (.lst [.int 1])=Y at s1 e1⊢;refine⟨B7,λF hF=>?_⟩;have s2:A7 Y (upd Y F (.lst [])):=A7.upd hF;have e2:(upd Y F (.lst [])) F=some (.lst []):=A2;generalize upd Y F (.lst [])=H2 at s2 e2⊢;have jP:=s2 _ _ e1;have R:F≠L:=λe=>by rw[e,e1]at hF;cases hF
  have G:H F=none:=s1.free hF;have fH:=s1.trans s2;refine⟨_,rfl,a,rfl,.inl ⟨⟨_,Ao.of (fH _ _ ha)⟩,?_⟩⟩
  refine Cc (K:=K) (a:=a) (xs:=o.map V.int) (λi l X=>jj λ(d:List (Int×Int)) (q:Int) (r:qQ) (t:Int) (v4:Option V)=>Pw (l=[some (.ref a),some (.ref L),some (.int t),some (.ref F),v4]) (Hk d q r t) (d.map Prod.fst=o.take i) (d.length=i) ((i=0->q=1)) ((∀p,0<i->o[i-1]?=some p->q=p)) (X L=some (.lst ((q::r).reverse.map V.int))) (X F=some (.lst (d.map λx=>V.int x.2))) (r.length<=i) (A7 H X))
   ⟨[],1,[],0,none,rfl,.begin,rfl,rfl,(λ_=>rfl),(λp h=>absurd h (by decide)),jP,e2,dr _,fH⟩ (by rintro i l X _ ⟨_,_,_,_,_,_,_,_,_,_,_,_,_,_,s⟩;exact Ao.of (s _ _ ha)) ?_ ?_
  ·rintro i y l H3 hy ⟨d,c,r,t,v4,rfl,b,u,NM,I,J,m,eF,GY,s3⟩;rw[List.getElem?_map]at hy;obtain⟨p,n,rfl⟩:=d0.mp hy;have hi:=(bt.mp n).1;have j:=hx p (cI n);have g:=mv (by omega) j.2;have wY:=b.lv.pos
   have v:c∣p:=by
    rcases Nat.eq_zero_or_pos i with z|z
    ·rw[I z];exact Int.one_dvd _
    ·have e:o[i-1]?=some (o[i-1]'(by omega)):=ed (by omega);rw[J _ z e];rw[List.pairwise_iff_getElem]at NP;have:=NP (i-1) i (by omega) hi (by omega);rw[(List.getElem?_eq_some_iff.mp n).2]at this;exact this
   have M:=mv (by omega) v;have CU:Hm ((c::r).reverse.map V.int) (-1)=some (.int c):=Uk (r:=r) (by rw[List.reverse_reverse]);obtain⟨hc,ec⟩:=Cr wY j.1 v
   have O:t*(p/c)<p:=by
    have h1:=X1 hB hx gU n u λx S=>⟨(b.all x S).1,Int.dvd_trans (b.all x S).2.1 v⟩;rw[Gg wY j.1 v λx S=>⟨(b.all x S).1,(b.all x S).2.1⟩,<- b.sum]at h1;exact h1
   have N:=b.nn
   have htp:t<=B:=by
    have:=i3 hc N;omega
   have hcB:p/c<=B:=oD (Int.ediv_le_self _ (by omega)) g;refine⟨_,rfl,_,rfl,_,rfl,_,rfl,L,_,_,_,rfl,rfl,.inl (Ao.of m),CU,_,_,rfl,rfl,⟨by omega,en (Ff (by omega) (oD M g) U) (by decide)⟩,_,_,rfl,rfl,Nv (Ff N htp U) (Ff (by omega) hcB U) (by decide),?_⟩;refine⟨_,rfl,_,rfl,_,rfl,L,_,_,_,rfl,rfl,.inl (Ao.of m),CU,_,_,rfl,rfl,_,rfl,(λl Z=>∃(f:qQ),Hi (l=[some (.ref a),some (.ref L),some (.int (t*(p/c))),some (.ref F),some (.int p)]) (Hk d p f (t*(p/c))) (Z L=some (.lst ((p::f).reverse.map V.int))) (Z F=some (.lst (d.map λx=>V.int x.2))) (f.length<=i+1) (A7 H Z)),λh0=>?_,λh0=>?_,?_⟩
   ·have bB:c<p:=by simpa using h0
    refine⟨_,rfl,.inl ⟨rfl,_,Ao.of m⟩,_,rfl,L,_,_,rfl,rfl,m,Ap (by rw[List.length_map,List.length_reverse,List.length_cons];omega),?_⟩;refine⟨c::r,rfl,b.grow bB v,?_,by rw[A9 R];exact eF,by rw[List.length_cons];omega,s3.new hL⟩;rw[A2,List.reverse_cons (a:=p),List.map_append];rfl
   ·have bB:¬c<p:=by simpa using h0
    have e:c=p:=by omega
    subst e;exact⟨r,rfl,by rw[b.same];exact b,m,eF,by omega,s3⟩
   rintro l Z ⟨f,rfl,GV,D,C,hr4,s4⟩;refine⟨_,rfl,.inl ⟨rfl,_,Ao.of C⟩,_,rfl,_,rfl,L,(p::f).reverse,f,p,_,rfl,Ao.of D,by rw[List.reverse_reverse];exact GV.lv,by rw[List.reverse_reverse],GV.nn,O,la g U,?_⟩;refine⟨F,_,_,rfl,rfl,C,Ap (by rw[List.length_map];omega),?_⟩;refine⟨_,rfl,_,_,rfl,rfl,?_⟩;refine⟨d++[(p,rv (p::f) (t*(p/c)))],p,f,_,_,rfl,GV.put O,?_,by rw[List.length_append,NM];rfl,(λz=>absurd z (by omega)),(λp' _ h=>?_),by rw[A9 (Ne.symm R)];exact D,?_,hr4,s4.new G⟩
   ·rw[List.map_append,u,Jr n];rfl
   ·rw[show i+1-1=i by omega,n]at h;cases h;rfl
   ·rw[A2,List.map_append];rfl
  ·rintro l H3 ⟨d,c,r,t,v4,rfl,b,u,NM,I,J,m,eF,GY,s3⟩;refine⟨_,rfl,?_⟩;rw[List.length_map,List.take_length]at u;exact q F d H3 G s3 eF u (λx h=>⟨(b.all x h).1,(b.all x h).2.2.1,(b.all x h).2.2.2.1⟩) b.pair
def b9(K:W.Frag)(aA aF aG aD aB aE aC aH aI:Addr):Sp:=λg H Q E=>Js λ(a:Addr) (b:qQ)=>Py (g=[.ref a]) (H a=some (.lst (b.map V.int))) (b.length<64) ((∀x∈b,x<2^4000)) (H aI=some (.tab lamQ lamP)) (((∃x∈b,x<1)->∀c,A7 H c->E (.ref aA) none c)) (((∀x∈b,1<=x)->¬Go b->∀c,A7 H c->E (.ref aF) none c)) (((∀x∈b,1<=x)->Go b->¬B9 b->∀c,A7 H c->E (.ref aG) none c)) (((∀x∈b,1<=x)->Go b->B9 b->∀(p:Addr) (f:List V) (e:List (Int×Int)) (d:Hp),H p=none->A7 H d->d p=some (.lst f)->Aq (Vg d) e f->e.map Prod.fst=b->xm b (e.map Prod.snd)->Q (.ref p) d))
theorem ky{fd GZ rP RC:ri}{qO:Addr}(hB:Ry base mg)(F:dj K "chain_wheel" "chain_wheel" Ij ad.fQ fd qO aI)(tV:Gk P w K mg base 1 ad.kU ["periods"] (bq K) GZ)(mG:Gk P w K mg base 4 ad.iV ["periods"] (Tj K) rP)(zZ:Gk P w K mg base 2 ad.qC ["periods"] (jc K) RC):B1 P w K mg base (CX1 P w) 5 ad.fQ fd ["periods"] (b9 K aA aF aG aD aB aE aC aH aI):=by
 refine F.qA Me (λvs H Q E h=>?_) (λA outer s H vs Q E hr h=>?_)
 ·rcases h with⟨a,d,rfl,I,iI,qP,hT,RE,RF,RG,q⟩<;>rfl
 ·obtain⟨a,d,rfl,I,iI,qP,hT,RE,RF,RG,q⟩:=h;refine⟨_,(A3 (Av (Bn (Aj (Nd rfl) (by rfl) T.CN boot_any (A0 (Cj (C6 (pv 0)) _ rfl J2 rfl rfl (λ_ _ _ _=>(An (i:=0) Jg rfl (Or.inl rfl))) (λ_ _ _ _=>C8) (λ_ _ _ _=>(B6 Fv (pv 0) A5 (Ac _)))) A4))) (A6 (C7 Dg rfl (by rfl) T.gO T.fG (A0 Ae A4))) Ad) (A3 (Av (Df (Bn (Am tV.g (hr.mono (by decide)) rfl T.OA T.OB tV.b .nil Az (A0 (pv 0) A4)))) (A6 (C7 Dg rfl (by rfl) T.oB T.jY (A0 Ae A4))) Ad) (A3 (Av (Df (Bn (Am mG.g (hr.mono (by decide)) rfl T.BW T.BX mG.b .nil Az (A0 (pv 0) A4)))) (A6 (C7 Dg rfl (by rfl) T.oC T.jZ (A0 Ae A4))) Ad) (A3 (Ab (i:=1) Me.nd rfl (Or.inl rfl) (Sx (j:=0) (q:="chain_wheel.<locals>.<lambda>") hr (x:="number") (y:="periods") ⟨⟨_,_,_,rfl⟩,λ_ _ _ _ _ _ _=>rfl,rfl,rfl,rfl,by decide+kernel,rfl,rfl,by decide,by decide,by decide⟩ (λcc h=>Qi rfl h) rfl rfl (.inr (.inl rfl)) rfl rfl F.tab (show(("chain_wheel":Str)++".<locals>.")++"<lambda>"=("chain_wheel.<locals>.<lambda>":Str)by decide+kernel) hB (by rfl) T.jA (A0 (Bk Xl (by rfl) T.jB boot_range (A0 (Aj (C1 K) (by rfl) T.cB PySem.boot_len (A0 (pv 0) A4)) A4)) A4))) (A3 (E3 (i:=2) Me.nd rfl (C6 (pv 0)) _ rfl J5 rfl rfl (λ_ _ _ _=>(An (i:=0) Jh rfl (Or.inl rfl))) (λ_ _ _ _=>C8) (λ_ _ _ _=>(Dd (A0 (pv 0) (A0 A5 A4)))) rfl rfl) (A3 (Ce Wt rfl (Ur (by rfl) T.CM (A0 (pv 1) (A0 (Am zZ.g (hr.mono (by decide)) rfl T.m_x5 T.k_x5 zZ.b .nil Az (A0 (Aj (Ho K) (by rfl) T.jA boot_sorted (A0 (pv 0) A4)) A4)) A4))) (Gb K (n:=2) rfl (Cl (An (i:=3) Me.nd rfl (Or.inl rfl)) (Cl (An (i:=4) Me.nd rfl (Or.inl rfl)) Gc))) (A6 (Z9 (Dd (A0 (Au (Ay K) (pv 0) (pv 3) (λ_ _=>rfl)) (A0 (pv 4) A4))) (Z7 (pv 2) (pv 3) Rh)))) (A6 (Af (pv 2))))))))),?_⟩;refine⟨_,rfl,a,rfl,.inl ⟨⟨_,Ao.of I⟩,λC hC=>?_⟩⟩;refine C2 (K:=K) (a:=a) (xs:=d.map V.int) (λi g f=>g=((d.take i).map λx=>decide (x<1)).map V.bl/\f C=some (.lst g)/\A7 H f) ⟨rfl,A2,A7.upd hC⟩ (by rintro i g f _ ⟨_,_,s⟩;exact Ao.of (s _ _ I)) ?_ ?_
  ·rintro i y g f hy ⟨rfl,hC',s'⟩ Qe hQ;rw[List.getElem?_map]at hy;obtain⟨x,l,rfl⟩:=d0.mp hy;refine⟨_,rfl,_,_,rfl,rfl,?_⟩;refine hQ _ _ hC' (Ap ?_) ⟨?_,A2,s'.new hC⟩
   ·rw[List.length_map,List.length_map,List.length_take];omega
   ·rw[Iq l,List.map_append,List.map_append];rfl
  rintro ys0 H1 ⟨rfl,RH,s1⟩;rw[List.length_map,List.take_length]at RH;refine⟨C,_,rfl,Ao.of RH,_,rfl,?_⟩;rw[List.any_map];refine D0 (λp=>?_) (λp=>?_)
  ·obtain⟨x,l,hd⟩:=List.any_eq_true.mp p;exact⟨Co,λH2 s2=>RE ⟨x,l,by simpa using hd⟩ H2 (s1.trans s2)⟩
  have J:∀x∈d,1<=x:=λx l=>by
   rcases Int.lt_or_le x 1 with z|z
   ·exact absurd (List.any_eq_true.mpr ⟨x,l,by simpa using z⟩) p
   ·exact z
  have e1:=s1 _ _ I;refine⟨_,rfl,a,d,rfl,Ao.of e1,iI,J,λb H2 s2 hb=>?_⟩;refine⟨_,rfl,?_⟩;have fH:=s1.trans s2;have e2:=fH _ _ I;refine D0 (λp=>?_) (λp=>?_)
  ·exact⟨Co,λH3 s3=>RF J (λz=>by rw[hb.mpr z]at p;cases p) H3 (fH.trans s3)⟩
  have gZ:Go d:=hb.mp (by simpa using p)
  obtain⟨B,wZ,xA⟩:∃B:Int,(1<=B/\B<2^4000)/\∀x∈d,1<=x/\x∣B:=by
   obtain⟨g,G,mE⟩:∃g:qQ,g.Perm d/\g.Pairwise (·<=·):=⟨d.mergeSort (λa b=>decide (a<=b)),List.mergeSort_perm ..,by
    have:=List.pairwise_mergeSort (le:=λ(a b:Int)=>decide (a<=b)) (λa b c u M=>by simp at u M⊢;omega) (λa b=>by simp;omega) d;exact this.imp λh=>by simpa using h⟩
   obtain⟨B,u,M⟩:=Tq (Eh G mE J gZ);refine⟨B,?_,λx l=>⟨J x l,M x (G.mem_iff.mpr l)⟩⟩;rcases u with⟨_,rfl⟩|u
   ·exact⟨by decide,by decide+kernel⟩
   ·exact⟨J B (G.mem_iff.mp u),qP B (G.mem_iff.mp u)⟩
  refine⟨_,rfl,a,d,B,rfl,Ao.of e2,by omega,wZ.1,wZ.2,xA,λH3 s3=>?_⟩;have qR:=fH.trans s3;have e3:=qR _ _ I;refine⟨_,rfl,?_⟩;refine D0 (λp=>?_) (λp=>?_)
  ·exact⟨Co,λH4 s4=>RG J gZ (by simpa using p) H4 (qR.trans s4)⟩
  have gU:B9 d:=by simpa using p
  have q:=q J gZ gU;have AA:=qR _ _ hT;refine⟨_,rfl,a,_,rfl,.inl (Ao.of e3),_,rfl,λrg hrg=>?_⟩;have el:(((d.map V.int).length:Nat):Int)=((d.length:Nat):Int):=by rw[List.length_map]
  rw[el];have s4:A7 H3 (upd H3 rg (.vR 0 ((d.length:Nat):Int))):=A7.upd hrg;have e4:(upd H3 rg (.vR 0 ((d.length:Nat):Int))) rg=some (.vR 0 ((d.length:Nat):Int)):=A2;generalize upd H3 rg (.vR 0 ((d.length:Nat):Int))=H4 at s4 e4⊢;have e34:=s4 _ _ e3;refine⟨rg,a,d,rfl,e4,rfl,Ao.of e34,iI,s4 _ _ AA,λO m H5 s5 hO eO xB hopw=>?_⟩;have Y:=qR.trans (s4.trans s5);have e5:=Y _ _ I;refine⟨_,rfl,a,rfl,.inl ⟨⟨_,Ao.of e5⟩,λD hD=>?_⟩⟩;refine C2 (K:=K) (a:=a) (xs:=d.map V.int) (λi n f=>Aq (Vg f) ((d.take i).map λx=>(x,0)) n/\f D=some (.lst n)/\A7 H5 f) ⟨Aq.nil,A2,A7.upd hD⟩ (by rintro i g f _ ⟨_,_,s⟩;exact Ao.of (s _ _ e5)) ?_ ?_
  ·rintro i y n f hy ⟨hA,mT,s'⟩ Qe hQ;rw[List.getElem?_map]at hy;obtain⟨x,l,rfl⟩:=d0.mp hy;refine⟨_,rfl,B7,λT S=>?_⟩;have st:A7 f (upd f T (.tup [.int x,.int 0])):=A7.upd S;have et:(upd f T (.tup [.int x,.int 0])) T=some (.tup [.int x,.int 0]):=A2;generalize upd f T (.tup [.int x,.int 0])=H'' at st et⊢;have tl:=Ax.lst (o:=.lst (n++[.ref T])) (st _ _ mT);refine hQ _ _ (st _ _ mT) (Ap (by rw[hA.1,List.length_map,List.length_take];omega)) ⟨?_,A2,(s'.trans st).new hD⟩;rw[Iq l,List.map_append];exact(hA.imp λr v z=>Vg.up ((Ax.of st).trans tl) z).append (Aq.one ⟨T,rfl,tl _ _ et⟩)
  rintro us0 H6 ⟨hA6,hD6,s6⟩;rw[List.length_map,List.take_length]at hA6;have s16:=Y.trans s6;have e6:=s16 _ _ I;have eO6:=s6 _ _ eO;have zD:H D=none:=Y.free hD;refine⟨_,rfl,_,rfl,a,d,rfl,Ao.of e6,iI,λR g hR G mE=>?_⟩;have s7:A7 H6 (upd H6 R (.lst (g.map V.int))):=A7.upd hR;have e7:(upd H6 R (.lst (g.map V.int))) R=some (.lst (g.map V.int)):=A2;generalize upd H6 R (.lst (g.map V.int))=H7 at s7 e7⊢;have hyl:g.length=d.length:=G.length_eq;refine⟨R,g,B,rfl,e7,by omega,wZ.1,wZ.2,λx l=>xA x (G.mem_iff.mp l),Eh G mE J gZ,?_,λF dn H8 hF s8 eF CT RI hdpw=>?_⟩
  ·have:=(Mc wZ.1 xA).mp gU;unfold F4 at this⊢;rw[Z6 (G.map _)];exact this
  have XY:=s7.trans s8;have eO8:=XY _ _ eO6;have hD8:=XY _ _ hD6;have s18:=s16.trans XY;have LQ:m.length=d.length:=by rw[xB.length_eq,List.length_range]
  have NM:dn.length=g.length:=by rw[<- CT,List.length_map]
  have AB:=N3 G mE xB (List.pairwise_map.mpr hopw);have hnd:m.Nodup:=xB.nodup_iff.mpr List.nodup_range;have nDO:D≠O:=λe=>by rw[e,eO]at hD;cases hD
  have nDF:D≠F:=λe=>by rw[<- e,s7 _ _ hD6]at hF;cases hF
  refine⟨false,false,O,F,rfl,⟨_,Ao.of eO8⟩,⟨_,Ao.of eF⟩,?_⟩
  refine Y8 (K:=K) (b1:=false) (b2:=false) (c:=O) (d:=F) (xs:=m.map λ(k:Nat)=>V.int ((k:Nat):Int)) (ys:=dn.map λx=>V.int x.2) (by rw[List.length_map,List.length_map];omega)
   (λi σ f=>di λ(n:List V) (X:List (Int×Int)) (v3 v4:Option V)=>Px (σ=[some (.ref a),some (.ref O),some (.ref D),v3,v4]) (f D=some (.lst n)) (Aq (Vg f) X n) (X.map Prod.fst=d) ((∀(j o:Nat) (x:Int×Int),j<i->m[j]?=some o->dn[j]?=some x->X[o]?=some x)) (f O=some (.lst (m.map λ(k:Nat)=>V.int ((k:Nat):Int)))) (f F=some (.lst (dn.map λx=>V.int x.2))) (A7 H f))
   ⟨us0,_,_,_,rfl,hD8,hA6.imp λr v z=>Vg.up (Ax.of XY) z,by rw[List.map_map];exact List.map_id d,(λj o x h=>absurd h (by omega)),eO8,eF,s18⟩ (by rintro i σ f _ ⟨_,_,_,_,_,_,_,_,_,u,M,_⟩;exact⟨Ao.of u,Ao.of M⟩) ?_ ?_
  ·rintro i xo yf T σ H9 ho0 hf0 ⟨n,X,v3,v4,rfl,N,RJ,oG,nY,eO9,eF9,s9⟩ S;rw[List.getElem?_map]at ho0 hf0;obtain⟨o,U,rfl⟩:=d0.mp ho0;obtain⟨z,hz,rfl⟩:=d0.mp hf0;have hom:o<d.length:=oP.mp (xB.mem_iff.mp (cI U))
   have hxo:d[o]?=some z.1:=by
    have u:g[i]?=some z.1:=by rw[<- CT,List.getElem?_map,hz];rfl
    rw[<- AB,List.getElem?_map,U]at u;have M:d.getD o 0=z.1:=by simpa using u
    rw[List.getElem?_eq_getElem hom,<- M,List.getD_eq_getElem?_getD,List.getElem?_eq_getElem hom];rfl
   have Z:A7 H9 (upd H9 T (.tup [.int ((o:Nat):Int),.int z.2])):=A7.upd S;have XZ:(upd H9 T (.tup [.int ((o:Nat):Int),.int z.2])) T=some (.tup [.int ((o:Nat):Int),.int z.2]):=A2;generalize upd H9 T (.tup [.int ((o:Nat):Int),.int z.2])=FT at Z XZ⊢;refine⟨T,_,rfl,Cp.of XZ,rfl,_,_,rfl,_,_,rfl,rfl,?_⟩;have RK:=s9.trans Z;have hat1:Hm (d.map V.int) ((o:Nat):Int)=some (.int z.1):=Hn (by rw[List.getElem?_map,hxo];rfl);refine⟨_,rfl,_,rfl,a,_,_,_,rfl,rfl,.inl (Ao.of (RK _ _ I)),hat1,_,rfl,B7,λL HA=>?_⟩;have FU:A7 FT (upd FT L (.tup [.int z.1,.int z.2])):=A7.upd HA;have XG:(upd FT L (.tup [.int z.1,.int z.2])) L=some (.tup [.int z.1,.int z.2]):=A2;generalize upd FT L (.tup [.int z.1,.int z.2])=ZQ at FU XG⊢;have RL:=FU _ _ (Z _ _ N);have hul:n.length=d.length:=by rw[RJ.1,<- oG,List.length_map]
   refine⟨_,rfl,_,rfl,D,_,_,_,rfl,rfl,RL,Uh (by omega),?_⟩;have tl:=Ax.lst (o:=.lst (n.set o (.ref L))) RL;refine⟨n.set o (.ref L),X.set o z,_,_,rfl,A2,((RJ.imp λr v w=>Vg.up (((Ax.of Z).trans (Ax.of FU)).trans tl) w).set o ⟨L,rfl,tl _ _ XG⟩),?_,λj o' x hj iJ nI=>?_,by rw[A9 (Ne.symm nDO)];exact FU _ _ (Z _ _ eO9),by rw[A9 (Ne.symm nDF)];exact FU _ _ (Z _ _ eF9),(RK.trans FU).new zD⟩
   ·rw[List.map_set,oG];refine List.ext_getElem? λj=>?_;rw[List.getElem?_set];split
    ·rename_i e;subst e;rw[hxo]
    ·rfl
   ·rw[List.getElem?_set];by_cases e:j=i
    ·subst e;rw[U]at iJ;cases iJ;rw[hz]at nI;cases nI;rw[if_pos rfl,if_pos (by rw[<- RJ.1];omega)]
    ·rw[if_neg λw=>e ?_]
     ·exact nY j o' x (by omega) iJ nI
     ·subst w;have wW:=bt.mp iJ;have oK:=bt.mp U;have hpn:=List.pairwise_iff_getElem.mp hnd;rcases Nat.lt_or_gt_of_ne e with y|y
      ·exact absurd (wW.2.trans oK.2.symm) (hpn j i wW.1 oK.1 y)
      ·exact absurd (oK.2.trans wW.2.symm) (hpn i j oK.1 wW.1 y)
  ·rintro σ H9 ⟨n,X,v3,v4,rfl,N,RJ,oG,nY,eO9,eF9,s9⟩;refine⟨_,rfl,?_⟩;rw[List.length_map]at nY;refine q D n X H9 zD s9 N RJ oG (qr (dn:=dn) (ord:=m) (by rw[<- oG,List.length_map,List.length_map]) xB (by omega) (λk o x U l=>?_) RI hdpw);have h:=nY k o x (bt.mp U).1 U l;refine⟨?_,by rw[List.getElem?_map,h];rfl⟩;rw[<- oG,List.getElem?_map,h];rfl
def c9(K:W.Frag):Sp:=λa H Q _=>Js λ(w b:Int)=>Hi (a=[.int w,.int b]) (1<=b) (b<=w) (b<2^400) (w<2^400) (∀k:Nat,b*2^k<=w->w<2*(b*2^k)->Q (.int (b*2^k)) H)
theorem ms{d:ri}(F:D8 K "doubling" "doubling" a8 ad.kX d):B1 P w K mg base (CX1 P w) 1 ad.kX d ["wait","base"] (c9 K):=by
 refine F.okN au (λu H Q E h=>?_) (λv A c s H u Q E y h=>?_)
 ·rcases h with⟨w,b,rfl,e,o,f,a,q⟩<;>rfl
 ·obtain⟨w,b,rfl,e,o,f,a,q⟩:=h;refine⟨_,(A3 (Ab (i:=2) au.nd rfl (Or.inl rfl) (Ah Dp (pv 0) (pv 1))) (A6 (Af (Ah gi (pv 1) (Ah M5 (o0 PySem.F.plainAttrs_int PySem.F.slot_int_bit_length PySem.F.type_int_bit_length Wm (pv 2)) A5))))),?_⟩;have l:1<=w/b:=(Int.le_ediv_iff_mul_le (by omega)).mpr (by omega);have x:w/b<=w:=Int.ediv_le_self _ (by omega);obtain⟨k,g,p,r⟩:=dt l;obtain⟨i,j⟩:=Vw e rfl p r;have m:intBits b<=401:=F3 (by omega);have n:intBits (w/b)<=401:=F3 (by omega);refine⟨_,rfl,_,rfl,_,_,rfl,rfl,⟨by omega,by omega⟩,?_⟩;refine⟨_,rfl,_,rfl,rfl,_,rfl,rfl,_,_,rfl,rfl,_,_,rfl,rfl,⟨by omega,by omega⟩,?_⟩;rw[g];show Q (.int (b*2^((k:Nat):Int).toNat)) H;rw[Int.toNat_natCast];exact q k i j
def Tm(K:W.Frag)(aA aF aG aD aB aE aC aH aI:Addr):Sp:=λg H Q E=>Mn λ(a:Addr) (c:qQ) (b:Int)=>Kq (g=[.ref a,.int b]) (H a=some (.lst (c.map V.int))) (c.length<=100) (b<2^400) ((∀x∈c,x<2^400)) (((b<1\/∃x∈c,x<b)->∀f,A7 H f->E (.ref aA) none f)) ((1<=b->(∀x∈c,b<=x)->∀(p:Addr) (e:qQ) (d:Hp),H p=none->A7 H d->d p=some (.lst (e.map V.int))->e.length=c.length->(∀(i:Nat) (x y:Int),c[i]?=some x->e[i]?=some y->∃k:Nat,y=b*2^k/\b*2^k<=x/\x<2*(b*2^k))->Q (.ref p) d))
theorem ni{fd HB:ri}(F:D8 K "doubled" "doubled" Rg ad.iW fd)(tW:Gk P w K mg base 1 ad.kX ["wait","base"] (c9 K) HB):B1 P w K mg base (CX1 P w) 2 ad.iW fd ["waits","base"] (Tm K aA aF aG aD aB aE aC aH aI):=by
 refine F.qA pw (λvs H Q E h=>?_) (λaZ A R s H vs Q E hr h=>?_)
 ·rcases h with⟨a,g,b,rfl,B,iI,Z,qP,he,q⟩<;>rfl
 ·obtain⟨a,g,b,rfl,B,iI,Z,qP,he,q⟩:=h;refine⟨_,(A3 (Av (PW.pt (oh (Aa Fv (pv 1) A5 (Ac _)) (Ds (Bn (Aj (Nd rfl) (by rfl) T.CN boot_any (A0 (Cj (C6 (pv 0)) _ rfl Oh rfl rfl (λ_ _ _ _=>(An (i:=0) P5 rfl (Or.inl rfl))) (λ_ _ _ _=>C8) (λ_ _ _ _=>(B6 Fv (pv 0) (pv 1) (Ac _)))) A4)))))) (A6 (C7 Dg rfl (by rfl) T.gO T.fG (A0 Ae A4))) Ad) (A6 (Af (Cj (C6 (pv 0)) _ rfl Oi rfl rfl (λ_ _ _ _=>(An (i:=0) P6 rfl (Or.inl rfl))) (λ_ _ _ _=>C8) (λ_ _ _ _=>(Am tW.g (hr.mono (by decide)) rfl T.OF T.OG tW.b .nil Az (A0 (pv 0) (A0 (pv 1) A4)))))))),?_⟩;refine⟨_,rfl,_,_,rfl,rfl,_,rfl,(λd c=>A7 H c/\(d=true↔(b<1\/∃x∈g,x<b))),λm=>⟨A7.refl _,λ_=>.inl (by simpa using m),λ_=>rfl⟩,λm=>?_,?_⟩
  ·have G:¬b<1:=by simpa using m
   refine⟨_,rfl,a,rfl,.inl ⟨⟨_,Ao.of B⟩,λC hC=>?_⟩⟩;refine C2 (K:=K) (a:=a) (xs:=g.map V.int) (λi f c=>f=((g.take i).map λx=>decide (x<b)).map V.bl/\c C=some (.lst f)/\A7 H c) ⟨rfl,A2,A7.upd hC⟩ (by rintro i f c _ ⟨_,_,s⟩;exact Ao.of (s _ _ B)) ?_ ?_
   ·rintro i y f c u ⟨rfl,J,S⟩ Qe M;rw[List.getElem?_map]at u;obtain⟨x,e,rfl⟩:=d0.mp u;refine⟨_,rfl,_,rfl,_,_,rfl,rfl,?_⟩;refine M _ _ J (Ap ?_) ⟨?_,A2,S.new hC⟩
    ·rw[List.length_map,List.length_map,List.length_take];omega
    ·rw[Iq e,List.map_append,List.map_append];rfl
   rintro f Y ⟨rfl,RH,o⟩;rw[List.length_map,List.take_length]at RH;refine⟨C,_,rfl,Ao.of RH,_,rfl,o,?_⟩;rw[List.any_map,List.any_eq_true];constructor
   ·rintro⟨x,e,n⟩;exact .inr ⟨x,e,by simpa using n⟩
   ·rintro(z|⟨x,e,n⟩)
    ·exact absurd z G
    ·exact⟨x,e,by simpa using n⟩
  rintro d Y ⟨o,n⟩;refine D0 (λm=>?_) (λm=>?_)
  ·exact⟨Co,λI U=>he (n.mp m) I (o.trans U)⟩
  have X:¬(b<1\/∃x∈g,x<b):=λz=>m (n.mpr z)
  have G:1<=b:=by
   rcases Int.lt_or_le b 1 with z|z
   ·exact absurd (.inl z) X
   ·exact z
  have r:∀x∈g,b<=x:=λx e=>by
   rcases Int.lt_or_le x b with z|z
   ·exact absurd (.inr ⟨x,e,z⟩) X
   ·exact z
  have e1:=o _ _ B;refine⟨_,rfl,a,rfl,.inl ⟨⟨_,Ao.of e1⟩,λD L=>?_⟩⟩;refine C2 (K:=K) (a:=a) (xs:=g.map V.int) (λi f c=>∃(l:qQ),Fl (f=l.map V.int) (l.length=i) ((∀(j:Nat) (x y:Int),g[j]?=some x->l[j]?=some y->∃k:Nat,y=b*2^k/\b*2^k<=x/\x<2*(b*2^k))) (c D=some (.lst f)) (A7 Y c)) ⟨[],rfl,rfl,(λj x y _ z=>by cases z),A2,A7.upd L⟩ (by rintro i f c _ ⟨_,_,_,_,_,s⟩;exact Ao.of (s _ _ e1)) ?_ ?_
  ·rintro i y f c u ⟨l,rfl,v,N,mT,S⟩ Qe M;rw[List.getElem?_map]at u;obtain⟨x,e,rfl⟩:=d0.mp u;have hi:=(bt.mp e).1;have hm:=cI e;refine⟨_,rfl,_,rfl,_,_,rfl,G,r x hm,Z,qP x hm,λk f1 f2=>?_⟩;refine M _ _ mT (Ap (by rw[List.length_map];omega)) ⟨l++[b*2^k],by rw[List.map_append];rfl,by rw[List.length_append,v];rfl,λj x' y' O p=>?_,A2,S.new L⟩;rcases iv j l.length with z|z
   ·rw[List.getElem?_append_left z]at p;exact N j x' y' O p
   ·have hj:j=i:=by
     have:=(bt.mp p).1;rw[List.length_append,List.length_singleton]at this;omega
    subst hj;rw[e]at O;cases O;rw[<- v,List.getElem?_concat_length]at p;cases p;exact⟨k,rfl,f1,f2⟩
  rintro f I ⟨l,rfl,v,N,zG,U⟩;rw[List.length_map]at v;exact q G r D l I (o.free L) (o.trans U) zG v N
def ba(K:W.Frag):Sp:=λa H Q _=>Js λ(w m:Int)=>Iw (a=[.int w,.int m]) (1<=w) (1<=m) (∀r,S0 w m r->Q (.int r) H)
theorem l0{g:ri}(F:D8 K "halved_down" "halved_down" Zp ad.kY g):B1 P w K mg base (CX1 P w) 1 ad.kY g ["wait","most"] (ba K):=by
 refine F.okN al (λL H Q E h=>?_) (λO A f s H L Q E S h=>?_)
 ·rcases h with⟨w,m,rfl,n,D,q⟩<;>rfl
 ·obtain⟨w,m,rfl,n,D,q⟩:=h;refine⟨_,(A3 (Ma l7 (Aa Ee (pv 0) (pv 1) (Ac _)) (A6 (Ab (i:=0) al.nd rfl (Or.inl rfl) (Ah C5 (pv 0) A5)))) (A6 (Af (pv 0)))),?_⟩;refine Mm (λa b=>Js λ(c:Int) (j:Nat)=>Fl (a=[some (.int c),some (.int m)]) (1<=c) (c=w/2^j) ((∀i,i<j->m<w/2^i)) (b=H)) (λ(a:L2.St) (_:L2.Hp)=>match a[0]? with|some (some (V.int y))=>y.toNat|_=>0) ⟨w,0,rfl,n,by simp,(λi h=>absurd h (nP _)),rfl⟩ ?_ ?_
  ·rintro a b ⟨c,j,rfl,I,e,l,rfl⟩;refine⟨_,rfl,_,rfl,_,_,rfl,rfl,_,rfl,D0 (λd=>?_) (λd=>?_)⟩
   ·have o:m<c:=by simpa using d
    refine⟨_,rfl,_,_,rfl,rfl,⟨by decide,by decide⟩,⟨c/2,j+1,rfl,by omega,by rw[Np (by omega),<- e],λi R=>?_,rfl⟩,?_⟩
    ·rcases iv i j with z|z
     ·exact l i z
     ·rw[show i=j by omega,<- e];exact o
    ·show(c/2).toNat<c.toNat;omega
   ·have C:¬m<c:=by simpa using d
    exact⟨_,rfl,q c ⟨I,by omega,j,e,l⟩⟩
  ·rintro a b M N B ⟨v,p,J,G,i,j,r,u,c,x,z⟩;exact⟨v,p,J,G,i,j,r,u,c,x,B _ _ z⟩
def br(K:W.Frag)(aA aF aG aD aB aE aC aH aI:Addr):Sp:=λe H Q E=>Js λ(a:Addr) (b:qQ)=>Hi (e=[.ref a]) (H a=some (.lst (b.map V.int))) (b.length<64) ((∀x∈b,x<2^400)) (((b=[]\/∃x∈b,x<1)->∀d,A7 H d->E (.ref aA) none d)) ((b≠[]->(∀x∈b,1<=x)->∀(r:q3) (c:Hp),A7 H c->Pz b r->Q (vO r) c))
theorem mf{fd HC rP rQ:ri}(F:D8 K "best_base" "best_base" Rf ad.kZ fd)(tX:Gk P w K mg base 1 ad.kY ["wait","most"] (ba K) HC)(mG:Gk P w K mg base 4 ad.iV ["periods"] (Tj K) rP)(mH:Gk P w K mg base 2 ad.iW ["waits","base"] (Tm K aA aF aG aD aB aE aC aH aI) rQ):B1 P w K mg base (CX1 P w) 5 ad.kZ fd ["waits"] (br K aA aF aG aD aB aE aC aH aI):=by
 refine F.qA Td (λvs H Q E h=>?_) (λaZ A outer s H vs Q E o h=>?_)
 ·rcases h with⟨a,d,rfl,J,iI,qP,he,q⟩<;>rfl
 ·obtain⟨a,d,rfl,J,iI,qP,he,q⟩:=h;refine⟨_,(A3 (Av (PW.pt (D3 (Aa Ba (Aj (C1 K) (by rfl) T.cB PySem.boot_len (A0 (pv 0) A4)) A5 (Ac _)) (Ds (Aa Fv (Aj (J0 rfl) (by rfl) T.wM boot_min (A0 (pv 0) A4)) A5 (Ac _))))) (A6 (C7 Dg rfl (by rfl) T.gO T.fG (A0 Ae A4))) Ad) (A3 (Ab (i:=1) Td.nd rfl (Or.inr rfl) (Aj (J0 rfl) (by rfl) T.wM boot_min (A0 (pv 0) A4))) (A3 (E3 (i:=2) Td.nd rfl (C6 (pv 0)) _ rfl L3 rfl rfl (λ_ _ _ _=>(An (i:=0) Lr rfl (Or.inl rfl))) (λ_ _ _ _=>C8) (λ_ _ _ _=>(Am tX.g (o.mono (by decide)) rfl T.OH T.OI tX.b .nil Az (A0 (pv 0) (A0 (pv 1) A4)))) rfl rfl) (A6 (Af (gm rfl (by rfl) T.CO boot_max (A0 (Cj (C6 (Sy rfl (by rfl) T.jA (by rfl) T.QQ (A0 (pv 2) A4))) _ rfl L4 rfl rfl (λ_ _ _ _=>(An (i:=0) Ls rfl (Or.inl rfl))) (λ_ _ _ _=>(Ph (Bn (Am mG.g (o.mono (by decide)) rfl T.BW T.BX mG.b .nil Az (A0 (Am mH.g (o.mono (by decide)) rfl T.BZ T.CA mH.b .nil Az (A0 (pv 1) (A0 (pv 0) A4))) A4))))) (λ_ _ _ _=>(pv 0))) A4) Cd)))))),?_⟩;refine⟨_,rfl,a,_,rfl,.inl (Ao.of J),rfl,_,rfl,decide (∃x∈d,x<1),λC Q' z=>?_,?_⟩
  ·have fI:d≠[]:=by
    rintro rfl;simp at C
   refine⟨_,rfl,a,d,rfl,Ao.of J,List.length_pos_iff.mpr fI,λm M N=>?_⟩;refine⟨_,_,rfl,rfl,_,rfl,?_⟩
   have e:decide (m<1)=decide (∃x∈d,x<1):=by
    by_cases l:m<1
    ·rw[decide_eq_true l,decide_eq_true ⟨m,M,l⟩]
    ·rw[decide_eq_false l,decide_eq_false];rintro⟨x,f,h2⟩;have:=N x f;omega
   rw[e];exact z
  refine D0 (λC=>?_) (λC=>?_)
  ·refine⟨Co,λH2 s2=>he ?_ H2 s2⟩;rcases Bool.or_eq_true _ _▸C with l|l
   ·left;have:d.length=0:=by simpa using l
    exact List.length_eq_zero_iff.mp this
   ·exact .inr (of_decide_eq_true l)
  have YA:=Bool.eq_false_iff.mpr C;rw[Bool.or_eq_false_iff]at YA
  have fI:d≠[]:=by
   rintro rfl;simp at YA
  have l:∀x∈d,1<=x:=λx f=>by
   rcases Int.lt_or_le x 1 with z|z
   ·exact absurd ⟨x,f,z⟩ (of_decide_eq_false YA.2)
   ·exact z
  have q:=q fI l;clear C YA he;refine⟨_,rfl,a,d,rfl,Ao.of J,List.length_pos_iff.mpr fI,λm M N=>?_⟩;have HD:=l m M;refine⟨_,rfl,a,rfl,.inl ⟨⟨_,Ao.of J⟩,λD hD=>?_⟩⟩;refine C2 (K:=K) (a:=a) (xs:=d.map V.int) (λi I g=>∃(bs:qQ),Fl (I=bs.map V.int) (bs.length=i) ((∀(j:Nat) (x b:Int),d[j]?=some x->bs[j]?=some b->S0 x m b)) (g D=some (.lst I)) (A7 H g)) ⟨[],rfl,rfl,(λj x y _ z=>by cases z),A2,A7.upd hD⟩ (by rintro i v g _ ⟨_,_,_,_,_,s⟩;exact Ao.of (s _ _ J)) ?_ ?_
  ·rintro i y I g u ⟨bs,rfl,CW,CY,mT,s'⟩ Qe U;rw[List.getElem?_map]at u;obtain⟨x,f,rfl⟩:=d0.mp u;have hi:=(bt.mp f).1;refine⟨_,rfl,_,rfl,x,m,rfl,l x (cI f),HD,λr o=>?_⟩;refine U _ _ mT (Ap (by rw[List.length_map];omega)) ⟨bs++[r],by rw[List.map_append];rfl,by rw[List.length_append,CW];rfl,λj x' b' nI wI=>?_,A2,s'.new hD⟩;rcases iv j bs.length with z|z
   ·rw[List.getElem?_append_left z]at wI;exact CY j x' b' nI wI
   ·have L:j=i:=by
     have:=(bt.mp wI).1;rw[List.length_append,List.length_singleton]at this;omega
    subst L;rw[f]at nI;cases nI;rw[<- CW,List.getElem?_concat_length]at wI;cases wI;exact o
  rintro I H1 ⟨bs,rfl,CW,CY,iB,s1⟩;rw[List.length_map]at CW
  have HE:∀w∈d,∃r∈bs,S0 w m r:=λw hw=>by
   obtain⟨j,L⟩:=gy.mp hw;have wW:=(bt.mp L).1;have n:bs[j]?=some (bs[j]'(by omega)):=ed (by omega);exact⟨_,cI n,CY j _ _ L n⟩
  have Y:∀b∈bs,1<=b/\b<=m:=λb n=>by
   obtain⟨j,L⟩:=gy.mp n;have wW:=(bt.mp L).1;have f:d[j]?=some (d[j]'(by omega)):=ed (by omega);have:=CY j _ _ f L;exact⟨this.1,this.2.1⟩
  refine⟨_,rfl,D,bs,rfl,Ao.of iB,by omega,λR v hR hyl hym hysort=>?_⟩;have s2:A7 H1 (upd H1 R (.lst (v.map V.int))):=A7.upd hR;have e2:(upd H1 R (.lst (v.map V.int))) R=some (.lst (v.map V.int)):=A2;generalize upd H1 R (.lst (v.map V.int))=H2 at s2 e2⊢;have HH:=s1.trans s2
  have oF:∀w∈d,∃r∈v,S0 w m r:=λw hw=>by
   obtain⟨r,o,h⟩:=HE w hw;exact⟨r,(hym r).mpr o,h⟩
  have nG:∀y∈v,1<=y/\y<=m:=λy u=>Y y ((hym y).mp u);refine⟨R,rfl,.inl ⟨⟨_,Ao.of e2⟩,λG hG=>?_⟩⟩;refine Kx (K:=K) (a:=R) (xs:=v.map V.int) (λi I g=>I=((v.take i).filter λy=>decide (B9 (d.map (Em y)))).map V.int/\g G=some (.lst I)/\A7 H2 g) ⟨rfl,A2,A7.upd hG⟩ (by rintro i I g _ ⟨_,_,s⟩;exact Ao.of (s _ _ e2)) ?_ ?_ ?_ ?_
  ·rintro i y I g u ⟨rfl,hG',s'⟩;rw[List.getElem?_map]at u;obtain⟨b,n,rfl⟩:=d0.mp u;have zC:=cI n;have hi:=(bt.mp n).1;have HI:=nG b zC;have vG:∀x∈d,b<=x:=λx f=>oD HI.2 (N x f);have XQ:=s'.trans (A7.refl _) _ _ (HH _ _ J);refine⟨_,rfl,_,rfl,a,d,b,rfl,XQ,by omega,?_,qP,λz=>?_,λ_ _ p zs H4 hp s4 e4 vH hz=>?_⟩
   ·have:=qP m M;omega
   ·rcases z with z|⟨x,f,z⟩
    ·omega
    ·have:=vG x f;omega
   have ez:=df HI.1 vH hz;subst ez;obtain⟨B,hB1,hB2,hB3⟩:=dz HI.1 λx f=>⟨vG x f,qP x f⟩;refine⟨p,_,B,rfl,Ao.of e4,by rw[List.length_map];omega,hB1,hB2,hB3,λH5 s5=>?_⟩;have LW:=s'.trans (s4.trans s5);have S:=s5 _ _ (s4 _ _ hG');refine⟨_,rfl,D0 (λC=>?_) (λC=>?_)⟩
   ·refine⟨_,rfl,S,Ap ?_,?_,A2,LW.new hG⟩
    ·rw[List.length_map];have:=List.length_filter_le (λy=>decide (B9 (d.map (Em y)))) (v.take i);rw[List.length_take]at this;omega
    ·rw[Iq n,List.filter_append,List.map_append,List.filter_cons,if_pos C];rfl
   ·refine⟨?_,S,LW⟩;rw[Iq n,List.filter_append,List.filter_cons,if_neg C,List.filter_nil,List.append_nil]
  ·rintro σ g Q1 Q2 U ⟨v1,f1,v2,f2,a',xs',b',f3,g1,g2,g3,g4,ge,hq⟩;refine⟨v1,f1,v2,f2,a',xs',b',f3,g1,g2,g3,g4,ge,λz1 z2 p zz H3 k1 k2 k3 k4 k5=>?_⟩;obtain⟨a2,xs2,B2,l1,l2,l3,l4,l5,l6,hq2⟩:=hq z1 z2 p zz H3 k1 k2 k3 k4 k5;refine⟨a2,xs2,B2,l1,l2,l3,l4,l5,l6,λH4 s4=>?_⟩;obtain⟨c,ec,hq3⟩:=hq2 H4 s4;exact⟨c,ec,U _ _ hq3⟩
  ·rintro σ g Q1 Q2 U ⟨v1,f1,z⟩;exact⟨v1,f1,U _ _ z⟩
  rintro I H3 ⟨rfl,O,s3⟩;rw[List.length_map,List.take_length]at O;have YB:=HH.trans s3;refine⟨G,_,rfl,rfl,Ao.of O,λZ=>?_,λb n GS=>?_⟩
  ·refine q none H3 YB (Vi M N oF λy u o=>?_);have:y∈v.filter λy=>decide (B9 (d.map (Em y))):=pa.mpr ⟨u,decide_eq_true o⟩;rw[Z]at this;cases this
  ·obtain⟨X,hbr⟩:=pa.mp n;refine q (some b) H3 YB (Vj M N oF (nG b X).1 (nG b X).2 (of_decide_eq_true hbr) λy u o=>GS y (pa.mpr ⟨u,decide_eq_true o⟩))
def bu(K:W.Frag)(aA aF aG aD aB aE aC aH aI:Addr):Sp:=λh H Q E=>Js λ(a:Addr) (c:qQ)=>Px (h=[.ref a]) (H a=some (.lst (c.map V.int))) (c.length<64) ((∀x∈c,x<2^400)) (H aI=some (.tab lamQ lamP)) (((c=[]\/∃x∈c,x<1)->∀f,A7 H f->E (.ref aA) none f)) ((c≠[]->(∀x∈c,1<=x)->Pz c none->∀d,A7 H d->Q .aX d)) ((c≠[]->(∀x∈c,1<=x)->∀(b:Int) (t p:Addr) (g:List V) (e:List (Int×Int)) (d:Hp),Pz c (some b)->A7 H d->H t=none->H p=none->d t=some (.tup [.int b,.ref p])->d p=some (.lst g)->Aq (Vg d) e g->e.map Prod.fst=c.map (Em b)->xm (c.map (Em b)) (e.map Prod.snd)->Q (.ref t) d))
theorem mh{J HJ HK rQ:ri}(F:D8 K "wheel_for" "wheel_for" Zx ad.lA J)(Z:Gk P w K mg base 5 ad.kZ ["waits"] (br K aA aF aG aD aB aE aC aH aI) HJ)(tZ:Gk P w K mg base 5 ad.fQ ["periods"] (b9 K aA aF aG aD aB aE aC aH aI) HK)(R:Gk P w K mg base 2 ad.iW ["waits","base"] (Tm K aA aF aG aD aB aE aC aH aI) rQ):B1 P w K mg base (CX1 P w) 6 ad.lA J ["waits"] (bu K aA aF aG aD aB aE aC aH aI):=by
 refine F.qA ar (λvs H Q E h=>?_) (λaZ A B s H vs Q E n h=>?_)
 ·rcases h with⟨a,c,rfl,l,q,d,M,N,S,U⟩<;>rfl
 ·obtain⟨a,c,rfl,l,q,d,M,N,S,U⟩:=h;refine⟨_,(A3 (Ab (i:=1) ar.nd rfl (Or.inl rfl) (Cu Z.g (n.mono (by decide)) rfl T.OJ T.OK Z.b .nil Ey (A0 (pv 0) A4))) (A3 (Av (Aa M4 (pv 1) Cd (Ac _)) (A6 (Af Cd)) Ad) (A6 (Af (Dd (A0 (pv 1) (A0 (Cu tZ.g (n.mono (by decide)) rfl T.OE T.tL tZ.b .nil Ey (A0 (Cu R.g (n.mono (by decide)) rfl T.BZ T.CA R.b .nil Ey (A0 (pv 0) (A0 (pv 1) A4))) A4)) A4))))))),?_⟩;refine⟨_,rfl,E,λ_ _ _ z=>z,a,c,rfl,l,q,d,N,λj L r H1 g G=>?_⟩;cases r with
  |none=>
   refine⟨_,rfl,rfl,_,rfl,Cn rfl ?_⟩;exact S j L G H1 g
  |some b=>
   refine⟨_,rfl,rfl,_,rfl,Bx rfl ?_⟩;have iH:=g _ _ l;obtain⟨u,D,m,_⟩:=id G
   have LV:b<2^400:=by
    cases c with
    |nil=>exact absurd rfl j
    |cons x c=>exact la (D x dm) (d x dm)
   refine⟨_,rfl,_,rfl,_,rfl,E,λ_ _ _ z=>z,a,c,b,rfl,iH,by omega,LV,d,λz=>?_,λ_ _ p zs H2 hp X e2 vH hz=>?_⟩
   ·rcases z with z|⟨x,e,z⟩
    ·omega
    ·have:=D x e;omega
   have ez:=df u vH hz;subst ez
   have f:∀y∈c.map (Em b),1<=y/\y<2^4000:=λy f=>by
    obtain⟨x,e,rfl⟩:=fe.mp f;have h2:=S6 (x:=x) u;have h3:=(Gz u (D x e)).1;have h4:=d x e;have k:(2:Int)^400<2^4000:=by decide+kernel
    exact⟨by omega,la h3 (Int.lt_trans h4 k)⟩
   have HA:=X _ _ (g _ _ M);refine⟨E,λ_ _ _ z=>z,p,_,rfl,e2,by rw[List.length_map];exact q,λy h=>(f y h).2,HA,(λ⟨y,h,z⟩=>absurd z (by have:=(f y h).1;omega)),(λ_ z=>absurd (Nj b c) z),(λ_ _ z=>absurd m z),λ_ _ _ w us rs I hw Y e3 all oG o=>?_⟩;refine⟨B7,λt O=>?_⟩;have i:=g.trans X;have C:A7 I (upd I t (.tup [.int b,.ref w])):=A7.upd O;exact U j L b t w us rs _ G (i.trans (Y.trans C)) ((i.trans Y).free O) (i.free hw) A2 (C _ _ e3) (all.imp λr v z=>Vg.up (Ax.of C) z) oG o
def cj(K:W.Frag)(aA aF aG aD aB aE aC aH aI:Addr):Sp:=λg H Q E=>(Mn λ(a:Addr) (b:qQ) (d:q3)=>Kq (g=[.ref a,vO d]) (H a=some (.lst (b.map V.int))) (0<b.length) (b.length<=8) ((∀x∈b,1<=x)) ((∀c,d=some c->1<=c)) (∀(p:Addr) (e:Hp),A7 H e->Bf e p b d->Q (.ref p) e))\/(Mn λ(a:Addr) (b:qQ) (d:q3)=>Iw (g=[.ref a,vO d]) (H a=some (.lst (b.map V.int))) (Ix b d) (∀f,A7 H f->E (.ref aD) none f))
theorem nj{r:ri}(F:Q5 K "hall_of" "hall_of" Fg ad.fR r):B1 P w K mg base (CX1 P w) 1 ad.fR r ["waits","calm"] (cj K aA aF aG aD aB aE aC aH aI):=by
 refine F.qA px (λU H Q E h=>?_) (λZ A n s H U Q E hr h=>?_)
 ·rcases h with⟨a,d,g,rfl,f,o,G,B,D,q⟩|⟨a,d,g,rfl,f,i,j⟩<;>rfl
 ·obtain h:=h;refine⟨_,(A3 (Av (PW.pt (D3 (Aa Fv (Aj (C1 K) (by rfl) T.cB PySem.boot_len (A0 (pv 0) A4)) A5 (Ac _)) (Ds (Aa Ee (Aj (C1 K) (by rfl) T.cB PySem.boot_len (A0 (pv 0) A4)) (Bv (v:=.int 8) (by rfl) T.jU.choose_spec ⟨_,rfl⟩) (Ac _))))) (A6 (C7 Dg rfl (by rfl) T.jC T.fT (A0 Ae A4))) Ad) (A3 (Av (Aa Fv (Aj (J0 rfl) (by rfl) T.wM boot_min (A0 (pv 0) A4)) A5 (Ac _)) (A6 (C7 Dg rfl (by rfl) T.jC T.fT (A0 Ae A4))) Ad) (A3 (Av (PW.pt (Dm (Aa Pa (pv 1) Cd (Ac _)) (Dl (Aa Fv (pv 1) A5 (Ac _))))) (A6 (C7 Dg rfl (by rfl) T.jC T.fT (A0 Ae A4))) Ad) (A6 (Af (Dd (A0 (Bk Gq (by rfl) T.tQ boot_tuple (A0 (pv 0) A4)) (A0 (pv 1) A4)))))))),?_⟩;rcases h with⟨a,d,g,rfl,f,o,G,B,D,q⟩|⟨a,d,g,rfl,f,i,j⟩
  ·refine⟨_,rfl,a,_,rfl,.inl (Ao.of f),_,_,rfl,rfl,_,rfl,false,λ_ l z=>⟨_,rfl,a,_,rfl,.inl (Ao.of f),_,_,rfl,rfl,_,rfl,?_⟩,Bx ?_ ?_⟩
   ·have e:decide (((d.map V.int).length:Int)>8)=false:=me (by rw[List.length_map];omega)
    first|(rw[e];exact z)|(rw[show decide ((8:Int)<((d.map V.int).length:Int))=false from decide_eq_false (by rw[List.length_map];omega)];exact z)
   ·rw[decide_eq_false (show¬((d.map V.int).length:Int)<1 by rw[List.length_map];omega)];rfl
   refine⟨_,rfl,a,d,rfl,Ao.of f,o,λm y _=>⟨_,_,rfl,rfl,_,rfl,Bx ?_ ?_⟩⟩
   ·have:=B m y;exact me (by omega)
   refine⟨_,rfl,rfl,_,rfl,false,λe l z=>?_,Bx ?_ ?_⟩
   ·cases g with
    |none=>simp[vO]at e
    |some c=>
     have:=D c rfl;refine⟨_,rfl,_,_,rfl,rfl,_,rfl,?_⟩;rw[decide_eq_false (show¬c<1 by omega)];exact z
   ·rw[Bool.and_false]
   refine⟨_,rfl,a,_,rfl,.inl ⟨Ao.of f,λt N=>⟨_,rfl,B7,λp M=>?_⟩⟩⟩;have S:A7 H (upd H t (.tup (d.map V.int))):=A7.upd N;have C:A7 (upd H t (.tup (d.map V.int))) (upd (upd H t (.tup (d.map V.int))) p (.tup [.ref t,vO g])):=A7.upd M;exact q p _ (S.trans C) ⟨t,A2,C _ _ A2⟩
  ·refine⟨_,rfl,a,_,rfl,.inl (Ao.of f),_,_,rfl,rfl,_,rfl,decide (((d.map V.int).length:Int)>8),λ_ l z=>⟨_,rfl,a,_,rfl,.inl (Ao.of f),_,_,rfl,rfl,_,rfl,z⟩,?_⟩;refine D0 (λ_=>⟨Co,j⟩) (λu=>?_)
   have v:1<=d.length/\d.length<=8:=by
    rw[List.length_map]at u;simp only[Bool.or_eq_true,decide_eq_true_eq,not_or]at u;omega
   refine⟨_,rfl,a,d,rfl,Ao.of f,by omega,λm y I=>⟨_,_,rfl,rfl,_,rfl,?_⟩⟩;refine D0 (λ_=>⟨Co,j⟩) (λJ=>?_);have X:¬m<1:=by simpa using J
   have L:∃c,g=some c/\c<1:=by
    rcases i with b|b|⟨x,O,Y⟩|b
    ·omega
    ·omega
    ·have:=I x O;omega
    ·exact b
   obtain⟨c,rfl,R⟩:=L;refine⟨_,rfl,rfl,_,rfl,true,λe l z=>⟨_,rfl,_,_,rfl,rfl,_,rfl,?_⟩,Cn rfl ⟨Co,j⟩⟩;rw[decide_eq_true R];exact z
def bv(K:W.Frag):Sp:=λe H Q _=>Mn λ(a:Addr) (c:qQ) (d:q3)=>Fk (e=[.ref a]) (Bf H a c d) (∀(p:Addr) (b:Hp),A7 H b->Et b p c 0->Q (.ref p) b)
theorem mi{c:ri}(F:D8 K "beginning" "beginning" Zy ad.lB c):B1 P w K mg base (CX1 P w) 1 ad.lB c ["hall"] (bv K):=by
 refine F.okN pj (λi H Q E h=>?_) (λl A b s H i Q E m h=>?_)
 ·rcases h with⟨a,j,g,rfl,⟨t,d,f⟩,q⟩<;>rfl
 ·obtain⟨a,j,g,rfl,⟨t,d,f⟩,q⟩:=h;refine⟨_,(A6 (Af (Dd (A0 (Au (Ay K) (pv 0) A5 (λ_ _=>rfl)) (A0 A5 A4))))),?_⟩;refine⟨_,rfl,a,_,_,_,rfl,rfl,.inr (Cp.of d),rfl,?_⟩;exact⟨B7,λp e=>q p _ (A7.upd e) ⟨t,A2,A7.upd e _ _ f⟩⟩
def Tk(K:W.Frag):Sp:=λe H Q _=>rb λ(a b:Addr) (f d:qQ) (c:q3) (q:Int)=>Iw (e=[.ref a,.ref b]) (Bf H a f c) (Et H b d q) (Q (.bl (!decide (c=none)&&decide (q=0))) H)
theorem mw{e:ri}(F:D8 K "may_lose" "may_lose" a9 ad.iX e):B1 P w K mg base (CX1 P w) 1 ad.iX e ["hall","standing"] (Tk K):=by
 refine F.okN pp (λl H Q E h=>?_) (λp A d s H l Q E r h=>?_)
 ·rcases h with⟨a,b,m,j,c,n,rfl,⟨t,f,_⟩,⟨u,g,_⟩,q⟩<;>rfl
 ·obtain⟨a,b,m,j,c,n,rfl,⟨t,f,_⟩,⟨u,g,_⟩,q⟩:=h;refine⟨_,(A6 (Af (Pb (B6 Pa (Au (Ay K) (pv 0) A5 (λ_ _=>rfl)) Cd (Ac _)) (Hf (B6 Ba (Au (Ay K) (pv 1) A5 (λ_ _=>rfl)) A5 (Ac _)))))),?_⟩;refine⟨_,rfl,a,_,_,_,rfl,rfl,.inr (Cp.of f),rfl,rfl,_,decide (V.int n=V.int 0),rfl,λ_ o z=>⟨_,rfl,b,_,_,_,rfl,rfl,.inr (Cp.of g),rfl,rfl,z⟩,?_⟩;have i:decide (V.int n=V.int 0)=decide (n=0):=by simp
  rw[qo,i];exact q
def bc(K:W.Frag):Sp:=λe H Q _=>di λ(a:Addr) (d:qQ) (c:q3) (b:Int)=>Fk (e=[.ref a,.int b]) (Bf H a d c) (Q (.bl (decide (0<=b/\b<d.length))) H)
theorem l8{f:ri}(F:D8 K "is_listener" "is_listener" Zq ad.lC f):B1 P w K mg base (CX1 P w) 1 ad.lC f ["hall","who"] (bc K):=by
 refine F.okN pf (λj H Q E h=>?_) (λm A e s H j Q E n h=>?_)
 ·rcases h with⟨a,d,c,b,rfl,⟨t,g,i⟩,q⟩<;>rfl
 ·obtain⟨a,d,c,b,rfl,⟨t,g,i⟩,q⟩:=h;refine⟨_,(A6 (Af (Pb (B6 ui (pv 1) A5 (Ac _)) (Hf (B6 Fv (pv 1) (Aj (C1 K) (by rfl) T.cB PySem.boot_len (A0 (Au (Ay K) (pv 0) A5 (λ_ _=>rfl)) A4)) (Ac _)))))),?_⟩;refine⟨_,rfl,_,_,rfl,rfl,_,decide (b<(d.length:Int)),rfl,λ_ l z=>⟨_,rfl,_,rfl,a,_,_,_,rfl,rfl,.inr (Cp.of g),rfl,t,_,rfl,.inr (Cp.of i),_,_,rfl,rfl,?_⟩,?_⟩
  ·rw[List.length_map];exact z
  ·rw[show(decide (b>=0)&&decide (b<(d.length:Int)))=decide (0<=b/\b<(d.length:Int))by rw[Bool.decide_and]];exact q
def j9(K:W.Frag):Sp:=λh H Q _=>rf λ(a b:Addr) (f g:qQ) (c:q3) (q:Int) (e:Nat) (d:Bool)=>Hi (h=[.ref a,.ref b,.int e,.bl d]) (Bf H a f c) (Et H b g q) (e<f.length) (Xe c q d) (Q .aX H)
theorem u7{j v C:ri}(F:D8 K "refuse_wrong_turn" "refuse_wrong_turn" ow ad.qD j)(u:Gk P w K mg base 1 ad.lC ["hall","who"] (bc K) v)(r:Gk P w K mg base 1 ad.iX ["hall","standing"] (Tk K) C):B1 P w K mg base (CX1 P w) 2 ad.qD j ["hall","standing","who","lost"] (j9 K):=by
 refine F.okN vb (λD H Q E h=>?_) (λI A i s H D Q E o h=>?_)
 ·rcases h with⟨a,b,g,p,c,n,d,e,rfl,f,l,B,m,q⟩<;>rfl
 ·obtain⟨a,b,g,p,c,n,d,e,rfl,f,l,B,m,q⟩:=h;refine⟨_,(A3 (Av (Df (Bn (Am u.g (o.mono (by decide)) rfl T.OQ T.OS u.b .nil Az (A0 (pv 0) (A0 (pv 2) A4))))) (A6 Fx) Ad) (A6 (Av (PW.pt (Dm (Bn (pv 3)) (Dl (Df (Bn (Am r.g (o.mono (by decide)) rfl T.CB T.CC r.b .nil Az (A0 (pv 0) (A0 (pv 1) A4)))))))) (A6 Fx) Ad))),?_⟩;obtain⟨t,J,L⟩:=id f;refine⟨_,rfl,_,rfl,a,g,c,(d:Int),rfl,f,_,rfl,Bx ?_ ?_⟩
  ·rw[decide_eq_true (show(0:Int)<=(d:Int)/\(d:Int)<(g.length:Int)by omega)];rfl
  refine⟨_,rfl,_,rfl,!(!decide (c=none)&&decide (n=0)),λ_ G z=>⟨_,rfl,_,rfl,a,b,g,p,c,n,rfl,f,l,_,rfl,z⟩,Bx ?_ q⟩;cases e with
  |false=>rfl
  |true=>
   obtain⟨x,y⟩:=m rfl;simp[x,y]
def bd(K:W.Frag):Sp:=λi H Q _=>rf λ(a b:Addr) (f h:qQ) (d:q3) (q:Int) (e:Nat) (c:Bool)=>Px (i=[.ref a,.ref b,.int e,.bl c]) (Bf H a f d) (Et H b h q) (e<f.length) (h.length=f.length) (f.length<=8) (Xe d q c) (∀(l:Addr) (g:Hp),H l=none->A7 H g->g l=some (.lst ((Hw f h e c).map V.int))->Q (.ref l) g)
theorem lf{L S:ri}(F:D8 K "left_behind" "left_behind" Ux ad.lD L)(J:Gk P w K mg base 2 ad.qD ["hall","standing","who","lost"] (j9 K) S):B1 P w K mg base (CX1 P w) 3 ad.lD L ["hall","standing","who","lost"] (bd K):=by
 refine F.okN am (λvs H Q E h=>?_) (λaZ A C s H vs Q E hr h=>?_)
 ·rcases h with⟨a,b,G,j,g,n,f,c,rfl,v,z,B,Z,X,M,q⟩<;>rfl
 ·obtain⟨a,b,G,j,g,n,f,c,rfl,v,z,B,Z,X,M,q⟩:=h;refine⟨_,(A3 (Cy (Am J.g (hr.mono (by decide)) rfl T.m_x2 T.k_x2 J.b .nil Az (A0 (pv 0) (A0 (pv 1) (A0 (pv 2) (A0 (pv 3) A4)))))) (A3 (E3 (i:=4) am.nd rfl (C6 (Au (Ay K) (pv 1) A5 (λ_ _=>rfl))) _ rfl J6 rfl rfl (λ_ _ _ _=>(An (i:=0) Ji rfl (Or.inl rfl))) (λ_ _ _ _=>C8) (λ_ _ _ _=>(Ah M5 (pv 0) A5)) rfl rfl) (A3 (De (Df (Bn (pv 3))) (A6 (Z9 (Au (Ay K) (Au (Ay K) (pv 0) A5 (λ_ _=>rfl)) (pv 2) (λ_ _=>rfl)) (Z7 (pv 4) (pv 2) Rh))) Ad) (A6 (Af (pv 4)))))),?_⟩;obtain⟨t,iH,mQ⟩:=id v;obtain⟨u,nB,R⟩:=id z;refine⟨_,rfl,_,rfl,_,rfl,_,rfl,a,b,G,j,g,n,f,c,rfl,v,z,B,M,?_⟩;refine⟨_,rfl,b,_,_,_,rfl,rfl,.inr (Cp.of nB),rfl,u,rfl,.inr ⟨⟨_,Cp.of R⟩,λD o=>?_⟩⟩;refine Xn (K:=K) (a:=u) (xs:=j.map V.int) (λi l d=>l=((j.take i).map (λx=>x-1)).map V.int/\d D=some (.lst l)/\A7 H d) ⟨rfl,A2,A7.upd o⟩ (by rintro i l d _ ⟨_,_,s⟩;exact Cp.of (s _ _ R)) ?_ ?_
  ·rintro i x l d N ⟨rfl,mT,s'⟩ Qe Y;rw[List.getElem?_map]at N;obtain⟨y,O,rfl⟩:=d0.mp N;have hi:=(bt.mp O).1;refine⟨_,rfl,_,_,rfl,rfl,Y _ _ mT (Ap (by simp;omega)) ⟨?_,A2,s'.new o⟩⟩;rw[List.take_add_one,O];simp
  rintro l H2 ⟨rfl,I,p⟩;rw[List.length_map,List.take_length]at I;refine⟨_,rfl,_,rfl,(λm d=>m=[some (.ref a),some (.ref b),some (.int (f:Nat)),some (.bl c),some (.ref D)]/\A7 H d/\d D=some (.lst ((Hw G j f c).map V.int))),λe=>?_,λe=>?_,?_⟩
  ·have r:c=false:=by simpa using e
   subst r;refine⟨_,rfl,a,_,_,_,rfl,rfl,.inr (Cp.of (p _ _ iH)),rfl,_,rfl,t,_,_,_,rfl,rfl,.inr (Cp.of (p _ _ mQ)),ff B,?_⟩;refine⟨_,rfl,_,rfl,D,_,_,_,rfl,rfl,I,Uh (by simp;omega),rfl,p.new o,?_⟩;rw[A2];unfold Hw;simp
  ·have r:c=true:=by simpa using e
   subst r;exact⟨rfl,p,I⟩
  ·rintro m d ⟨rfl,s3,U⟩;exact⟨_,rfl,q D d o s3 U⟩
def jg(K:W.Frag):Sp:=λf H Q _=>re λ(a b:Addr) (g e:qQ) (c:q3) (q:Int) (d:Bool)=>Fl (f=[.ref a,.ref b,.bl d]) (Bf H a g c) (Et H b e q) (Xe c q d) (Q (.int (Mb c q d)) H)
theorem ug{i:ri}(F:D8 K "quiet_behind" "quiet_behind" pd ad.qE i):B1 P w K mg base (CX1 P w) 1 ad.qE i ["hall","standing","lost"] (jg K):=by
 refine F.okN vf (λp H Q E h=>?_) (λv A g s H p Q E x h=>?_)
 ·rcases h with⟨a,b,r,o,d,n,f,rfl,⟨t,j,_⟩,⟨u,l,_⟩,m,q⟩<;>rfl
 ·obtain⟨a,b,r,o,d,n,f,rfl,⟨t,j,_⟩,⟨u,l,_⟩,m,q⟩:=h;refine⟨_,(A3 (Av (Bn (pv 2)) (A6 (Af (Au (Ay K) (pv 0) A5 (λ_ _=>rfl)))) Ad) (A6 (Af (Aj (Vm rfl) (by rfl) T.CO boot_max (A0 (Ah M5 (Au (Ay K) (pv 1) A5 (λ_ _=>rfl)) A5) (A0 A5 A4)))))),?_⟩;refine⟨_,rfl,_,rfl,?_⟩;cases f with
  |true=>
   refine Cn rfl ?_;refine⟨_,rfl,a,_,_,_,rfl,rfl,.inr (Cp.of j),rfl,?_⟩;cases d with
   |none=>exact absurd rfl (m rfl).1
   |some c=>exact q
  |false=>
   refine Bx rfl ?_;refine⟨_,rfl,b,_,_,_,rfl,rfl,.inr (Cp.of l),rfl,_,_,rfl,rfl,_,_,rfl,?_⟩
   have e:(if(0:Int)>n-1 then(0:Int)else n-1)=Mb d n false:=by
    unfold Mb;rw[if_neg Bool.false_ne_true];omega
   show Q (.int (if(0:Int)>n-1 then(0:Int)else n-1)) H;rw[e];exact q
def cu(K:W.Frag):Sp:=λi H Q _=>rf λ(a b:Addr) (f h:qQ) (d:q3) (q:Int) (e:Nat) (c:Bool)=>Py (i=[.ref a,.ref b,.int e,.bl c]) (Bf H a f d) (Et H b h q) (e<f.length) (h.length=f.length) (f.length<=8) (Xe d q c) (((0:Int)∈Hw f h e c->∀g,A7 H g->Q .aX g)) (((0:Int)∉Hw f h e c->∀(p:Addr) (g:Hp),A7 H g->Et g p (Hw f h e c) (Mb d q c)->Q (.ref p) g))
theorem nv{C O R:ri}(F:Q5 K "after" "after" Fh ad.fS C)(N:Gk P w K mg base 3 ad.lD ["hall","standing","who","lost"] (bd K) O)(z:Gk P w K mg base 1 ad.qE ["hall","standing","lost"] (jg K) R):B1 P w K mg base (CX1 P w) 4 ad.fS C ["hall","standing","who","lost"] (cu K):=by
 refine F.okN aw (λX H Q E h=>?_) (λY A x s H X Q E I h=>?_)
 ·rcases h with⟨a,b,m,i,d,n,f,c,rfl,q,r,J,G,D,u,L,M⟩<;>rfl
 ·obtain⟨a,b,m,i,d,n,f,c,rfl,q,r,J,G,D,u,L,M⟩:=h;refine⟨_,(A3 (Ab (i:=4) aw.nd rfl (Or.inl rfl) (Am N.g (I.mono (by decide)) rfl T.OT T.OU N.b .nil Az (A0 (pv 0) (A0 (pv 1) (A0 (pv 2) (A0 (pv 3) A4)))))) (A3 (Av (Aa (Hd K) A5 (pv 4) rfl) (A6 (Af Cd)) Ad) (A6 (Af (Dd (A0 (Bk Gq (by rfl) T.tQ boot_tuple (A0 (pv 4) A4)) (A0 (Am z.g (I.mono (by decide)) rfl T.m_x9 T.k_x9 z.b .nil Az (A0 (pv 0) (A0 (pv 1) (A0 (pv 3) A4)))) A4))))))),?_⟩;refine⟨_,rfl,_,rfl,_,rfl,_,rfl,a,b,m,i,d,n,f,c,rfl,q,r,J,G,D,u,λl B S y g=>?_⟩;refine⟨_,rfl,l,_,rfl,.inl (Ao.of g),rfl,G8 _,_,rfl,?_⟩;rw[Qu];refine D0 (λo=>?_) (λo=>?_)
  ·exact L (by simpa using o) B y
  ·refine⟨_,rfl,l,_,rfl,.inl ⟨Ao.of g,λt U=>?_⟩⟩;have j:A7 H (upd B t (.tup ((Hw m i f c).map V.int))):=y.new (y.free U);refine⟨_,rfl,_,rfl,_,rfl,a,b,m,i,d,n,c,rfl,q.same j,r.same j,u,B7,λp v=>?_⟩;refine M (by simpa using o) p _ (j.new (j.free v)) ⟨t,A2,?_⟩;rw[A9 (λe=>by rw[<- e,A2]at v;cases v),A2]
def bj(K:W.Frag):Sp:=λi H Q _=>rf λ(a b:Addr) (d f:qQ) (g:q3) (q w:Int) (c:Nat)=>Px (i=[.ref a,.ref b,.int w]) (w=(c:Int)) (Bf H a d g) (Et H b f q) (c<d.length) (f.length=d.length) (d.length<=8) (∀(l:Addr) (h:List V) (e:Hp),H l=none->A7 H e->e l=some (.lst h)->Aq (K6 e) (Bs d f g q c) h->Q (.ref l) e)
theorem lm{fd xD rR:ri}(F:D8 K "all_behind" "all_behind" Zu ad.lF fd)(Y:Gk P w K mg base 4 ad.fS ["hall","standing","who","lost"] (cu K) xD)(kH:Di K xD ["hall","standing","who","lost"] [Value.bool false])(mI:Gk P w K mg base 1 ad.iX ["hall","standing"] (Tk K) rR):B1 P w K mg base (CX1 P w) 5 ad.lF fd ["hall","standing","who"] (bj K):=by
 refine F.okN ao (λvs H Q E h=>?_) (λaZ A X s H vs Q E R h=>?_)
 ·rcases h with⟨a,b,i,g,e,n,w0,c,rfl,rfl,D,G,S,N,J,q⟩<;>rfl
 ·obtain⟨a,b,i,g,e,n,w0,c,rfl,rfl,D,G,S,N,J,q⟩:=h;refine⟨_,(A3 (Ab (i:=3) ao.nd rfl (Or.inl rfl) (Bp (A0 (gj (Am Y.g (R.mono (by decide)) rfl T.CD T.tM kH (Pu) Az (A0 (pv 0) (A0 (pv 1) (A0 (pv 2) A4))))) A4))) (A3 (De (Bn (Am mI.g (R.mono (by decide)) rfl T.CB T.CC mI.b .nil Az (A0 (pv 0) (A0 (pv 1) A4)))) (A6 (Cy (Dq PySem.F.plainAttrs_list PySem.F.slot_list_append PySem.F.type_list_append D6 (pv 3) (A0 (gj (Am Y.g (R.mono (by decide)) rfl T.CD T.tM Y.b .nil Az (A0 (pv 0) (A0 (pv 1) (A0 (pv 2) (A0 Gs A4)))))) A4)))) Ad) (A6 (Af (pv 3))))),?_⟩;refine⟨(λv r=>K6 r (iq i g e n c false) v/\A7 H r),⟨_,rfl,_,rfl,_,rfl,a,b,i,g,e,n,c,false,rfl,D,G,S,N,J,(λz=>nomatch z),(λf o d=>⟨by unfold iq;rw[if_pos f];rfl,d⟩),λf p o d U=>⟨by unfold iq;rw[if_neg f];exact⟨p,rfl,U⟩,d⟩⟩,?_⟩;rintro v B ⟨hv,Z⟩;refine⟨B7,λL M=>?_⟩;have d:A7 B (upd B L (.lst [v])):=A7.upd M;have C:(upd B L (.lst [v])) L=some (.lst [v]):=A2;generalize upd B L (.lst [v])=o at d C⊢;have j:=Z.trans d;refine⟨_,rfl,_,rfl,a,b,i,g,e,n,rfl,D.same j,G.same j,_,rfl,(λy m=>∃(I:List V),Iw (y=[some (.ref a),some (.ref b),some (.int c),some (.ref L)]) (m L=some (.lst I)) (Aq (K6 m) (Bs i g e n c) I) (A7 H m)),λO=>?_,λO=>?_,?_⟩
  ·have l:Yt e n=true:=O
   have x:Xe e n true:=λ_=>by
    unfold Yt at l;simp only[Bool.and_eq_true,Bool.not_eq_true',decide_eq_false_iff_not,decide_eq_true_eq]at l;exact l
   refine⟨_,rfl,.inl ⟨rfl,_,Ao.of C⟩,(λv r=>K6 r (iq i g e n c true) v/\A7 o r),⟨_,rfl,_,rfl,_,rfl,a,b,i,g,e,n,c,true,rfl,D.same j,G.same j,S,N,J,x,(λf o d=>⟨by unfold iq;rw[if_pos f];rfl,d⟩),λf p o d U=>⟨by unfold iq;rw[if_neg f];exact⟨p,rfl,U⟩,d⟩⟩,?_⟩;rintro v2 H3 ⟨BS,s3⟩;have e3:=s3 _ _ C;have tt:Ax H3 (upd H3 L (.lst ([v]++[v2]))):=Ax.lst e3;refine⟨L,_,_,rfl,rfl,e3,Ap (by simp),[v]++[v2],rfl,A2,?_,(j.trans s3).new (Z.free M)⟩;unfold Bs;rw[if_pos l];exact Aq.cons (hv.up (((Ax.of d).trans (Ax.of s3)).trans tt)) (Aq.one (BS.up tt))
  ·have l:¬Yt e n=true:=by
    rw[show Yt e n=false from O];exact ft
   refine⟨[v],rfl,C,?_,j⟩;unfold Bs;rw[if_neg l];exact Aq.one (hv.up (Ax.of d))
  rintro y m ⟨I,rfl,eL,u,s'⟩;exact⟨_,rfl,q L I m (Z.free M) s' eL u⟩
def Ti(K:W.Frag):Sp:=λc H Q _=>Mn λ(a:Addr) (d:qQ) (b:q3)=>Fk (c=[.ref a]) (Bf H a d b) (Q (.int (qv b)) H)
theorem kt{f:ri}(F:D8 K "quiet_values" "quiet_values" Zn ad.iY f):B1 P w K mg base (CX1 P w) 1 ad.iY f ["hall"] (Ti K):=by
 refine F.okN pe (λi H Q E h=>?_) (λl A d s H i Q E m h=>?_)
 ·rcases h with⟨a,j,e,rfl,⟨t,b,g⟩,q⟩<;>rfl
 ·obtain⟨a,j,e,rfl,⟨t,b,g⟩,q⟩:=h;refine⟨_,(A6 (Af (Z5 (Aa M4 (Au (Ay K) (pv 0) A5 (λ_ _=>rfl)) Cd (Ac _)) A5 (Ah Cs (Au (Ay K) (pv 0) A5 (λ_ _=>rfl)) A5)))),?_⟩;cases e with
  |none=>exact⟨_,rfl,a,_,_,_,rfl,rfl,.inr (Cp.of b),rfl,rfl,_,rfl,Cn rfl q⟩
  |some c=>exact⟨_,rfl,a,_,_,_,rfl,rfl,.inr (Cp.of b),rfl,rfl,_,rfl,Bx rfl ⟨_,rfl,a,_,_,_,rfl,rfl,.inr (Cp.of b),rfl,_,_,rfl,rfl,q⟩⟩
def ca(K:W.Frag):Sp:=λd H Q _=>Mn λ(a:Addr) (b:qQ) (c:q3)=>Hi (d=[.ref a]) (Bf H a b c) ((∀w∈b,intBits w<=400)) (intBits (qv c)<=400) (b.length<=8) (Q (.int (B0 (qv c) b)) H)
theorem mx{r G:ri}(F:D8 K "how_many" "how_many" aa ad.lG r)(v:Gk P w K mg base 1 ad.iY ["hall"] (Ti K) G):B1 P w K mg base (CX1 P w) 2 ad.lG r ["hall"] (ca K):=by
 refine F.okN Pm (λI H Q E h=>?_) (λJ A o s H I Q E D h=>?_)
 ·rcases h with⟨a,b,c,rfl,⟨t,n,f⟩,l,z,C,q⟩<;>rfl
 ·obtain⟨a,b,c,rfl,⟨t,n,f⟩,l,z,C,q⟩:=h;refine⟨_,(A3 (Ab (i:=1) Pm.nd rfl (Or.inl rfl) (Am v.g (D.mono (by decide)) rfl T.CF T.CG v.b .nil Az (A0 (pv 0) A4))) (A3 (Ce l7 rfl (C6 (Au (Ay K) (pv 0) A5 (λ_ _=>rfl))) (An (i:=2) Pm.nd rfl (Or.inl rfl)) (A6 (Ab (i:=1) Pm.nd rfl (Or.inl rfl) (Ah Ef (pv 1) (pv 2))))) (A6 (Af (pv 1))))),?_⟩;refine⟨_,rfl,a,b,c,rfl,⟨t,n,f⟩,?_⟩;refine⟨_,rfl,a,_,_,_,rfl,rfl,.inr (Cp.of n),rfl,t,rfl,.inr ⟨⟨_,Cp.of f⟩,?_⟩⟩;refine Ud (K:=K) (a:=t) (xs:=b.map V.int) (λi g d=>∃(p:Option V),g=[some (.ref a),some (.int (B0 (qv c) (b.take i))),p]/\d=H) ⟨none,rfl,rfl⟩ (by rintro i g d _ ⟨_,_,e⟩;exact(by rw[e];exact Cp.of f)) ?_ ?_
  ·rintro i y g d u ⟨p,rfl,j⟩;subst j;rw[List.getElem?_map]at u;obtain⟨x,m,rfl⟩:=d0.mp u;have L:=(bt.mp m).1;have B:=Jl z l i (by omega);refine⟨_,rfl,_,rfl,_,_,rfl,rfl,Nv B (l x (cI m)) (by omega),?_⟩;refine⟨some (.int x),?_,rfl⟩;have e:B0 (qv c) (b.take (i+1))=B0 (qv c) (b.take i)*x:=Dx _ _ _ m;rw[e];rfl
  ·rintro g d ⟨p,rfl,j⟩;subst j;rw[List.length_map,List.take_length];exact⟨_,rfl,q⟩
def cb(K:W.Frag):Sp:=λd H Q _=>Js λ(t:Addr) (a:qQ)=>Hi (d=[.ref t]) (H t=some (.tup (a.map V.int))) ((∀w∈a,1<=w)) (B0 1 a<=3000) (a.length<=8) (∀(l:Addr) (c:List V) (b:Hp),H l=none->A7 H b->b l=some (.lst c)->Aq (E9 b) (Bz a) c->Q (.ref l) b)
theorem mz{fd:ri}(F:D8 K "all_left" "all_left" V2 ad.lH fd):B1 P w K mg base (CX1 P w) 1 ad.lH fd ["waits"] (cb K):=by
 refine F.okN Jn (λvs H Q E h=>?_) (λaZ A outer s H vs Q E hr h=>?_)
 ·rcases h with⟨t,c,rfl,ht,Z,hp,pA,q⟩<;>rfl
 ·obtain⟨t,c,rfl,ht,Z,hp,pA,q⟩:=h;refine⟨_,(A3 (Ab (i:=1) Jn.nd rfl (Or.inl rfl) (Bp (A0 (Dd A4) A4))) (A3 (Ce l7 rfl (C6 (pv 0)) (An (i:=2) Jn.nd rfl (Or.inl rfl)) (A3 (Ab (i:=3) Jn.nd rfl (Or.inl rfl) (Bp A4)) (A3 (Ce l7 rfl (C6 (pv 1)) (An (i:=4) Jn.nd rfl (Or.inr rfl)) (A6 (Cy (Dq PySem.F.plainAttrs_list PySem.F.slot_list_extend PySem.F.type_list_extend Nu (pv 3) (A0 (Cj (Wv (by rfl) T.jB (A0 A5 (A0 (Ah Cs (pv 2) A5) A4))) _ rfl Mq rfl rfl (λ_ _ _ _=>(An (i:=0) Mx rfl (Or.inl rfl))) (λ_ _ _ _=>C8) (λ_ _ _ _=>(Ah (gc K) (pv 1) (Dd (A0 (pv 0) A4))))) A4))))) (A6 (Ab (i:=1) Jn.nd rfl (Or.inl rfl) (pv 3)))))) (A6 (Af (pv 1))))),?_⟩;refine⟨B7,λE0 hE0=>⟨B7,λI u=>?_⟩⟩;have s0:A7 H (upd H E0 (.tup [])):=A7.upd hE0;have e0:(upd H E0 (.tup [])) E0=some (.tup (([]:qQ).map V.int)):=A2;generalize upd H E0 (.tup [])=N at s0 e0 u⊢;have s1:A7 N (upd N I (.lst [.ref E0])):=A7.upd u;have e1:(upd N I (.lst [.ref E0])) I=some (.lst [.ref E0]):=A2;have r1:Aq (E9 (upd N I (.lst [.ref E0]))) (Bz (c.take 0)) [.ref E0]:=Aq.one ⟨E0,rfl,s1 _ _ e0⟩;generalize upd N I (.lst [.ref E0])=H1 at s1 e1 r1⊢;have R:=s0.trans s1;refine⟨_,rfl,t,rfl,.inr ⟨⟨_,Cp.of (R _ _ ht)⟩,?_⟩⟩
  refine Ud (K:=K) (a:=t) (xs:=c.map V.int) (λi g a=>jj λ(L:Addr) (G:List V) (v2 v3 M:Option V)=>Fl (g=[some (.ref t),some (.ref L),v2,v3,M]) (a L=some (.lst G)) (A7 H a) (Aq (E9 a) (Bz (c.take i)) G) (H L=none))
   ⟨I,_,none,none,none,rfl,e1,R,r1,s0.free u⟩ (by rintro i g a _ ⟨_,_,_,_,_,_,_,s,_,_⟩;exact Cp.of (s _ _ ht)) ?_ ?_
  ·rintro i y g l Y ⟨L,G,v2,v3,M,rfl,S,s2,o,hL⟩;rw[List.getElem?_map]at Y;obtain⟨w,hw,rfl⟩:=d0.mp Y;have hwi:=Z w (cI hw);have RO:=O0 Z hp i;have uC:=O0 Z hp (i+1);have HP:Bz (c.take (i+1))=Cm (Bz (c.take i)) w:=Dx _ _ _ hw;rw[HP,Mi]at uC;have hiw:=(bt.mp hw).1
   have GY:∀r∈Bz (c.take i),r.length<=8:=λr hr=>by
    have:=(Ig c i (by omega) r hr).1;omega
   generalize Bz (c.take i)=b at o RO uC HP GY;refine⟨B7,λD X=>?_⟩;have s3:A7 l (upd l D (.lst [])):=A7.upd X;have e3:(upd l D (.lst [])) D=some (.lst []):=A2;have f3:=s3 _ _ S;have g3:=o.imp λr v z=>E9.up (Ax.of s3) z;have nDL:L≠D:=Ag S X;generalize upd l D (.lst [])=H3 at s3 e3 f3 g3⊢;refine⟨_,rfl,L,rfl,.inl ⟨⟨_,Ao.of f3⟩,?_⟩⟩
   refine Cc (K:=K) (a:=L) (xs:=G) (λj g a=>Js λ(f:List V) (M:Option V)=>Fl (g=[some (.ref t),some (.ref L),some (.int w),some (.ref D),M]) (a D=some (.lst f)) (a L=some (.lst G)) (A7 l a) (Aq (E9 a) (Cm (b.take j) w) f))
    ⟨[],M,rfl,e3,f3,s3,Aq.nil⟩ (by rintro j g a _ ⟨_,_,_,_,e,_⟩;exact Ao.of e) ?_ ?_
   ·rintro j y g H4 Y ⟨f,v4',rfl,U,h2,s4,O⟩;have g4:=o.imp λr v z=>E9.up (Ax.of s4) z;obtain⟨r,qY,p,rfl,hp4⟩:=g4.get Y;have hj:=(bt.mp qY).1;have hr8:=GY r (cI qY);have ezl:f.length=(b.take j).length*w.toNat:=by rw[O.1,Mi]
    have vH:f.length<=3000:=by
     rw[ezl];refine en (Nat.mul_le_mul_right _ ?_) uC;rw[List.length_take];omega
    have YC:w.toNat<=3000:=en (Nat.le_mul_of_pos_left _ (by omega)) uC;refine⟨_,rfl,.inl ⟨rfl,_,Ao.of U⟩,_,rfl,_,_,rfl,rfl,1,w+1,rfl,by omega,λB hB=>?_⟩;refine Ky (λm d a=>a B=some (.lst d)/\A7 H4 a/\Aq (E9 a) ((List.range m).map λt=>r++[1+((t:Nat):Int)]) d) ⟨A2,A7.upd hB,Aq.nil⟩ ?_ ?_
    ·rintro m d n hm ⟨k1,x,J⟩ Qe hQ;refine⟨_,rfl,_,rfl,B7,λP hP=>?_⟩;have s6:A7 n (upd n P (.tup [.int (1+(m:Int))])):=A7.upd hP;refine⟨p,P,_,_,rfl,rfl,Cp.of (s6 _ _ (x _ _ hp4)),A2,by simp,nX (Ez (by simp;omega)),λp' H6 s7 e7=>?_⟩;generalize upd n P (.tup [.int (1+(m:Int))])=H5' at s6 s7;have C:=s6.trans s7;have DA:=C _ _ k1;have kl:d.length=m:=by rw[J.1];simp
     refine hQ _ _ DA (Ez (by omega)) ⟨A2,(x.trans C).new hB,?_⟩;have tu:Ax n (upd H6 B (.lst (d++[.ref p']))):=(Ax.of C).trans (Ax.lst DA);rw[List.range_succ,List.map_append];refine(J.imp λr v z=>E9.up tu z).append (Aq.one ⟨p',rfl,?_⟩);refine Ax.lst DA _ _ ?_;rw[e7,List.map_append];rfl
    ·rintro d n ⟨k1,x,J⟩
     have eB:((List.range (w+1-1).toNat).map λt=>r++[1+((t:Nat):Int)])=Oz r w:=by
      rw[show w+1-1=w by omega];rfl
     rw[eB]at J;have RP:=x _ _ U;have kl:d.length=w.toNat:=by rw[J.1,R3]
     refine⟨D,B,_,_,rfl,rfl,RP,k1,nX (Ez (by omega)),?_⟩;have tu:Ax n (upd n D (.lst (f++d))):=Ax.lst RP;refine⟨f++d,_,rfl,A2,by rw[A9 nDL];exact x _ _ h2,(s4.trans x).new X,?_⟩;have e:Cm (b.take (j+1)) w=Cm (b.take j) w++Oz r w:=Nm _ _ qY;rw[e];exact(O.imp λr v z=>E9.up ((Ax.of x).trans tu) z).append (J.imp λr v z=>E9.up tu z)
   ·rintro g H4 ⟨f,v4',rfl,U,h2,s4,O⟩;rw[o.1,List.take_length]at O;refine⟨_,rfl,D,f,_,_,_,rfl,U,s2.trans s4,?_,s2.free X⟩;rw[HP];exact O
  ·rintro g l ⟨L,G,v2,v3,M,rfl,S,s2,o,hL⟩;rw[List.length_map,List.take_length]at o;exact⟨_,rfl,q L G l hL s2 S o⟩
def bw(K:W.Frag)(aA aF aG aD aB aE aC aH aI:Addr):Sp:=λg H Q E=>(Mn λ(a:Addr) (b:qQ) (c:q3)=>Py (g=[.ref a]) (Bf H a b c) ((∀w∈b,1<=w)) (1<=qv c) ((∀w∈b,intBits w<=400)) (intBits (qv c)<=400) (b.length<=8) (B0 (qv c) b<=3000) (∀(l:Addr) (f:List V) (d:Hp),H l=none->A7 H d->d l=some (.lst f)->Aq (Ju d) (Ca b (qv c)) f->Q (.ref l) d))\/(Mn λ(a:Addr) (b:qQ) (c:q3)=>Kq (g=[.ref a]) (Bf H a b c) ((∀w∈b,intBits w<=400)) (intBits (qv c)<=400) (b.length<=8) (3000<B0 (qv c) b) (∀e,A7 H e->E (.ref aB) none e))
theorem mj{fd HQ HR rS:ri}(F:D8 K "standings" "standings" V0 ad.lI fd)(uD:Gk P w K mg base 2 ad.lG ["hall"] (ca K) HQ)(uE:Gk P w K mg base 1 ad.lH ["waits"] (cb K) HR)(mJ:Gk P w K mg base 1 ad.iY ["hall"] (Ti K) rS):B1 P w K mg base (CX1 P w) 3 ad.lI fd ["hall"] (bw K aA aF aG aD aB aE aC aH aI):=by
 refine F.qA Te (λvs H Q E h=>?_) (λaZ A outer s H vs Q E hr h=>?_)
 ·rcases h with⟨a,b,c,rfl,⟨t,n,o⟩,C,wY,R,U,G,hp,q⟩|⟨a,b,c,rfl,_,_,_,_,_,_⟩<;>rfl
 ·obtain h:=h;refine⟨_,(A3 (Av (Aa Ee (Am uD.g (hr.mono (by decide)) rfl T.OX T.OY uD.b .nil Az (A0 (pv 0) A4)) (Bv (v:=.int 3000) (by rfl) T.jV.choose_spec ⟨_,rfl⟩) (Ac _)) (A6 (C7 Dg rfl (by rfl) T.oE T.kA (A0 Ae A4))) Ad) (A3 (Ab (i:=1) Te.nd rfl (Or.inl rfl) (Bp A4)) (A3 (Ce Wt rfl (C6 (Am uE.g (hr.mono (by decide)) rfl T.OZ T.PB uE.b .nil Az (A0 (Au (Ay K) (pv 0) A5 (λ_ _=>rfl)) A4))) (An (i:=2) Te.nd rfl (Or.inr rfl)) (A6 (Cy (Dq PySem.F.plainAttrs_list PySem.F.slot_list_extend PySem.F.type_list_extend Nu (pv 1) (A0 (Cj (Jj (by rfl) T.jB (A0 (Am mJ.g (hr.mono (by decide)) rfl T.CF T.CG mJ.b .nil Az (A0 (pv 0) A4)) A4)) _ rfl L6 rfl rfl (λ_ _ _ _=>(An (i:=0) Lx rfl (Or.inl rfl))) (λ_ _ _ _=>C8) (λ_ _ _ _=>(Dd (A0 (pv 1) (A0 (pv 0) A4))))) A4))))) (A6 (Af (pv 1)))))),?_⟩;rcases h with⟨a,b,c,rfl,⟨t,n,o⟩,C,wY,R,U,G,hp,q⟩|⟨a,b,c,rfl,⟨t,n,o⟩,R,U,G,hp,he⟩
  ·have qN:B0 1 b<=3000:=by
    have e:=Sz (qv c) b 1;rw[Int.mul_one]at e;have u:1<=B0 1 b:=Ic b 1 (by decide) C;have O:=Int.mul_le_mul_of_nonneg_right wY (show 0<=B0 1 b by omega);rw[Int.one_mul]at O;omega
   have hq3:qv c<=3000:=oD (Ic b _ (by omega) C) hp;refine⟨_,rfl,a,b,c,rfl,⟨t,n,o⟩,R,U,G,_,_,rfl,rfl,_,rfl,Bx (me (by omega)) ?_⟩;refine⟨B7,λD hD=>?_⟩;have X:A7 H (upd H D (.lst [])):=A7.upd hD;have e1:(upd H D (.lst [])) D=some (.lst []):=A2;generalize upd H D (.lst [])=H1 at X e1⊢;refine⟨_,rfl,a,_,_,_,rfl,rfl,.inr (Cp.of (X _ _ n)),rfl,t,b,rfl,X _ _ o,C,qN,G,λL us H2 hL s2 f1 f2=>⟨L,rfl,.inl ⟨⟨_,Ao.of f1⟩,?_⟩⟩⟩;have HH:=X.trans s2;have e2:=s2 _ _ e1;have nDL:L≠D:=(Ag e1 hL).symm
   refine Cc (K:=K) (a:=L) (xs:=us) (λj Y d=>Js λ(l:List V) (v2:Option V)=>Hi (Y=[some (.ref a),some (.ref D),v2]) (d D=some (.lst l)) (d L=some (.lst us)) (A7 H d) (Ax H2 d) (Aq (Ju d) (((Bz b).take j).flatMap λr=>F0 r (qv c)) l))
    ⟨[],none,rfl,e2,f1,HH,Ax.of (A7.refl _),Aq.nil⟩ (by rintro j Y d _ ⟨_,_,_,_,e,_⟩;exact Ao.of e) ?_ ?_
   ·rintro j y Y Z hy ⟨l,v2,rfl,u,O,I,t4,x⟩;have g4:=f2.imp λr v z=>E9.up t4 z;obtain⟨r,qY,p,rfl,hp4⟩:=g4.get hy;have hj:=(bt.mp qY).1
    have vH:l.length<=3000:=by
     have e:=O4 (ws:=b) (q:=qv c) C (by omega);rw[x.1]
     have e2:Ca b (qv c)=(((Bz b).take j).flatMap λr=>F0 r (qv c))++(((Bz b).drop j).flatMap λr=>F0 r (qv c)):=by
      rw[<- List.flatMap_append,List.take_append_drop];rfl
     rw[e2,List.length_append]at e;omega
    refine⟨_,rfl,.inl ⟨rfl,_,Ao.of u⟩,_,rfl,a,b,c,rfl,⟨t,I _ _ n,I _ _ o⟩,qv c,rfl,by omega,by omega,λB hB=>?_⟩;refine Ky (λm f d=>d B=some (.lst f)/\A7 Z d/\Aq (Ju d) ((List.range m).map λk=>(r,0+((k:Nat):Int))) f) ⟨A2,A7.upd hB,Aq.nil⟩ ?_ ?_
    ·rintro m f g hm ⟨k1,i,S⟩ Qe hQ;refine⟨_,rfl,_,rfl,B7,λP hP=>?_⟩;have J:A7 g (upd g P (.tup [.ref p,.int (0+(m:Int))])):=A7.upd hP;have e6:(upd g P (.tup [.ref p,.int (0+(m:Int))])) P=some (.tup [.ref p,.int (0+(m:Int))]):=A2;generalize upd g P (.tup [.ref p,.int (0+(m:Int))])=H6 at J e6;have N:=J _ _ k1;have kl:f.length=m:=by rw[S.1];simp
     refine hQ _ _ N (Ez (by omega)) ⟨A2,(i.trans J).new hB,?_⟩;have M:Ax g (upd H6 B (.lst (f++[.ref P]))):=(Ax.of J).trans (Ax.lst N);rw[List.range_succ,List.map_append];refine(S.imp λr v z=>Ju.up M z).append (Aq.one ⟨P,p,rfl,?_,?_⟩)
     ·exact Ax.lst N _ _ e6
     ·exact Ax.lst N _ _ (J _ _ (i _ _ hp4))
    ·rintro f g ⟨k1,i,S⟩;have RP:=i _ _ u;have k3:Aq (Ju g) (F0 r (qv c)) f:=S;have kl:f.length=(qv c).toNat:=by rw[k3.1,O7]
     refine⟨D,B,_,_,rfl,rfl,RP,k1,nX (Ez (by omega)),?_⟩;have M:Ax g (upd g D (.lst (l++f))):=Ax.lst RP;refine⟨l++f,_,rfl,A2,by rw[A9 nDL];exact i _ _ O,(I.trans i).new hD,(t4.trans (Ax.of i)).trans M,?_⟩;have e:(((Bz b).take (j+1)).flatMap λr=>F0 r (qv c))=(((Bz b).take j).flatMap λr=>F0 r (qv c))++F0 r (qv c):=Nm _ _ qY;rw[e];exact(x.imp λr v z=>Ju.up ((Ax.of i).trans M) z).append (k3.imp λr v z=>Ju.up M z)
   ·rintro Y Z ⟨l,v2,rfl,u,O,I,t4,x⟩;rw[f2.1,List.take_length]at x;exact⟨_,rfl,q D l Z hD I u x⟩
  ·refine⟨_,rfl,a,b,c,rfl,⟨t,n,o⟩,R,U,G,_,_,rfl,rfl,_,rfl,Cn (decide_eq_true (by omega)) ⟨Co,he⟩⟩
def ja(K:W.Frag)(aA aF aG aD aB aE aC aH aI:Addr):Sp:=λh H Q E=>(Mn λ(a:Addr) (d:qQ) (e:q3)=>Py (h=[.ref a]) (Bf H a d e) ((∀w∈d,1<=w)) (1<=qv e) ((∀w∈d,intBits w<=400)) (intBits (qv e)<=400) (d.length<=8) (B0 (qv e) d<=3000) (∀(D:Addr) (b:qs) (f:Hp),H D=none->A7 H f->f D=some (.dT b)->Ck d e f b->b.map (·.1)=Ca d (qv e)->Ks d e f b->(∀i∈b,∀c,i.2=.ref c->H c=none)->b.length<=3000->Q (.ref D) f))\/(Mn λ(a:Addr) (d:qQ) (e:q3)=>Kq (h=[.ref a]) (Bf H a d e) ((∀w∈d,intBits w<=400)) (intBits (qv e)<=400) (d.length<=8) (3000<B0 (qv e) d) (∀g,A7 H g->E (.ref aB) none g))
theorem u8{fd HS HU:ri}(F:D8 K "calls_by_standing" "calls_by_standing" ox ad.qF fd)(uF:Gk P w K mg base 3 ad.lI ["hall"] (bw K aA aF aG aD aB aE aC aH aI) HS)(uG:Gk P w K mg base 5 ad.lF ["hall","standing","who"] (bj K) HU):B1 P w K mg base (CX1 P w) 6 ad.qF fd ["hall"] (ja K aA aF aG aD aB aE aC aH aI):=by
 refine F.qA O3 (λvs H Q E h=>?_) (λaZ A outer s H vs Q E hr h=>?_)
 ·rcases h with⟨a,m,g,rfl,X,mW,wY,nB,jQ,CZ,hp,q⟩|⟨a,m,g,rfl,_,_,_,_,_,_⟩<;>rfl
 ·obtain h:=h;refine⟨_,(A3 (Ab (i:=1) O3.nd rfl (Or.inl rfl) Ib) (A3 (Ce Wt rfl (C6 (Cu uF.g (hr.mono (by decide)) rfl T.PD T.PF uF.b .nil Ey (A0 (pv 0) A4))) (An (i:=2) O3.nd rfl (Or.inl rfl)) (A3 (Ab (i:=3) O3.nd rfl (Or.inl rfl) Z3) (A3 (Ce Wt rfl (Jj (by rfl) T.jB (A0 (Aj (C1 K) (by rfl) T.cB PySem.boot_len (A0 (Au (Ay K) (pv 0) A5 (λ_ _=>rfl)) A4)) A4)) (An (i:=4) O3.nd rfl (Or.inl rfl)) (A3 (Ab (i:=5) O3.nd rfl (Or.inl rfl) (Am uG.g (hr.mono (by decide)) rfl T.OV T.OW uG.b .nil Az (A0 (pv 0) (A0 (pv 2) (A0 (pv 4) A4))))) (A6 (De (Aa (Wr K hr) Cd (pv 5) rfl) (A6 (Pf (Ot hr) (pv 3) (pv 4) (pv 5) rfl)) Ad)))) (A6 (Pf (Ot hr) (pv 1) (pv 2) (pv 3) rfl))))) (A6 (Af (pv 1))))),?_⟩;rcases h with⟨a,m,g,rfl,X,mW,wY,nB,jQ,CZ,hp,q⟩|⟨a,m,g,rfl,X,I,rT,pA,hp,he⟩
  ·refine λD hD=>?_;have M:A7 H (upd H D (.dT [])):=A7.upd hD;have C:(upd H D (.dT [])) D=some (.dT []):=A2;generalize upd H D (.dT [])=H1 at M C⊢;refine⟨_,rfl,E,λ_ _ _ z=>z,.inl ⟨a,m,g,rfl,X.same M,mW,wY,nB,jQ,CZ,hp,λl us H2 hl s2 el HV=>⟨l,rfl,.inl ⟨⟨_,Ao.of el⟩,?_⟩⟩⟩⟩
   have hlen:us.length<=3000:=by
    have h1:=HV.1;have h2:=O4 mW (show 0<=qv g by omega);omega
   have fH:=M.trans s2;have eD2:=s2 _ _ C
   refine Cc (K:=K) (a:=l) (xs:=us) (λi G r=>jj λ(b:qs) (v2 v3 N O:Option V)=>Py (G=[some (.ref a),some (.ref D),v2,v3,N,O]) (A7 H r) (LT H2 r) (r D=some (.dT b)) (Ck m g r b) ((∀B∈b,∀c,B.2=.ref c->H c=none)) (b.length<=i) (b.map (·.1)=(Ca m (qv g)).take i) (Ks m g r b))
    ⟨[],_,_,_,_,rfl,fH,⟨λ_ _ z=>z,λ_ _ z=>z⟩,eD2,⟨(λB z=>by cases z),List.Pairwise.nil,List.Pairwise.nil⟩,(λB z=>by cases z),dr _,rfl,(λB z=>by cases z)⟩ (by rintro i G r _ ⟨_,_,_,_,_,_,_,t,_⟩;exact Ao.of (t.1 _ _ el)) ?_ ?_
   ·rintro i u G r hu ⟨b,v2,v3,N,O,rfl,s',t',mT,Z,pM,wV,Y,xE⟩;have hi:=(bt.mp hu).1;obtain⟨z,hz,p,w,rfl,hz1,hz2⟩:=HV.get hu;obtain⟨m1,m2,m3,m4⟩:=X2 (cI hz);have RQ:Et r p z.1 z.2:=⟨w,t'.2 _ _ hz1,t'.2 _ _ hz2⟩;refine λc hc=>?_;have s3:A7 r (upd r c (.dK [])):=A7.upd hc;have e3:(upd r c (.dK [])) c=some (.dK []):=A2;generalize upd r c (.dK [])=H3 at s3 e3⊢;have YB:=s'.trans s3;obtain⟨wt,iH,mQ⟩:=id (X.same YB);refine⟨_,rfl,a,_,_,_,rfl,rfl,.inr (Cp.of iH),rfl,wt,_,rfl,.inr (Cp.of mQ),_,rfl,by omega,by rw[List.length_map];omega,?_⟩
    refine No (n:=(m.map V.int).length) (λj G n=>Mn λ(o:List (Dw×V)) (N O:Option V)=>Hi (G=[some (.ref a),some (.ref D),some (.ref p),some (.ref c),N,O]) (A7 r n) (n c=some (.dK o)) (Fm m g z n o) (o.length<=j) (∀f:Nat,f<j->none∉Bs m z.1 g z.2 f->(Ar o (.inl (f:Int))).isSome=true))
     ⟨[],_,_,rfl,s3,e3,(λe z=>by cases z),dr _,(λf z=>absurd z (nP _))⟩ ?_ ?_
    ·rintro j G n hj ⟨o,N,O,rfl,x,YD,wH,nZ,YE⟩;rw[List.length_map]at hj;have HW:=s'.trans x;refine⟨_,rfl,_,rfl,_,rfl,a,p,m,z.1,g,z.2,_,j,rfl,by omega,X.same HW,RQ.same x,hj,m1,CZ,λL pN H5 hL s5 eL zt=>?_⟩;refine⟨_,rfl,L,pN,.none,(Bs m z.1 g z.2 j).map jr,rfl,Ao.of eL,Zk,O1 zt,by decide,_,rfl,_,λI=>?_,λI=>?_,λ_ _ z=>z⟩
     ·rw[if_pos rfl,Od]at I;have gN:none∉Bs m z.1 g z.2 j:=by simpa using I
      have R:=s5 _ _ YD;refine⟨_,rfl,_,rfl,_,rfl,c,_,rfl,.inl ⟨o,.inl (j:Int),R,congrArg V.int (Int.zero_add _),Ap (by omega),rfl⟩,?_⟩;have t6:LT H5 (upd H5 c (.dK (Cf o (.inl (j:Int)) (.ref L)))):=LT.dK R;refine⟨Cf o (.inl (j:Int)) (.ref L),_,_,rfl,(x.trans s5).new hc,A2,?_,en (Dn _ _ _) (by omega),λf hwho J=>Se ?_⟩
      ·have hold:Fm m g z (upd H5 c (.dK (Cf o (.inl (j:Int)) (.ref L)))) o:=wH.up ((LT.of s5).trans t6);intro e he;rcases Ze he with y|y
       ·exact hold e y
       ·subst y;exact⟨j,L,pN,rfl,hj,gN,rfl,t6.1 _ _ eL,zt.imp λ_ _ y=>K6.up t6.2 y⟩
      ·rcases iv f j with y|y
       ·exact .inl (YE f y J)
       ·have e:f=j:=by omega
        rw[e];exact .inr rfl
     ·rw[if_pos rfl,Od]at I;have hyes:none∈Bs m z.1 g z.2 j:=by simpa using I
      refine⟨o,_,_,rfl,x.trans s5,s5 _ _ YD,wH.up (LT.of s5),by omega,λf hwho J=>?_⟩;rcases iv f j with y|y
      ·exact YE f y J
      ·have e:f=j:=by omega
       rw[e]at J;exact absurd hyes J
    rintro G n ⟨o,N,O,rfl,x,YD,wH,nZ,YE⟩;rw[List.length_map]at nZ;have LX:=x _ _ mT;refine⟨_,rfl,_,rfl,_,rfl,D,_,rfl,Vc.t LX (show Jt n p z from RQ.same x) (D4 (by omega)),?_⟩;have t5:LT n (upd n D (.dT (Cf b z (.ref c)))):=LT.dT LX
    have k5:∀S oZ,n S=some (.dK oZ)->(upd n D (.dT (Cf b z (.ref c)))) S=some (.dK oZ):=λS oZ e=>by
     rw[A9 (Bj e LX (by intro z;cases z))];exact e
    have s05:=s'.trans x
    have hnz:Ar b z=none:=by
     cases hv:Ar b z with
     |none=>rfl
     |some v=>
      have:=List.mem_map_of_mem (f:=(·.1)) (B3 hv);rw[Y]at this;exact absurd this (Nx (K4 _ _) hz)
    have ep:Cf b z (.ref c)=b++[(z,.ref c)]:=Ie _ hnz;have rV:Ck m g (upd n D (.dT (Cf b z (.ref c)))) b:=(Z.keep (LT.of x) (λc o e=>x _ _ e)).keep t5 k5;have HY:Ks m g (upd n D (.dT (Cf b z (.ref c)))) b:=(xE.keep Z (λc o e=>x _ _ e)).keep (Z.keep (LT.of x) (λc o e=>x _ _ e)) k5;have R:=k5 _ _ YD;have HZ:=wH.up t5;have sN:A7 H (upd n D (.dT (Cf b z (.ref c)))):=s05.new hD;have tN:LT H2 (upd n D (.dT (Cf b z (.ref c)))):=(t'.trans (LT.of x)).trans t5;have eN:(upd n D (.dT (Cf b z (.ref c)))) D=some (.dT (Cf b z (.ref c))):=A2;rw[ep]at rV HY R HZ sN tN eN⊢;generalize upd n D (.dT (b++[(z,.ref c)]))=H6 at rV HY R HZ sN tN eN⊢
    have hnew:∀B∈b,B.2≠ .ref c:=λB bO e=>by
     obtain⟨d,ds,C,U,_⟩:=Z.1 B bO;rw[e]at C;cases C;rw[hc]at U;cases U
    refine⟨b++[(z,.ref c)],_,_,_,_,rfl,sN,tN,eN,⟨Lq rV.1 ⟨c,o,rfl,R,by omega,HZ⟩,?_,?_⟩,Lq pM (λS e=>by cases e;exact s'.free hc),by rw[List.length_append,List.length_singleton];omega,?_,?_⟩
    ·rw[List.map_append];refine Ec rV.2.1 (λy=>?_);rw[Y]at y;exact Nx (K4 _ _) hz y
    ·rw[List.map_append];refine Ec rV.2.2 (λy=>?_);obtain⟨B,bO,e⟩:=fe.mp y;exact hnew B bO e
    ·rw[List.map_append,Y,List.take_add_one,hz];rfl
    ·intro B bO S oZ C U;rcases fy.mp bO with y|y
     ·exact HY B y S oZ C U
     ·cases i0.mp y;cases C;rw[R]at U;cases U;exact λf hw J=>YE f (by rw[List.length_map];exact hw) J
   rintro G r ⟨b,v2,v3,N,O,rfl,s',t',mT,Z,pM,wV,Y,xE⟩;rw[HV.1,List.take_length]at Y;exact⟨_,rfl,q D b r hD s' mT Z Y xE pM (by omega)⟩
  ·refine λD hD=>?_;have M:A7 H (upd H D (.dT [])):=A7.upd hD;generalize upd H D (.dT [])=H1 at M⊢;exact⟨_,rfl,E,λ_ _ _ z=>z,.inr ⟨a,m,g,rfl,X.same M,I,rT,pA,hp,λH2 s2=>he H2 (M.trans s2)⟩⟩
def ck(K:PySem.W.Frag):Sp:=λh H Q _=>di λ(D:Addr) (a:qs) (g:qQ) (f:q3)=>Fl (h=[.ref D]) (H D=some (.dT a)) (Ck g f H a) (a.length<=3000) (∀(W:Addr) (e:qs) (d:Hp),H W=none->A7 H d->d W=some (.dT e)->Eu g f H a 48000 d e->(∀k c b,Al H a k c->some b∈Bs g k.1 f k.2 c->C9 d e b k c)->e.length<=48000->Q (.ref W) d)
theorem nk{fd:ri}(F:D8 K "ways_to" "ways_to" ah ad.lJ fd):B1 P w K mg base (CX1 P w) 1 ad.lJ fd ["pending"] (ck K):=by
 refine F.okN Hh (λvs H Q E h=>?_) (λaZ A outer s H vs Q E hr h=>?_)
 ·rcases h with⟨D,f,R,O,rfl,hD,qT,wV,q⟩<;>rfl
 ·obtain⟨D,f,R,O,rfl,hD,qT,wV,q⟩:=h;refine⟨_,(A3 (Ab (i:=1) Hh.nd rfl (Or.inl rfl) Ib) (A3 (Pg (Ce l7 rfl (M8 (pv 0)) (Gb K (n:=2) rfl (Cl (An (i:=2) Hh.nd rfl (Or.inl rfl)) (Cl (An (i:=3) Hh.nd rfl (Or.inl rfl)) Gc))) (A6 (Pg (Ce l7 rfl (M8 (pv 3)) (Gb K (n:=2) rfl (Cl (An (i:=4) Hh.nd rfl (Or.inl rfl)) (Cl (An (i:=5) Hh.nd rfl (Or.inl rfl)) Gc))) (A6 (Ce l7 rfl (C6 (pv 5)) (An (i:=6) Hh.nd rfl (Or.inl rfl)) (A6 (Cy (Dq PySem.F.plainAttrs_list PySem.F.slot_list_append PySem.F.type_list_append D6 (gj (gl (Ot hr) (pv 1) (pv 6) (Bp A4) ⟨rfl,rfl,rfl,rfl⟩)) (A0 (Dd (A0 (pv 2) (A0 (pv 4) A4))) A4))))))))))) (A6 (Af (pv 1))))),?_⟩;have qZ:=qT.ok;refine λW hW=>?_;have s1:A7 H (upd H W (.dT [])):=A7.upd hW;have e1:(upd H W (.dT [])) W=some (.dT []):=A2;generalize upd H W (.dT [])=H1 at s1 e1⊢;have iB:=s1 _ _ hD;have hWD:W≠D:=(Ag hD hW).symm;refine⟨D,.dT f,trivial,iB,_,rfl,D,.dT f,rfl,trivial,iB,λo=>?_⟩
  refine Nn (d:=D) (o:=o) (u:=.dT f) (λi Z U=>rb λ(C:qs) (v2 v3 v4 v5 v6:Option V)=>Kq (Z=[some (.ref D),some (.ref W),v2,v3,v4,v5,v6]) (U D=some (.fA o (.dT f))) ((∀b p,b≠D->H b=some p->U b=some p)) (U W=some (.dT C)) (Eu R O H f (16*i) U C) (C.length<=16*i) (∀k d a,(∃v,(k,v)∈f.take i)->Al H f k d->some a∈Bs R k.1 O k.2 d->C9 U C a k d))
   ⟨[],_,_,_,_,_,rfl,A2,(λb p n e=>(A9 n).trans (s1 _ _ e)),(A9 hWD).trans e1,⟨(λkv z=>by cases z),List.Pairwise.nil⟩,ml _,(λk d a z=>by obtain⟨v,z⟩:=z;rw[List.take_zero]at z;cases z)⟩ (by rintro i Z U _ ⟨_,_,_,_,_,_,_,e,_⟩;exact e) ?_ ?_
  ·rintro i x y T Z U hi hit ⟨C,v2,v3,v4,v5,v6,rfl,mT,k',LY,AF,pL,BR⟩ hT;have hi3:i<3000:=fx hi wV;obtain⟨I,bb,bO,rfl,hkk⟩:=hit;have mO:(I,y)∈f:=cI bO;obtain⟨kw,hkw⟩:=K5 mO;obtain⟨c,S,ey,hc,nZ,wH⟩:=qT.1 _ mO;have NA:y=.ref c:=ey;subst NA;have s2:A7 U (upd U T (.tup [.ref bb,.ref c])):=A7.upd hT;have e2:(upd U T (.tup [.ref bb,.ref c])) T=some (.tup [.ref bb,.ref c]):=A2;generalize upd U T (.tup [.ref bb,.ref c])=H2 at s2 e2⊢;refine⟨T,_,rfl,Cp.of e2,rfl,_,_,rfl,_,_,rfl,rfl,?_⟩;have MN:c≠D:=Bj hc hD (by intro z;cases z);have hcW:c≠W:=Ag hc hW;have tH:=s2 _ _ (k' c _ MN hc);refine⟨c,.dK S,trivial,tH,_,rfl,c,.dK S,rfl,trivial,tH,λo2=>?_⟩;have t2c:LT H2 (upd H2 c (.fA o2 (.dK S))):=LT.dK tH
   refine Nn (d:=c) (o:=o2) (u:=.dK S) (λj Z M=>di λ(C:qs) (v4 v5 v6:Option V)=>Pw (Z=[some (.ref D),some (.ref W),some (.ref bb),some (.ref c),v4,v5,v6]) (M c=some (.fA o2 (.dK S))) (M D=some (.fA o (.dT f))) ((∀b p,b≠D->b≠c->H b=some p->M b=some p)) (Ax H2 M) (M W=some (.dT C)) (Eu R O H f (16*i+2*j) M C) (C.length<=16*i+2*j) ((∀k d a,(∃v,(k,v)∈f.take i)->Al H f k d->some a∈Bs R k.1 O k.2 d->C9 M C a k d)) (∀d a,(∃e∈S.take j,e.1=.inl ((d:Nat):Int))->some a∈Bs R I.1 O I.2 d->C9 M C a I d))
    ⟨C,_,_,_,rfl,A2,(A9 MN.symm).trans (s2 _ _ mT),(λb p n1 n2 e=>(A9 n2).trans (s2 _ _ (k' b p n1 e))),t2c.2,(A9 hcW.symm).trans (s2 _ _ LY),AF.up ((LT.of s2).trans t2c) (by omega),by omega,(λk d a B g Y=>(BR k d a B g Y).up ((LT.of s2).trans t2c)),(λd a z=>by obtain⟨e,z,_⟩:=z;rw[List.take_zero]at z;cases z)⟩ (by rintro j Z M _ ⟨_,_,_,_,_,e,_⟩;exact e) ?_ ?_
   ·rintro j x2 y2 T2 Z M hj hit2 ⟨wv3,v4,v5,v6,rfl,RS,vJ,k3,t3,hW3,IA,RT,hs3,IB⟩ HA;have hj8:j<8:=fx hj nZ;obtain⟨kk2,RU,rfl⟩:=hit2;obtain⟨L,l,pN,ei,wX,hno2,el,hl,IC⟩:=wH _ (cI RU)
    have LL:pN.length<=2:=by
     rw[IC.1];unfold Bs;split<;>simp
    have ei':kk2=.inl (L:Int):=ei;subst ei';have el':y2=.ref l:=el;subst el';have s4:A7 M (upd M T2 (.tup [kV (.inl (L:Int)),.ref l])):=A7.upd HA;have e4:(upd M T2 (.tup [kV (.inl (L:Int)),.ref l])) T2=some (.tup [kV (.inl (L:Int)),.ref l]):=A2;generalize upd M T2 (.tup [kV (.inl (L:Int)),.ref l])=H4 at s4 e4⊢;refine⟨T2,_,rfl,Cp.of e4,rfl,_,_,rfl,_,_,rfl,rfl,?_⟩;have hlD:l≠D:=Bj hl hD (by intro z;cases z);have hlc:l≠c:=Bj hl hc (by intro z;cases z);refine⟨_,rfl,l,rfl,.inl ⟨⟨_,Ao.of (s4 _ _ (k3 l _ hlD hlc hl))⟩,?_⟩⟩
    refine Cc (K:=K) (a:=l) (xs:=pN) (λm Z G=>Js λ(C:qs) (v6:Option V)=>Tx (Z=[some (.ref D),some (.ref W),some (.ref bb),some (.ref c),some (kV (.inl (L:Int))),some (.ref l),v6]) (G c=some (.fA o2 (.dK S))) (G D=some (.fA o (.dT f))) ((∀b p,b≠D->b≠c->H b=some p->G b=some p)) (Ax H2 G) (G W=some (.dT C)) (Eu R O H f (16*i+2*j+m) G C) (C.length<=16*i+2*j+m) ((∀k d a,(∃v,(k,v)∈f.take i)->Al H f k d->some a∈Bs R k.1 O k.2 d->C9 G C a k d)) ((∀d a,(∃e∈S.take j,e.1=.inl ((d:Nat):Int))->some a∈Bs R I.1 O I.2 d->C9 G C a I d)) (∀a,some a∈(Bs R I.1 O I.2 L).take m->C9 G C a I L))
     ⟨wv3,_,rfl,s4 _ _ RS,s4 _ _ vJ,(λb p n1 n2 e=>s4 _ _ (k3 b p n1 n2 e)),t3.trans (Ax.of s4),s4 _ _ hW3,IA.up (LT.of s4) (dr _),RT,(λk d a B g Y=>(hs3 k d a B g Y).up (LT.of s4)),(λd a B g=>(IB d a B g).up (LT.of s4)),(λa z=>by rw[List.take_zero]at z;cases z)⟩ (by rintro m Z G _ ⟨_,_,_,_,_,k5,_⟩;exact Ao.of (k5 l _ hlD hlc hl)) ?_ ?_
    ·rintro m u Z G hu ⟨IE,v6,rfl,vI,RV,k5,t5,YF,rX,hwl5,YG,AG,AH⟩;have hm2:m<2:=fx (bt.mp hu).1 LL;obtain⟨r0,hr0,qY⟩:=IC.get hu
     obtain⟨lk,er⟩:∃lk,r0=some lk:=by
      cases r0 with
      |none=>exact absurd (cI hr0) hno2
      |some r=>exact⟨r,rfl⟩
     subst er;obtain⟨lb,rfl,AI⟩:=qY;have hlk:Jt H lb lk:=AI;have tH5:Ax H G:=λb xs e=>k5 b _ (Bj e hD (by intro z;cases z)) (Bj e hc (by intro z;cases z)) e;have hlk5:=hlk.up tH5
     have RX:∀E,G E=none->H E=none:=λE hE=>by
      cases hHE:H E with
      |none=>rfl
      |some p=>
       by_cases B:E=D
       ·rw[B,RV]at hE;cases hE
       by_cases g:E=c
       ·rw[g,vI]at hE;cases hE
       rw[k5 E p B g hHE]at hE;cases hE
     refine⟨(λv N=>Mn λ(AJ:qs) (X:Addr) (IG:List V)=>ig (v=.ref X) (Ar AJ lk=some (.ref X)) (H X=none) (N X=some (.lst IG)) (IG.length<=16*i+2*j+m) ((∀u∈IG,Oc R O f N lk u)) (N c=some (.fA o2 (.dK S))) (N D=some (.fA o (.dT f))) ((∀b p,b≠D->b≠c->H b=some p->N b=some p)) (Ax G N) (N W=some (.dT AJ)) (Eu R O H f (16*i+2*j+m) N AJ) (AJ.length<=16*i+2*j+m+1) ((∀k d a,(∃v,(k,v)∈f.take i)->Al H f k d->some a∈Bs R k.1 O k.2 d->C9 N AJ a k d)) ((∀d a,(∃e∈S.take j,e.1=.inl ((d:Nat):Int))->some a∈Bs R I.1 O I.2 d->C9 N AJ a I d)) ((∀a,some a∈(Bs R I.1 O I.2 L).take m->C9 N AJ a I L))),⟨_,rfl,W,rfl,.inr ⟨IE,.inl YF⟩,_,rfl,B7,λE hE=>?_⟩,?_⟩
     ·have J:A7 G (upd G E (.lst [])):=A7.upd hE;have e6:(upd G E (.lst [])) E=some (.lst []):=A2;generalize upd G E (.lst [])=H6 at J e6⊢;have hW6:=J _ _ YF;refine⟨IE,lk,lb,rfl,hlk5.up (Ax.of J),hW6,D4 (by omega),λv hv=>?_,λhv=>?_⟩
      ·obtain⟨X,IG,e7,h0,h1,h2,h3⟩:=rX.1 _ (B3 hv);have e7':v=.ref X:=e7;exact⟨IE,X,IG,e7,by rw[hv,e7'],h0,J _ _ h1,h2,(λu hu=>(h3 u hu).up (Ax.of J)),J _ _ vI,J _ _ RV,(λb p n1 n2 e=>J _ _ (k5 b p n1 n2 e)),Ax.of J,hW6,rX.up (LT.of J) (dr _),by omega,(λk d a B g Y=>(YG k d a B g Y).up (LT.of J)),(λd a B g=>(AG d a B g).up (LT.of J)),(λa z=>(AH a z).up (LT.of J))⟩
      ·have t7:LT H6 (upd H6 W (.dT (Cf IE lk (.ref E)))):=LT.dT hW6;have nE:=RX E hE;have YH:=(LT.of J).trans t7;refine⟨Cf IE lk (.ref E),E,[],rfl,by rw[Iu,if_pos rfl],nE,t7.1 _ _ e6,ml _,(λu hu=>by cases hu),(A9 hcW).trans (J _ _ vI),(A9 hWD.symm).trans (J _ _ RV),(λb p n1 n2 e=>(A9 (Ag e hW)).trans (J _ _ (k5 b p n1 n2 e))),(Ax.of J).trans t7.2,A2,?_,en (Dn _ _ _) (by omega),(λk d a B g Y=>((YG k d a B g Y).up YH).put hv),(λd a B g=>((AG d a B g).up YH).put hv),(λa z=>((AH a z).up YH).put hv)⟩;refine⟨λkv bO=>?_,?_⟩
       ·rcases Ze bO with y|y
        ·exact(rX.up YH (dr _)).1 kv y
        ·subst y;exact⟨E,[],rfl,nE,t7.1 _ _ e6,ml _,λu hu=>by cases hu⟩
       ·rw[Ie _ hv,List.map_append];refine Ec rX.2 (λy=>?_);obtain⟨kv,bO,e⟩:=fe.mp y;obtain⟨l9,us9,e9,_,h9,_⟩:=rX.1 kv bO;have e':kv.2=.ref E:=e;rw[e']at e9;cases e9;rw[hE]at h9;cases h9
     rintro v N ⟨AJ,X,IG,rfl,hv7,n7,hl7,hul7,RY,hc7,hD7,k7,t7,hW7,hwo7,hwl7,hs7,hs72,hs73⟩;refine⟨.inl ⟨rfl,_,Ao.of hl7⟩,_,rfl,_,rfl,B7,λT3 AA=>?_⟩;have s8:A7 N (upd N T3 (.tup [.ref bb,kV (.inl (L:Int))])):=A7.upd AA;have e8:(upd N T3 (.tup [.ref bb,kV (.inl (L:Int))])) T3=some (.tup [.ref bb,kV (.inl (L:Int))]):=A2;generalize upd N T3 (.tup [.ref bb,kV (.inl (L:Int))])=H8 at s8 e8⊢;have pA:=s8 _ _ hl7;refine⟨X,_,_,rfl,rfl,pA,D4 (by omega),?_⟩;have hl7D:X≠D:=(Ag hD n7).symm;have hl7c:X≠c:=(Ag hc n7).symm;have hl7W:X≠W:=Bj hl7 hW7 (by intro z;cases z);have RZ:Jt H8 bb I:=(((hkk.up (Ax.of s2)).up t5).up t7).up (Ax.of s8);have hway:Oc R O f H8 lk (.ref T3):=⟨T3,bb,L,I,rfl,e8,RZ,⟨kw,hkw⟩,cI hr0⟩;refine⟨AJ,_,rfl,(A9 hl7c.symm).trans (s8 _ _ hc7),(A9 hl7D.symm).trans (s8 _ _ hD7),(λb p n1 n2 e=>(A9 (Ag e n7)).trans (s8 _ _ (k7 b p n1 n2 e))),((t5.trans t7).trans (Ax.of s8)).trans (Ax.lst pA),(A9 hl7W.symm).trans (s8 _ _ hW7),?_,by omega,(λk d a B g Y=>((hs7 k d a B g Y).up (LT.of s8)).app pA),(λd a B g=>((hs72 d a B g).up (LT.of s8)).app pA),(λa z=>?_)⟩
     ·exact Eu.app (hwo7.up (LT.of s8) (dr _)) (B3 hv7) pA hul7 (λu hu=>(RY u hu).up (Ax.of s8)) hway
     ·rw[List.take_add_one,hr0]at z;rcases fy.mp z with y|y
      ·exact((hs73 a y).up (LT.of s8)).app pA
      ·have ey:a=lk:=by simpa using y
       subst ey;have tt:Ax H8 (upd H8 X (.lst (IG++[.ref T3]))):=Ax.lst pA;exact⟨X,_,T3,bb,hv7,A2,by simp,tt _ _ e8,RZ.up tt⟩
    rintro Z G ⟨IE,v6,rfl,vI,RV,k5,t5,YF,rX,hwl5,YG,AG,AH⟩;refine⟨IE,_,_,_,rfl,vI,RV,k5,t5,YF,rX.up ⟨λ_ _ z=>z,λ_ _ z=>z⟩ (by omega),by omega,YG,λd a B g=>?_⟩;obtain⟨e,he,ew⟩:=B;rw[List.take_add_one,RU]at he;rcases fy.mp he with y|y
    ·exact AG d a ⟨e,y,ew⟩ g
    ·have ey:e=(.inl (L:Int),.ref l):=by simpa using y
     subst ey;have ew2:(L:Int)=(d:Int):=Sum.inl.inj ew;have ew3:L=d:=by omega
     subst ew3;refine AH a ?_;rw[IC.1,List.take_length];exact g
   rintro Z M ⟨wv3,v4,v5,v6,rfl,RS,vJ,k3,t3,hW3,IA,RT,hs3,IB⟩;have hll:Db (.dK S)<=8:=nZ;have tz:LT M (upd M c (.dK S)):=⟨λb xs e=>by rw[A9 (Bj e RS (by intro z;cases z))];exact e,λb xs e=>by rw[A9 (Bj e RS (by intro z;cases z))];exact e⟩;refine⟨o2,RS,wv3,_,_,_,_,_,rfl,(A9 MN.symm).trans vJ,(λb p n1 e=>?_),(A9 hcW.symm).trans hW3,IA.up tz (show 16*i+2*Db (.dK S)<=16*(i+1)by omega),by omega,λk d a B g Y=>?_⟩
   ·by_cases z:b=c
    ·subst z;rw[hc]at e;cases e;exact A2
    ·exact(A9 z).trans (k3 b p n1 z e)
   ·obtain⟨v,hv⟩:=B;rw[List.take_add_one,bO]at hv;rcases fy.mp hv with y|y
    ·exact(hs3 k d a ⟨v,y⟩ g Y).up tz
    ·have ey:(k,v)=(I,.ref c):=by simpa using y
     cases ey;obtain⟨c',oZ,g1,g2,g3⟩:=g;rw[D5 qT.2.1 mO]at g1;cases g1;rw[hc]at g2;cases g2;obtain⟨w',mU⟩:=Option.isSome_iff_exists.mp g3;refine(IB d a ⟨(.inl (d:Int),w'),?_,rfl⟩ Y).up tz;show _∈S.take S.length;rw[List.take_length];exact B3 mU
  rintro Z U ⟨C,v2,v3,v4,v5,v6,rfl,mT,k',LY,AF,pL,BR⟩;have hkl':Db (.dT f)<=3000:=wV;have tD:LT U (upd U D (.dT f)):=⟨λb xs e=>by rw[A9 (Bj e mT (by intro z;cases z))];exact e,λb xs e=>by rw[A9 (Bj e mT (by intro z;cases z))];exact e⟩;refine⟨o,mT,_,rfl,q W C _ hW (λb p e=>?_) ((A9 hWD).trans LY) (AF.up tD (show 16*Db (.dT f)<=48000 by omega)) (λk d a g Y=>?_) (by omega)⟩
  ·by_cases z:b=D
   ·subst z;rw[hD]at e;cases e;exact A2
   ·exact(A9 z).trans (k' b p z e)
  ·obtain⟨c',oZ,g1,g2,g3⟩:=id g;refine(BR k d a ⟨.ref c',?_⟩ g Y).up tD;show _∈f.take f.length;rw[List.take_length];exact B3 g1
def j8(K:PySem.W.Frag):Sp:=λm H Q _=>ra λ(D W R:Addr) (a h:qs) (j:List V) (i:List (qQ×Int)) (l:Hp) (g:qQ) (f:q3)=>Pw (m=[.ref D,.ref W,.ref R]) (H D=some (.dT a)) (Ck g f H a) (H W=some (.dT h)) (Eu g f l a 48000 H h) ((∀k b c,Al H a k b->some c∈Bs g k.1 f k.2 b->C9 H h c k b)) (H R=some (.lst j)) (Aq (Ju H) i j) (Ch H a<=24000) (∀(B:Addr) (bs:List V) (e:List (qQ×Int)) (d:Hp),H B=none->E7 a H d->Ck g f d a->d B=some (.lst bs)->Aq (Ju d) e bs->Ch d a+bs.length<=Ch H a->
  (∀k b,Al d a k b↔(Al H a k b/\∀c∈i,some c∉Bs g k.1 f k.2 b))->(∀k,k∈e↔((∃b,Al H a k b)/\∀b,¬Al d a k b))->Q (.ref B) d)
theorem u6{fd:ri}(F:D8 K "without_calls_left" "without_calls_left" ou ad.qG fd):B1 P w K mg base (CX1 P w) 1 ad.qG fd ["pending","ways","ranked"] (j8 K):=by
 refine F.okN O2 (λvs H Q E h=>?_) (λaZ A outer s H vs Q E hr h=>?_)
 ·rcases h with⟨D,W,R,d,wv,rs,eZ,H0,X,O,rfl,hD,qT,hW,AF,zH,hR,oG,hle,q⟩<;>rfl
 ·obtain⟨D,W,R,d,wv,rs,eZ,H0,X,O,rfl,hD,qT,hW,AF,zH,hR,oG,hle,q⟩:=h;refine⟨_,(A3 (Ab (i:=3) O2.nd rfl (Or.inl rfl) (Bp A4)) (A3 (Ce l7 rfl (C6 (pv 2)) (An (i:=4) O2.nd rfl (Or.inl rfl)) (A6 (Ce l7 rfl (C6 (gj (Z2 (Ot hr) (pv 1) (pv 4) (Bp A4) ⟨rfl,rfl,rfl,rfl⟩))) (Gb K (n:=2) rfl (Cl (An (i:=5) O2.nd rfl (Or.inl rfl)) (Cl (An (i:=6) O2.nd rfl (Or.inl rfl)) Gc))) (A3 (Ab (i:=7) O2.nd rfl (Or.inl rfl) (Uo (Ot hr) (pv 0) (pv 5) (λ_ _=>rfl))) (A6 (De (Zb (Z1 (Ot hr) (pv 6) (pv 7)) rfl) (A3 (Cy (Z4 (pv 7) (pv 6) ⟨rfl,rfl,rfl,rfl⟩)) (A6 (De (Df (Uu (pv 7))) (A6 (Cy (Dq PySem.F.plainAttrs_list PySem.F.slot_list_append PySem.F.type_list_append D6 (pv 3) (A0 (pv 5) A4)))) Ad))) Ad)))))) (A6 (Af (pv 3))))),?_⟩;have qZ:=qT.ok;refine⟨B7,λB hB=>?_⟩;have s1:A7 H (upd H B (.lst [])):=A7.upd hB;have e1:(upd H B (.lst [])) B=some (.lst []):=A2;generalize upd H B (.lst [])=H1 at s1 e1⊢;have c1:∀c p,H c=some (.dK p)->H1 c=some (.dK p):=λc p e=>s1 _ _ e;refine⟨_,rfl,R,rfl,.inl ⟨⟨_,Ao.of (s1 _ _ hR)⟩,?_⟩⟩
  refine Cc (K:=K) (a:=R) (xs:=rs) (λi σ G=>rb λ(bs:List V) (o:List (qQ×Int)) (v4 v5 v6 v7:Option V)=>Tx (σ=[some (.ref D),some (.ref W),some (.ref R),some (.ref B),v4,v5,v6,v7]) (E7 d H G) (Ck X O G d) (G B=some (.lst bs)) (Aq (Ju G) o bs) (Ch G d+bs.length<=Ch H d) (Vf B G d) ((∀k a,Al G d k a->Al H d k a)) ((∀k a,Al H d k a->(∀f∈eZ.take i,some f∉Bs X k.1 O k.2 a)->Al G d k a)) ((∀f∈eZ.take i,∀k a,some f∈Bs X k.1 O k.2 a->¬Al G d k a)) ((∀k,k∈o↔((∃a,Al H d k a)/\∀a,¬Al G d k a))))
   ⟨[],[],_,_,_,_,rfl,E7.of s1,qT.keep (LT.of s1) c1,e1,Aq.nil,by rw[E2 qZ c1];exact dr _,(Vf.start qZ hB).keep qZ c1,(λk a z=>(Al.keep qT c1).mp z),(λk a z _=>(Al.keep qT c1).mpr z),(λf z=>by rw[List.take_zero]at z;cases z),λk=>⟨(λz=>by cases z),λz=>?_⟩⟩ (by rintro i σ G _ ⟨_,_,_,_,_,_,_,ch,_⟩;exact Ao.of (ch.keep qZ hR (λp z=>nomatch z))) ?_ ?_
  ·obtain⟨⟨a,C⟩,r⟩:=z;exact absurd ((Al.keep qT c1).mpr C) (r a)
  ·rintro i u σ G hu ⟨bs,o,v4,v5,v6,v7,rfl,ch,kI,YI,CY,hlf,nb,l1,l2,l3,l4⟩;obtain⟨lk,AI,lb,lu,rfl,hlk1,hlk2⟩:=oG.get hu;have hlk:Jt H lb lk:=⟨lu,hlk1,hlk2⟩;have AK:=kI.ok;have lt':=ch.lt qZ;have LY:=ch.keep qZ hW (λp z=>nomatch z);have hwo':=AF.up lt' (dr _);refine⟨(λv L=>Js λ(N:Addr) (pN:List V)=>Hi (v=.ref N) (L N=some (.lst pN)) (N≠B) ((∀u∈pN,Oc X O d L lk u)) ((∀lx,Ar wv lk=some (.ref lx)->lx=N)) (A7 G L)),⟨_,rfl,W,rfl,.inr ⟨wv,.inl LY⟩,_,rfl,B7,λE hE=>?_⟩,?_⟩
   ·have s6:A7 G (upd G E (.lst [])):=A7.upd hE;refine⟨_,Fn.t (s6 _ _ LY) ((hlk.up lt'.2).up (Ax.of s6)),?_⟩;cases hv:Ar wv lk with
    |none=>exact⟨E,[],rfl,A2,(Ag YI hE).symm,(λu hu=>by cases hu),(λlx z=>by cases z),s6⟩
    |some v=>
     obtain⟨N,pN,e2,h0,h1,h2,h3⟩:=AF.1 _ (B3 hv);obtain⟨lc,us3,e3,_,J,_,g3⟩:=hwo'.1 _ (B3 hv);have zI:V.ref N=V.ref lc:=e2.symm.trans e3;cases zI;have e3':v=.ref N:=e3;exact⟨N,us3,e3,s6 _ _ J,Ag h1 hB,(λu hu=>(g3 u hu).up (Ax.of s6)),(λlx z=>by rw[e3']at z;cases z;rfl),s6⟩
   rintro v L ⟨N,pN,rfl,hla,hlaB,hus2,hlx,s7⟩;refine⟨N,rfl,.inl ⟨⟨_,Ao.of hla⟩,?_⟩⟩;have c7:∀c p,G c=some (.dK p)->L c=some (.dK p):=λc p e=>s7 _ _ e;have hps7:=kI.keep (LT.of s7) c7;have lt7:LT H L:=lt'.trans (LT.of s7)
   refine Cc (K:=K) (a:=N) (xs:=pN) (λj σ m=>jj λ(bs:List V) (o:List (qQ×Int)) (v5 v6 v7:Option V)=>ie (σ=[some (.ref D),some (.ref W),some (.ref R),some (.ref B),some (.ref lb),v5,v6,v7]) (E7 d H m) (Ck X O m d) (m B=some (.lst bs)) (Aq (Ju m) o bs) (Ch m d+bs.length<=Ch H d) (Vf B m d) ((∀k a,Al m d k a->Al H d k a)) ((∀k a,Al H d k a->(∀f∈eZ.take (i+1),some f∉Bs X k.1 O k.2 a)->Al m d k a)) ((∀f∈eZ.take i,∀k a,some f∈Bs X k.1 O k.2 a->¬Al m d k a)) ((∀k,k∈o↔((∃a,Al H d k a)/\∀a,¬Al m d k a))) (Ax L m) (m N=some (.lst pN)) ((∀k a,Al m d k a->Al L d k a)) (∀t b a k,V.ref t∈pN.take j->L t=some (.tup [.ref b,.int ((a:Nat):Int)])->Jt L b k->¬Al m d k a))
    ⟨bs,o,_,_,_,rfl,ch.trans (E7.of s7),hps7,s7 _ _ YI,CY.imp (λ_ _ z=>Ju.up (Ax.of s7) z),by rw[E2 AK c7];exact hlf,nb.keep AK c7,(λk a z=>l1 k a ((Al.keep kI c7).mp z)),(λk a C r=>(Al.keep kI c7).mpr (l2 k a C λf M=>r f (List.take_subset_take_left _ (Nat.le_succ i) M))),(λf M k a C r=>l3 f M k a C ((Al.keep kI c7).mp r)),(λk=>(l4 k).trans ⟨λz=>⟨z.1,λa y=>z.2 a ((Al.keep kI c7).mp y)⟩,λz=>⟨z.1,λa y=>z.2 a ((Al.keep kI c7).mpr y)⟩⟩),(λ_ _ z=>z),hla,(λk a z=>z),(λt b a k z=>by rw[List.take_zero]at z;cases z)⟩ (by rintro j σ m _ ⟨_,_,_,_,_,_,_,_,_,_,_,_,_,_,_,_,_,e,_⟩;exact Ao.of e) ?_ ?_
   ·rintro j u σ m hu2 ⟨Z,oH,v5,v6,v7,rfl,LZ,rY,YJ,xF,IH,YK,m1,m2,m3,m4,MA,AL,m5,m6⟩;have hpo8:=rY.ok;obtain⟨t,b,a,k,rfl,ht7,hb7,⟨v,bO⟩,hbeh⟩:=hus2 u (cI hu2);have ht:=MA _ _ ht7;have hb:=hb7.up MA;refine⟨t,_,rfl,Cp.of ht,rfl,_,_,rfl,_,_,rfl,rfl,?_⟩;have hD8:=LZ.keep qZ hD (λp z=>nomatch z);have mO:=B3 bO;obtain⟨c,p,ev,Y,nZ,wH⟩:=rY.1 _ mO;have ev':v=.ref c:=ev;subst ev'
    have U:∀(HX:Hp),(∀l g,Al HX d l g->Al m d l g)->¬Al HX d k a->∀t' b' g l,V.ref t'∈pN.take (j+1)->L t'=some (.tup [.ref b',.int ((g:Nat):Int)])->Jt L b' l->¬Al HX d l g:=λHX HL nJ t' b' g l C r z3 z4=>by
     rw[List.take_add_one,hu2]at C;rcases fy.mp C with y|y
     ·exact m6 t' b' g l y r z3 (HL _ _ z4)
     ·have e1:t'=t:=by simpa using y
      subst e1;rw[ht7]at r;cases r;obtain⟨u1,f1,f2⟩:=hb7;obtain⟨u2,J,g2⟩:=z3;rw[f1]at J;injection J with J;injection J with J;injection J with g1a SA;injection SA with SA;injection g1a with g1a;injection SA with SA;subst g1a;rw[f2]at g2
      have ek:k=l:=by
       have h1:k.1=l.1:=by
        have:=eo g2;injection this with this;exact Jz this
       exact Prod.ext h1 SA
      subst ek;exact nJ z4
    refine⟨_,rfl,_,rfl,D,.ref c,rfl,(by rw[<- bO];exact Fn.t hD8 hb),?_⟩;refine⟨_,rfl,_,rfl,c,_,rfl,Fn.k (k:=.inl (a:Int)) Y,_,rfl,_,λnG=>?_,λnG=>?_,λ_ _ z=>z⟩
    ·obtain⟨w',hw⟩:=Option.isSome_iff_exists.mp nG;have DB:Al m d k a:=⟨c,p,bO,Y,by rw[hw];rfl⟩;refine⟨_,rfl,c,rfl,.inl ⟨p,.inl Y⟩,_,rfl,p,.inl (a:Int),w',Y,rfl,hw,?_⟩;have ch9:E7 d m (upd m c (.dK (Bq p (.inl (a:Int))))):=E7.pop mO rfl;have xG:Ck X O (upd m c (.dK (Bq p (.inl (a:Int))))) d:=rY.pop Y;have AM:LT m (upd m c (.dK (Bq p (.inl (a:Int))))):=LT.dK Y;have YL:(upd m c (.dK (Bq p (.inl (a:Int))))) c=some (.dK (Bq p (.inl (a:Int)))):=A2;have YM:Vf B (upd m c (.dK (Bq p (.inl (a:Int))))) d:=YK.pop Y;have hl9:=(Nt Y (f8 hw) (kvs:=d)).2 ⟨_,mO,rfl⟩;have II:∀l g,Al (upd m c (.dK (Bq p (.inl (a:Int))))) d l g↔Al m d l g/\¬(l=k/\g=a):=λl g=>Al.pop rY bO Y;generalize upd m c (.dK (Bq p (.inl (a:Int))))=I at ch9 xG AM YL YM hl9 II⊢;have SD:=xG.ok;have SE:=AM.1 _ _ YJ;have hb9:=hb.up AM.2;have n1:∀l g,Al I d l g->Al H d l g:=λl g z=>m1 _ _ ((II l g).mp z).1
     have n2:∀l g,Al H d l g->(∀f∈eZ.take (i+1),some f∉Bs X l.1 O l.2 g)->Al I d l g:=λl g C r=>(II l g).mpr ⟨m2 _ _ C r,λe=>by
      refine r lk ?_ (by rw[e.1,e.2];exact hbeh);rw[List.take_add_one,AI];simp⟩
     have n3:∀f∈eZ.take i,∀l g,some f∈Bs X l.1 O l.2 g->¬Al I d l g:=λf M l g C r=>m3 f M l g C ((II l g).mp r).1;have n5:∀l g,Al I d l g->Al m d l g:=λl g z=>((II l g).mp z).1;have n6:=U I n5 (λz=>((II k a).mp z).2 ⟨rfl,rfl⟩);have S:∀l,l≠k->((∀g,¬Al I d l g)↔∀g,¬Al m d l g):=λl pV=>⟨λz g y=>z g ((II l g).mpr ⟨y,λe=>pV e.1⟩),λz g y=>z g (n5 _ _ y)⟩;have hkb:k∉oH:=λz=>((m4 k).mp z).2 a DB;refine⟨_,rfl,c,_,rfl,.inl YL,_,λhe=>?_,λhe=>?_,λ_ _ z=>z⟩
     ·have xH:Bq p (.inl (a:Int))=[]:=by
       have:(Bq p (.inl (a:Int))).isEmpty=true:=by simpa using he
       exact List.isEmpty_iff.mp this
      have SF:∀g,¬Al I d k g:=λg z=>by
       obtain⟨c',oZ,J,g2,g3⟩:=z;rw[bO]at J;cases J;rw[YL]at g2;cases g2;rw[xH]at g3;cases g3
      refine⟨_,rfl,.inl ⟨rfl,_,Ao.of SE⟩,_,rfl,B,_,_,rfl,rfl,SE,D4 (by omega),?_⟩;have SG:Ax I (upd I B (.lst (Z++[.ref b]))):=Ax.lst SE
      have YN:∀c' oZ,I c'=some (.dK oZ)->(upd I B (.lst (Z++[.ref b]))) c'=some (.dK oZ):=λc' oZ e=>by
       rw[A9 (Bj e SE (by intro z;cases z))];exact e
      have kl:∀x xs,x≠B->I x=some (.lst xs)->(upd I B (.lst (Z++[.ref b]))) x=some (.lst xs):=λx xs n e=>(A9 n).trans e;have rZ:∀l g,Al (upd I B (.lst (Z++[.ref b]))) d l g↔Al I d l g:=λl g=>Al.keep xG YN;obtain⟨ub,hb91,hb92⟩:=hb9;refine⟨Z++[.ref b],oH++[k],_,_,_,rfl,(LZ.trans ch9).new hB,xG.QY YM SG kl YN,A2,(xF.imp λ_ _ z=>Ju.up SG (Ju.up AM.2 z)).append (Aq.one ⟨b,ub,rfl,SG _ _ hb91,SG _ _ hb92⟩),?_,YM.keep SD YN,(λl g z=>n1 _ _ ((rZ l g).mp z)),(λl g C r=>(rZ l g).mpr (n2 _ _ C r)),(λf M l g C r=>n3 f M l g C ((rZ l g).mp r)),(λl=>?_),(MA.trans AM.2).trans SG,kl _ _ hlaB (AM.1 _ _ AL),(λl g z=>m5 _ _ (n5 _ _ ((rZ l g).mp z))),(λt' b' g l C r z3 z4=>n6 t' b' g l C r z3 ((rZ l g).mp z4))⟩
      ·rw[E2 SD YN,List.length_append,List.length_singleton];omega
      ·have XZ:(∀g,¬Al (upd I B (.lst (Z++[.ref b]))) d l g)↔∀g,¬Al I d l g:=⟨λz g y=>z g ((rZ l g).mpr y),λz g y=>z g ((rZ l g).mp y)⟩;rw[XZ];by_cases pV:l=k
       ·subst pV;exact⟨λ_=>⟨⟨a,m1 _ _ DB⟩,SF⟩,λ_=>by simp⟩
       ·rw[S l pV,<- m4 l];simp[pV]
     ·have fI:Bq p (.inl (a:Int))≠[]:=λz=>by
       rw[z]at he;exact absurd he (by decide)
      refine⟨Z,oH,_,_,_,rfl,LZ.trans ch9,xG,SE,xF.imp (λ_ _ z=>Ju.up AM.2 z),by omega,YM,n1,n2,n3,(λl=>?_),MA.trans AM.2,AM.1 _ _ AL,(λl g z=>m5 _ _ (n5 _ _ z)),n6⟩;by_cases pV:l=k
      ·subst pV;refine⟨λz=>absurd z hkb,λz=>?_⟩;obtain⟨x,hx⟩:=List.exists_mem_of_ne_nil _ fI;obtain⟨wR,l9,us9,J,_⟩:=wH x (Lg hx)
       have hs:(Ar (Bq p (.inl (a:Int))) (.inl (wR:Int))).isSome=true:=by
        obtain⟨y,hy⟩:=K5 (k:=x.1) (v:=x.2) hx;rw[<- J,hy];rfl
       exact absurd ⟨c,_,bO,YL,hs⟩ (z.2 wR)
      ·rw[S l pV];exact m4 l
    ·have gN:¬Al m d k a:=λz=>by
      obtain⟨c',oZ,J,g2,g3⟩:=z;rw[bO]at J;cases J;rw[Y]at g2;cases g2;rw[nG]at g3;cases g3
     exact⟨Z,oH,_,_,_,rfl,LZ,rY,YJ,xF,IH,YK,m1,m2,m3,m4,MA,AL,m5,U m (λ_ _ z=>z) gN⟩
   rintro σ m ⟨Z,oH,v5,v6,v7,rfl,LZ,rY,YJ,xF,IH,YK,m1,m2,m3,m4,MA,AL,m5,m6⟩;refine⟨Z,oH,_,_,_,_,rfl,LZ,rY,YJ,xF,IH,YK,m1,m2,(λf M k a C r=>?_),m4⟩;rw[List.take_add_one,AI]at M;rcases fy.mp M with y|y
   ·exact m3 f y k a C r
   ·have e1:f=lk:=by simpa using y
    subst e1;obtain⟨lx,ux,tx,bx,f1,f2,f3,f4,f5⟩:=(zH k a f (m1 _ _ r) C).up lt7;have ex:=hlx lx f1;subst ex;rw[hla]at f2;cases f2;refine m6 tx bx a k ?_ f4 f5 r;rw[List.take_length];exact f3
  rintro σ G ⟨bs,o,v4,v5,v6,v7,rfl,ch,kI,YI,CY,hlf,nb,l1,l2,l3,l4⟩;rw[oG.1,List.take_length]at l2 l3;exact⟨_,rfl,q B bs o G hB ch kI YI CY hlf (λk a=>⟨λz=>⟨l1 k a z,λf M y=>l3 f M k a y z⟩,λz=>l2 k a z.1 z.2⟩) l4⟩
def cv(K:W.Frag)(aA aF aG aD aB aE aC aH aI:Addr):Sp:=λg H Q E=>(Mn λ(a:Addr) (b:qQ) (c:q3)=>Py (g=[.ref a]) (Bf H a b c) ((∀w∈b,1<=w)) (1<=qv c) ((∀w∈b,intBits w<=400)) (intBits (qv c)<=400) (b.length<=8) (B0 (qv c) b<=3000) (∀(T:Addr) (d:qs) (e:Hp),H T=none->A7 H e->e T=some (.dT d)->Oa b c d->(d.map (·.1)).Nodup->d.length<=60000->Q (.ref T) e))\/(Mn λ(a:Addr) (b:qQ) (c:q3)=>Kq (g=[.ref a]) (Bf H a b c) ((∀w∈b,intBits w<=400)) (intBits (qv c)<=400) (b.length<=8) (3000<B0 (qv c) b) (∀f,A7 H f->E (.ref aB) none f))
theorem nw{fd SH IJ SI:ri}(F:D8 K "ranks" "ranks" V6 ad.lK fd)(AN:Gk P w K mg base 6 ad.qF ["hall"] (ja K aA aF aG aD aB aE aC aH aI) SH)(uH:Gk P w K mg base 1 ad.lJ ["pending"] (ck K) IJ)(AO:Gk P w K mg base 1 ad.qG ["pending","ways","ranked"] (j8 K) SI):B1 P w K mg base (CX1 P w) 7 ad.lK fd ["hall"] (cv K aA aF aG aD aB aE aC aH aI):=by
 refine F.qA Fc (λvs H Q E h=>?_) (λaZ A outer s H vs Q E hr h=>?_)
 ·rcases h with⟨a,U,S,rfl,ha,mW,wY,nB,jQ,CZ,hp,q⟩|⟨a,U,S,rfl,_,_,_,_,_,_⟩<;>rfl
 ·obtain h:=h;refine⟨_,(A3 (Ab (i:=1) Fc.nd rfl (Or.inl rfl) (Cu AN.g (hr.mono (by decide)) rfl T.m_x3 T.k_x3 AN.b .nil Ey (A0 (pv 0) A4))) (A3 (Ab (i:=2) Fc.nd rfl (Or.inl rfl) (Am uH.g (hr.mono (by decide)) rfl T.PH T.PJ uH.b .nil Az (A0 (pv 1) A4))) (A3 (Ab (i:=3) Fc.nd rfl (Or.inl rfl) Ib) (A3 (Ab (i:=4) Fc.nd rfl (Or.inl rfl) A5) (A3 (Pg (E3 (i:=5) Fc.nd rfl (M8 (pv 1)) _ rfl S4 rfl rfl (λ_ _ _ _=>(Gb K (n:=2) rfl (Cl (An (i:=0) Lw rfl (Or.inl rfl)) (Cl (An (i:=1) Lw rfl (Or.inl rfl)) Gc)))) (λ_ _ _ _=>(Ph (Df (Uu (pv 1))))) (λ_ _ _ _=>(pv 0)) rfl rfl)) (A3 (Ma Wt (Zc (pv 5) (by intro _;rfl)) (A3 (Ce Wt rfl (C6 (pv 5)) (An (i:=6) Fc.nd rfl (Or.inl rfl)) (A6 (Pf (Ot hr) (pv 3) (pv 6) (pv 4) rfl))) (A3 (Ab (i:=5) Fc.nd rfl (Or.inl rfl) (Am AO.g (hr.mono (by decide)) rfl T.m_x1 T.k_x1 AO.b .nil Az (A0 (pv 1) (A0 (pv 2) (A0 (pv 5) A4))))) (A6 (Ab (i:=4) Fc.nd rfl (Or.inl rfl) (Ah Cs (pv 4) A5)))))) (A6 (Af (pv 3))))))))),?_⟩;rcases h with⟨a,U,S,rfl,ha,mW,wY,nB,jQ,CZ,hp,q⟩|⟨a,U,S,rfl,ha,hb,rT,pA,hp,he⟩
  ·refine⟨_,rfl,E,λ_ _ _ z=>z,.inl ⟨a,U,S,rfl,ha,mW,wY,nB,jQ,CZ,hp,λD d H1 hD s1 eD qT mK xE pM wV=>?_⟩⟩;have qZ:=qT.ok;refine⟨_,rfl,D,d,U,S,rfl,eD,qT,wV,λW wv H2 hW s2 eW AF NI pL=>?_⟩;refine λT hT=>?_;have s3:A7 H2 (upd H2 T (.dT [])):=A7.upd hT;have e3:(upd H2 T (.dT [])) T=some (.dT []):=A2;generalize upd H2 T (.dT [])=Y at s3 e3⊢;have qR:=s2.trans s3;have MB:=qR _ _ eD;have hTD:T≠D:=(Ag (s2 _ _ eD) hT).symm;refine⟨D,.dT d,trivial,MB,_,rfl,D,.dT d,rfl,trivial,MB,λo=>?_⟩;have AQ:=qT.keep (LT.of qR) (λc l e=>qR _ _ e);have hpo3:=AQ.ok;have SJ:=xE.keep qT (λc l e=>qR _ _ e);have tF:LT Y (upd Y D (.fA o (.dT d))):=LT.dT MB
   have kF:∀c l,Y c=some (.dK l)->(upd Y D (.fA o (.dT d))) c=some (.dK l):=λc l e=>by
    rw[A9 (Bj e MB (by intro z;cases z))];exact e
   have bF:∀b C,b≠D->Y b=some C->(upd Y D (.fA o (.dT d))) b=some C:=λb C n e=>(A9 n).trans e;have dF:(upd Y D (.fA o (.dT d))) D=some (.fA o (.dT d)):=A2;have AR:=AQ.keep tF kF;have DC:=SJ.keep AQ kF;generalize upd Y D (.fA o (.dT d))=HF at tF kF bF dF AR DC⊢;refine λR hR=>?_;refine S3 (K:=K) (d:=D) (o:=o) (u:=.dT d) (λi zs j=>∃(J:List (qQ×Int)),Fl (j R=some (.lst zs)) (zs.length<=i) (Aq (Ju j) J zs) (A7 HF j) (∀k,k∈J↔∃v,(k,v)∈d.take i/\Xd HF v)) ⟨[],A2,dr _,Aq.nil,A7.upd hR,λk=>⟨(λz=>by cases z),λ⟨v,z,_⟩=>by rw[List.take_zero]at z;cases z⟩⟩ (by rintro i zs j _ ⟨_,_,_,_,s,_⟩;exact s _ _ dF) ?_ ?_ ?_ ?_
   ·rintro i x y T2 zs j hi hit ⟨J,DD,vH,SK,s',SM⟩ HA;have hi3:i<3000:=fx hi wV;obtain⟨kk,bb,O,rfl,hkk⟩:=hit;obtain⟨c,l,ey,hc,nZ,wH⟩:=AR.1 _ (cI O);have NA:y=.ref c:=ey;subst NA;have s4:A7 j (upd j T2 (.tup [.ref bb,.ref c])):=A7.upd HA;have e4:(upd j T2 (.tup [.ref bb,.ref c])) T2=some (.tup [.ref bb,.ref c]):=A2;generalize upd j T2 (.tup [.ref bb,.ref c])=N at s4 e4⊢;have MC:=s4 _ _ DD;refine⟨_,rfl,c,l,rfl,.inl (s4 _ _ (s' _ _ hc)),?_⟩;obtain⟨ku,MZ,ZU⟩:=hkk.up (Ax.of s4);refine D0 (λvV=>?_) (λvV=>?_)
    ·have xH:l=[]:=by
      have:l.isEmpty=true:=by simpa using vV
      exact List.isEmpty_iff.mp this
     subst xH;have tt:Ax N (upd N R (.lst (zs++[.ref bb]))):=Ax.lst MC;refine⟨_,rfl,MC,D4 (by omega),J++[kk],A2,by rw[List.length_append,List.length_singleton];omega,(SK.imp λ_ _ z=>Ju.up tt (Ju.up (Ax.of s4) z)).append (Aq.one ⟨bb,ku,rfl,tt _ _ MZ,tt _ _ ZU⟩),(s'.trans s4).new hR,λk=>?_⟩;rw[List.mem_append,SM,List.mem_singleton,List.take_add_one,O];constructor
     ·rintro(⟨v,z1,X⟩|z)
      ·exact⟨v,gv _ z1,X⟩
      ·subst z;exact⟨.ref c,by simp,c,rfl,hc⟩
     ·rintro⟨v,z1,X⟩;rcases fy.mp z1 with y|y
      ·exact .inl ⟨v,y,X⟩
      ·have G:(k,v)=(kk,.ref c):=by simpa using y
       cases G;exact .inr rfl
    ·have fI:l≠[]:=λz=>by
      rw[z]at vV;exact absurd vV (by decide)
     refine⟨J,MC,by omega,SK.imp λ_ _ z=>Ju.up (Ax.of s4) z,s'.trans s4,λk=>?_⟩;rw[SM,List.take_add_one,O];constructor
     ·rintro⟨v,z1,X⟩;exact⟨v,gv _ z1,X⟩
     ·rintro⟨v,z1,X⟩;rcases fy.mp z1 with y|y
      ·exact⟨v,y,X⟩
      ·have G:(k,v)=(kk,.ref c):=by simpa using y
       cases G;obtain⟨c',M,e3⟩:=X;cases M;rw[hc]at e3;cases e3;exact absurd rfl fI
   ·rintro σ H1 Q1 Q2 hQ ⟨v,G,c,l,M,r,z⟩;exact⟨v,G,c,l,M,r,hQ _ _ z⟩
   ·rintro σ H1 Q1 Q2 hQ ⟨v,G,z⟩;exact⟨v,G,hQ _ _ z⟩
   rintro zs HG ⟨IK,hRG,vH,SK,sG,DE⟩;rw[show d.take (Db (.dT d))=d from List.take_length]at DE;have hst0:=Fe.start AR mK DC DE;have SN:=sG _ _ dF;have hkl':Db (.dT d)<=3000:=wV;have tG:LT HG (upd HG D (.dT d)):=⟨λb xs e=>by rw[A9 (Bj e SN (by intro z;cases z))];exact e,λb xs e=>by rw[A9 (Bj e SN (by intro z;cases z))];exact e⟩
   have zK:A7 Y (upd HG D (.dT d)):=λb C e=>by
    by_cases z:b=D
    ·subst z;rw[MB]at e;cases e;exact A2
    ·exact(A9 z).trans (sG _ _ (bF b C z e))
   refine⟨o,SN,?_⟩;have MC:=tG.1 _ _ hRG;have SO:Aq (Ju (upd HG D (.dT d))) IK zs:=SK.imp λ_ _ z=>Ju.up tG.2 z
   have cG:∀c l,HF c=some (.dK l)->(upd HG D (.dT d)) c=some (.dK l):=λc l e=>by
    rw[A9 (Bj (sG _ _ e) SN (by intro z;cases z))];exact sG _ _ e
   have hR3:Y R=none:=by
    cases hx:Y R with
    |none=>rfl
    |some C=>
     by_cases z:R=D
     ·rw[z,dF]at hR;cases hR
     ·rw[bF R C z hx]at hR;cases hR
   generalize upd HG D (.dT d)=N at tG zK MC SO cG⊢;clear tG hRG SK sG SN;have SQ:=AQ.keep (LT.of zK) (λc l e=>zK _ _ e);have IL:=SQ.ok
   have hst4:Fe U S [] IK 1 (Al N d):=by
    have e:Al N d=Al HF d:=by
     funext k f;exact propext (Al.keep AR cG)
    rw[e];exact hst0
   have hcm4:∀k f p,Al N d k f->some p∈Bs U k.1 S k.2 f->C9 N wv p k f:=λk f p z1 X=>((NI k f p ((Al.keep qT (λc l e=>zK _ _ (qR _ _ e))).mp z1) X).up (LT.of s3)).up (LT.of zK);have eD4:=zK _ _ MB;have eW4:=zK _ _ (s3 _ _ eW);have eT4:=zK _ _ e3;have hwo4:=AF.up ((LT.of s3).trans (LT.of zK)) (dr _)
   have hl4:Ch N d<=24000:=by
    have:=Ln IL;omega
   have hTv:∀I∈d,I.2≠ .ref T:=λI O z=>by
    obtain⟨c,l,G,M,_⟩:=hpo3 I O;rw[z]at G;cases G;rw[e3]at M;cases M
   dsimp only
   refine Mm (λσ' j=>rb λ(R:Addr) (Z:List V) (J:List (qQ×Int)) (tv:qs) (g:Int) (v6:Option V)=>Pw (σ'=[some (.ref a),some (.ref D),some (.ref W),some (.ref T),some (.int g),some (.ref R),v6]) ((∀b C,b≠T->N b=some C->(∀I∈d,I.2≠ .ref b)->j b=some C)) (Ck U S j d) (j T=some (.dT tv)) ((tv.map (·.1)).Nodup) (j R=some (.lst Z)) (Aq (Ju j) J Z) (Fe U S tv J g (Al j d)) ((∀k f,Al j d k f->Al N d k f)) (tv.length+Z.length+Ch j d<=27000))
    (λσ' j=>2*Ch j d+match σ' with
     |[_,_,_,_,_,some (.ref R),_]=>(match j R with
      |some (.lst [])=>0
      |_=>1)
     |_=>0) ⟨R,zs,IK,[],1,_,rfl,(λb C _ e _=>e),SQ,eT4,List.Pairwise.nil,MC,SO,hst4,(λ_ _ z=>z),by show 0+zs.length+_<=_;omega⟩ ?_ ?_
   ·rintro σ' j ⟨R,Z,J,tv,g,v6,rfl,kp,kI,DF,htv,DD,oG,SR,wC,SS⟩;have AK:=kI.ok;refine⟨_,rfl,_,.inl ⟨_,Ao.of DD,rfl⟩,?_⟩
    have mT:=kp D _ hTD.symm eD4 (λI O z=>by
     obtain⟨c,l,G,M,_⟩:=IL I O;rw[z]at G;cases G;rw[eD4]at M;cases M)
    refine D0 (λfI=>?_) (λxH=>?_)
    ·have hrs0:0<Z.length:=by
      cases Z with
      |nil=>exact absurd fI (by decide)
      |cons x xs=>simp
     have hRT:R≠T:=Bj DD DF (by intro z;cases z)
     have mu0:(match j R with
      |some (.lst [])=>0
      |_=>1)=1:=by
      rw[DD];cases Z with
      |nil=>exact absurd hrs0 (by decide)
      |cons x xs=>rfl
     refine⟨_,rfl,R,rfl,.inl ⟨⟨_,Ao.of DD⟩,?_⟩⟩
     refine Cc (K:=K) (a:=R) (xs:=Z) (λi σ L=>Js λ(xI:qs) (v6:Option V)=>Kq (σ=[some (.ref a),some (.ref D),some (.ref W),some (.ref T),some (.int g),some (.ref R),v6]) ((∀b,b≠T->L b=j b)) (L T=some (.dT xI)) ((xI.map (·.1)).Nodup) ((∀I∈xI,∃n:Int,I.2=.int n/\1<=n/\n<g+1)) ((∀k,Ar xI k=if k∈J.take i then some (.int g)else Ar tv k)) (xI.length<=tv.length+i))
      ⟨tv,_,rfl,(λ_ _=>rfl),DF,htv,(λI O=>by obtain⟨n,G,M,e3⟩:=SR.2.1 I O;exact⟨n,G,M,by omega⟩),(λk=>by rw[List.take_zero,if_neg (by simp)]),dr _⟩ (by rintro i σ L _ ⟨_,_,_,e,_⟩;exact Ao.of ((e R hRT).trans DD)) ?_ ?_
     ·rintro i u σ L hu ⟨xI,v6,rfl,k5,hT5,IM,IP,AS,hl5⟩;have hi:=(bt.mp hu).1;obtain⟨k,hk0,b,u1,rfl,nB,jQ⟩:=oG.get hu;have hbk:Jt L b k:=⟨u1,(k5 b (Bj nB DF (by intro z;cases z))).trans nB,(k5 u1 (Bj jQ DF (by intro z;cases z))).trans jQ⟩;refine⟨_,rfl,_,rfl,_,rfl,T,_,rfl,Vc.t hT5 hbk (D4 (by omega)),?_⟩;refine⟨Cf xI k (.int g),_,rfl,(λx n=>(A9 n).trans (k5 x n)),A2,km IM,Ra (P:=λv=>∃n:Int,v=.int n/\1<=n/\n<g+1) IP ⟨g,rfl,SR.1,by omega⟩,(λk'=>?_),en (Dn _ _ _) (by omega)⟩;rw[Iu,AS,List.take_add_one,hk0];by_cases z:k'=k
      ·rw[if_pos z,if_pos (by rw[z];simp)]
      ·rw[if_neg z];have e:(k'∈J.take i++(some k).toList)↔k'∈J.take i:=by simp[z]
       by_cases y:k'∈J.take i
       ·rw[if_pos y,if_pos (e.mpr y)]
       ·rw[if_neg y,if_neg (λx=>y (e.mp x))]
     rintro σ L ⟨xI,v65,rfl,k5,hT5,IM,IP,AS,hl5⟩;rw[oG.1,List.take_length]at AS;have c5:∀c l,j c=some (.dK l)->L c=some (.dK l):=λc l e=>(k5 c (Bj e DF (by intro z;cases z))).trans e;have t5:LT j L:=⟨λb xs e=>(k5 b (Bj e DF (by intro z;cases z))).trans e,λb xs e=>(k5 b (Bj e DF (by intro z;cases z))).trans e⟩;have SU:=kI.keep t5 c5;have rV:=SU.ok;have YO:∀k f,Al L d k f↔Al j d k f:=λk f=>Al.keep kI c5
     have elp5:Al L d=Al j d:=by
      funext k f;exact propext (YO k f)
     have hl5e:=E2 AK c5;have kp5:∀b C,b≠T->N b=some C->(∀I∈d,I.2≠ .ref b)->L b=some C:=λb C n e m=>(k5 b n).trans (kp b C n e m)
     have xJ:∀b C,b≠T->N b=some C->(∀l,C≠ .dK l)->L b=some C:=λb C n e m=>kp5 b C n e λI O z=>by
      obtain⟨c,l,G,M,_⟩:=IL I O;rw[z]at G;cases G;rw[e]at M;exact m l (eo M)
     have hWT:W≠T:=Ag eW hT;have t45:LT N L:=⟨λb xs e=>xJ b _ (Bj e eT4 (by intro z;cases z)) e (λl z=>nomatch z),λb xs e=>xJ b _ (Bj e eT4 (by intro z;cases z)) e (λl z=>nomatch z)⟩;refine⟨_,rfl,_,rfl,_,rfl,D,W,R,d,wv,Z,J,H1,U,S,rfl,(k5 D hTD.symm).trans mT,SU,xJ W _ hWT eW4 (λl z=>nomatch z),hwo4.up t45 (dr _),(λk f p z1 X=>(hcm4 k f p (wC k f ((YO k f).mp z1)) X).up t45),(k5 R hRT).trans DD,oG.imp (λ_ _ z=>Ju.up t5.2 z),en (Ln rV) (by omega),λB bs beta H6 hB ch6 hps6 hB6 hbs6 SW SX hbt6=>?_⟩;have hri6:Fe U S xI beta (g+1) (Al H6 d):=Fe.step SR AS IP (λk f=>by rw[SX,YO]) (λk=>by rw[hbt6,elp5]);have hT6:H6 T=some (.dT xI):=ch6 T _ hT5 hTv;refine⟨_,rfl,_,_,rfl,rfl,⟨B,bs,beta,xI,g+1,_,rfl,(λb C n e m=>ch6 b C (kp5 b C n e m) m),hps6,hT6,IM,hB6,hbs6,hri6,(λk f z=>wC k f ((YO k f).mp ((SX k f).mp z).1)),by omega⟩,?_⟩
     show 2*Ch H6 d+(match H6 B with
      |some (.lst [])=>0
      |_=>1)<2*Ch j d+(match j R with
      |some (.lst [])=>0
      |_=>1)
     rw[mu0,hB6];cases bs with
     |nil=>
      show 2*Ch H6 d+0<_;have:Ch H6 d+0<=Ch L d:=SW;omega
     |cons x xs=>
      show 2*Ch H6 d+1<_;rw[List.length_cons]at SW;omega
    ·have hrs1:Z=[]:=by
      cases Z with
      |nil=>rfl
      |cons x xs=>exact absurd rfl xH
     have SY:J=[]:=by
      have:=oG.1;rw[hrs1]at this;exact List.length_eq_zero_iff.mp this.symm
     rw[SY]at SR;refine⟨_,rfl,q T tv j (s1.free (s2.free hT)) (λb C e=>?_) DF SR.done htv (by omega)⟩;have e4:=zK _ _ (qR _ _ (s1 _ _ e));refine kp b C (λz=>?_) e4 (λI O z=>?_)
     ·have:=s1.free (s2.free hT);rw[z,this]at e;cases e
     ·rw[pM I O b z]at e;cases e
   ·intro σ H0 Q1 Q2 z h1;obtain⟨_,e,k,t,h2⟩:=h1;exact⟨_,e,k,t,z _ _ h2⟩
  ·exact⟨_,rfl,E,λ_ _ _ z=>z,.inr ⟨a,U,S,rfl,ha,hb,rT,pA,hp,he⟩⟩
def bz(K:W.Frag):Sp:=λb H Q _=>∃(x:Str),Fk (b=[.str x]) (x.length<=100000) (∀a,A7 H a->Q (.bl (Bg x)) a)
theorem mm{u:ri}(F:D8 K "is_number" "is_number" V1 ad.lL u):B1 P w K mg base (CX1 P w) 1 ad.lL u ["word"] (bz K):=by
 refine F.okN pk (λO H Q E h=>?_) (λS A n s H O Q E X h=>?_)
 ·rcases h with⟨x,rfl,y,q⟩<;>rfl
 ·obtain⟨x,rfl,y,q⟩:=h;refine⟨_,(A3 (Av (Df (Bn (Aj (Ev rfl) (by rfl) T.qM boot_all (A0 (Cj (Z8 (pv 0)) _ rfl L5 rfl rfl (λ_ _ _ _=>(An (i:=0) Lu rfl (Or.inl rfl))) (λ_ _ _ _=>C8) (λ_ _ _ _=>(B6 Ny (pv 0) (Bv (v:=.str "0123456789") (by rfl) T.vF.choose_spec ⟨_,rfl⟩) rfl))) A4)))) (A6 (Af Gs)) Ad) (A3 (Av (PW.pt (D3 (Aa Fv (Aj Dj (by rfl) T.cB PySem.boot_len (A0 (pv 0) A4)) A5 (Ac _)) (Ds (Aa Ee (Aj Dj (by rfl) T.cB PySem.boot_len (A0 (pv 0) A4)) (Bv (v:=.int 100) (by rfl) T.nA.choose_spec ⟨_,rfl⟩) (Ac _))))) (A6 (Af Gs)) Ad) (A6 (Af (o6 (B6 Ba (pv 0) Ae (Ac _)) (Hf (B6 Ia (Au Ow (pv 0) A5 (λ_ _=>rfl)) Ae (Ac _)))))))),?_⟩;have o:x.cps.toList.length=x.length:=by simp[Str.length]
  refine⟨_,rfl,x,rfl,λD v=>?_⟩;refine Qk (λi j p=>j=((x.cps.toList.take i).map Kf).map V.bl/\p D=some (.lst j)/\A7 H p) ⟨rfl,A2,A7.upd v⟩ ?_ ?_
  ·rintro i c j d f ⟨rfl,g,b⟩ R L;have U:=(bt.mp f).1;refine⟨_,rfl,_,_,rfl,rfl,?_⟩;rw[Yf];refine L _ _ g (az (by rw[List.length_map,List.length_map,List.length_take];omega)) ⟨?_,A2,b.new v⟩;rw[Gu f,List.map_append];rfl
  rintro j d ⟨rfl,g,b⟩;rw[List.take_length]at g;refine⟨D,_,rfl,Ao.of g,_,rfl,?_⟩;have B:(x.cps.toList.map Kf).all id=x.cps.toList.all Kf:=by rw[List.all_map];rfl
  rw[B];cases a:x.cps.toList.all Kf with
  |false=>
   refine Cn rfl ?_
   have e:Bg x=false:=by
    unfold Bg;rw[show(x.cps.toList.all λc=>decide (48<=c/\c<=57))=false from a];rfl
   have:=q d b;rw[e]at this;exact this
  |true=>
   refine Bx rfl ?_;have r:((x.length:Nat):Int)<2^63:=by omega
   refine⟨_,rfl,x,rfl,r,_,_,rfl,rfl,_,rfl,decide (((x.length:Nat):Int)>100),(λ_ C z=>⟨_,rfl,x,rfl,r,_,_,rfl,rfl,_,rfl,z⟩),?_⟩;refine D0 (λh=>?_) (λh=>?_)
   ·have e:Bg x=false:=by
     unfold Bg;rw[Bool.or_eq_true,decide_eq_true_iff,decide_eq_true_iff]at h;rw[decide_eq_false (show¬(1<=x.length/\x.length<=100)by omega)];simp
    have:=q d b;rw[e]at this;exact this
   ·have N:1<=x.length/\x.length<=100:=by
     rw[Bool.or_eq_true,decide_eq_true_iff,decide_eq_true_iff]at h;omega
    obtain⟨c,f,M⟩:=fi (xs:=x.cps.toList) (λz=>by rw[z]at o;simp at o;omega);refine⟨_,rfl,rfl,decide (x=Str.ofString "0"),decide (c≠48),?_,(λ_ C z=>⟨_,rfl,x,0,c,rfl,rfl,en y (by decide),Hn f,rfl,?_⟩),?_⟩
    ·rw[Oo];rfl
    ·have e:(!decide (V.str ⟨#[c]⟩=V.str (Str.ofString "0")))=decide (c≠48):=by
      rw[Bool.eq_iff_iff,Bool.not_eq_true',decide_eq_false_iff_not,decide_eq_true_iff];have G:Str.ofString "0"=⟨#[48]⟩:=by decide
      rw[G];constructor
      ·intro l m;exact l (by rw[m])
      ·intro l m;injection m with I;injection I with J;exact l (by simpa using J)
     rw[e];exact z
    ·have e:Bg x=(decide (x=Str.ofString "0")||decide (c≠48)):=by
      unfold Bg;rw[show(x.cps.toList.all λc=>decide (48<=c/\c<=57))=true from a,decide_eq_true N,M];simp
     have:=q d b;rw[e]at this;exact this
def bn(K:W.Frag)(aA aF aG aD aB aE aC aH aI:Addr):Sp:=λf H Q E=>(Js λ(a:Addr) (b:qQ)=>Fl (f=[.ref a]) (H a=some (.lst ((b.map Bm).map V.str))) ((∀n∈b,0<=n/\n<10^100)) (b.length<=300) (∀(l:Addr) (d:Hp),H l=none->A7 H d->d l=some (.lst (b.map V.int))->Q (.ref l) d))\/(Js λ(a:Addr) (c:List Str)=>Hi (f=[.ref a]) (H a=some (.lst (c.map V.str))) (c.length<=300) ((∀w∈c,w.length<=100000)) ((∃w∈c,Bg w=false)) (∀e,A7 H e->E (.ref aE) none e))
theorem ln{S IT:ri}(F:D8 K "numbers_of" "numbers_of" Re ad.lM S)(uI:Gk P w K mg base 1 ad.lL ["word"] (bz K) IT):B1 P w K mg base (CX1 P w) 2 ad.lM S ["words"] (bn K aA aF aG aD aB aE aC aH aI):=by
 refine F.qA pi (λvs H Q E h=>?_) (λaZ A N s H vs Q E hr h=>?_)
 ·rcases h with⟨a,p,rfl,j,C,J,q⟩|⟨a,O,rfl,j,J,G,U,X⟩<;>rfl
 ·obtain h:=h;refine⟨_,(A3 (Av (Df (Bn (Aj (Ev rfl) (by rfl) T.qM boot_all (A0 (Cj (C6 (pv 0)) _ rfl Ka rfl rfl (λ_ _ _ _=>(An (i:=0) Ki rfl (Or.inl rfl))) (λ_ _ _ _=>C8) (λ_ _ _ _=>(Am uI.g (hr.mono (by decide)) rfl T.PN T.PQ uI.b .nil Az (A0 (pv 0) A4)))) A4)))) (A6 (C7 Dg rfl (by rfl) T.mV T.jD (A0 Ae A4))) Ad) (A6 (Af (Cj (C6 (pv 0)) _ rfl Kb rfl rfl (λ_ _ _ _=>(An (i:=0) Kj rfl (Or.inl rfl))) (λ_ _ _ _=>C8) (λ_ _ _ _=>(Bk Nf (by rfl) T.oA boot_int (A0 (pv 0) A4))))))),?_⟩;rcases h with⟨a,p,rfl,j,C,J,q⟩|⟨a,O,rfl,j,J,G,U,X⟩
  ·have get:∀{i:Nat}{v:V},((p.map Bm).map V.str)[i]?=some v->∃n,p[i]?=some n/\v=.str (Bm n)/\rn (Bm n) n/\i<p.length:=λ{i v} l=>by
    rw[List.getElem?_map,List.getElem?_map]at l;obtain⟨w,G,rfl⟩:=d0.mp l;obtain⟨n,u,rfl⟩:=d0.mp G;have Z:=C n (cI u);exact⟨n,u,rfl,Ed Z.1 Z.2,(bt.mp u).1⟩
   refine⟨_,rfl,a,rfl,.inl ⟨⟨_,Ao.of j⟩,λD x=>?_⟩⟩;refine C2 (K:=K) (a:=a) (xs:=(p.map Bm).map V.str) (λi c d=>c=(List.replicate i true).map V.bl/\d D=some (.lst c)/\A7 H d) ⟨rfl,A2,A7.upd x⟩ (by rintro i c d _ ⟨_,_,s⟩;exact Ao.of (s _ _ j)) ?_ ?_
   ·rintro i v c z l ⟨rfl,m,g⟩ R y;obtain⟨n,u,rfl,W,Y⟩:=get l;refine⟨_,rfl,Bm n,rfl,en W.len (by decide),λr f=>?_⟩;rw[W.is];refine y _ _ (f _ _ m) (Ap (by rw[List.length_map,List.length_replicate];omega)) ⟨?_,A2,(g.trans f).new x⟩;rw[List.replicate_succ',List.map_append];rfl
   rintro c z ⟨rfl,m,g⟩;refine⟨D,_,rfl,Ao.of m,_,rfl,?_⟩;refine Bx (by rw[show(List.replicate ((p.map Bm).map V.str).length true).all id=true from List.all_eq_true.mpr λb C=>by rw[List.eq_of_mem_replicate C];rfl];rfl) ?_;refine⟨_,rfl,a,rfl,.inl ⟨⟨_,Ao.of (g _ _ j)⟩,λL B=>?_⟩⟩;refine C2 (K:=K) (a:=a) (xs:=(p.map Bm).map V.str) (λi c d=>c=(p.take i).map V.int/\d L=some (.lst c)/\A7 z d) ⟨rfl,A2,A7.upd B⟩ (by rintro i c d _ ⟨_,_,s⟩;exact Ao.of (s _ _ (g _ _ j))) ?_ ?_
   ·rintro i v c r l ⟨rfl,I,f⟩ R y;obtain⟨n,u,rfl,W,Y⟩:=get l;refine⟨_,rfl,Bm n,n,rfl,W.val,en W.len (by decide),y _ _ I (Ap (by rw[List.length_map,List.length_take];omega)) ⟨?_,A2,f.new B⟩⟩;rw[List.take_add_one,u,List.map_append];rfl
   rintro c r ⟨rfl,I,f⟩;rw[List.length_map,List.length_map,List.take_length]at I;refine q L r ?_ (g.trans f) I;cases e:H L with
   |none=>rfl
   |some o=>rw[g _ _ e]at B;cases B
  ·refine⟨_,rfl,a,rfl,.inl ⟨⟨_,Ao.of j⟩,λD x=>?_⟩⟩;refine C2 (K:=K) (a:=a) (xs:=O.map V.str) (λi c d=>c=((O.take i).map Bg).map V.bl/\d D=some (.lst c)/\A7 H d) ⟨rfl,A2,A7.upd x⟩ (by rintro i c d _ ⟨_,_,s⟩;exact Ao.of (s _ _ j)) ?_ ?_
   ·rintro i v c z l ⟨rfl,m,g⟩ R y;rw[List.getElem?_map]at l;obtain⟨w,M,rfl⟩:=d0.mp l;have Y:=(bt.mp M).1;refine⟨_,rfl,w,rfl,G w (cI M),λr f=>?_⟩;refine y _ _ (f _ _ m) (Ap (by rw[List.length_map,List.length_map,List.length_take];omega)) ⟨?_,A2,(g.trans f).new x⟩;rw[List.take_add_one,M,List.map_append,List.map_append];rfl
   rintro c z ⟨rfl,m,g⟩;rw[List.length_map,List.take_length]at m;refine⟨D,_,rfl,Ao.of m,_,rfl,Cn ?_ ⟨Co,λr f=>X r (g.trans f)⟩⟩;obtain⟨w,mW,wX⟩:=U;rw[Bool.not_eq_true',List.all_eq_false];exact⟨Bg w,fe.mpr ⟨w,mW,rfl⟩,by rw[wX];decide⟩
def cw(K:W.Frag):Sp:=λa H Q _=>Js λ(w:Str) (n:Int)=>a=[.str w,.int n]/\Q (.bl (D1 w n)) H
theorem ny{c:ri}(F:D8 K "takes" "takes" ak ad.lN c):B1 P w K mg base (CX1 P w) 1 ad.lN c ["word","size"] (cw K):=by
 refine F.okN qa (λd H Q E h=>?_) (λf A b s H d Q E g h=>?_)
 ·rcases h with⟨w,n,rfl,q⟩<;>rfl
 ·obtain⟨w,n,rfl,q⟩:=h;refine⟨_,(A3 (Av (Aa (Hd K) (pv 0) (Bv (v:=.ref aW) (by rfl) T.oV rfl) rfl) (A6 (Af (B6 Ba (pv 1) A5 (Ac _)))) Ad) (A3 (Av (Aa (Hd K) (pv 0) (Bv (v:=.ref aQ) (by rfl) T.mP rfl) rfl) (A6 (Af (B6 Ba (pv 1) A5 (Ac _)))) Ad) (A6 (Af (Pb (B6 (Hd K) (pv 0) (Bv (v:=.ref aO) (by rfl) T.jW rfl) rfl) (Hf (B6 Ee (pv 1) A5 (Ac _)))))))),?_⟩;unfold D1 at q;refine⟨_,rfl,aW,_,rfl,.inr (T.fK H),rfl,rfl,_,rfl,?_⟩;refine D0 (λh=>?_) (λh=>?_)
  ·have a:Gr (.str w) [.str "best",.str "rank"]=true:=h;rw[if_pos a]at q;exact⟨_,rfl,rfl,q⟩
  have a:¬Gr (.str w) [.str "best",.str "rank"]=true:=h;rw[if_neg a]at q;refine⟨_,rfl,aQ,_,rfl,.inr (T.dR H),rfl,rfl,_,rfl,?_⟩;refine D0 (λh=>?_) (λh=>?_)
  ·have a:Gr (.str w) [.str "call",.str "lost",.str "answer",.str "join",.str "leave",.str "turn"]=true:=h;rw[if_pos a]at q;exact⟨_,rfl,rfl,q⟩
  have a:¬Gr (.str w) [.str "call",.str "lost",.str "answer",.str "join",.str "leave",.str "turn"]=true:=h;rw[if_neg a]at q;exact⟨_,rfl,aO,_,rfl,.inr (T.cT H),rfl,rfl,_,decide (n>0),rfl,(λ_ e z=>⟨_,rfl,_,_,rfl,rfl,z⟩),q⟩
def ce(K:W.Frag)(aA aF aG aD aB aE aC aH aI:Addr):Sp:=λf H Q E=>(di λ(x d:Str) (e:qQ) (c:q3)=>Fk (f=[.str x]) (Ku x d e c) (∀(p l:Addr) (a:Hp),A7 H a->a p=some (.tup [.str d,.ref l,vO c])->a l=some (.lst (e.map V.int))->Q (.ref p) a))\/(∃(v:V),Fk (f=[v]) ((K8 H v\/∃x,v=.str x/\Xg x)) (∀b,A7 H b->E (.ref aE) none b))
theorem n0{fd IU IV:ri}(F:D8 K "row_read" "row_read" ac ad.lO fd)(oJ:Gk P w K mg base 2 ad.lM ["words"] (bn K aA aF aG aD aB aE aC aH aI) IU)(uJ:Gk P w K mg base 1 ad.lN ["word","size"] (cw K) IV):B1 P w K mg base (CX1 P w) 3 ad.lO fd ["row"] (ce K aA aF aG aD aB aE aC aH aI):=by
 refine F.qA Jo (λg H Q E h=>?_) (λaZ A outer s H g Q E hr h=>?_)
 ·rcases h with⟨x,a,f,o,rfl,D,q⟩|⟨v,rfl,X,he⟩<;>rfl
 ·obtain h:=h;refine⟨_,(A3 (Av (Df (Bn (Aj (Iz K) (by rfl) T.aM boot_isinstance (A0 (pv 0) (A0 (Uq (by rfl) T.mD boot_str) A4))))) (A6 (C7 Dg rfl (by rfl) T.mV T.jD (A0 Ae A4))) Ad) (A3 (Ab (i:=1) Jo.nd rfl (Or.inl rfl) (Dq PySem.F.plainAttrs_str PySem.F.slot_str_split PySem.F.type_str_split Hz (pv 0) (A0 Ae A4))) (A3 (Ab (i:=2) Jo.nd rfl (Or.inl rfl) Cd) (A3 (De (PW.pt (gq (Aa Ba (Au (Ay K) (pv 1) A5 (λ_ _=>rfl)) Ae (Ac _)) (Dl (Aa (Yy hr) (Bb (Cg K) (pv 1) (Bl (Eg Dh A5)) (Bl (Eg Dh A5))) (Bp (A0 Ae A4)) (Ac _))))) (A3 (Ab (i:=2) Jo.nd rfl (Or.inl rfl) (Au (Ay K) (Cu oJ.g (hr.mono (by decide)) rfl T.CH T.CI oJ.b .nil Ey (A0 (Bb (Cg K) (pv 1) (Bl (Eg Dh A5)) Bw) A4)) A5 (λ_ _=>rfl))) (A6 (Ab (i:=1) Jo.nd rfl (Or.inl rfl) (Bb (Cg K) (pv 1) Bw (Bl (Eg Dh A5)))))) Ad) (A3 (Ab (i:=3) Jo.nd rfl (Or.inl rfl) (Cu oJ.g (hr.mono (by decide)) rfl T.CH T.CI oJ.b .nil Ey (A0 (Bb (Cg K) (pv 1) (Bl A5) Bw) A4))) (A3 (Av (Df (Bn (Am uJ.g (hr.mono (by decide)) rfl T.PR T.PU uJ.b .nil Az (A0 (Au (Ay K) (pv 1) A5 (λ_ _=>rfl)) (A0 (Aj (C1 K) (by rfl) T.cB PySem.boot_len (A0 (pv 3) A4)) A4))))) (A6 (C7 Dg rfl (by rfl) T.mV T.jD (A0 Ae A4))) Ad) (A6 (Af (Dd (A0 (Au (Ay K) (pv 1) A5 (λ_ _=>rfl)) (A0 (pv 3) (A0 (pv 2) A4)))))))))))),?_⟩;rcases h with⟨x,a,f,o,rfl,D,q⟩|⟨v,rfl,X,he⟩
  ·refine⟨_,rfl,_,"str","str",true,rfl,.str x,F8,_,rfl,Bx rfl ?_⟩;refine⟨_,rfl,rfl,x,_,rfl,rfl,by decide,D.len,λW hW=>?_⟩;rw[D.cut];have Y:A7 H (upd H W (.lst ((a::(f.map Bm++C3 o)).map V.str))):=A7.upd hW;have S:(upd H W (.lst ((a::(f.map Bm++C3 o)).map V.str))) W=some (.lst ((a::(f.map Bm++C3 o)).map V.str)):=A2;generalize upd H W (.lst ((a::(f.map Bm++C3 o)).map V.str))=J at Y S⊢
   have hokw:∀w∈a::(f.map Bm++C3 o),PyData.strOk w=true:=λw y=>by
    rcases eu.mp y with z|z
    ·rw[z];exact D.ok
    ·rcases fy.mp z with z|z
     ·obtain⟨n,M,rfl⟩:=fe.mp z;exact O6 (D.big n M)
     ·cases o with
      |none=>cases z
      |some c=>
       rcases eu.mp z with z|z
       ·rw[z];decide+kernel
       ·rw[List.mem_singleton.mp z];exact O6 (D.calm c rfl).1
   refine⟨_,rfl,W,_,_,.str a,rfl,rfl,.inl (Ao.of S),U4,rfl,_,rfl,(λd R=>d=o.isSome/\A7 J R),λhc=>?_,λhc=>?_,?_⟩
   ·have fI:a≠Str.ofString "hall":=λz=>by simp[z]at hc
    cases o with
    |none=>exact⟨rfl,A7.refl _⟩
    |some c=>exact absurd (D.calm c rfl).2 fI
   ·have hh:a=Str.ofString "hall":=by simpa using hc
    refine⟨_,rfl,_,rfl,_,rfl,_,rfl,_,rfl,W,_,rfl,Ao.of S,λb N=>?_⟩;rw[Bi];have r:A7 J (upd J b (.lst ((Cw (a::(f.map Bm++C3 o)) (some (-2)) (some (-1))).map V.str))):=A7.upd N;have u:(upd J b (.lst ((Cw (a::(f.map Bm++C3 o)) (some (-2)) (some (-1))).map V.str))) b=some (.lst ((Cw (a::(f.map Bm++C3 o)) (some (-2)) (some (-1))).map V.str)):=A2;generalize upd J b (.lst ((Cw (a::(f.map Bm++C3 o)) (some (-2)) (some (-1))).map V.str))=j at r u⊢;refine⟨B7,λcl nZ=>?_⟩;have i:A7 j (upd j cl (.lst [.str "calm"])):=A7.upd nZ;refine⟨_,_,Gf (i _ _ u) (λw y=>hokw w (List.mem_of_mem_drop (List.mem_of_mem_take y))),Gf (ss:=[Str.ofString "calm"]) A2 (λw y=>by rw[List.mem_singleton.mp y];decide+kernel),Ha _,_,rfl,?_,r.trans i⟩;show PyData.eqv _ _=_;rw[Lh];cases o with
    |none=>
     refine me (Vt λz=>?_);rcases eu.mp z with z|z
     ·rw[hh]at z;exact absurd z (by decide)
     ·rcases fy.mp z with z|z
      ·obtain⟨n,M,e⟩:=fe.mp z;exact Ga (D.big n M) (by decide) e
      ·cases z
    |some c=>
     refine decide_eq_true ?_;show Cw ((a::f.map Bm)++[Str.ofString "calm",Bm c]) _ _=_;exact(Dz _ _ _).1
   rintro d j ⟨rfl,r⟩;have u:=r _ _ S;refine⟨(λO R=>∃(C:Addr),Fk (O=[some (.str x),some (.ref C),some (vO o),none]) (A7 H R) (R C=some (.lst ((a::f.map Bm).map V.str)))),λhb=>?_,λhb=>?_,?_⟩
   ·obtain⟨c,rfl⟩:∃c,o=some c:=Option.isSome_iff_exists.mp hb;have rO:=Dz (a::f.map Bm) (Str.ofString "calm") (Bm c);refine⟨_,rfl,_,rfl,_,rfl,W,_,rfl,Ao.of u,λb N=>?_⟩;rw[Bi,show Cw (a::(f.map Bm++C3 (some c))) (some (-1)) none=[Bm c]from rO.2.1];have i:A7 j (upd j b (.lst ([Bm c].map V.str))):=A7.upd N;have G:(upd j b (.lst ([Bm c].map V.str))) b=some (.lst ([Bm c].map V.str)):=A2;generalize upd j b (.lst ([Bm c].map V.str))=L at i G⊢;refine⟨E,λ_ _ _ z=>z,.inl ⟨b,[c],rfl,G,(λn M=>by rw[List.mem_singleton.mp M];exact(D.calm c rfl).1),(by show 1<=300;decide),λl H4 hl B U=>?_⟩⟩;refine⟨l,_,_,_,rfl,rfl,.inl (Ao.of U),rfl,?_⟩;refine⟨_,rfl,_,rfl,_,rfl,W,_,rfl,Ao.of (B _ _ (i _ _ u)),λW2 Z=>?_⟩;rw[Bi,show Cw (a::(f.map Bm++C3 (some c))) none (some (-2))=a::f.map Bm from rO.2.2];exact⟨W2,rfl,(((Y.trans r).trans i).trans B).trans (A7.upd Z),A2⟩
   ·have M:o=none:=by simpa using hb
    subst M;refine⟨W,rfl,Y.trans r,?_⟩;rw[show f.map Bm++C3 none=f.map Bm from List.append_nil _]at u;exact u
   rintro O L ⟨C,rfl,i,G⟩;refine⟨_,rfl,_,rfl,C,_,rfl,Ao.of G,λb N=>?_⟩;rw[Bi,Hq];have B:A7 L (upd L b (.lst ((f.map Bm).map V.str))):=A7.upd N;have e4:(upd L b (.lst ((f.map Bm).map V.str))) b=some (.lst ((f.map Bm).map V.str)):=A2;generalize upd L b (.lst ((f.map Bm).map V.str))=H4 at B e4⊢;refine⟨E,λ_ _ _ z=>z,.inl ⟨b,f,rfl,e4,D.big,D.qB,λl H5 hl s5 U=>?_⟩⟩;have e5:=s5 _ _ (B _ _ G);refine⟨_,rfl,C,_,_,.str a,rfl,rfl,.inl (Ao.of e5),U4,_,rfl,l,_,rfl,.inl (Ao.of U),a,_,rfl,_,rfl,?_⟩;refine Bx (by rw[List.length_map,D.tak];rfl) ?_;refine⟨_,rfl,C,_,_,.str a,rfl,rfl,.inl (Ao.of e5),U4,_,rfl,_,rfl,B7,λp hp=>?_⟩;exact q p l _ (((i.trans B).trans s5).trans (A7.upd hp)) A2 ((A7.upd hp) _ _ U)
  ·rcases X with X|⟨x,rfl,X⟩
   ·obtain⟨T0,ty,kb⟩:=X.ty (K:=K);exact⟨_,rfl,_,T0,"str",false,rfl,ty,kb,_,rfl,Cn rfl ⟨Co,λj r=>he j r⟩⟩
   obtain⟨hlen,a,I,hcut,aP,TC⟩:=X;refine⟨_,rfl,_,"str","str",true,rfl,.str x,F8,_,rfl,Bx rfl ?_⟩;refine⟨_,rfl,rfl,x,_,rfl,rfl,by decide,hlen,λW hW=>?_⟩;rw[hcut];have Y:A7 H (upd H W (.lst ((a::I).map V.str))):=A7.upd hW;have S:(upd H W (.lst ((a::I).map V.str))) W=some (.lst ((a::I).map V.str)):=A2;generalize upd H W (.lst ((a::I).map V.str))=J at Y S⊢
   have cal:(Cw (a::I) (some (-2)) (some (-1))=[Str.ofString "calm"]/\a=Str.ofString "hall")↔∃(g:List Str) (c:Str),a=Str.ofString "hall"/\I=g++[Str.ofString "calm",c]/\c.length<=100000/\(Bg c=false\/(∃n:Int,c=Bm n/\0<=n/\n<10^100)/\Xa a g):=by
    constructor
    ·rintro⟨h1,h2⟩;rcases TC with⟨z|z,_⟩|z
     ·exact absurd h2 z
     ·exact absurd h1 z
     ·exact z
    ·rintro⟨g,c,h1,h2,_⟩;refine⟨?_,h1⟩;rw[h2];exact(Dz (a::g) (Str.ofString "calm") c).1
   refine⟨_,rfl,W,_,_,.str a,rfl,rfl,.inl (Ao.of S),U4,rfl,_,rfl,(λd R=>d=decide (Cw (a::I) (some (-2)) (some (-1))=[Str.ofString "calm"]/\a=Str.ofString "hall")/\A7 J R),λhc=>⟨?_,A7.refl _⟩,λhc=>?_,?_⟩
   ·have hh:a≠Str.ofString "hall":=λz=>by simp[z]at hc
    exact(me λz=>hh z.2).symm
   ·have hh:a=Str.ofString "hall":=by simpa using hc
    refine⟨_,rfl,_,rfl,_,rfl,_,rfl,_,rfl,W,_,rfl,Ao.of S,λb N=>?_⟩;rw[Bi];have r:A7 J (upd J b (.lst ((Cw (a::I) (some (-2)) (some (-1))).map V.str))):=A7.upd N;have u:(upd J b (.lst ((Cw (a::I) (some (-2)) (some (-1))).map V.str))) b=some (.lst ((Cw (a::I) (some (-2)) (some (-1))).map V.str)):=A2;generalize upd J b (.lst ((Cw (a::I) (some (-2)) (some (-1))).map V.str))=j at r u⊢;refine⟨B7,λcl nZ=>?_⟩;have i:A7 j (upd j cl (.lst [.str "calm"])):=A7.upd nZ;refine⟨_,_,Gf (i _ _ u) (λw y=>aP w (List.mem_of_mem_drop (List.mem_of_mem_take y))),Gf (ss:=[Str.ofString "calm"]) A2 (λw y=>by rw[List.mem_singleton.mp y];decide+kernel),Ha _,_,rfl,?_,r.trans i⟩;show PyData.eqv _ _=_;rw[Lh,Bool.eq_iff_iff,decide_eq_true_iff,decide_eq_true_iff];exact⟨λz=>⟨z,hh⟩,λz=>z.1⟩
   rintro d j ⟨rfl,r⟩;have u:=r _ _ S;refine⟨(λO R=>Mn λ(C:Addr) (v2:V) (g:List Str)=>Iw (O=[some (.str x),some (.ref C),some v2,none]) (A7 H R) (R C=some (.lst ((a::g).map V.str))) (Xa a g)),λhb=>?_,λhb=>⟨W,.aX,I,rfl,Y.trans r,u,?_⟩,?_⟩
   ·obtain⟨g,c,hh,rfl,nZ,y⟩:=cal.mp (of_decide_eq_true hb);have rO:=Dz (a::g) (Str.ofString "calm") c;refine⟨_,rfl,_,rfl,_,rfl,W,_,rfl,Ao.of u,λb N=>?_⟩;rw[Bi,show Cw (a::(g++[Str.ofString "calm",c])) (some (-1)) none=[c]from rO.2.1];have i:A7 j (upd j b (.lst ([c].map V.str))):=A7.upd N;have G:(upd j b (.lst ([c].map V.str))) b=some (.lst ([c].map V.str)):=A2;generalize upd j b (.lst ([c].map V.str))=L at i G⊢;rcases y with y|⟨⟨n,rfl,M⟩,hbw⟩
    ·exact⟨E,λ_ _ _ z=>z,.inr ⟨b,[c],rfl,G,(by show 1<=300;decide),(λw mU=>by rw[List.mem_singleton.mp mU];exact nZ),⟨c,i0.mpr rfl,y⟩,λH9 s9=>he H9 (((Y.trans r).trans i).trans s9)⟩⟩
    refine⟨E,λ_ _ _ z=>z,.inl ⟨b,[n],rfl,G,(λm hm=>by rw[List.mem_singleton.mp hm];exact M),(by show 1<=300;decide),λl H4 hl B U=>?_⟩⟩;refine⟨l,_,_,_,rfl,rfl,.inl (Ao.of U),rfl,?_⟩;refine⟨_,rfl,_,rfl,_,rfl,W,_,rfl,Ao.of (B _ _ (i _ _ u)),λW2 Z=>?_⟩;rw[Bi,show Cw (a::(g++[Str.ofString "calm",Bm n])) none (some (-2))=a::g from rO.2.2];exact⟨W2,_,g,rfl,(((Y.trans r).trans i).trans B).trans (A7.upd Z),A2,hbw⟩
   ·have M:=of_decide_eq_false hb;rcases TC with⟨_,z⟩|z
    ·exact z
    ·exact absurd (cal.mpr z) M
   rintro O L ⟨C,v2,g,rfl,i,G,pL,vY,qU⟩;refine⟨_,rfl,_,rfl,C,_,rfl,Ao.of G,λb N=>?_⟩;rw[Bi,Hq];have B:A7 L (upd L b (.lst (g.map V.str))):=A7.upd N;have e4:(upd L b (.lst (g.map V.str))) b=some (.lst (g.map V.str)):=A2;generalize upd L b (.lst (g.map V.str))=H4 at B e4⊢;have YQ:=i.trans B;rcases qU with X|⟨f,rfl,fF,XD⟩
   ·exact⟨E,λ_ _ _ z=>z,.inr ⟨b,g,rfl,e4,vY,pL,X,λH9 s9=>he H9 (YQ.trans s9)⟩⟩
   rw[List.length_map]at vY;refine⟨E,λ_ _ _ z=>z,.inl ⟨b,f,rfl,e4,fF,vY,λl H5 hl s5 U=>?_⟩⟩;have e5:=s5 _ _ (B _ _ G);refine⟨_,rfl,C,_,_,.str a,rfl,rfl,.inl (Ao.of e5),U4,_,rfl,l,_,rfl,.inl (Ao.of U),a,_,rfl,_,rfl,?_⟩;exact Cn (by rw[List.length_map,XD];rfl) ⟨Co,λH9 s9=>he H9 ((YQ.trans s5).trans s9)⟩
def bo(K:W.Frag):Sp:=λb H Q _=>Js λ(a:Addr) (r:Int×Int)=>Fl (b=[.ref a]) (H a=some (.tup [.int r.1,.int r.2])) ((0<=r.1/\r.1<10^100)) ((0<=r.2/\r.2<10^100)) (Q (.str (Er r)) H)
theorem lp{d:ri}(F:D8 K "place_text" "place_text" Zv ad.lP d):B1 P w K mg base (CX1 P w) 1 ad.lP d ["place"] (bo K):=by
 refine F.okN Tc (λg H Q E h=>?_) (λi A c s H g Q E j h=>?_)
 ·rcases h with⟨a,r,rfl,b,e,f,q⟩<;>rfl
 ·obtain⟨a,r,rfl,b,e,f,q⟩:=h;refine⟨_,(A3 (Ab (i:=1) Tc.nd rfl (Or.inl rfl) (Au (Ay K) (pv 0) A5 (λ_ _=>rfl))) (A3 (Ab (i:=2) Tc.nd rfl (Or.inl rfl) (Au (Ay K) (pv 0) A5 (λ_ _=>rfl))) (A6 (Af (o4 (pv 1) (pv 2)))))),?_⟩;refine⟨_,rfl,a,_,_,_,rfl,rfl,.inr (Cp.of b),rfl,?_⟩;refine⟨_,rfl,a,_,_,_,rfl,rfl,.inr (Cp.of b),rfl,?_⟩;exact⟨_,rfl,r.1,rfl,F9 e,by decide,_,rfl,r.2,rfl,F9 f,q⟩
def jd(K:W.Frag)(aA aF aG aD aB aE aC aH aI:Addr):Sp:=λc H Q _=>Js λ(x b:Addr)=>Fk (c=[.ref x]) (H x=some (.ins aH b [])) (∀a,Gn x H a->a x=some (.ins aH b (Cq .aX .aX .aX .aX))->Q .aX a)
theorem ud{c:ri}(F:D8 K "__init__" "Desk.__init__" oz ad.qH c):B1 P w K mg base (CX1 P w) 1 ad.qH c ["self"] (jd K aA aF aG aD aB aE aC aH aI):=by
 refine F.okN vd (λe H Q E h=>?_) (λf A b s H e Q E g h=>?_)
 ·rcases h with⟨x,a,rfl,d,q⟩<;>rfl
 ·obtain⟨x,a,rfl,d,q⟩:=h;refine⟨_,(A3 (Fw (pv 0) Cd rfl) (A3 (Fw (pv 0) Cd rfl) (A3 (Fw (pv 0) Cd rfl) (A6 (Fw (pv 0) Cd rfl))))),?_⟩;refine⟨_,rfl,x,_,a,_,rfl,d,T.aY,T.eP,(by show 0<1000;decide),?_⟩;refine⟨_,rfl,x,_,a,_,rfl,A2,T.aY,T.bP,(by show 1<1000;decide),?_⟩;refine⟨_,rfl,x,_,a,_,rfl,A2,T.aY,T.gW,(by show 2<1000;decide),?_⟩;refine⟨_,rfl,x,_,a,_,rfl,A2,T.aY,T.bU,(by show 3<1000;decide),?_⟩;rw[Ir,Ir,Ir];exact q _ Gn.ins A2
def j7(K:W.Frag)(aA aF aG aD aB aE aC aH aI:Addr):Sp:=λh H Q E=>(re λ(x c:Addr) (a d e b:V) (w:Str)=>Fl (h=[.ref x,.str w]) (H x=some (.ins aH c (Cq a d e b))) ((w=Str.ofString "turn"->b≠ .aX)) ((Gr (.str w) [.str "hall",.str "wheel",.str "turn"]=false->a≠ .aX)) (∀f,A7 H f->Q .aX f))\/(re λ(x c:Addr) (a d e b:V) (w:Str)=>Iw (h=[.ref x,.str w]) (H x=some (.ins aH c (Cq a d e b))) ((w=Str.ofString "turn"/\b=.aX\/Gr (.str w) [.str "hall",.str "wheel",.str "turn"]=false/\a=.aX)) (∀g,A7 H g->E (.ref aC) none g))
theorem u5{v:ri}(F:D8 K "refuse_without_stand" "Desk.refuse_without_stand" ot ad.qI v):B1 P w K mg base (CX1 P w) 1 ad.qI v ["self","word"] (j7 K aA aF aG aD aB aE aC aH aI):=by
 refine F.qA va (λG H Q E h=>?_) (λI A n s H G Q E J h=>?_)
 ·rcases h with⟨x,a,e,r,u,d,w,rfl,b,g,C,q⟩|⟨x,a,e,r,u,d,w,rfl,b,B,l⟩<;>rfl
 ·obtain h:=h;refine⟨_,(A3 (Av (PW.pt (Dm (Aa Ba (pv 1) Ae (Ac _)) (Dl (Aa M4 (Pd (pv 0) rfl) Cd (Ac _))))) (A6 (C7 Dg rfl (by rfl) T.jX T.gP (A0 Ae A4))) Ad) (A6 (Av (PW.pt (Dm (Aa (Ws K) (pv 1) (Dd (A0 Ae (A0 Ae (A0 Ae A4)))) rfl) (Dl (Aa M4 (Pd (pv 0) rfl) Cd (Ac _))))) (A6 (C7 Dg rfl (by rfl) T.jX T.gP (A0 Ae A4))) Ad))),?_⟩;rcases h with⟨x,a,e,r,u,d,w,rfl,b,g,C,q⟩|⟨x,a,e,r,u,d,w,rfl,b,B,l⟩
  ·refine⟨_,rfl,rfl,_,rfl,decide (d=.aX),(λ_ i z=>⟨_,rfl,x,_,a,_,d,rfl,b,T.aY,T.bU,rfl,rfl,_,rfl,z⟩),Bx ?_ ?_⟩
   ·rw[Bool.and_eq_false_iff,decide_eq_false_iff_not,decide_eq_false_iff_not];by_cases z:w=Str.ofString "turn"
    ·exact .inr (g z)
    ·exact .inl λy=>z (by injection y)
   refine⟨_,rfl,B7,λp m=>?_⟩;have c:A7 H (upd H p (.tup [.str "hall",.str "wheel",.str "turn"])):=A7.upd m;have f:(upd H p (.tup [.str "hall",.str "wheel",.str "turn"])) p=some (.tup [.str "hall",.str "wheel",.str "turn"]):=A2;generalize upd H p (.tup [.str "hall",.str "wheel",.str "turn"])=D at c f⊢;refine⟨p,_,rfl,.inr (Cp.of f),rfl,rfl,_,rfl,decide (e=.aX),(λ_ i z=>⟨_,rfl,x,_,a,_,e,rfl,c _ _ b,T.aY,T.eP,rfl,rfl,_,rfl,z⟩),Bx ?_ (q _ c)⟩;show(!Gr (.str w) [.str "hall",.str "wheel",.str "turn"]&&decide (e=.aX))=false;rw[Bool.and_eq_false_iff,Bool.not_eq_false',decide_eq_false_iff_not];cases z:Gr (.str w) [.str "hall",.str "wheel",.str "turn"]with
   |true=>exact .inl rfl
   |false=>exact .inr (C z)
  ·rcases B with⟨rfl,rfl⟩|⟨g,rfl⟩
   ·exact⟨_,rfl,rfl,_,rfl,true,(λ_ i z=>⟨_,rfl,x,_,a,_,_,rfl,b,T.aY,T.bU,rfl,rfl,_,rfl,z⟩),Cn (by decide) ⟨Co,λj o=>l j o⟩⟩
   refine⟨_,rfl,rfl,_,rfl,decide (d=.aX),(λ_ i z=>⟨_,rfl,x,_,a,_,d,rfl,b,T.aY,T.bU,rfl,rfl,_,rfl,z⟩),Bx ?_ ?_⟩
   ·rw[Bool.and_eq_false_iff];refine .inl (me λz=>?_);injection z with z;subst z;exact absurd g (by decide)
   refine⟨_,rfl,B7,λp m=>?_⟩;have c:A7 H (upd H p (.tup [.str "hall",.str "wheel",.str "turn"])):=A7.upd m;have f:(upd H p (.tup [.str "hall",.str "wheel",.str "turn"])) p=some (.tup [.str "hall",.str "wheel",.str "turn"]):=A2;generalize upd H p (.tup [.str "hall",.str "wheel",.str "turn"])=D at c f⊢;refine⟨p,_,rfl,.inr (Cp.of f),rfl,rfl,_,rfl,true,(λ_ i z=>⟨_,rfl,x,_,a,_,_,rfl,c _ _ b,T.aY,T.eP,rfl,rfl,_,rfl,z⟩),Cn ?_ ⟨Co,λj o=>l j (c.trans o)⟩⟩;show(!Gr (.str w) [.str "hall",.str "wheel",.str "turn"]&&true)=true;rw[g];rfl
def cf(K:W.Frag)(aA aF aG aD aB aE aC aH aI:Addr):Sp:=λh H Q _=>wd λ(x a:Addr) (e f g w b c d:V)=>Fk (h=[.ref x,b,c,d]) (H x=some (.ins aH a (Cq e f g w))) (Q .aX (upd H x (.ins aH a (Cq b c d w))))
theorem n8{c:ri}(F:D8 K "put" "Desk.put" ae ad.lQ c):B1 P w K mg base (CX1 P w) 1 ad.lQ c ["self","hall","standing","table"] (cf K aA aF aG aD aB aE aC aH aI):=by
 refine F.okN pq (λm H Q E h=>?_) (λn A b s H m Q E o h=>?_)
 ·rcases h with⟨x,a,e,g,j,w,f,i,l,rfl,d,q⟩<;>rfl
 ·obtain⟨x,a,e,g,j,w,f,i,l,rfl,d,q⟩:=h;refine⟨_,(A3 (Fw (pv 0) (pv 1) rfl) (A3 (Fw (pv 0) (pv 2) rfl) (A6 (Fw (pv 0) (pv 3) rfl)))),?_⟩;refine⟨_,rfl,_,rfl,x,_,a,_,rfl,d,T.aY,T.eP,(by show 4<1000;decide),?_⟩;refine⟨_,rfl,_,rfl,x,_,a,_,rfl,A2,T.aY,T.bP,(by show 4<1000;decide),?_⟩;refine⟨_,rfl,_,rfl,x,_,a,_,rfl,A2,T.aY,T.gW,(by show 4<1000;decide),?_⟩;rw[Ir,Ir];exact q
def je(K:W.Frag)(aA aF aG aD aB aE aC aH aI:Addr):Sp:=λl H Q E=>(wd λ(x d a:Addr) (f g h w:V) (b:qQ) (c:q3)=>Fl (l=[.ref x,.ref a]) (H x=some (.ins aH d (Cq f g h w))) (Bf H a b c) (ik b c) (∀(i:qs) (e:Hp),Gn x H e->ii aH e x d b c b 0 i w->U2 b c i->Q (.str (ix i (b,0))) e))\/(wd λ(x d a:Addr) (f g h w:V) (b:qQ) (c:q3)=>Px (l=[.ref x,.ref a]) (H x=some (.ins aH d (Cq f g h w))) (Bf H a b c) ((∀w∈b,intBits w<=400)) (intBits (qv c)<=400) (b.length<=8) (3000<B0 (qv c) b) (∀j,A7 H j->E (.ref aB) none j))
theorem ue{fd IW IX IY:ri}(F:D8 K "new_hall" "Desk.new_hall" pc ad.qJ fd)(uK:Gk P w K mg base 7 ad.lK ["hall"] (cv K aA aF aG aD aB aE aC aH aI) IW)(uL:Gk P w K mg base 1 ad.lQ ["self","hall","standing","table"] (cf K aA aF aG aD aB aE aC aH aI) IX)(uM:Gk P w K mg base 1 ad.lB ["hall"] (bv K) IY):B1 P w K mg base (CX1 P w) 8 ad.qJ fd ["self","hall"] (je K aA aF aG aD aB aE aC aH aI):=by
 refine F.qA j6 (λvs H Q E h=>?_) (λaZ A Z s H vs Q E r h=>?_)
 ·rcases h with⟨x,d,a,J,M,O,w,e,f,rfl,B,j,n,q⟩|⟨x,d,a,J,M,O,w,e,f,rfl,B,j,nB,jQ,h8,hp,he⟩<;>rfl
 ·obtain h:=h;refine⟨_,(A3 (Ab (i:=2) j6.nd rfl (Or.inl rfl) (Cu uK.g (r.mono (by decide)) rfl T.PL T.PM uK.b .nil Ey (A0 (pv 1) A4))) (A3 (Cy (Up (pv 0) T.aY T.QS uL.g (r.mono (by decide)) uL.b .nil Az (A0 (pv 1) (A0 (Am uM.g (r.mono (by decide)) rfl T.OO T.OP uM.b .nil Az (A0 (pv 1) A4)) (A0 (pv 2) A4))))) (A3 (Av (Zb (Z1 (Ot r) (Pd (pv 0) rfl) (pv 2)) rfl) (A6 (Af (Ah Ct Ae (Bk Da (by rfl) T.mD boot_str (A0 (Uo (Ot r) (pv 2) (Pd (pv 0) rfl) (λ_ _=>rfl)) A4))))) Ad) (A6 (Af Ae))))),?_⟩;rcases h with⟨x,d,a,J,M,O,w,e,f,rfl,B,j,n,q⟩|⟨x,d,a,J,M,O,w,e,f,rfl,B,j,nB,jQ,h8,hp,he⟩
  ·have X:1<=qv f/\qv f<=3001:=by
    cases f with
    |none=>exact⟨Int.le_refl _,by decide⟩
    |some c=>
     have:=n.2.1 c rfl;show 1<=c+1/\c+1<=3001;omega
   refine⟨_,rfl,E,λ_ _ _ z=>z,.inl ⟨a,e,f,rfl,j,(λw Y=>(n.1 w Y).1),X.1,(λw Y=>en (F3 (n:=12) (by have:=n.1 w Y;omega)) (by decide)),en (F3 (n:=12) (by omega)) (by decide),n.2.2.2.1,n.2.2.2.2,λg R H1 hTB D eT u U XX=>?_⟩⟩;have IZ:U2 e f R:=⟨u,U,XX⟩;refine⟨_,rfl,x,d,_,rfl,D _ _ B,rfl,_,rfl,_,rfl,a,e,f,rfl,j.same D,λb G N hb=>?_⟩;have L:=N _ _ (D _ _ B);refine⟨_,rfl,x,d,J,M,O,w,_,_,_,rfl,L,?_⟩;have p:Gn x G (upd G x (.ins aH d (Cq (.ref a) (.ref b) (.ref g) w))):=Gn.ins;have I:(upd G x (.ins aH d (Cq (.ref a) (.ref b) (.ref g) w))) x=some (.ins aH d (Cq (.ref a) (.ref b) (.ref g) w)):=A2;generalize upd G x (.ins aH d (Cq (.ref a) (.ref b) (.ref g) w))=o at p I⊢;have S:=((j.same D).same N).but p L;have l:=hb.but p L;have i:=p.dT L (N _ _ eT);have bb:=((Gn.of (x:=x) D).trans (Gn.of N)).trans p;have hD:ii aH o x d e f e 0 R w:=⟨a,b,g,I,S,l,i⟩;have C:=q R o bb hD IZ;unfold ix at C;refine⟨_,rfl,x,_,d,_,.ref b,rfl,I,T.aY,T.bP,rfl,_,rfl,g,_,rfl,Fn.t i (show Jt o b (e,0)from l),_,rfl,?_⟩;cases y:Ar R (e,0)with
   |none=>
    refine Bx rfl ?_;rw[y]at C;exact C
   |some v=>
    obtain⟨m,rfl,_⟩:=u.1 _ _ y;have hm:=gx IZ y
    have dg:Fn o g (.ref b) (some (.int m)):=by
     rw[<- y];exact Fn.t i (show Jt o b (e,0)from l)
    rw[y]at C;have hl:=(Ed (n:=m) (by omega) (by omega)).len;refine Cn rfl ⟨_,rfl,_,rfl,x,_,d,_,.ref b,rfl,I,T.aY,T.bP,rfl,g,_,rfl,dg,m,rfl,F9 ⟨by omega,by omega⟩,_,_,rfl,rfl,?_,C⟩;show(Str.ofString "broken within ").length+(Bm m).length<=sizeLine;exact en (Nat.add_le_add_left hl _) (by decide)
  ·exact⟨_,rfl,E,λ_ _ _ z=>z,.inr ⟨a,e,f,rfl,j,nB,jQ,h8,hp,he⟩⟩
def jb(K:W.Frag)(aA aF aG aD aB aE aC aH aI:Addr):Sp:=λi H Q _=>re λ(x d:Addr) (e f g w:V) (v:V)=>Fk (i=[.ref x,v]) (H x=some (.ins aH d (Cq e f g w))) (((v=.aX/\Q (.str (Str.ofString "none")) H)\/
 ∃(t p:Addr) (b:Int) (h:List V) (a:List (Int×Int)),v=.ref t/\H t=some (.tup [.int b,.ref p])/\H p=some (.lst h)/\Aq (Vg H) a h/\(0<=b/\b<10^100)/\a.length<=300/\(∀r∈a,(0<=r.1/\r.1<10^100)/\(0<=r.2/\r.2<10^100))/\
  ∀c,Gn x H c->c x=some (.ins aH d (Cq e f g (.ref p)))->Q (.str (qp b a)) c))
theorem u9{fd JA:ri}(F:D8 K "new_wheel" "Desk.new_wheel" i4 ad.qK fd)(uN:Gk P w K mg base 1 ad.lP ["place"] (bo K) JA):B1 P w K mg base (CX1 P w) 2 ad.qK fd ["self","found"] (jb K aA aF aG aD aB aE aC aH aI):=by
 refine F.okN vc (λvs H Q E h=>?_) (λaZ A X s H vs Q E hr h=>?_)
 ·rcases h with⟨x,d,C,I,J,w,v,rfl,G,hk⟩<;>rfl
 ·obtain⟨x,d,C,I,J,w,v,rfl,G,hk⟩:=h;refine⟨_,(A3 (Av (Aa M4 (pv 1) Cd (Ac _)) (A6 (Af Ae)) Ad) (A3 (Fw (pv 0) (Au (Ay K) (pv 1) A5 (λ_ _=>rfl)) rfl) (A6 (Af (Dq PySem.F.plainAttrs_str PySem.F.slot_str_join PySem.F.type_str_join (P4 K) Ae (A0 (Ah M3 (Bp (A0 (Ah Ct Ae (Bk Da (by rfl) T.mD boot_str (A0 (Au (Ay K) (pv 1) A5 (λ_ _=>rfl)) A4))) A4)) (Cj (C6 (Au (Ay K) (pv 1) A5 (λ_ _=>rfl))) _ rfl Gi rfl rfl (λ_ _ _ _=>(An (i:=0) Gm rfl (Or.inl rfl))) (λ_ _ _ _=>C8) (λ_ _ _ _=>(Am uN.g (hr.mono (by decide)) rfl T.PY T.PZ uN.b .nil Az (A0 (pv 0) A4))))) A4)))))),?_⟩;rcases hk with⟨rfl,q⟩|⟨t,p,b,us,a,rfl,ht,hp,all,S,hl,qY,q⟩
  ·exact⟨_,rfl,rfl,_,rfl,Cn rfl q⟩
  refine⟨_,rfl,rfl,_,rfl,Bx rfl ?_⟩;refine⟨_,rfl,t,_,_,_,rfl,rfl,.inr (Cp.of ht),rfl,_,rfl,x,_,d,_,rfl,G,T.aY,T.bU,(by show 4<1000;decide),?_⟩;rw[Ta];have o:Gn x H (upd H x (.ins aH d (Cq C I J (.ref p)))):=Gn.ins;have e1:(upd H x (.ins aH d (Cq C I J (.ref p)))) x=some (.ins aH d (Cq C I J (.ref p))):=A2;generalize upd H x (.ins aH d (Cq C I J (.ref p)))=j at o e1⊢;have B:=o.tup G ht;have qN:=o.lst G hp;have n:Aq (Vg j) a us:=all.imp λr v ⟨u,e,z⟩=>⟨u,e,o.tup G z⟩;have Z:=(Ed S.1 S.2).len;refine⟨rfl,_,rfl,t,_,_,_,rfl,rfl,.inr (Cp.of B),rfl,b,rfl,F9 S,_,_,rfl,rfl,en (Nat.add_le_add_left Z _) (by decide),B7,λL hL=>?_⟩;have c:A7 j (upd j L (.lst [.str (Str.ofString "base "++Str.ofString (toString b))])):=A7.upd hL;have e2:(upd j L (.lst [.str (Str.ofString "base "++Str.ofString (toString b))])) L=some (.lst [.str (Str.ofString "base "++Str.ofString (toString b))]):=A2;generalize upd j L (.lst [.str (Str.ofString "base "++Str.ofString (toString b))])=H2 at c e2⊢;refine⟨_,rfl,t,_,_,_,rfl,rfl,.inr (Cp.of (c _ _ B)),rfl,p,rfl,.inl ⟨⟨_,Ao.of (c _ _ qN)⟩,λD hD=>?_⟩⟩;refine C2 (K:=K) (a:=p) (xs:=us) (λi M O=>M=((a.take i).map Er).map V.str/\O D=some (.lst M)/\A7 H2 O) ⟨rfl,A2,A7.upd hD⟩ (by rintro i M O _ ⟨_,_,s⟩;exact Ao.of (s _ _ (c _ _ qN))) ?_ ?_
  ·rintro i v M l zx ⟨rfl,N,f⟩ Qe hQ;obtain⟨r,m,u,rfl,hu⟩:=n.get zx;have y:=qY r (cI m);have hi:=(bt.mp m).1;refine⟨_,rfl,u,r,rfl,f _ _ (c _ _ hu),y.1,y.2,hQ _ _ N (Ap (by rw[List.length_map,List.length_map,List.length_take];omega)) ⟨?_,A2,f.new hD⟩⟩;rw[List.take_add_one,m,List.map_append,List.map_append];rfl
  rintro M l ⟨rfl,N,f⟩;rw[all.1,List.take_length]at N;refine⟨L,D,_,_,rfl,rfl,f _ _ e2,N,nX (Ap (by simp only[List.length_append,List.length_map,List.length_singleton];omega)),λg R=>?_⟩;have Y:A7 l (upd l g (.lst ([.str (Str.ofString "base "++Str.ofString (toString b))]++(a.map Er).map V.str))):=A7.upd R;have e4:(upd l g (.lst ([.str (Str.ofString "base "++Str.ofString (toString b))]++(a.map Er).map V.str))) g=some (.lst ([.str (Str.ofString "base "++Str.ofString (toString b))]++(a.map Er).map V.str)):=A2;generalize upd l g (.lst ([.str (Str.ofString "base "++Str.ofString (toString b))]++(a.map Er).map V.str))=H4 at Y e4⊢;refine⟨_,g,(Str.ofString "base "++Bm b)::a.map Er,rfl,rfl,Ao.of e4,by rw[List.length_cons,List.length_map];omega,(λz U=>?_),by decide,q H4 (o.trans (Gn.of (c.trans (f.trans Y)))) (Y _ _ (f _ _ (c _ _ e1)))⟩;rcases eu.mp U with rfl|U
  ·rw[Dv];exact en (Nat.add_le_add_left Z _) (by decide)
  ·obtain⟨r,m,rfl⟩:=fe.mp U;have y:=qY r m;exact en (Wx y.1 y.2) (by decide)
def c6(K:W.Frag)(aA aF aG aD aB aE aC aH aI:Addr):Sp:=λe H Q E=>di λ(x c:Addr) (v:V) (d:Int)=>Tx (e=[.ref x,v]) (H x=some (.ins aH c (Cq .aX .aX .aX .aX))) (H aI=some (.tab lamQ lamP)) (Q0 H v d) (d≠0) ((d=1->∀a,A7 H a->E (.ref aE) none a)) ((d=2->∀a,A7 H a->E (.ref aC) none a)) ((d=3->∀a,A7 H a->E (.ref aD) none a)) ((d=4->∀a,A7 H a->E (.ref aB) none a)) ((d=5->∀a,A7 H a->E (.ref aA) none a)) ((d=6->∀(s:Str) (b:Hp),Gn x H b->Q (.str s) b))
theorem mn{fd JC TF TH xK TJ JD:ri}(F:D8 K "told" "Desk.told" Zz ad.lR fd)(uO:Gk P w K mg base 3 ad.lO ["row"] (ce K aA aF aG aD aB aE aC aH aI) JC)(AV:Gk P w K mg base 1 ad.qI ["self","word"] (j7 K aA aF aG aD aB aE aC aH aI) TF)(AW:Gk P w K mg base 8 ad.qJ ["self","hall"] (je K aA aF aG aD aB aE aC aH aI) TH)(uP:Gk P w K mg base 1 ad.fR ["waits","calm"] (cj K aA aF aG aD aB aE aC aH aI) xK)(mL:Di K xK ["waits","calm"] [Value.none])(AX:Gk P w K mg base 2 ad.qK ["self","found"] (jb K aA aF aG aD aB aE aC aH aI) TJ)(uQ:Gk P w K mg base 6 ad.lA ["waits"] (bu K aA aF aG aD aB aE aC aH aI) JD):B1 P w K mg base (CX1 P w) 9 ad.lR fd ["self","row"] (c6 K aA aF aG aD aB aE aC aH aI):=by
 refine F.qA Pl (λvs H Q E h=>?_) (λaZ A outer s H vs Q E S h=>?_)
 ·rcases h with⟨x,f,v,d,rfl,i,hT,sA,hd0,RE,RF,RG,he4,he5,q⟩<;>rfl
 ·obtain⟨x,f,v,d,rfl,i,hT,sA,hd0,RE,RF,RG,he4,he5,q⟩:=h;refine⟨_,(A3 (Ab (i:=2) Pl.nd rfl (Or.inl rfl) (Cu uO.g (S.mono (by decide)) rfl T.PV T.PX uO.b .nil Ey (A0 (pv 1) A4))) (A3 (Ab (i:=3) Pl.nd rfl (Or.inl rfl) (Au (Ay K) (pv 2) A5 (λ_ _=>rfl))) (A3 (Ab (i:=4) Pl.nd rfl (Or.inl rfl) (Au (Ay K) (pv 2) A5 (λ_ _=>rfl))) (A3 (Cy (M7 (pv 0) T.aY T.M_x0 AV.g (S.mono (by decide)) AV.b .nil Ey (A0 (pv 3) A4))) (A3 (Av (Aa Ba (pv 3) Ae (Ac _)) (A6 (Af (M7 (pv 0) T.aY T.M_x7 AW.g (S.mono (by decide)) AW.b .nil Ey (A0 (Cu uP.g (S.mono (by decide)) rfl T.ON T.wK uP.b .nil Ey (A0 (pv 4) (A0 (Au (Ay K) (pv 2) A5 (λ_ _=>rfl)) A4))) A4)))) Ad) (A3 (Av (Aa Ba (pv 3) Ae (Ac _)) (A6 (Af (Up (pv 0) T.aY T.M_x4 AX.g (S.mono (by decide)) AX.b .nil Az (A0 (Cu uQ.g (S.mono (by decide)) rfl T.OL T.OM uQ.b .nil Ey (A0 (pv 4) A4)) A4)))) Ad) (A3 (Av (Aa Ba (pv 3) Ae (Ac _)) (A6 Fx) Ad) (A3 (Av (Aa Ba (pv 3) Ae (Ac _)) (A6 Fx) Ad) (A6 Fx))))))))),?_⟩;rcases sA with⟨rfl,gN⟩|⟨row,hd,C,J,rfl,I,TK,hk⟩
  ·exact⟨_,rfl,E,λ_ _ _ z=>z,.inr ⟨v,rfl,gN,RE rfl⟩⟩
  refine⟨_,rfl,E,λ_ _ _ z=>z,.inl ⟨row,hd,C,J,rfl,I,λp l H1 m N Y=>?_⟩⟩;refine⟨_,rfl,p,_,_,_,rfl,rfl,.inr (Cp.of N),rfl,?_⟩;refine⟨_,rfl,p,_,_,_,rfl,rfl,.inr (Cp.of N),rfl,?_⟩
  have rT:intBits (qv J)<=400:=by
   cases J with
   |none=>decide
   |some c=>exact(Fo (I.calm c rfl).1).2
  rcases hk with⟨rfl,hh,hw⟩|⟨rfl,rfl,U⟩|⟨rfl,rfl,Z⟩|⟨rfl,rfl,U⟩|⟨rfl,rfl,aP,hp⟩|⟨rfl,rfl,aP,hp⟩|rfl
  ·refine⟨_,rfl,x,f,_,rfl,m _ _ i,rfl,_,rfl,E,λ_ _ _ z=>z,.inr ⟨x,f,_,_,_,_,hd,rfl,m _ _ i,?_,λR g=>RF rfl R (m.trans g)⟩⟩;by_cases z:hd=Str.ofString "turn"
   ·exact .inl ⟨z,rfl⟩
   ·refine .inr ⟨?_,rfl⟩;exact Ov (as:=[Str.ofString "hall",Str.ofString "wheel",Str.ofString "turn"]) (by simp[hh,hw,z])
  ·refine⟨_,rfl,x,f,_,rfl,m _ _ i,rfl,_,rfl,E,λ_ _ _ z=>z,.inl ⟨x,f,_,_,_,_,_,rfl,m _ _ i,(λz=>absurd z (by decide)),(λz=>absurd z (by decide)),λR g=>?_⟩⟩;have o:=m.trans g;have B:=o _ _ i;have M:=g _ _ N;have D:=g _ _ Y;refine⟨_,rfl,rfl,_,rfl,Bx (by decide) ?_⟩;refine⟨_,rfl,rfl,_,rfl,Cn (by decide) ?_⟩;refine⟨_,rfl,x,f,_,rfl,B,rfl,_,rfl,E,λ_ _ _ z=>z,l,C,rfl,D,TK,(λy hy=>Int.lt_trans (I.big y hy).2 (by decide+kernel)),o _ _ hT,λ_ G u=>he5 rfl G (o.trans u),(λfI Z=>?_),λfI Z=>?_⟩
   ·obtain⟨n,L,z⟩:=U;have:=Z n L;omega
   ·obtain⟨n,L,z⟩:=U;have:=Z n L;omega
  ·refine⟨_,rfl,x,f,_,rfl,m _ _ i,rfl,_,rfl,E,λ_ _ _ z=>z,.inl ⟨x,f,_,_,_,_,_,rfl,m _ _ i,(λz=>absurd z (by decide)),(λz=>absurd z (by decide)),λR g=>?_⟩⟩;have o:=m.trans g;have B:=o _ _ i;have M:=g _ _ N;have D:=g _ _ Y;refine⟨_,rfl,rfl,_,rfl,Bx (by decide) ?_⟩;refine⟨_,rfl,rfl,_,rfl,Cn (by decide) ?_⟩;refine⟨_,rfl,x,f,_,rfl,B,rfl,_,rfl,E,λ_ _ _ z=>z,l,C,rfl,D,TK,(λy hy=>Int.lt_trans (I.big y hy).2 (by decide+kernel)),o _ _ hT,λU G u=>?_,λfI _ hb G u=>?_,λfI _ b t p' us rs G hb u ht hp et vT all oG hw=>?_⟩
   ·rcases U with rfl|⟨n,L,z⟩
    ·exact absurd I.tak (by decide)
    ·have:=Z n L;omega
   ·exact⟨x,f,_,_,_,_,_,rfl,u _ _ B,.inl ⟨rfl,q rfl _ G (Gn.of (o.trans u))⟩⟩
   ·obtain⟨b1,b2,b3,_⟩:=id hb
    have bb:b<10^100:=by
     cases C with
     |nil=>exact absurd rfl fI
     |cons n C=>exact la (b2 n dm) (I.big n dm).2
    have GY:rs.length=C.length:=by
     have:=congrArg List.length oG;rw[List.length_map,List.length_map]at this;exact this
    refine⟨x,f,_,_,_,_,_,rfl,u _ _ B,.inr ⟨t,p',b,us,rs,rfl,et,vT,all,⟨by omega,bb⟩,by omega,λr JB=>?_,λX b4 qP=>q rfl _ X ((Gn.of (o.trans u)).trans b4)⟩⟩;obtain⟨j,hj⟩:=gy.mp JB;have g1:(C.map (Em b))[j]?=some r.1:=by rw[<- oG,List.getElem?_map,hj];rfl
    have g2:=hw.2.1 j r.1 r.2 g1 (by rw[List.getElem?_map,hj];rfl);obtain⟨n,L,e⟩:=fe.mp (cI g1);have g3:=(Gz b1 (b2 n L)).1;have g4:=(I.big n L).2;rw[e]at g3;exact⟨⟨by omega,by omega⟩,g2.1,by omega⟩
  ·refine⟨_,rfl,x,f,_,rfl,m _ _ i,rfl,_,rfl,E,λ_ _ _ z=>z,.inl ⟨x,f,_,_,_,_,_,rfl,m _ _ i,(λz=>absurd z (by decide)),(λz=>absurd z (by decide)),λR g=>?_⟩⟩;have o:=m.trans g;have B:=o _ _ i;have M:=g _ _ N;have D:=g _ _ Y;refine⟨_,rfl,rfl,_,rfl,Cn (by decide) ?_⟩;exact⟨_,rfl,x,f,_,rfl,B,rfl,_,rfl,_,rfl,p,_,_,_,rfl,rfl,.inr (Cp.of M),rfl,E,λ_ _ _ z=>z,.inr ⟨l,C,J,rfl,D,U,λG u=>RG rfl G (o.trans u)⟩⟩
  ·refine⟨_,rfl,x,f,_,rfl,m _ _ i,rfl,_,rfl,E,λ_ _ _ z=>z,.inl ⟨x,f,_,_,_,_,_,rfl,m _ _ i,(λz=>absurd z (by decide)),(λz=>absurd z (by decide)),λR g=>?_⟩⟩;have o:=m.trans g;have B:=o _ _ i;have M:=g _ _ N;have D:=g _ _ Y;refine⟨_,rfl,rfl,_,rfl,Cn (by decide) ?_⟩;obtain⟨zU,YR,O,pO⟩:=P8 aP;refine⟨_,rfl,x,f,_,rfl,B,rfl,_,rfl,_,rfl,p,_,_,_,rfl,rfl,.inr (Cp.of M),rfl,E,λ_ _ _ z=>z,.inl ⟨l,C,J,rfl,D,zU,YR,O,pO,λa G u ha=>?_⟩⟩;exact⟨E,λ_ _ _ z=>z,.inr ⟨x,f,a,_,_,_,_,C,J,rfl,u _ _ B,ha,(λy hy=>(Fo (I.big y hy)).1),rT,YR,hp,λX s4=>he4 rfl X ((o.trans u).trans s4)⟩⟩
  ·refine⟨_,rfl,x,f,_,rfl,m _ _ i,rfl,_,rfl,E,λ_ _ _ z=>z,.inl ⟨x,f,_,_,_,_,_,rfl,m _ _ i,(λz=>absurd z (by decide)),(λz=>absurd z (by decide)),λR g=>?_⟩⟩;have o:=m.trans g;have B:=o _ _ i;have M:=g _ _ N;have D:=g _ _ Y;refine⟨_,rfl,rfl,_,rfl,Cn (by decide) ?_⟩;obtain⟨zU,YR,O,pO⟩:=P8 aP;refine⟨_,rfl,x,f,_,rfl,B,rfl,_,rfl,_,rfl,p,_,_,_,rfl,rfl,.inr (Cp.of M),rfl,E,λ_ _ _ z=>z,.inl ⟨l,C,J,rfl,D,zU,YR,O,pO,λa G u ha=>?_⟩⟩;exact⟨E,λ_ _ _ z=>z,.inl ⟨x,f,a,_,_,_,_,C,J,rfl,u _ _ B,ha,Yc aP hp,λtv X b4 hD IZ=>q rfl _ X ((Gn.of (o.trans u)).trans b4)⟩⟩
  ·exact absurd rfl hd0
def Tn(K:W.Frag):Sp:=λa H Q _=>∃(c:Int),Fk (a=[.int c]) (intBits c<=2^21) (∀r:Int,0<=r->r<2^200->Q (.int r) H)
theorem nl{b:ri}(F:D8 K "_law_big" "_law_big" ai ad.iZ b):B1 P w K mg base (CX1 P w) 1 ad.iZ b ["cell"] (Tn K):=by
 refine F.okN pz (λe H Q E h=>?_) (λf A a s H e Q E g h=>?_)
 ·rcases h with⟨c,rfl,d,q⟩<;>rfl
 ·obtain⟨c,rfl,d,q⟩:=h;refine⟨_,(A6 (Af (Ah Bc (Ah Ef (pv 0) A5) (Ah nz A5 A5)))),?_⟩;refine⟨_,rfl,_,_,rfl,rfl,Nv d dq (by decide),_,_,rfl,rfl,⟨by decide,by decide,by decide⟩,_,_,rfl,rfl,j0,?_⟩;have h:=Bd (c*618033988749894848204586834365638117720309179805762862137) j0;exact q _ h.1 (Int.lt_trans h.2 xv)
def cg(K:W.Frag):Sp:=λa H Q _=>∃(n:Int),a=[.int n]/\∀c:Nat,c<128->Q (.str ⟨#[c]⟩) H
theorem n9{b:ri}(F:D8 K "_law_sign" "_law_sign" af ad.lS b):B1 P w K mg base (CX1 P w) 1 ad.lS b ["number"] (cg K):=by
 refine F.okN Tf (λc H Q E h=>?_) (λd A a s H c Q E e h=>?_)
 ·rcases h with⟨n,rfl,q⟩<;>rfl
 ·obtain⟨n,rfl,q⟩:=h;refine⟨_,(A3 (Ab (i:=1) Tf.nd rfl (Or.inl rfl) Ae) (A3 (Ab (i:=1) Tf.nd rfl (Or.inl rfl) (Ah Ct (pv 1) Ae)) (A6 (Af (Au Ow (pv 1) (Ah Bc (pv 0) (Aj Dj (by rfl) T.cB PySem.boot_len (A0 (pv 1) A4))) (λ_ _=>rfl)))))),?_⟩;refine⟨_,rfl,_,_,rfl,rfl,by decide+kernel,?_⟩;refine⟨_,rfl,_,rfl,_,rfl,_,rfl,by decide+kernel,_,_,rfl,rfl,(by show(0:Int)<_;decide+kernel),?_⟩;exact V9 (by decide+kernel) (oI _ (by decide+kernel)) (pb _ (by decide+kernel)) q
def bf(K:W.Frag):Sp:=λb H Q _=>Js λ(n:Int) (a:Str)=>b=[.int n,.str a]/\∀x,Wd 100 x->Q (.str x) H
theorem lg{b:ri}(F:D8 K "_law_figures" "_law_figures" Zr ad.lU b):B1 P w K mg base (CX1 P w) 1 ad.lU b ["number","head"] (bf K):=by
 refine F.okN ph (λd H Q E h=>?_) (λg A a s H d Q E m h=>?_)
 ·rcases h with⟨n,c,rfl,q⟩<;>rfl
 ·obtain⟨n,c,rfl,q⟩:=h;refine⟨_,(A3 (Av (PW.pt (Dm (Aa Ba (Ah Bc (pv 0) A5) A5 (Ac _)) (Dl (Aa Ia (pv 1) Ae (Ac _))))) (A6 (Af (Ah gh Ae (Ah Cs A5 (Ah Bc (Ah C5 (pv 0) A5) A5))))) Ad) (A3 (Av (Aa Ba (Ah Bc (pv 0) A5) A5 (Ac _)) (A6 (Af (Bk Da (by rfl) T.mD boot_str (A0 (Ah Cs A5 (Ah Bc (Ah C5 (pv 0) A5) A5)) A4)))) Ad) (A6 (Af (Bk Da (by rfl) T.mD boot_str (A0 (Ah Bc (Ah C5 (pv 0) A5) A5) A4)))))),?_⟩;refine⟨_,rfl,_,_,rfl,rfl,by simp,rfl,_,rfl,_,(λ_ f z=>⟨_,rfl,rfl,_,rfl,z⟩),?_⟩;have i:=Bd (n/8) (show(0:Int)<2 by decide);have j:=Bd (n/8) (show(0:Int)<4 by decide);have l:=Bd (n/8) (show(0:Int)<990 by decide);refine D0 (λ_=>?_) (λ_=>?_)
  ·refine⟨_,rfl,_,_,rfl,rfl,⟨by decide,by decide⟩,_,_,rfl,rfl,by simp,_,_,rfl,rfl,?_⟩;dsimp only;have:n/8%2=0\/n/8%2=1:=by omega
   rcases this with e|e<;>rw[e]<;>exact⟨_,_,rfl,rfl,by decide,by decide,by decide,by decide+kernel,q _ (K2 (by decide) (by decide+kernel))⟩
  refine⟨_,rfl,_,_,rfl,rfl,by simp,rfl,_,rfl,?_⟩;refine D0 (λ_=>?_) (λ_=>?_)
  ·exact⟨_,rfl,_,_,rfl,rfl,⟨by decide,by decide⟩,_,_,rfl,rfl,by simp,_,_,rfl,rfl,_,rfl,F9 ⟨by omega,by omega⟩,q _ (Sv ⟨by omega,by omega⟩)⟩
  ·exact⟨_,rfl,_,_,rfl,rfl,⟨by decide,by decide⟩,_,_,rfl,rfl,by simp,_,rfl,F9 ⟨by omega,by omega⟩,q _ (Sv ⟨by omega,by omega⟩)⟩
def bg(K:W.Frag):Sp:=λb H Q _=>∃(c:Int),Fk (b=[.int c]) (intBits c<=2^21) (∀(x:Str) (a:Hp),A7 H a->U1 12 x->x.length<=1313->Q (.str x) a)
theorem lh{fd sC JF:ri}(F:D8 K "_law_written" "_law_written" Zs ad.lV fd)(mM:Gk P w K mg base 1 ad.iZ ["cell"] (Tn K) sC)(uR:Gk P w K mg base 1 ad.lU ["number","head"] (bf K) JF):B1 P w K mg base (CX1 P w) 2 ad.lV fd ["cell"] (bg K):=by
 refine F.okN Dt (λvs H Q E h=>?_) (λaZ A outer s H vs Q E hr h=>?_)
 ·rcases h with⟨c,rfl,hc,q⟩<;>rfl
 ·obtain⟨c,rfl,hc,q⟩:=h;refine⟨_,(A3 (Ab (i:=1) Dt.nd rfl (Or.inl rfl) (Am mM.g (hr.mono (by decide)) rfl T.CJ T.CK mM.b .nil Az (A0 (pv 0) A4))) (A3 (Ab (i:=2) Dt.nd rfl (Or.inl rfl) (Au (Ay K) (Bp (A0 Ae (A0 Ae (A0 Ae (A0 Ae (A0 Ae (A0 Ae (A0 Ae (A0 Ae (A0 Ae (A0 Ae A4))))))))))) (Ah Bc (pv 1) A5) (λ_ _=>rfl))) (A3 (Ab (i:=1) Dt.nd rfl (Or.inl rfl) (Ah C5 (pv 1) A5)) (A3 (Ab (i:=3) Dt.nd rfl (Or.inl rfl) A5) (A3 (De (PW.pt (D3 (Aa Ba (pv 2) Ae (Ac _)) (Ds (Aa Ba (pv 2) Ae (Ac _))))) (A6 (Ab (i:=3) Dt.nd rfl (Or.inl rfl) A5)) Ad) (A3 (De (PW.pt (D3 (Aa Ba (pv 2) Ae (Ac _)) (Ds (Aa Ba (pv 2) Ae (Ac _))))) (A6 (Ab (i:=3) Dt.nd rfl (Or.inl rfl) (Ah Cs A5 (Ah Bc (pv 1) A5)))) Ad) (A3 (De (Aa Ba (Ah Bc (Ah C5 (pv 1) A5) A5) A5 (Ac _)) (A6 (Ab (i:=3) Dt.nd rfl (Or.inl rfl) (Ah M5 (Ah Cs (pv 3) A5) (Ah Ef A5 (Ah Bc (Ah C5 (pv 1) A5) A5))))) Ad) (A3 (Ab (i:=1) Dt.nd rfl (Or.inl rfl) (Ah C5 (pv 1) A5)) (A3 (Ab (i:=4) Dt.nd rfl (Or.inl rfl) (Bp (A0 (pv 2) A4))) (A3 (Ce l7 rfl (Jj (by rfl) T.jB (A0 (pv 3) A4)) (An (i:=5) Dt.nd rfl (Or.inl rfl)) (A6 (Cy (Dq PySem.F.plainAttrs_list PySem.F.slot_list_append PySem.F.type_list_append D6 (pv 4) (A0 (Am uR.g (hr.mono (by decide)) rfl T.QC T.QD uR.b .nil Az (A0 (Ah C5 (Ah C5 (pv 1) (Ah Cs (pv 5) A5)) (Ah Cs A5 (Ah Ef A5 (pv 5)))) (A0 (pv 2) A4))) A4))))) (A3 (De (PW.pt (Dm (Aa Ba (pv 2) Ae (Ac _)) (Dl (Aa Fv (Ah Bc (pv 1) A5) A5 (Ac _))))) (A6 (Ab (i:=4) Dt.nd rfl (Or.inl rfl) (Ah M3 (pv 4) (Bp (A0 Ae (A0 (Bk Da (by rfl) T.mD boot_str (A0 (Ah Cs A5 (Ah Bc (Ah C5 (pv 1) A5) A5)) A4)) A4)))))) Ad) (A6 (Af (Dq PySem.F.plainAttrs_str PySem.F.slot_str_join PySem.F.type_str_join (P4 K) Ae (A0 (pv 4) A4))))))))))))))),?_⟩;refine⟨_,rfl,c,rfl,hc,λr h0 h1=>?_⟩;have v:=Bd r (show(0:Int)<10 by decide);refine⟨B7,λL hL=>?_⟩;generalize O:[V.str _,V.str _,V.str _,V.str _,V.str _,V.str _,V.str _,V.str _,V.str _,V.str _]=o;have Y:o.length=10:=by rw[<- O];rfl
  have Z:o.all wm=true:=by rw[<- O];decide+kernel
  clear O;have s1:A7 H (upd H L (.lst o)):=A7.upd hL;have e1:(upd H L (.lst o)) L=some (.lst o):=A2;generalize upd H L (.lst o)=H1 at s1 e1⊢;refine⟨_,rfl,_,_,rfl,rfl,by simp,?_⟩;refine Pe (λu=>wm u=true) (Ao.of e1) v.1 (by rw[Y];exact v.2) (λu X=>List.all_eq_true.mp Z u X) λu X=>?_;obtain⟨e,rfl,U⟩:=u4 X;refine⟨_,rfl,_,_,rfl,rfl,⟨by decide,by decide⟩,?_⟩;have qY:0<=r/10:=mY h0 (by decide);dsimp only;generalize r/10=n at qY⊢;have m9:=Bd n (show(0:Int)<9 by decide);have m2:=Bd (n/54) (show(0:Int)<2 by decide);refine⟨_,rfl,rfl,_,rfl,_,(λ_ Q' z=>⟨_,rfl,rfl,_,rfl,z⟩),(λa d=>∃(m:Int),Iw (a=[some (.int c),some (.int n),some (.str e),some (.int m),none,none]) (d=H1) (0<=m) (m<=1)),(λ_=>⟨0,rfl,rfl,by decide,by decide⟩),(λ_=>⟨1,rfl,rfl,by decide,by decide⟩),?_⟩;rintro a H2 ⟨m,rfl,rfl,I,D⟩;refine⟨_,rfl,rfl,_,rfl,_,(λ_ Q' z=>⟨_,rfl,rfl,_,rfl,z⟩),(λa d=>∃(m:Int),Iw (a=[some (.int c),some (.int n),some (.str e),some (.int m),none,none]) (d=H2) (0<=m) (m<=9)),(λ_=>⟨_,rfl,_,_,rfl,rfl,by simp,_,_,rfl,rfl,1+n%9,rfl,rfl,by omega,by omega⟩),(λ_=>⟨m,rfl,rfl,by omega,by omega⟩),?_⟩;clear I D m;rintro a H3 ⟨m,rfl,rfl,I,D⟩;refine⟨_,rfl,_,_,rfl,rfl,⟨by decide,by decide⟩,_,_,rfl,rfl,by simp,rfl,_,rfl,(λa d=>∃(m:Int),Iw (a=[some (.int c),some (.int n),some (.str e),some (.int m),none,none]) (d=H3) (-1<=m) (m<=10)),(λ_=>⟨_,rfl,_,_,rfl,rfl,_,rfl,_,_,rfl,rfl,⟨by decide,by decide⟩,_,_,rfl,rfl,by simp,_,_,rfl,rfl,Ul (by decide) (by decide),_,_,rfl,rfl,m+1-2*(n/54%2),rfl,rfl,by omega,by omega⟩),(λ_=>⟨m,rfl,rfl,by omega,by omega⟩),?_⟩;clear I D m;rintro a B ⟨m,rfl,rfl,I,D⟩;refine⟨_,rfl,_,_,rfl,rfl,⟨by decide,by decide⟩,?_⟩;dsimp only;generalize n/108=g;refine⟨_,rfl,B7,λW hW=>?_⟩;have s5:A7 B (upd B W (.lst [.str e])):=A7.upd hW;have e5:(upd B W (.lst [.str e])) W=some (.lst [.str e]):=A2;generalize upd B W (.lst [.str e])=H5 at s5 e5⊢;have S:H W=none:=s1.free hW;refine⟨_,rfl,m,rfl,by omega,by omega,?_⟩;refine No (n:=m.toNat) (λi σ d=>Js λ(b:List Str) (N:Option V)=>Fl (σ=[some (.int c),some (.int g),some (.str e),some (.int m),some (.ref W),N]) (A7 H d) (d W=some (.lst (b.map V.str))) (b.length=i+1) (∀w∈b,Wd 100 w)) ⟨[e],_,rfl,s1.trans s5,e5,rfl,λw p=>by rw[List.mem_singleton.mp p];exact U⟩ ?_ ?_
  ·rintro i σ C hi ⟨b,N,rfl,y,l,j,f⟩;have oK:i<m.toNat:=hi;refine⟨_,rfl,.inl ⟨rfl,_,Ao.of l⟩,_,rfl,_,rfl,_,_,rfl,rfl,_,_,rfl,rfl,⟨by omega,by omega⟩,_,rfl,_,_,rfl,rfl,Ul (by decide) (by decide),_,_,rfl,rfl,_,_,rfl,rfl,⟨by omega,by omega⟩,_,rfl,_,e,rfl,λx hx=>?_⟩;refine⟨W,_,_,rfl,rfl,l,Ap (by rw[List.length_map];omega),?_⟩;refine⟨b++[x],_,rfl,y.new S,by rw[A2,List.map_append];rfl,by rw[List.length_append,j];rfl,λw p=>?_⟩;rcases fy.mp p with z|z
   ·exact f w z
   ·rw[List.mem_singleton.mp z];exact hx
  rintro σ C ⟨b,N,rfl,y,l,j,f⟩;have m3:=Bd (g/5) (show(0:Int)<3 by decide);refine⟨_,rfl,rfl,_,rfl,_,(λ_ Q' z=>⟨_,rfl,_,_,rfl,rfl,by simp,_,_,rfl,rfl,_,rfl,z⟩),(λa d=>Js λ(G:Addr) (b:List Str)=>Hi (a=[some (.int c),some (.int g),some (.str e),some (.int m),some (.ref G),N]) (A7 H d) (d G=some (.lst (b.map V.str))) (b≠[]) (b.length<=13) (∀w∈b,Wd 100 w)),λ_=>?_,(λ_=>⟨W,b,rfl,y,l,(λz=>by rw[z]at j;cases j),by omega,f⟩),?_⟩
  ·refine⟨_,rfl,_,rfl,_,_,rfl,rfl,⟨by decide,by decide⟩,_,_,rfl,rfl,by simp,_,_,rfl,rfl,_,rfl,F9 ⟨by omega,by omega⟩,B7,λJ qN=>?_⟩;dsimp only;have pO:Wd 100 (Str.ofString "calm"):=K2 (by decide) (by decide+kernel);have tH:Wd 100 (Bm (1+g/5%3)):=Sv ⟨by omega,by omega⟩;have M:A7 C (upd C J (.lst [.str (Str.ofString "calm"),.str (Bm (1+g/5%3))])):=A7.upd qN;have R:(upd C J (.lst [.str (Str.ofString "calm"),.str (Bm (1+g/5%3))])) J=some (.lst ([Str.ofString "calm",Bm (1+g/5%3)].map V.str)):=A2;refine⟨W,J,_,_,rfl,rfl,M _ _ l,R,nX (Ap (by simp;omega)),λp2 GB=>?_⟩;rw[<- List.map_append];refine⟨p2,b++[Str.ofString "calm",Bm (1+g/5%3)],rfl,(y.trans M).trans (A7.upd GB),A2,by simp,by rw[List.length_append];simp;omega,λw p=>?_⟩;rcases fy.mp p with z|z
   ·exact f w z
   ·rcases eu.mp z with z|z
    ·rw[z];exact pO
    ·rw[List.mem_singleton.mp z];exact tH
  clear j f l y;rintro a H7 ⟨G,b,rfl,M,R,fI,j,f⟩;obtain⟨j1,j2⟩:=Uj (n:=12) f fI j (by decide);exact⟨rfl,_,rfl,_,G,b,rfl,rfl,Ao.of R,by omega,(λz hz=>en (f z hz).2 (by decide)),by decide,q _ H7 M j1 (en j2 (by decide))⟩
def cp(K:W.Frag):Sp:=λb H Q _=>∃(c:Int),Fk (b=[.int c]) (intBits c<=2^20) (∀(v:V) (a:Hp),A7 H a->(K8 a v\/∃x,v=.str x/\U1 40 x)->Q v a)
theorem nq{fd sC JG JH:ri}(F:D8 K "_law_row" "_law_row" aj ad.lW fd)(mM:Gk P w K mg base 1 ad.iZ ["cell"] (Tn K) sC)(uS:Gk P w K mg base 2 ad.lV ["cell"] (bg K) JG)(uT:Gk P w K mg base 1 ad.lS ["number"] (cg K) JH):B1 P w K mg base (CX1 P w) 3 ad.lW fd ["cell"] (cp K):=by
 refine F.okN G1 (λvs H Q E h=>?_) (λaZ A outer s H vs Q E hr h=>?_)
 ·rcases h with⟨c,rfl,hc,q⟩<;>rfl
 ·obtain⟨c,rfl,hc,q⟩:=h;refine⟨_,(A3 (Ab (i:=1) G1.nd rfl (Or.inl rfl) (Am mM.g (hr.mono (by decide)) rfl T.CJ T.CK mM.b .nil Az (A0 (Ah Cs (pv 0) A5) A4))) (A3 (Ab (i:=2) G1.nd rfl (Or.inl rfl) (Am uS.g (hr.mono (by decide)) rfl T.QE T.QF uS.b .nil Az (A0 (pv 0) A4))) (A3 (Av (Aa Ba (Ah Bc (pv 1) A5) A5 (Ac _)) (A6 (Af (Au (Ay K) (Bp (A0 Cd (A0 A5 (A0 Gs (A0 (Bp (A0 Ae A4)) (A0 (Dd (A0 Ae A4)) (A0 Ib (A0 A5 A4)))))))) (Ah Bc (Ah C5 (pv 1) A5) A5) (λ_ _=>rfl)))) Ad) (A3 (Ab (i:=3) G1.nd rfl (Or.inl rfl) (Ah Bc (Ah C5 (pv 1) A5) (Ah Cs (Aj Dj (by rfl) T.cB PySem.boot_len (A0 (pv 2) A4)) A5))) (A3 (Ab (i:=4) G1.nd rfl (Or.inl rfl) (Am uT.g (hr.mono (by decide)) rfl T.QA T.QB uT.b .nil Az (A0 (Ah C5 (pv 1) A5) A4))) (A3 (De (Aa Ba (Ah Bc (Ah C5 (pv 1) A5) A5) A5 (Ac _)) (A6 (Ab (i:=4) G1.nd rfl (Or.inl rfl) (Au Ow Ae (Ah Bc (Ah C5 (pv 1) A5) A5) (λ_ _=>rfl)))) Ad) (A3 (Av (PW.pt (D3 (Aa Ba (Ah Bc (pv 1) A5) A5 (Ac _)) (Ds (Aa Ba (Ah Bc (pv 1) A5) A5 (Ac _))))) (A6 (Af (Ah Ct (Ah Ct (Bb Jp (pv 2) Bw (Bl (pv 3))) (pv 4)) (Bb Jp (pv 2) (Bl (pv 3)) Bw)))) Ad) (A3 (Av (Aa Ba (Ah Bc (pv 1) A5) A5 (Ac _)) (A6 (Af (Ah Ct (Bb Jp (pv 2) Bw (Bl (pv 3))) (Bb Jp (pv 2) (Bl (Ah Cs (pv 3) A5)) Bw)))) Ad) (A3 (Av (Aa Ba (Ah Bc (pv 1) A5) A5 (Ac _)) (A6 (Af (Ah Ct (Ah Ct (Bb Jp (pv 2) Bw (Bl (pv 3))) (pv 4)) (Bb Jp (pv 2) (Bl (Ah Cs (pv 3) A5)) Bw)))) Ad) (A3 (Av (Aa Ba (Ah Bc (pv 1) A5) A5 (Ac _)) (A3 (Ab (i:=5) G1.nd rfl (Or.inl rfl) (Dq PySem.F.plainAttrs_str PySem.F.slot_str_split PySem.F.type_str_split Hz (pv 2) (A0 Ae A4))) (A3 (Ab (i:=6) G1.nd rfl (Or.inl rfl) (Ah Bc (pv 3) (Ah Cs (Aj (C1 K) (by rfl) T.cB PySem.boot_len (A0 (pv 5) A4)) A5))) (A6 (Af (Dq PySem.F.plainAttrs_str PySem.F.slot_str_join PySem.F.type_str_join (P4 K) Ae (A0 (Ah M3 (Ah M3 (Bb (Cg K) (pv 5) Bw (Bl (pv 6))) (Bp (A0 (Au (Ay K) (Bp (A0 Ae (A0 Ae (A0 Ae (A0 (Au (Ay K) (pv 5) (Eg Dh A5) (λ_ _=>rfl)) A4))))) (Ah Bc (Ah C5 (pv 1) A5) A5) (λ_ _=>rfl)) A4))) (Bb (Cg K) (pv 5) (Bl (pv 6)) Bw)) A4)))))) Ad) (A6 (Af (pv 2))))))))))))),?_⟩;refine⟨_,rfl,_,_,rfl,rfl,_,rfl,en (Vk hc (by decide)) (by decide),λr h0 h1=>?_⟩;refine⟨_,rfl,c,rfl,en hc (by decide),λx H1 U hx iI=>?_⟩;refine⟨_,rfl,_,_,rfl,rfl,by simp,rfl,_,rfl,?_⟩;refine D0 (λ_=>?_) (λ_=>?_)
  ·refine⟨B7,λg qN=>?_⟩;have s2:A7 H1 (upd H1 g (.lst [.str (Str.ofString "rank")])):=A7.upd qN;have e2:(upd H1 g (.lst [.str (Str.ofString "rank")])) g=some (.lst [.str (Str.ofString "rank")]):=A2;generalize upd H1 g (.lst [.str (Str.ofString "rank")])=l at s2 e2⊢;refine⟨B7,λi GB=>?_⟩;have Z:A7 l (upd l i (.tup [.str (Str.ofString "best")])):=A7.upd GB;have B:(upd l i (.tup [.str (Str.ofString "best")])) i=some (.tup [.str (Str.ofString "best")]):=A2;generalize upd l i (.tup [.str (Str.ofString "best")])=m at Z B⊢;refine λj hp3=>?_;have G:A7 m (upd m j (.dT [])):=A7.upd hp3;have e4:(upd m j (.dT [])) j=some (.dT []):=A2;generalize upd m j (.dT [])=o at G e4⊢;refine⟨B7,λL hL=>?_⟩;have p:A7 o (upd o L (.lst [.aX,.int 7,.bl true,.ref g,.ref i,.ref j,.int 0])):=A7.upd hL;have e5:(upd o L (.lst [.aX,.int 7,.bl true,.ref g,.ref i,.ref j,.int 0])) L=some (.lst [.aX,.int 7,.bl true,.ref g,.ref i,.ref j,.int 0]):=A2;generalize upd o L (.lst [.aX,.int 7,.bl true,.ref g,.ref i,.ref j,.int 0])=I at p e5⊢;have m7:=Bd (r/16) (show(0:Int)<7 by decide);refine⟨_,rfl,_,_,rfl,rfl,⟨by decide,by decide⟩,_,_,rfl,rfl,by simp,?_⟩;refine Pe (λu=>K8 I u) (Ao.of e5) m7.1 (by show r/16%7<7;exact m7.2) (λu N=>?_) λu N=>q u I ((((U.trans s2).trans Z).trans G).trans p) (.inl N);have:u=.aX\/u=.int 7\/u=.bl true\/u=.ref g\/u=.ref i\/u=.ref j\/u=.int 0:=by simpa using N
   rcases this with e|e|e|e|e|e|e
   ·exact .inl e
   ·exact .inr (.inl ⟨_,e⟩)
   ·exact .inr (.inr (.inl ⟨_,e⟩))
   ·exact .inr (.inr (.inr ⟨g,e,.inl ⟨_,p _ _ (G _ _ (Z _ _ e2))⟩⟩))
   ·exact .inr (.inr (.inr ⟨i,e,.inr (.inl ⟨_,p _ _ (G _ _ B)⟩)⟩))
   ·exact .inr (.inr (.inr ⟨j,e,.inr (.inr ⟨_,p _ _ e4⟩)⟩))
   ·exact .inr (.inl ⟨_,e⟩)
  have fF:((x.length:Nat):Int)<2^63:=by omega
  have mp:=Bd (r/64) (show(0:Int)<(x.length:Int)+1 by omega);refine⟨_,rfl,_,_,rfl,rfl,⟨by decide,by decide⟩,_,rfl,x,rfl,fF,_,_,rfl,rfl,_,_,rfl,rfl,(by show(0:Int)<(x.length:Int)+1;omega),?_⟩;dsimp only;generalize r/64%((x.length:Int)+1)=pl at mp⊢;obtain⟨a,rfl⟩:∃a:Nat,pl=(a:Int):=⟨pl.toNat,by omega⟩;have ha:a<=x.length:=by omega
  refine⟨_,rfl,_,_,rfl,rfl,⟨by decide,by decide⟩,_,rfl,λR vV=>?_⟩;have m6:=Bd (r/6400) (show(0:Int)<6 by decide);refine⟨_,rfl,_,_,rfl,rfl,⟨by decide,by decide⟩,_,_,rfl,rfl,by simp,rfl,_,rfl,(λσ' H'=>∃(R:Nat),Fk (σ'=[some (.int c),some (.int r),some (.str x),some (.int (a:Nat)),some (.str ⟨#[R]⟩),none,none]) (H'=H1) (R<128)),(λ_=>⟨_,rfl,_,_,rfl,rfl,⟨by decide,by decide⟩,_,_,rfl,rfl,by simp,V9 (by decide+kernel) m6.1 m6.2 λc1 pO=>⟨c1,rfl,rfl,pO⟩⟩),(λ_=>⟨R,rfl,rfl,vV⟩),?_⟩;clear vV R;rintro σ' l ⟨R,rfl,rfl,vV⟩;have S:x.length<=sizeLine:=en iI (by decide);have D:=Zd (a:=a) (b:=a) hx (by omega) (Va vV) ha (by omega);have O:=Zd (a:=a) (b:=a+1) hx (by omega) (Va vV) ha (by omega);have YT:((a:Nat):Int)+1=((a+1:Nat):Int):=by omega
  have big:∀n:Nat,n<=3000->n<=sizeLine:=λn h=>en h (by decide);refine⟨_,rfl,_,_,rfl,rfl,by simp,rfl,_,rfl,_,(λ_ Q' z=>⟨_,rfl,_,_,rfl,rfl,by simp,rfl,_,rfl,z⟩),?_⟩;refine D0 (λ_=>?_) (λ_=>?_)
  ·refine⟨_,rfl,_,rfl,_,rfl,x,rfl,S,_,rfl,_,_,rfl,rfl,big _ (by have:=D.2.1;have:=D.2.2.2.1;omega),_,rfl,_,rfl,_,rfl,x,rfl,S,_,_,rfl,rfl,big _ (by rw[Dv];have:=D.2.1;have:=D.2.2.1;have:=D.2.2.2.1;omega),?_⟩;exact q _ _ U (.inr ⟨_,rfl,D.1.mono (by decide)⟩)
  refine⟨_,rfl,_,_,rfl,rfl,by simp,rfl,_,rfl,?_⟩;refine D0 (λ_=>?_) (λ_=>?_)
  ·refine⟨_,rfl,_,rfl,_,rfl,x,rfl,S,_,rfl,_,rfl,_,_,rfl,rfl,_,rfl,x,rfl,S,_,_,rfl,rfl,?_,?_⟩
   ·rw[YT];exact big _ (by have:=O.2.1;have:=O.2.2.1;omega)
   ·dsimp only;rw[YT];exact q _ _ U (.inr ⟨_,rfl,O.2.2.2.2.mono (by decide)⟩)
  refine⟨_,rfl,_,_,rfl,rfl,by simp,rfl,_,rfl,?_⟩;refine D0 (λ_=>?_) (λ_=>?_)
  ·refine⟨_,rfl,_,rfl,_,rfl,x,rfl,S,_,rfl,_,_,rfl,rfl,big _ (by have:=D.2.1;have:=D.2.2.2.1;omega),_,rfl,_,rfl,_,_,rfl,rfl,_,rfl,x,rfl,S,_,_,rfl,rfl,?_,?_⟩
   ·rw[YT];exact big _ (by rw[Dv];have:=O.2.1;have:=O.2.2.1;have:=O.2.2.2.1;omega)
   ·dsimp only;rw[YT];exact q _ _ U (.inr ⟨_,rfl,O.1.mono (by decide)⟩)
  refine⟨_,rfl,_,_,rfl,rfl,by simp,rfl,_,rfl,?_⟩;refine D0 (λ_=>?_) (λ_=>?_)
  ·obtain⟨d,f,es,pL,ej,hw⟩:=Rn hx;refine⟨_,rfl,rfl,x,_,rfl,rfl,by decide,by omega,λW hW=>?_⟩;rw[es];have Z:A7 l (upd l W (.lst ((d::f).map V.str))):=A7.upd hW;have B:(upd l W (.lst ((d::f).map V.str))) W=some (.lst ((d::f).map V.str)):=A2;generalize upd l W (.lst ((d::f).map V.str))=m at Z B⊢;have hxx:x.cps.toList.length=x.length:=by simp[Str.length]
   have wX:∀w∈d::f,Wd 1313 w:=λw h=>by
    have h1:=hw w h;have h2:=(Sg (List.mem_map_of_mem (f:=λx:Str=>x.cps.toList) h)).2;rw[<- ej,hxx]at h2;have h3:w.cps.toList.length=w.length:=by simp[Str.length]
    exact⟨⟨h1.2.1,by rw[List.count_eq_zero.mpr h1.1];exact dr _,h1.2.2.1⟩,by omega⟩
   have hml:((d::f).map V.str).length<=13:=by
    rw[List.length_map,List.length_cons];omega
   have ma:=Bd (a:Int) (show(0:Int)<(((d::f).map V.str).length:Int)+1 by omega);refine⟨_,rfl,_,rfl,W,_,rfl,.inl (Ao.of B),_,_,rfl,rfl,_,_,rfl,rfl,(by show(0:Int)<(((d::f).map V.str).length:Int)+1;omega),?_⟩;dsimp only;generalize(a:Int)%((((d::f).map V.str).length:Int)+1)=J at ma⊢;refine⟨rfl,_,rfl,_,rfl,_,rfl,W,_,rfl,Ao.of B,λg qN=>?_⟩;rw[Bi];generalize hX:Cw (d::f) none (some J)=X
   have hXm:∀w∈X,w∈d::f:=λw h=>by
    rw[<- hX]at h;exact List.mem_of_mem_drop (List.mem_of_mem_take h)
   have G:A7 m (upd m g (.lst (X.map V.str))):=A7.upd qN;have e4:(upd m g (.lst (X.map V.str))) g=some (.lst (X.map V.str)):=A2;generalize upd m g (.lst (X.map V.str))=o at G e4⊢
   obtain⟨v,hwl1,hwl2⟩:∃v,Hm ((d::f).map V.str) (-1)=some (.str v)/\v∈d::f:=by
    rcases List.eq_nil_or_concat (d::f)with z|⟨vs,z,e⟩
    ·cases z
    ·have e':d::f=vs++[z]:=by rw[e];simp
     rw[e',List.map_append];exact⟨z,Xh,by simp⟩
   refine⟨_,rfl,_,rfl,W,_,_,_,rfl,rfl,.inl (Ao.of (G _ _ B)),hwl1,B7,λL hL=>?_⟩;have p:A7 o (upd o L (.lst [.str (Str.ofString "calm"),.str (Str.ofString "2"),.str (Str.ofString "0"),.str v])):=A7.upd hL;have e5:(upd o L (.lst [.str (Str.ofString "calm"),.str (Str.ofString "2"),.str (Str.ofString "0"),.str v])) L=some (.lst [.str (Str.ofString "calm"),.str (Str.ofString "2"),.str (Str.ofString "0"),.str v]):=A2;generalize upd o L (.lst [.str (Str.ofString "calm"),.str (Str.ofString "2"),.str (Str.ofString "0"),.str v])=I at p e5⊢;have m4:=Bd (r/6400) (show(0:Int)<4 by decide);refine⟨_,rfl,_,_,rfl,rfl,⟨by decide,by decide⟩,_,_,rfl,rfl,by simp,?_⟩;refine Pe (λu=>∃y,u=.str y/\Wd 1313 y) (Ao.of e5) m4.1 (by show r/6400%4<4;exact m4.2) (λu N=>?_) λu N=>?_
   ·have:u=.str (Str.ofString "calm")\/u=.str (Str.ofString "2")\/u=.str (Str.ofString "0")\/u=.str v:=by simpa using N
    rcases this with e|e|e|e
    ·exact⟨_,e,K2 (by decide) (by decide+kernel)⟩
    ·exact⟨_,e,K2 (by decide) (by decide+kernel)⟩
    ·exact⟨_,e,K2 (by decide) (by decide+kernel)⟩
    ·exact⟨_,e,wX v hwl2⟩
   obtain⟨y,rfl,hy⟩:=N;refine⟨B7,λM hM=>?_⟩;have s6:A7 I (upd I M (.lst [.str y])):=A7.upd hM;have e6:(upd I M (.lst [.str y])) M=some (.lst [.str y]):=A2;generalize upd I M (.lst [.str y])=H6 at s6 e6⊢;have e6':H6 M=some (.lst ([y].map V.str)):=e6;obtain⟨b,rfl⟩:∃b:Nat,J=(b:Int):=⟨J.toNat,by omega⟩;have DG:=Vs (d::f) b;rw[hX]at DG
   have hml':(d::f).length<=13:=by
    rw[List.length_map]at hml;exact hml
   refine⟨g,M,_,_,rfl,rfl,s6 _ _ (p _ _ e4),e6',nX (Ap (by simp;omega)),λp5 hp5=>?_⟩;rw[<- List.map_append];have s7:A7 H6 (upd H6 p5 (.lst ((X++[y]).map V.str))):=A7.upd hp5;have e7:(upd H6 p5 (.lst ((X++[y]).map V.str))) p5=some (.lst ((X++[y]).map V.str)):=A2;generalize upd H6 p5 (.lst ((X++[y]).map V.str))=H7 at s7 e7⊢;have s37:=((G.trans p).trans s6).trans s7;refine⟨_,rfl,_,rfl,_,rfl,W,_,rfl,Ao.of (s37 _ _ B),λp6 hp6=>?_⟩;rw[Bi];generalize hY:Cw (d::f) (some (b:Int)) none=Y at DG⊢
   have hYm:∀w∈Y,w∈d::f:=λw h=>by
    rw[<- hY]at h;exact List.mem_of_mem_drop (List.mem_of_mem_take h)
   have s8:A7 H7 (upd H7 p6 (.lst (Y.map V.str))):=A7.upd hp6;have e8:(upd H7 p6 (.lst (Y.map V.str))) p6=some (.lst (Y.map V.str)):=A2;generalize upd H7 p6 (.lst (Y.map V.str))=H8 at s8 e8⊢;refine⟨p5,p6,_,_,rfl,rfl,s8 _ _ e7,e8,nX (Ap (by simp;omega)),λp7 hp7=>?_⟩;rw[<- List.map_append];have s9:A7 H8 (upd H8 p7 (.lst ((X++[y]++Y).map V.str))):=A7.upd hp7;have e9:(upd H8 p7 (.lst ((X++[y]++Y).map V.str))) p7=some (.lst ((X++[y]++Y).map V.str)):=A2;generalize upd H8 p7 (.lst ((X++[y]++Y).map V.str))=H9 at s9 e9⊢
   have C:∀w∈X++[y]++Y,Wd 1313 w:=λw h=>by
    rcases fy.mp h with z|z
    ·rcases fy.mp z with z|z
     ·exact wX w (hXm w z)
     ·rw[List.mem_singleton.mp z];exact hy
    ·exact wX w (hYm w z)
   have hll:(X++[y]++Y).length<=13+1:=by
    simp only[List.length_append,List.length_singleton];omega
   obtain⟨j1,j2⟩:=Uj (n:=13) C (by simp) hll (by decide);exact⟨_,p7,X++[y]++Y,rfl,rfl,Ao.of e9,by omega,(λz hz=>en (C z hz).2 (by decide)),by decide,q _ H9 (U.trans (Z.trans (s37.trans (s8.trans s9)))) (.inr ⟨_,rfl,j1.mono (by decide)⟩)⟩
  exact⟨_,rfl,q _ _ U (.inr ⟨x,rfl,hx.mono (by decide)⟩)⟩
def jf(K:W.Frag):Sp:=λb H Q _=>∃(x:Str),Fk (b=[.str x]) (x.length<=100000) (∀a,A7 H a->Q (.bl (Bg x)) a)
theorem uf{C:ri}(F:D8 K "_law_is_number" "_law_is_number" i5 ad.qL C):B1 P w K mg base (CX1 P w) 1 ad.qL C ["word"] (jf K):=by
 refine F.okN ve (λX H Q E h=>?_) (λaZ A p s H X Q E hr h=>?_)
 ·rcases h with⟨x,rfl,J,q⟩<;>rfl
 ·obtain⟨x,rfl,J,q⟩:=h;refine⟨_,(A3 (Av (PW.pt (D3 (Aa Fv (Aj Dj (by rfl) T.cB PySem.boot_len (A0 (pv 0) A4)) A5 (Ac _)) (D3 (Aa Ee (Aj Dj (by rfl) T.cB PySem.boot_len (A0 (pv 0) A4)) A5 (Ac _)) (Ds (PW.pt (Dm (Aa Ee (Aj Dj (by rfl) T.cB PySem.boot_len (A0 (pv 0) A4)) A5 (Ac _)) (Dl (Aa Ba (Au Ow (pv 0) A5 (λ_ _=>rfl)) Ae (Ac _))))))))) (A6 (Af Gs)) Ad) (A6 (Af (Aj (Ev rfl) (by rfl) T.qM boot_all (A0 (Cj (Z8 (pv 0)) _ rfl Gx rfl rfl (λ_ _ _ _=>(An (i:=0) Hc rfl (Or.inl rfl))) (λ_ _ _ _=>C8) (λ_ _ _ _=>(B6 Ny (pv 0) Ae rfl))) A4))))),?_⟩;have f:x.cps.toList.length=x.length:=by simp[Str.length]
  have o:((x.length:Nat):Int)<2^63:=by omega
  obtain⟨d,M,g⟩:∃d:Bool,(1<x.length->∃c,x.cps.toList[0]?=some c/\d=decide (V.str ⟨#[c]⟩=V.str (Str.ofString "0")))/\(d=true↔x.cps.toList.head?=some 48):=by
   cases e:x.cps.toList with
   |nil=>
    rw[e]at f;exact⟨false,(λh=>by rw[<- f]at h;cases h),⟨(λh=>by cases h),(λh=>by cases h)⟩⟩
   |cons c r=>
    refine⟨decide (V.str ⟨#[c]⟩=V.str (Str.ofString "0")),λ_=>⟨c,rfl,rfl⟩,?_⟩;have n:Str.ofString "0"=⟨#[48]⟩:=by decide
    rw[n,decide_eq_true_iff,G4];simp
  refine⟨_,rfl,x,rfl,o,_,_,rfl,rfl,_,rfl,decide (((x.length:Nat):Int)>100)||(decide (((x.length:Nat):Int)>1)&&d),(λ_ Q1 Y=>⟨_,rfl,x,rfl,o,_,_,rfl,rfl,_,rfl,decide (((x.length:Nat):Int)>1)&&d,(λ_ Q2 Z=>⟨_,rfl,x,rfl,o,_,_,rfl,rfl,_,rfl,d,(λS Q3 z3=>?_),Z⟩),Y⟩),?_⟩
  ·obtain⟨c,j,rfl⟩:=M (by have:=of_decide_eq_true S;omega);exact⟨_,rfl,x,0,c,rfl,rfl,en J (by decide),Hn j,rfl,_,rfl,z3⟩
  have O:∀y:Bool,decide (x=Str.ofString "0")=true->x.length=1:=λ_ h=>by
   rw[of_decide_eq_true h];rfl
  refine D0 (λh=>?_) (λh=>?_)
  ·have e:Bg x=false:=by
    unfold Bg;rw[Bool.or_eq_true,Bool.or_eq_true,Bool.and_eq_true,decide_eq_true_iff,decide_eq_true_iff,decide_eq_true_iff,g]at h;rw[Bool.and_eq_false_iff,Bool.and_eq_false_iff,Bool.or_eq_false_iff];refine .inr ?_;rcases h with h|h|⟨h,N⟩
    ·exact .inl (me (by omega))
    ·exact .inl (me (by omega))
    ·refine .inr ⟨?_,me λz=>z N⟩;cases e:decide (x=Str.ofString "0")with
     |false=>rfl
     |true=>
      have:=O true e;omega
   have:=q H (A7.refl _);rw[e]at this;exact this
  have I:(1<=x.length/\x.length<=100)/\(x.length=1\/x.cps.toList.head? ≠some 48):=by
   rw[Bool.or_eq_true,Bool.or_eq_true,Bool.and_eq_true,decide_eq_true_iff,decide_eq_true_iff,decide_eq_true_iff,g]at h;refine⟨⟨by omega,by omega⟩,?_⟩;by_cases z:x.length=1
   ·exact .inl z
   ·exact .inr λy=>h (.inr (.inr ⟨by omega,y⟩))
  refine⟨_,rfl,x,rfl,λD G=>?_⟩;refine Qk (λi m v=>m=((x.cps.toList.take i).map Kf).map V.bl/\v D=some (.lst m)/\A7 H v) ⟨rfl,A2,A7.upd G⟩ ?_ ?_
  ·rintro i c m B j ⟨rfl,l,u⟩ Qe U;have hi:=(bt.mp j).1;refine⟨_,rfl,_,_,rfl,rfl,?_⟩;rw[Yf];refine U _ _ l (az (by rw[List.length_map,List.length_map,List.length_take];omega)) ⟨?_,A2,u.new G⟩;rw[Gu j,List.map_append];rfl
  rintro m B ⟨rfl,l,u⟩;rw[List.take_length]at l;refine⟨D,_,rfl,Ao.of l,?_⟩;have L:(x.cps.toList.map Kf).all id=x.cps.toList.all Kf:=by rw[List.all_map];rfl
  rw[L]
  have e:Bg x=x.cps.toList.all Kf:=by
   unfold Bg;rw[show(x.cps.toList.all λc=>decide (48<=c/\c<=57))=x.cps.toList.all Kf from rfl,decide_eq_true I.1,Bool.true_and];cases ea:x.cps.toList.all Kf with
   |false=>rfl
   |true=>
    rw[Bool.true_and,Bool.or_eq_true,decide_eq_true_iff,decide_eq_true_iff];by_cases z:x.cps.toList.head?=some 48
    ·refine .inl (Im ?_);have R:=I.2.resolve_right λy=>y z;have n:(Str.ofString "0").cps.toList=[48]:=by decide
     rw[n];cases e:x.cps.toList with
     |nil=>rw[e]at z;cases z
     |cons c r=>
      rw[e]at z f;cases r with
      |nil=>
       have:c=48:=by simpa using z
       rw[this]
      |cons a b=>
       rw[R]at f;simp at f
    ·exact .inr z
  have:=q B u;rw[e]at this;exact this
def bp(K:W.Frag):Sp:=λc H Q _=>∃(v:V),c=[v]/\((K8 H v/\∀a,A7 H a->Q (.bl false) a)\/∃x,v=.str x/\U1 40 x/\∀(b:Bool) (a:Hp),A7 H a->Ob x b->Q (.bl b) a)
theorem lr{fd TL:ri}(F:D8 K "_law_is_row" "_law_is_row" Uy ad.lX fd)(vK:Gk P w K mg base 1 ad.qL ["word"] (jf K) TL):B1 P w K mg base (CX1 P w) 2 ad.lX fd ["row"] (bp K):=by
 refine F.okN Pk (λf H Q E h=>?_) (λaZ A outer s H f Q E hr h=>?_)
 ·rcases h with⟨v,rfl,hk⟩<;>rfl
 ·obtain⟨v,rfl,hk⟩:=h;refine⟨_,(A3 (Av (Df (Bn (Aj (Iz K) (by rfl) T.aM boot_isinstance (A0 (pv 0) (A0 (Uq (by rfl) T.mD boot_str) A4))))) (A6 (Af Gs)) Ad) (A3 (Ab (i:=1) Pk.nd rfl (Or.inl rfl) (Dq PySem.F.plainAttrs_str PySem.F.slot_str_split PySem.F.type_str_split Hz (pv 0) (A0 Ae A4))) (A3 (Ab (i:=2) Pk.nd rfl (Or.inl rfl) (Bb (Cg K) (pv 1) (Bl A5) Bw)) (A3 (Av (PW.pt (D3 (Aa Ba (Au (Ay K) (pv 1) A5 (λ_ _=>rfl)) Ae (Ac _)) (Ds (Aa Ba (Au (Ay K) (pv 1) A5 (λ_ _=>rfl)) Ae (Ac _))))) (A6 (Af (B6 (Yy hr) (pv 2) (Bp A4) (Ac _)))) Ad) (A3 (Av (Aa (Hd K) (Au (Ay K) (pv 1) A5 (λ_ _=>rfl)) (Bp (A0 Ae (A0 Ae (A0 Ae (A0 Ae (A0 Ae (A0 Ae A4))))))) rfl) (A6 (Af (Pc (B6 Ba (Aj (C1 K) (by rfl) T.cB PySem.boot_len (A0 (pv 2) A4)) A5 (Ac _)) (Hf (Am vK.g (hr.mono (by decide)) rfl T.QI T.QJ vK.b .nil Az (A0 (Au (Ay K) (pv 2) A5 (λ_ _=>rfl)) A4)))))) Ad) (A3 (De (PW.pt (Dm (Aa Ba (Au (Ay K) (pv 1) A5 (λ_ _=>rfl)) Ae (Ac _)) (Dm (Aa Ee (Aj (C1 K) (by rfl) T.cB PySem.boot_len (A0 (pv 2) A4)) A5 (Ac _)) (Dl (Aa Ba (Au (Ay K) (pv 2) (Eg Dh A5) (λ_ _=>rfl)) Ae (Ac _)))))) (A6 (Ab (i:=2) Pk.nd rfl (Or.inl rfl) (Ah M3 (Bb (Cg K) (pv 2) Bw (Bl (Eg Dh A5))) (Bb (Cg K) (pv 2) (Bl (Eg Dh A5)) Bw)))) Ad) (A3 (Av (PW.pt (Dm (Aa Ia (Au (Ay K) (pv 1) A5 (λ_ _=>rfl)) Ae (Ac _)) (Dl (Aa Ia (Au (Ay K) (pv 1) A5 (λ_ _=>rfl)) Ae (Ac _))))) (A6 (Af Gs)) Ad) (A6 (Af (Pc (B6 Ee (Aj (C1 K) (by rfl) T.cB PySem.boot_len (A0 (pv 2) A4)) A5 (Ac _)) (Hf (Aj (Ev rfl) (by rfl) T.qM boot_all (A0 (Cj (C6 (pv 2)) _ rfl K9 rfl rfl (λ_ _ _ _=>(An (i:=0) Kh rfl (Or.inl rfl))) (λ_ _ _ _=>C8) (λ_ _ _ _=>(Am vK.g (hr.mono (by decide)) rfl T.QI T.QJ vK.b .nil Az (A0 (pv 0) A4)))) A4))))))))))))),?_⟩;rcases hk with⟨gN,q⟩|⟨x,rfl,hx,q⟩
  ·obtain⟨T0,ty,kb⟩:=gN.ty (K:=K);exact⟨_,rfl,_,T0,"str",false,rfl,ty,kb,_,rfl,Cn rfl (q _ (A7.refl _))⟩
  obtain⟨j,g,N,pL,ej,U⟩:=Rn hx;have iI:=hx.1;have sD:g.length<=60:=by omega
  have TM:∀w∈g,jo w:=λw h=>U w (d3 _ h);refine⟨_,rfl,_,"str","str",true,rfl,.str x,F8,_,rfl,Bx rfl ?_⟩;refine⟨_,rfl,rfl,x,_,rfl,rfl,by decide,by omega,λW hW=>?_⟩;rw[N];have X:A7 H (upd H W (.lst ((j::g).map V.str))):=A7.upd hW;have e1:(upd H W (.lst ((j::g).map V.str))) W=some (.lst ((j::g).map V.str)):=A2;generalize upd H W (.lst ((j::g).map V.str))=H1 at X e1⊢;refine⟨_,rfl,_,rfl,W,_,rfl,Ao.of e1,λR hR=>?_⟩;rw[Bi,Hq];have Y:A7 H1 (upd H1 R (.lst (g.map V.str))):=A7.upd hR;have e2:(upd H1 R (.lst (g.map V.str))) R=some (.lst (g.map V.str)):=A2;generalize upd H1 R (.lst (g.map V.str))=M at Y e2⊢;have jP:=Y _ _ e1;have fH:=X.trans Y;refine⟨_,rfl,W,_,_,.str j,rfl,rfl,.inl (Ao.of jP),U4,rfl,_,rfl,_,(λ_ Q' z=>⟨_,rfl,W,_,_,.str j,rfl,rfl,.inl (Ao.of jP),U4,rfl,_,rfl,z⟩),?_⟩;refine D0 (λh=>?_) (λh=>?_)
  ·have C:j=Str.ofString "best"\/j=Str.ofString "rank":=by
    rw[Bool.or_eq_true,decide_eq_true_iff,decide_eq_true_iff,G4,G4]at h;exact h
   refine⟨_,rfl,B7,λz0 bC=>?_⟩;have I:A7 M (upd M z0 (.lst [])):=A7.upd bC;refine⟨_,_,Gf (I _ _ e2) (λw h=>(TM w h).2.2.2),Gf (ss:=[]) A2 (λw h=>by cases h),Ha _,?_⟩;rw[if_neg (by decide),Lh];refine q _ _ (fH.trans I) (Gd N iI U sD ?_ ?_)
   ·rintro⟨z,_⟩;rcases C with y|y<;>rw[y]at z<;>exact absurd z (by decide)
   ·rw[decide_eq_true_iff];constructor
    ·rintro rfl;exact⟨[],rfl,(λn hn=>by cases hn),by rw[Rt C];rfl⟩
    ·rintro⟨B,rfl,_,p⟩;rw[Rt C,decide_eq_true_iff]at p
     have:B.length=0:=by
      injection p with p;omega
     rw[List.length_eq_zero_iff.mp this];rfl
  have C:j≠Str.ofString "best"/\j≠Str.ofString "rank":=by
   rw[Bool.or_eq_true,decide_eq_true_iff,decide_eq_true_iff,G4,G4,not_or]at h;exact h
  clear h;refine⟨_,rfl,W,_,_,.str j,rfl,rfl,.inl (Ao.of jP),U4,B7,λL hL=>?_⟩;have I:A7 M (upd M L (.lst [.str "call",.str "lost",.str "answer",.str "join",.str "leave",.str "turn"])):=A7.upd hL;have e3:(upd M L (.lst [.str "call",.str "lost",.str "answer",.str "join",.str "leave",.str "turn"])) L=some (.lst [.str "call",.str "lost",.str "answer",.str "join",.str "leave",.str "turn"]):=A2;generalize upd M L (.lst [.str "call",.str "lost",.str "answer",.str "join",.str "leave",.str "turn"])=H3 at I e3⊢;have qR:=fH.trans I;have YV:=I _ _ jP;have J:=I _ _ e2;refine⟨L,_,rfl,.inl (Ao.of e3),rfl,rfl,_,rfl,?_⟩;refine D0 (λh=>?_) (λh=>?_)
  ·have O:Gr (.str j) [.str "call",.str "lost",.str "answer",.str "join",.str "leave",.str "turn"]=true:=h;refine⟨_,rfl,R,_,rfl,.inl (Ao.of J),rfl,_,(λd l=>A7 H l/\(d=true↔g.length=1/\g.all Bg=true)),rfl,(λz=>⟨qR,⟨λy=>(by cases y),λy=>?_⟩⟩),(λz=>?_),λd l gS=>?_⟩
   ·have:=of_decide_eq_false z;rw[List.length_map]at this;exact absurd (show V.int (g.length:Int)=V.int 1 by rw[y.1];rfl) this
   ·have z':=of_decide_eq_true z;rw[List.length_map]at z';injection z' with z'
    obtain⟨w,rfl⟩:∃w,g=[w]:=by
     cases g with
     |nil=>simp at z'
     |cons w r=>
      cases r with
      |nil=>exact⟨w,rfl⟩
      |cons a b=>simp at z';omega
    have AZ:=TM w dm;refine⟨_,rfl,R,_,_,.str w,rfl,rfl,.inl (Ao.of J),U4,w,rfl,by omega,λl s'=>⟨_,rfl,qR.trans s',?_⟩⟩;simp
   ·refine q d l gS.1 (Gd N iI U sD ?_ (gS.2.trans ?_))
    ·rintro⟨rfl,_⟩;exact absurd O (by decide)
    ·rw[U3];constructor
     ·rintro⟨G,B,rfl,m⟩;refine⟨B,rfl,m,?_⟩;rw[List.length_map]at G;rw[da C O,G];rfl
     ·rintro⟨B,rfl,m,p⟩;rw[da C O,decide_eq_true_iff]at p;injection p with p;exact⟨by rw[List.length_map];omega,B,rfl,m⟩
  have O:Gr (.str j) [.str "call",.str "lost",.str "answer",.str "join",.str "leave",.str "turn"]=false:=by
   cases z:Gr (.str j) [.str "call",.str "lost",.str "answer",.str "join",.str "leave",.str "turn"]with
   |false=>rfl
   |true=>exact absurd z h
  clear h
  have two:∃d:Bool,(d=true↔∃f c,f≠[]/\g=f++[Str.ofString "calm",c])/\(2<g.length->∃w,Hm (g.map V.str) (-2)=some (.str w)/\d=decide (V.str w=V.str (Str.ofString "calm")))/\(¬2<g.length->d=false):=by
   by_cases hl:2<g.length
   ·obtain⟨f,a,c,rfl⟩:=Ml (show 2<=g.length by omega)
    have u:f≠[]:=λz=>by
     rw[z]at hl;exact absurd hl (by simp)
    refine⟨decide (V.str a=V.str (Str.ofString "calm")),?_,λ_=>⟨a,Xi,rfl⟩,λz=>absurd hl z⟩;rw[decide_eq_true_iff,G4];constructor
    ·rintro rfl;exact⟨f,c,u,rfl⟩
    ·rintro⟨vs',c',_,e⟩;have e2:=List.append_inj_right' e rfl;injection e2
   ·refine⟨false,⟨(λz=>by cases z),?_⟩,λz=>absurd z hl,λ_=>rfl⟩;rintro⟨f,c,G,rfl⟩;rw[List.length_append]at hl;have:f.length≠0:=λz=>G (List.length_eq_zero_iff.mp z);simp only[List.length_cons,List.length_nil]at hl;omega
  obtain⟨dd,zX,hd2,YU⟩:=two;refine⟨_,rfl,W,_,_,.str j,rfl,rfl,.inl (Ao.of YV),U4,rfl,_,rfl,dd,(λ_ Q1 z1=>⟨_,rfl,R,_,rfl,.inl (Ao.of J),_,_,rfl,rfl,_,rfl,dd,(λz2 Q2 z3=>?_),?_⟩),?_⟩
  ·obtain⟨w,G,h2⟩:=hd2 (by have:=of_decide_eq_true z2;rw[List.length_map]at this;omega);refine⟨_,rfl,_,rfl,R,_,_,.str w,rfl,rfl,.inl (Ao.of J),G,rfl,_,rfl,?_⟩;rw[<- h2];exact z3
  ·rw[List.length_map];by_cases z:2<g.length
   ·rw[decide_eq_true (show((g.length:Nat):Int)>2 by omega),Bool.true_and];exact z1
   ·rw[YU z,Bool.and_false];rw[YU z]at z1;exact z1
  refine⟨(λσ' l=>Js λ(R':Addr) (o:List Str)=>Kq (σ'=[some (.str x),some (.ref W),some (.ref R')]) (A7 H l) (l W=some (.lst ((j::g).map V.str))) (l R'=some (.lst (o.map V.str))) (o.length<=60) ((∀w∈o,w.length<=20000)) (((j=Str.ofString "hall"/\∃f c,f≠[]/\g=f++[Str.ofString "calm",c]/\o=f++[c])\/(¬(j=Str.ofString "hall"/\dd=true)/\o=g)))),λm=>?_,λm=>?_,?_⟩
  ·rw[Bool.and_eq_true,decide_eq_true_iff,G4]at m;obtain⟨f,c,u,rfl⟩:=zX.mp m.2;have tH:=Dz f (Str.ofString "calm") c;refine⟨_,rfl,_,rfl,_,rfl,R,_,rfl,Ao.of J,λp1 qN=>?_⟩;rw[Bi,tH.2.2];have Z:A7 H3 (upd H3 p1 (.lst (f.map V.str))):=A7.upd qN;have e4:(upd H3 p1 (.lst (f.map V.str))) p1=some (.lst (f.map V.str)):=A2;generalize upd H3 p1 (.lst (f.map V.str))=H4 at Z e4⊢;refine⟨_,rfl,_,rfl,_,rfl,R,_,rfl,Ao.of (Z _ _ J),λp2 GB=>?_⟩;rw[Bi,tH.2.1];have s5:A7 H4 (upd H4 p2 (.lst ([c].map V.str))):=A7.upd GB;have e5:(upd H4 p2 (.lst ([c].map V.str))) p2=some (.lst ([c].map V.str)):=A2;generalize upd H4 p2 (.lst ([c].map V.str))=H5 at s5 e5⊢
   have RA:f.length+2<=60:=by
    rw[List.length_append]at sD;exact sD
   refine⟨p1,p2,_,_,rfl,rfl,s5 _ _ e4,e5,nX (D4 (by simp;omega)),λp3 hp3=>?_⟩;have s6:A7 H5 (upd H5 p3 (.lst (f.map V.str++[c].map V.str))):=A7.upd hp3;have DH:=(Z.trans s5).trans s6;refine⟨p3,f++[c],rfl,qR.trans DH,DH _ _ YV,by rw[A2,List.map_append],by rw[List.length_append];simp;omega,λw h=>?_,.inl ⟨m.1,f,c,u,rfl,rfl⟩⟩;rcases fy.mp h with z|z
   ·exact(TM w (gv _ z)).2.1
   ·rw[List.mem_singleton.mp z];exact(TM c (by simp)).2.1
  ·refine⟨R,g,rfl,qR,YV,J,sD,(λw h=>(TM w h).2.1),.inr ⟨λz=>?_,rfl⟩⟩;rw[z.2,Bool.and_true]at m;exact of_decide_eq_false m (G4.mpr z.1)
  rintro σ' H4 ⟨R',o,rfl,Z,e14,DI,GY,hrw,TN⟩;clear YV J qR e3 I jP e2 Y e1 X fH;refine⟨_,rfl,W,_,_,.str j,rfl,rfl,.inl (Ao.of e14),U4,rfl,_,rfl,_,(λ_ Q' z=>⟨_,rfl,W,_,_,.str j,rfl,rfl,.inl (Ao.of e14),U4,rfl,_,rfl,z⟩),?_⟩;refine D0 (λh=>?_) (λh=>?_)
  ·rw[Bool.and_eq_true,Bool.not_eq_true',Bool.not_eq_true',decide_eq_false_iff_not,decide_eq_false_iff_not,G4,G4]at h;refine q false _ Z (Gd N iI U sD (λz=>h.1 z.1) ⟨(λz=>by cases z),?_⟩);rintro⟨B,_,_,p⟩
   have hn:Gr (.str j) [.str "hall",.str "wheel"]=false:=Ov (as:=[Str.ofString "hall",Str.ofString "wheel"]) λz=>by
    rcases eu.mp z with z|z
    ·exact h.1 z
    ·exact h.2 (i0.mp z)
   rw[Ip C O,hn]at p;cases p
  have hhw:Gr (.str j) [.str "hall",.str "wheel"]=true:=by
   rw[Bool.and_eq_true,Bool.not_eq_true',Bool.not_eq_true',decide_eq_false_iff_not,decide_eq_false_iff_not,G4,G4]at h;by_cases y:j=Str.ofString "hall"
   ·rw[y];decide
   ·have:j=Str.ofString "wheel":=Classical.byContradiction λz=>h ⟨y,z⟩;rw[this];decide
  clear h
  have say:∀b:Bool,(b=true↔0<o.length/\o.all Bg=true)->Ob x b:=λb m=>by
   rcases TN with⟨rfl,f,c,u,rfl,rfl⟩|⟨gN,rfl⟩
   ·refine Rc N iI U ?_ (m.trans ⟨λz=>⟨u,z.2⟩,λz=>⟨by simp,z.2⟩⟩);rw[List.length_append]at GY;omega
   ·by_cases hc:j=Str.ofString "hall"/\∃f c,o=f++[Str.ofString "calm",c]
    ·obtain⟨rfl,f,c,rfl⟩:=hc;have u:f=[]:=Classical.byContradiction λz=>gN ⟨rfl,zX.mpr ⟨f,c,z,rfl⟩⟩;subst u;refine Rc N iI U (by simp) (m.trans ⟨λz=>?_,λz=>absurd rfl z.1⟩);have:=List.all_eq_true.mp z.2 (Str.ofString "calm") (by simp);exact absurd this (by decide)
    ·refine Gd N iI U sD hc (m.trans ?_);rw[U3];constructor
     ·rintro⟨G,B,rfl,S⟩;refine⟨B,rfl,S,?_⟩;rw[List.length_map]at G;rw[Ip C O,hhw,Bool.true_and];exact decide_eq_true (by omega)
     ·rintro⟨B,rfl,S,p⟩;rw[Ip C O,hhw,Bool.true_and,decide_eq_true_iff]at p;exact⟨by rw[List.length_map];omega,B,rfl,S⟩
  refine⟨_,rfl,R',_,rfl,.inl (Ao.of DI),_,_,rfl,rfl,_,(λd l=>A7 H l/\(d=true↔0<o.length/\o.all Bg=true)),rfl,(λz=>⟨Z,⟨λy=>(by cases y),λy=>?_⟩⟩),(λz=>?_),λd l gS=>q d l gS.1 (say d gS.2)⟩
  ·have:=of_decide_eq_false z;rw[List.length_map]at this;omega
  refine⟨_,rfl,R',rfl,.inl ⟨⟨_,Ao.of DI⟩,λD hD=>?_⟩⟩;refine C2 (K:=K) (a:=R') (xs:=o.map V.str) (λi ys l=>ys=((o.take i).map Bg).map V.bl/\l D=some (.lst ys)/\A7 H4 l) ⟨rfl,A2,A7.upd hD⟩ (by rintro i ys l _ ⟨_,_,s⟩;exact Ao.of (s _ _ DI)) ?_ ?_
  ·rintro i v ys H1 u ⟨rfl,iB,X⟩ Qe hQ;rw[List.getElem?_map]at u;obtain⟨w,mU,rfl⟩:=d0.mp u;have hi:=(bt.mp mU).1;refine⟨_,rfl,w,rfl,en (hrw w (cI mU)) (by decide),λM Y=>?_⟩;refine hQ _ _ (Y _ _ iB) (Ap (by rw[List.length_map,List.length_map,List.length_take];omega)) ⟨?_,A2,(X.trans Y).new hD⟩;rw[List.take_add_one,mU,List.map_append,List.map_append];rfl
  rintro ys H1 ⟨rfl,iB,X⟩;rw[List.length_map,List.take_length]at iB;refine⟨D,_,rfl,Ao.of iB,_,rfl,Z.trans X,?_⟩;have:=of_decide_eq_true z;rw[List.length_map]at this;rw[List.all_map];exact⟨λy=>⟨by omega,y⟩,λy=>y.2⟩
def cq(K:W.Frag):Sp:=λb H Q _=>∃(v:V),Fk (b=[v]) ((K8 H v\/∃x,v=.str x/\U1 40 x)) (∀(d:Int) (a:Hp),A7 H a->Q0 H v d->0<=d->d<=6->Q (.int d) a)
theorem nr{fd JI:ri}(F:D8 K "_law_due" "_law_due" V4 ad.lY fd)(uU:Gk P w K mg base 2 ad.lX ["row"] (bp K) JI):B1 P w K mg base (CX1 P w) 3 ad.lY fd ["row"] (cq K):=by
 refine F.okN G3 (λvs H Q E h=>?_) (λaZ A outer s H vs Q E hr h=>?_)
 ·rcases h with⟨v,rfl,hk,q⟩<;>rfl
 ·obtain⟨v,rfl,hk,q⟩:=h;refine⟨_,(A3 (Av (Df (Bn (Am uU.g (hr.mono (by decide)) rfl T.QK T.QL uU.b .nil Az (A0 (pv 0) A4)))) (A6 (Af A5)) Ad) (A3 (Ab (i:=1) G3.nd rfl (Or.inl rfl) (Dq PySem.F.plainAttrs_str PySem.F.slot_str_split PySem.F.type_str_split Hz (pv 0) (A0 Ae A4))) (A3 (E3 (i:=2) G3.nd rfl (C6 (Bb (Cg K) (pv 1) (Bl A5) Bw)) _ rfl Oj rfl rfl (λ_ _ _ _=>(An (i:=0) P7 rfl (Or.inl rfl))) (λ_ _ _ _=>(Ph (Aa Ia (pv 0) Ae (Ac _)))) (λ_ _ _ _=>(Bk Nf (by rfl) T.oA boot_int (A0 (pv 0) A4))) rfl rfl) (A3 (Av (Aa Ba (Au (Ay K) (pv 1) A5 (λ_ _=>rfl)) Ae (Ac _)) (A6 (Af (Au (Ay K) (Bp (A0 A5 (A0 A5 A4))) (Bk G7 (by rfl) T.oA boot_int (A0 (B6 (Hd K) A5 (pv 2) rfl) A4)) (λ_ _=>rfl)))) Ad) (A3 (Av (Aa Ia (Au (Ay K) (pv 1) A5 (λ_ _=>rfl)) Ae (Ac _)) (A6 (Af A5)) Ad) (A3 (Ab (i:=3) G3.nd rfl (Or.inl rfl) A5) (A3 (De (Aa Ba (Au (Ay K) (pv 1) (Eg Dh A5) (λ_ _=>rfl)) Ae (Ac _)) (A6 (Ab (i:=3) G3.nd rfl (Or.inl rfl) (Ah Cs (Au (Ay K) (pv 2) (Eg Dh A5) (λ_ _=>rfl)) A5))) Ad) (A3 (Ab (i:=4) G3.nd rfl (Or.inl rfl) (Ah M5 (Aj (C1 K) (by rfl) T.cB PySem.boot_len (A0 (pv 2) A4)) (Bk G7 (by rfl) T.oA boot_int (A0 (B6 Ba (Au (Ay K) (pv 1) (Eg Dh A5) (λ_ _=>rfl)) Ae (Ac _)) A4)))) (A3 (Av (PW.pt (D3 (Aa Ee (pv 4) A5 (Ac _)) (Ds (Aa (Hd K) A5 (pv 2) rfl)))) (A6 (Af A5)) Ad) (A3 (Ce l7 rfl (C6 (Bb (Cg K) (pv 2) Bw (Bl (pv 4)))) (An (i:=5) G3.nd rfl (Or.inl rfl)) (A6 (Ab (i:=3) G3.nd rfl (Or.inl rfl) (Ah Ef (pv 3) (pv 5))))) (A3 (Av (Aa Ee (pv 3) A5 (Ac _)) (A6 (Af A5)) Ad) (A6 (Af (Au (Ay K) (Bp (A0 A5 (A0 A5 A4))) (Bk G7 (by rfl) T.oA boot_int (A0 (B6 iz (pv 3) A5 (Ac _)) A4)) (λ_ _=>rfl))))))))))))))),?_⟩;rcases hk with gN|⟨x,rfl,hx⟩
  ·exact⟨_,rfl,_,rfl,.inl ⟨gN,λu s=>⟨_,rfl,Cn rfl (q 1 u s (.inl ⟨rfl,.inl gN⟩) (by decide) (by decide))⟩⟩⟩
  refine⟨_,rfl,_,rfl,.inr ⟨x,rfl,hx,λb R s1 JJ=>⟨_,rfl,?_⟩⟩⟩;cases b with
  |false=>exact Cn rfl (q 1 R s1 (.inl ⟨rfl,.inr ⟨x,rfl,JJ.2 rfl⟩⟩) (by decide) (by decide))
  |true=>
   refine Bx rfl ?_;obtain⟨r,a,g,l,hn60⟩:=JJ.1 rfl;clear JJ;have zH:∀c,g=some c->0<=c/\c<10^100:=λc e=>(l.calm c e).1;refine⟨_,rfl,rfl,x,_,rfl,rfl,by decide,l.len,λW hW=>?_⟩;rw[l.cut];have s2:A7 R (upd R W (.lst ((r::(a.map Bm++C3 g)).map V.str))):=A7.upd hW;have e2:(upd R W (.lst ((r::(a.map Bm++C3 g)).map V.str))) W=some (.lst ((r::(a.map Bm++C3 g)).map V.str)):=A2;generalize upd R W (.lst ((r::(a.map Bm++C3 g)).map V.str))=H2 at s2 e2⊢;refine⟨_,rfl,_,rfl,W,_,rfl,Ao.of e2,λO kR=>?_⟩;rw[Bi,Hq];have s3:A7 H2 (upd H2 O (.lst ((a.map Bm++C3 g).map V.str))):=A7.upd kR;have e3:(upd H2 O (.lst ((a.map Bm++C3 g).map V.str))) O=some (.lst ((a.map Bm++C3 g).map V.str)):=A2;generalize upd H2 O (.lst ((a.map Bm++C3 g).map V.str))=H3 at s3 e3⊢;refine⟨O,rfl,.inl ⟨⟨_,Ao.of e3⟩,λD hD=>?_⟩⟩
   have AU:(a.map Bm++C3 g).length<=62:=by
    rw[List.length_append,List.length_map];cases g with
    |none=>show a.length+0<=62;omega
    |some c=>show a.length+2<=62;omega
   have Y:∀{i:Nat}{w:Str},(a.map Bm++C3 g)[i]?=some w->w=Str.ofString "calm"\/∃n,w=Bm n/\0<=n/\n<10^100:=λ{i w} h=>by
    rcases fy.mp (cI h)with z|z
    ·obtain⟨n,j,rfl⟩:=fe.mp z;exact .inr ⟨n,rfl,l.big n j⟩
    ·cases g with
     |none=>cases z
     |some c=>
      rcases eu.mp z with z|z
      ·exact .inl z
      ·exact .inr ⟨c,i0.mp z,zH c rfl⟩
   refine Kx (K:=K) (a:=O) (xs:=(a.map Bm++C3 g).map V.str) (λi ys u=>ys=(((a.map Bm++C3 g).take i).filterMap fW).map V.int/\u D=some (.lst ys)/\A7 H3 u) ⟨rfl,A2,A7.upd hD⟩ (by rintro i ys u _ ⟨_,_,s⟩;exact Ao.of (s _ _ e3)) ?_ ?_ ?_ ?_
   ·rintro i v ys J hv ⟨rfl,LX,s4⟩;rw[List.getElem?_map]at hv;obtain⟨w,mU,rfl⟩:=d0.mp hv;have hi:=(bt.mp mU).1;have hfl:=List.length_filterMap_le fW ((a.map Bm++C3 g).take i);rw[List.length_take]at hfl;refine⟨_,rfl,rfl,_,rfl,?_⟩;rcases Y mU with rfl|⟨n,rfl,j⟩
    ·refine Bx (by decide) ⟨?_,LX,s4⟩;rw[List.take_add_one,mU,List.filterMap_append];show _=(_++[Str.ofString "calm"].filterMap fW).map V.int;rw[List.filterMap_cons,show fW (Str.ofString "calm")=none by unfold fW;rw[if_pos rfl]];show _=(_++[]).map V.int;rw[List.append_nil]
    ·have fI:=Ga j (show Bg (Str.ofString "calm")=false by decide);refine Cn (by rw[Bool.not_eq_true',decide_eq_false_iff_not,G4];exact fI) ?_;have W0:=Ed j.1 j.2;refine⟨_,rfl,Bm n,n,rfl,W0.val,en W0.len (by decide),LX,Ap (by rw[List.length_map];omega),?_,A2,s4.new hD⟩;rw[List.take_add_one,mU,List.filterMap_append,List.map_append];show _=_++([Bm n].filterMap fW).map V.int;rw[List.filterMap_cons,S9 j];rfl
   ·rintro σ H Q1 Q2 hQ ⟨v,e1,r1,b,f,z⟩;exact⟨v,e1,r1,b,f,hQ _ _ z⟩
   ·rintro σ H Q1 Q2 hQ ⟨v,e1,z⟩;obtain⟨x,n,f1,f2,f3,z⟩:=z;exact⟨v,e1,x,n,f1,f2,f3,hQ _ _ z⟩
   rintro ys J ⟨rfl,C,s4⟩;rw[List.length_map,List.take_length,jx l.big zH]at C;have YQ:=s2.trans (s3.trans s4);have DI:=(s3.trans s4) _ _ e2;have U:=s1.trans YQ;refine⟨_,rfl,W,_,_,.str r,rfl,rfl,.inl (Ao.of DI),U4,rfl,_,rfl,?_⟩;refine D0 (λh=>?_) (λh=>?_)
   ·have N:r=Str.ofString "wheel":=G4.mp (of_decide_eq_true h)
    have hcn:g=none:=by
     cases g with
     |none=>rfl
     |some c=>
      have:=(l.calm c rfl).2;rw[N]at this;exact absurd this (by decide)
    subst hcn;rw[show a++(none:q3).toList=a from List.append_nil _]at C;refine⟨B7,λL hL=>?_⟩;have s5:A7 J (upd J L (.lst [.int 6,.int 5])):=A7.upd hL;have e5:(upd J L (.lst [.int 6,.int 5])) L=some (.lst [.int 6,.int 5]):=A2;generalize upd J L (.lst [.int 6,.int 5])=S at s5 e5⊢;refine⟨_,rfl,D,_,rfl,.inl (Ao.of (s5 _ _ C)),rfl,G8 _,.inr ⟨_,rfl,?_⟩⟩
    have m:∀d,((d=5/\∃n∈a,n<1)\/(d=6/\∀n∈a,1<=n))->Q0 H (.str x) d:=λd h=>.inr ⟨x,r,a,none,rfl,l,by omega,by
     rcases h with⟨p,o⟩|⟨p,o⟩
     ·exact .inr (.inl ⟨N,p,o⟩)
     ·exact .inr (.inr (.inl ⟨N,p,o⟩))⟩
    cases hz:Gr (.int 0) (a.map V.int)with
    |true=>exact⟨L,_,_,_,rfl,rfl,.inl (Ao.of e5),rfl,q 5 _ (U.trans s5) (m 5 (.inl ⟨rfl,0,Ou.mp hz,by decide⟩)) (by decide) (by decide)⟩
    |false=>
     refine⟨L,_,_,_,rfl,rfl,.inl (Ao.of e5),rfl,q 6 _ (U.trans s5) (m 6 (.inr ⟨rfl,λn j=>?_⟩)) (by decide) (by decide)⟩;have h0:=l.big n j
     have p:n≠0:=λz=>by
      rw[z]at j;rw[Ou.mpr j]at hz;cases hz
     omega
   have N:r≠Str.ofString "wheel":=λz=>h (decide_eq_true (G4.mpr z));clear h;refine⟨_,rfl,W,_,_,.str r,rfl,rfl,.inl (Ao.of DI),U4,rfl,_,rfl,?_⟩;refine D0 (λh=>?_) (λh=>?_)
   ·have o:r≠Str.ofString "hall":=λz=>by
     rw[z]at h;exact absurd h (by decide)
    exact q 2 _ U (.inr ⟨x,r,a,g,rfl,l,by omega,.inl ⟨rfl,o,N⟩⟩) (by decide) (by decide)
   have o:r=Str.ofString "hall":=Classical.byContradiction λz=>h (by rw[decide_eq_false λy=>z (G4.mp y)];rfl);clear h N;subst o
   have zU:0<a.length:=by
    have:=l.tak;rw[Ip ⟨by decide,by decide⟩ (by decide),Bool.and_eq_true,decide_eq_true_iff]at this;omega
   obtain⟨w2,wX,YC⟩:=fh (cm:=g) zU l.big
   have rT:intBits (qv g)<=400:=by
    cases g with
    |none=>decide
    |some c=>exact(Fo (zH c rfl)).2
   refine⟨_,rfl,_,rfl,W,_,_,.str w2,rfl,rfl,.inl (Ao.of DI),wX,rfl,_,rfl,(λI u=>I=[some (.str x),some (.ref W),some (.ref D),some (.int (qv g)),none,none]/\u=J),λX=>?_,λX=>?_,?_⟩
   ·rw[YC]at X;obtain⟨c,rfl⟩:=Option.isSome_iff_exists.mp X;exact⟨_,rfl,_,rfl,D,_,_,.int c,rfl,rfl,.inl (Ao.of C),sh,_,_,rfl,rfl,rfl,rfl⟩
   ·rw[YC]at X;have:g=none:=by simpa using X
    subst this;exact⟨rfl,rfl⟩
   rintro I S ⟨rfl,rfl⟩;refine⟨_,rfl,D,_,rfl,.inl (Ao.of C),_,rfl,_,rfl,W,_,_,.str w2,rfl,rfl,.inl (Ao.of DI),wX,rfl,.inr ⟨_,rfl,_,_,rfl,rfl,?_⟩⟩;dsimp only;rw[YC]
   have eL:(((a++g.toList).map V.int).length:Int)-(if g.isSome=true then 1 else 0)=(a.length:Nat):=by
    rw[List.length_map,List.length_append];cases g with
    |none=>show((a.length+0:Nat):Int)-0=_;omega
    |some c=>show((a.length+1:Nat):Int)-1=_;omega
   rw[eL];refine⟨_,rfl,_,_,rfl,rfl,_,rfl,_,(λ_ Q' z=>⟨_,rfl,D,_,rfl,.inl (Ao.of C),rfl,G8 _,_,rfl,z⟩),?_⟩
   have B:(decide (((a.length:Nat):Int)>8)||Gr (.int 0) ((a++g.toList).map V.int))=true↔Ix a g:=by
    rw[Bool.or_eq_true,decide_eq_true_iff,Ou,List.mem_append];unfold Ix;constructor
    ·rintro(h|h|h)
     ·exact .inr (.inl (by omega))
     ·exact .inr (.inr (.inl ⟨0,h,by decide⟩))
     ·cases g with
      |none=>cases h
      |some c=>
       have:c=0:=(i0.mp h).symm;exact .inr (.inr (.inr ⟨c,rfl,by omega⟩))
    ·rintro(h|h|⟨n,j,h⟩|⟨c,rfl,h⟩)
     ·omega
     ·exact .inl (by omega)
     ·have:=l.big n j;have:n=0:=by omega
      rw[this]at j;exact .inr (.inl j)
     ·have:=zH c rfl;have:c=0:=by omega
      rw[this];exact .inr (.inr dm)
   have m:∀d,((d=3/\Ix a g)\/(d=4/\¬Ix a g/\3000<B0 (qv g) a)\/(d=6/\¬Ix a g/\B0 (qv g) a<=12)\/d=0)->Q0 H (.str x) d:=λd h=>.inr ⟨x,_,a,g,rfl,l,by omega,by
    rcases h with⟨p,o⟩|⟨p,o⟩|⟨p,o⟩|p
    ·exact .inr (.inr (.inr (.inl ⟨rfl,p,o⟩)))
    ·exact .inr (.inr (.inr (.inr (.inl ⟨rfl,p,o⟩))))
    ·exact .inr (.inr (.inr (.inr (.inr (.inl ⟨rfl,p,o⟩)))))
    ·exact .inr (.inr (.inr (.inr (.inr (.inr p)))))⟩
   refine D0 (λh=>?_) (λh=>?_)
   ·exact q 3 _ U (m 3 (.inl ⟨rfl,B.mp h⟩)) (by decide) (by decide)
   have Z:¬Ix a g:=λz=>h (B.mpr z);clear h B;refine⟨_,rfl,_,rfl,_,rfl,D,_,rfl,Ao.of C,λM vA=>?_⟩;rw[dv (by omega) (by rw[List.length_map,List.length_append];omega),Int.toNat_natCast,<- List.map_take,List.take_left];have s6:A7 S (upd S M (.lst (a.map V.int))):=A7.upd vA;have e6:(upd S M (.lst (a.map V.int))) M=some (.lst (a.map V.int)):=A2;generalize upd S M (.lst (a.map V.int))=H6 at s6 e6⊢;refine⟨M,rfl,.inl ⟨⟨_,Ao.of e6⟩,?_⟩⟩;refine Cc (K:=K) (a:=M) (xs:=a.map V.int) (λi σ u=>∃(v5:Option V),σ=[some (.str x),some (.ref W),some (.ref D),some (.int (B0 (qv g) (a.take i))),some (.int (a.length:Nat)),v5]/\u=H6) ⟨_,rfl,rfl⟩ (by rintro i σ u _ ⟨_,_,e⟩;exact(by rw[e];exact Ao.of e6)) ?_ ?_
   ·rintro i y σ u hy ⟨v5,rfl,rfl⟩;rw[List.getElem?_map]at hy;obtain⟨n,j,rfl⟩:=d0.mp hy;have hi:=(bt.mp j).1;have b1:=Jl rT (λw hw=>(Fo (l.big w hw)).1) i (by omega);refine⟨_,rfl,_,rfl,_,_,rfl,rfl,Nv b1 (Fo (l.big n (cI j))).1 (by omega),?_⟩;refine⟨some (.int n),?_,rfl⟩;rw[Sa j];rfl
   rintro I H7 ⟨v5,rfl,rfl⟩;rw[List.length_map,List.take_length];have G:=U.trans s6;refine⟨_,rfl,_,_,rfl,rfl,_,rfl,?_⟩;refine D0 (λh=>?_) (λh=>?_)
   ·exact q 4 _ G (m 4 (.inr (.inl ⟨rfl,Z,of_decide_eq_true h⟩))) (by decide) (by decide)
   refine⟨B7,λL hL=>?_⟩;have s8:A7 H7 (upd H7 L (.lst [.int 0,.int 6])):=A7.upd hL;have e8:(upd H7 L (.lst [.int 0,.int 6])) L=some (.lst [.int 0,.int 6]):=A2;generalize upd H7 L (.lst [.int 0,.int 6])=H8 at s8 e8⊢;refine⟨_,rfl,_,_,rfl,rfl,.inr ⟨_,rfl,?_⟩⟩;by_cases z:B0 (qv g) a<=12
   ·rw[decide_eq_true z];exact⟨L,_,_,_,rfl,rfl,.inl (Ao.of e8),rfl,q 6 _ (G.trans s8) (m 6 (.inr (.inr (.inl ⟨rfl,Z,z⟩)))) (by decide) (by decide)⟩
   ·rw[decide_eq_false z];exact⟨L,_,_,_,rfl,rfl,.inl (Ao.of e8),rfl,q 0 _ (G.trans s8) (m 0 (.inr (.inr (.inr rfl)))) (by decide) (by decide)⟩
def ci(K:W.Frag)(aA aF aG aD aB aE aC aH aI:Addr):Sp:=λb H Q _=>Mn λ(x C:Addr) (k:Int)=>Iw (b=[.ref x]) (H x=some (.ext (Eb x (.ref C)))) (((aE=C/\k=1)\/(aC=C/\k=2)\/(aD=C/\k=3)\/(aB=C/\k=4)\/(aA=C/\k=5))) (∀a,A7 H a->Q (.int k) a)
theorem ng{fd:ri}(F:D8 K "_law_kind" "_law_kind" V3 ad.lZ fd):B1 P w K mg base (CX1 P w) 1 ad.lZ fd ["e"] (ci K aA aF aG aD aB aE aC aH aI):=by
 refine F.okN av (λvs H Q E h=>?_) (λaZ A S s H vs Q E hr h=>?_)
 ·rcases h with⟨x,C,k,rfl,c,hC,q⟩<;>rfl
 ·obtain⟨x,C,k,rfl,c,hC,q⟩:=h;refine⟨_,(A3 (Av (PW.pt (D3 (Bn (Aj (C0 K) (by rfl) T.aM boot_isinstance (A0 (pv 0) (A0 (Bv (v:=.ref aK) (by rfl) T.oX rfl) A4)))) (D3 (Bn (Aj (C0 K) (by rfl) T.aM boot_isinstance (A0 (pv 0) (A0 (Bv (v:=.ref aS) (by rfl) T.wN rfl) A4)))) (D3 (Bn (Aj (C0 K) (by rfl) T.aM boot_isinstance (A0 (pv 0) (A0 (Bv (v:=.ref aF) (by rfl) T.oB rfl) A4)))) (Ds (Bn (Aj (C0 K) (by rfl) T.aM boot_isinstance (A0 (pv 0) (A0 (Bv (v:=.ref aG) (by rfl) T.oC rfl) A4))))))))) (A6 (Af A5)) Ad) (A3 (Av (PW.pt (D3 (Bn (Aj (C0 K) (by rfl) T.aM boot_isinstance (A0 (pv 0) (A0 (Bv (v:=.ref aU) (by rfl) T.wO rfl) A4)))) (D3 (Bn (Aj (C0 K) (by rfl) T.aM boot_isinstance (A0 (pv 0) (A0 (Bv (v:=.ref aV) (by rfl) T.wQ rfl) A4)))) (Ds (Df (Bn (Aj (C0 K) (by rfl) T.aM boot_isinstance (A0 (pv 0) (A0 (Uq (by rfl) T.oU PyProof.Rows.Boot.«ValueError») A4))))))))) (A6 (Af A5)) Ad) (A3 (Ab (i:=1) av.nd rfl (Or.inl rfl) (Bp (A0 (Aj (C0 K) (by rfl) T.aM boot_isinstance (A0 (pv 0) (A0 (Bv (v:=.ref aE) (by rfl) T.mV rfl) A4))) (A0 (Aj (C0 K) (by rfl) T.aM boot_isinstance (A0 (pv 0) (A0 (Bv (v:=.ref aC) (by rfl) T.jX rfl) A4))) (A0 (Aj (C0 K) (by rfl) T.aM boot_isinstance (A0 (pv 0) (A0 (Bv (v:=.ref aD) (by rfl) T.jC rfl) A4))) (A0 (Aj (C0 K) (by rfl) T.aM boot_isinstance (A0 (pv 0) (A0 (Bv (v:=.ref aB) (by rfl) T.oE rfl) A4))) A4)))))) (A3 (Cy (Dq PySem.F.plainAttrs_list PySem.F.slot_list_append PySem.F.type_list_append D6 (pv 1) (A0 (Aj (C0 K) (by rfl) T.aM boot_isinstance (A0 (pv 0) (A0 (Bv (v:=.ref aA) (by rfl) T.gO rfl) A4))) A4))) (A3 (Av (Aa Ia (Aj (Ng rfl) (by rfl) T.CL boot_sum (A0 (Cj (C6 (pv 1)) _ rfl Mr rfl rfl (λ_ _ _ _=>(An (i:=0) My rfl (Or.inl rfl))) (λ_ _ _ _=>C8) (λ_ _ _ _=>(Bk G7 (by rfl) T.oA boot_int (A0 (pv 0) A4)))) A4)) A5 (Ac _)) (A6 (Af A5)) Ad) (A6 (Af (Ah Cs A5 (Dq PySem.F.plainAttrs_list PySem.F.slot_list_index PySem.F.type_list_index (Wn hr) (pv 1) (A0 Gs A4)))))))))),?_⟩
  obtain⟨bs,g,l,n,o,r,j,p,d,f1,f2,f3,f4,f5,f6,f7,g1,g2,g3,g4,g5,SS,rfl,hj,R⟩:∃(bs:List Bool) (g l n o r:Bool) (j:Nat),bs=[g,l,n,o,r]/\Q4 K C/\W.kitOne K (.ref C) (.ref aK)=some false/\W.kitOne K (.ref C) (.ref aS)=some false/\W.kitOne K (.ref C) (.ref aF)=some false/\W.kitOne K (.ref C) (.ref aG)=some false/\W.kitOne K (.ref C) (.ref aU)=some false/\W.kitOne K (.ref C) (.ref aV)=some false/\W.kitOne K (.ref C) (.type "ValueError")=some true/\W.kitOne K (.ref C) (.ref aE)=some g/\W.kitOne K (.ref C) (.ref aC)=some l/\W.kitOne K (.ref C) (.ref aD)=some n/\W.kitOne K (.ref C) (.ref aB)=some o/\W.kitOne K (.ref C) (.ref aA)=some r/\(bs.map λb=>if b=true then(1:Int)else 0).sum=1/\k=1+(j:Int)/\bs[j]?=some true/\∀m e,m<j->bs[m]?=some e->e=false:=by
   rcases hC with⟨rfl,rfl⟩|⟨rfl,rfl⟩|⟨rfl,rfl⟩|⟨rfl,rfl⟩|⟨rfl,rfl⟩
   ·exact⟨_,true,false,false,false,false,0,rfl,⟨T.kB,T.kC,T.kD,T.GQ,T.GR,T.kE,T.kG⟩,T.bX,T.eS,T.dU,T.dW,T.eU,T.eV,T.bZ,T.fE,T.dX,T.eX,T.dY,T.dZ,rfl,rfl,rfl,λm e f a=>by exact absurd f (nP _)⟩
   ·exact⟨_,false,true,false,false,false,1,rfl,⟨T.fU,T.fV,T.fX,T.GQ,T.GR,T.fY,T.fZ⟩,T.bG,T.cU,T.cC,T.cD,T.cV,T.cW,T.bH,T.eA,T.cE,T.cX,T.cF,T.cH,rfl,rfl,rfl,λm e f a=>by match m,f,a with|0,_,a=>exact(eo a).symm⟩
   ·exact⟨_,false,false,true,false,false,2,rfl,⟨T.hJ,T.hU,T.hV,T.GQ,T.GR,T.hZ,T.iA⟩,T.bS,T.eC,T.cY,T.cZ,T.eE,T.eG,T.bT,T.eY,T.dA,T.eJ,T.dB,T.dC,rfl,rfl,rfl,λm e f a=>by match m,f,a with|0,_,a=>exact(eo a).symm|1,_,a=>exact(eo a).symm⟩
   ·exact⟨_,false,false,false,true,false,3,rfl,⟨T.gA,T.gB,T.gC,T.GQ,T.GR,T.gD,T.gE⟩,T.bJ,T.dD,T.cJ,T.cK,T.dE,T.dG,T.bK,T.eK,T.cL,T.dH,T.cM,T.cN,rfl,rfl,rfl,λm e f a=>by match m,f,a with|0,_,a=>exact(eo a).symm|1,_,a=>exact(eo a).symm|2,_,a=>exact(eo a).symm⟩
   ·exact⟨_,false,false,false,false,true,4,rfl,⟨T.gF,T.gG,T.gH,T.GQ,T.GR,T.gI,T.gJ⟩,T.bM,T.dJ,T.cO,T.cP,T.dM,T.dN,T.bN,T.eM,T.cQ,T.dQ,T.cR,T.cS,rfl,rfl,rfl,λm e f a=>by match m,f,a with|0,_,a=>exact(eo a).symm|1,_,a=>exact(eo a).symm|2,_,a=>exact(eo a).symm|3,_,a=>exact(eo a).symm⟩
  refine⟨_,rfl,x,C,_,_,_,rfl,c,(λ_ z=>z),d,f1,_,rfl,false,(λ_ Q1 U=>⟨_,rfl,x,C,_,_,_,rfl,c,(λ_ z=>z),d,f2,_,rfl,false,(λ_ Q2 X=>⟨_,rfl,x,C,_,_,_,rfl,c,(λ_ z=>z),d,f3,_,rfl,false,(λ_ Q3 z3=>⟨_,rfl,x,C,_,_,_,rfl,c,(λ_ z=>z),d,f4,_,rfl,z3⟩),X⟩),U⟩),Bx rfl ?_⟩;refine⟨_,rfl,x,C,_,_,_,rfl,c,(λ_ z=>z),d,f5,_,rfl,false,(λ_ Q1 U=>⟨_,rfl,x,C,_,_,_,rfl,c,(λ_ z=>z),d,f6,_,rfl,false,(λ_ Q2 X=>⟨_,rfl,x,C,_,_,_,rfl,c,(λ_ z=>z),d,f7,_,rfl,X⟩),U⟩),Bx rfl ?_⟩;refine⟨_,rfl,x,C,_,_,_,rfl,c,(λ_ z=>z),d,g1,_,rfl,x,C,_,_,_,rfl,c,(λ_ z=>z),d,g2,_,rfl,x,C,_,_,_,rfl,c,(λ_ z=>z),d,g3,_,rfl,x,C,_,_,_,rfl,c,(λ_ z=>z),d,g4,B7,λL hL=>?_⟩;have I:A7 H (upd H L (.lst [.bl g,.bl l,.bl n,.bl o])):=A7.upd hL;have y:(upd H L (.lst [.bl g,.bl l,.bl n,.bl o])) L=some (.lst [.bl g,.bl l,.bl n,.bl o]):=A2;generalize upd H L (.lst [.bl g,.bl l,.bl n,.bl o])=O at I y⊢;have Y:=I _ _ c;refine⟨_,rfl,.inl ⟨rfl,_,Ao.of y⟩,_,rfl,x,C,_,_,_,rfl,Y,(λ_ z=>z),d,g5,L,_,_,rfl,rfl,y,Ap (by simp),?_⟩;have s2:A7 H (upd O L (.lst ([.bl g,.bl l,.bl n,.bl o]++[.bl r]))):=I.new hL
  have B:(upd O L (.lst ([.bl g,.bl l,.bl n,.bl o]++[.bl r]))) L=some (.lst (bs.map V.bl)):=by
   rw[A2,p];rfl
  generalize upd O L (.lst ([.bl g,.bl l,.bl n,.bl o]++[.bl r]))=H2 at s2 B⊢;have CW:bs.length=5:=by rw[p];rfl
  clear y I Y p;refine⟨_,rfl,L,rfl,.inl ⟨⟨_,Ao.of B⟩,λD hD=>?_⟩⟩;refine C2 (K:=K) (a:=L) (xs:=bs.map V.bl) (λi u N=>u=((bs.take i).map λb=>if b=true then(1:Int)else 0).map V.int/\N D=some (.lst u)/\A7 H2 N) ⟨rfl,A2,A7.upd hD⟩ (by rintro i u N _ ⟨_,_,s⟩;exact Ao.of (s _ _ B)) ?_ ?_
  ·rintro i v u H3 hv ⟨rfl,M,J⟩ Qe hQ;rw[List.getElem?_map]at hv;obtain⟨b,G,rfl⟩:=d0.mp hv;have hi:=(bt.mp G).1;refine⟨_,rfl,.inr ⟨_,rfl,hQ _ _ M (Ap (by rw[List.length_map,List.length_map,List.length_take];omega)) ⟨?_,A2,J.new hD⟩⟩⟩;rw[List.take_add_one,G,List.map_append,List.map_append];rfl
  rintro u H3 ⟨rfl,M,J⟩;rw[List.length_map,List.take_length]at M;refine⟨D,_,rfl,Ao.of M,rfl,_,rfl,Bx (by rw[SS];decide) ?_⟩;have Z:=J _ _ B;refine⟨_,rfl,.inl ⟨rfl,_,Ao.of Z⟩,L,_,.bl true,.bool true,bs.map PyData.bool,j,rfl,rfl,Ao.of Z,(by unfold Rp;rfl),Zj bs,(by decide),⟨.bool true,by rw[List.getElem?_map,hj];rfl,by decide⟩,(λm e f a=>?_),_,_,rfl,rfl,q _ (s2.trans J)⟩;rw[List.getElem?_map]at a;obtain⟨b,G,rfl⟩:=d0.mp a;rw[R m b f G];decide
def c8(K:W.Frag)(aA aF aG aD aB aE aC aH aI:Addr):Sp:=λc H Q _=>di λ(x b:Addr) (v:V) (d:Int)=>Px (c=[.ref x,v]) (H x=some (.ins aH b (Cq .aX .aX .aX .aX))) (H aI=some (.tab lamQ lamP)) (Q0 H v d) (1<=d) (d<=6) ((d<6->∀a,A7 H a->Q (.int d) a)) ((d=6->∀a,Gn x H a->Q (.int d) a))
theorem mq{i z B:ri}(F:D8 K "_law_asked" "_law_asked" a7 ad.mB i)(p:Gk P w K mg base 9 ad.lR ["self","row"] (c6 K aA aF aG aD aB aE aC aH aI) z)(r:Gk P w K mg base 1 ad.lZ ["e"] (ci K aA aF aG aD aB aE aC aH aI) B):B1 P w K mg base (CX1 P w) 10 ad.mB i ["desk","row"] (c8 K aA aF aG aD aB aE aC aH aI):=by
 refine F.okN Jm (λN H Q E h=>?_) (λS A g s H N Q E m h=>?_)
 ·rcases h with⟨x,b,v,d,rfl,f,l,o,O,c,q,n⟩<;>rfl
 ·obtain⟨x,b,v,d,rfl,f,l,o,O,c,q,n⟩:=h;refine⟨_,(A3 (Ab (i:=2) Jm.nd rfl (Or.inl rfl) Cd) (A3 (Ab (i:=3) Jm.nd rfl (Or.inl rfl) Cd) (A3 (gp K (i:=4) rfl rfl (λW U R I=>(A6 (Ab (i:=3) Jm.nd rfl (Or.inl rfl) (M7 (pv 0) T.aY T.QR p.g (m.mono (by decide)) p.b .nil I (A0 (pv 1) A4))))) (by rfl) T.oW T.fL T.fM Jm.nd rfl rfl (λA=>(A6 (Ab (i:=2) Jm.nd rfl (Or.inl rfl) (pv 4))))) (A3 (Av (Aa Pa (pv 2) Cd (Ac _)) (A6 (Af (Am r.g (m.mono (by decide)) rfl T.QO T.QP r.b .nil Az (A0 (pv 2) A4)))) Ad) (A3 (Av (Bn (Aj (Iz K) (by rfl) T.aM boot_isinstance (A0 (pv 3) (A0 (Uq (by rfl) T.mD boot_str) A4)))) (A6 (Af A5)) Ad) (A6 (Af A5))))))),?_⟩;refine⟨_,rfl,x,b,_,rfl,f,rfl,_,rfl,(λcls _ a=>Js λ(C:Addr) (k:Int)=>Fl (cls=.ref C) (((aE=C/\k=1)\/(aC=C/\k=2)\/(aD=C/\k=3)\/(aB=C/\k=4)\/(aA=C/\k=5))) (d=k) (k<6) (A7 H a)),?_,x,b,v,d,rfl,f,l,o,(by omega),(λe a s=>⟨_,_,rfl,(.inl ⟨rfl,rfl⟩),e,by decide,s⟩),(λe a s=>⟨_,_,rfl,(.inr (.inl ⟨rfl,rfl⟩)),e,by decide,s⟩),(λe a s=>⟨_,_,rfl,(.inr (.inr (.inl ⟨rfl,rfl⟩))),e,by decide,s⟩),(λe a s=>⟨_,_,rfl,(.inr (.inr (.inr (.inl ⟨rfl,rfl⟩)))),e,by decide,s⟩),(λe a s=>⟨_,_,rfl,(.inr (.inr (.inr (.inr ⟨rfl,rfl⟩)))),e,by decide,s⟩),λe s a D=>?_⟩
  ·rintro cls a ⟨C,k,rfl,j,rfl,G,L⟩;refine⟨C,rfl,by rcases j with⟨rfl,_⟩|⟨rfl,_⟩|⟨rfl,_⟩|⟨rfl,_⟩|⟨rfl,_⟩;exact T.bW;exact T.bE;exact T.bR;exact T.bI;exact T.bL,λy J=>?_⟩;refine⟨_,rfl,?_⟩;refine⟨_,rfl,rfl,_,rfl,Cn rfl ?_⟩;exact⟨_,rfl,y,C,_,rfl,J,j,λu M=>q G u (L.trans M)⟩
  ·subst e;refine⟨_,rfl,rfl,_,rfl,Bx rfl ?_⟩;exact⟨_,rfl,_,"str","str",true,rfl,.str s,F8,_,rfl,Cn rfl (n rfl a D)⟩
def sp_law(K:W.Frag)(aI:Addr):Sp:=λd H Q _=>Js λ(a:Addr) (b:qQ)=>Hi (d=[.ref a]) (Ao K H a (b.map V.int)) (b.length<=63) ((∀z∈b,intBits z<=2^20)) (H aI=some (.tab lamQ lamP)) (∀c,c aI=some (.tab lamQ lamP)->Q (.bl true) c)
theorem kr{fd TQ JM JN JO:ri}(F:D8 K "law" "law" Ii ad.mC fd)(D:Gk P w K mg base 1 ad.qH ["self"] (jd K aA aF aG aD aB aE aC aH aI) TQ)(uX:Gk P w K mg base 3 ad.lW ["cell"] (cp K) JM)(uY:Gk P w K mg base 3 ad.lY ["row"] (cq K) JN)(n:Gk P w K mg base 10 ad.mB ["desk","row"] (c8 K aA aF aG aD aB aE aC aH aI) JO):B1 P w K mg base (CX1 P w) 11 ad.mC fd ["script"] (sp_law K aI):=by
 refine F.okN Hg (λvs H Q E h=>?_) (λaZ A outer s H vs Q E j h=>?_)
 ·rcases h with⟨a,ns,rfl,hS,hlen,fF,hT,q⟩<;>rfl
 ·obtain⟨a,ns,rfl,hS,hlen,fF,hT,q⟩:=h;refine⟨_,(A3 (Ab (i:=1) Hg.nd rfl (Or.inl rfl) (M6 T.oY D.g (j.mono (by decide)) (by rfl) T.rL D.b .nil Az)) (A3 (Ab (i:=2) Hg.nd rfl (Or.inl rfl) (M6 T.oY D.g (j.mono (by decide)) (by rfl) T.rL D.b .nil Az)) (A3 (Ce l7 rfl (C6 (Bb (Cg K) (pv 0) Bw (Bl A5))) (An (i:=3) Hg.nd rfl (Or.inl rfl)) (A3 (Ab (i:=4) Hg.nd rfl (Or.inl rfl) (Am uX.g (j.mono (by decide)) rfl T.QG T.QH uX.b .nil Az (A0 (pv 3) A4))) (A3 (Ab (i:=5) Hg.nd rfl (Or.inl rfl) (Am uY.g (j.mono (by decide)) rfl T.QM T.QN uY.b .nil Az (A0 (pv 4) A4))) (A6 (Av (Aa Ba (pv 5) A5 (Ac _)) (A6 (Av (Aa Ia (Am n.g (j.mono (by decide)) rfl T.tO T.tP n.b .nil Az (A0 (M6 T.oY D.g (j.mono (by decide)) (by rfl) T.rL D.b .nil Az) (A0 (pv 4) A4))) A5 (Ac _)) (A6 (Af Gs)) Ad)) (A6 (Av (Aa Ee (pv 5) A5 (Ac _)) (A6 (Ce l7 rfl (C6 (Bp (A0 (pv 1) (A0 (pv 2) (A0 (pv 1) A4))))) (An (i:=6) Hg.nd rfl (Or.inl rfl)) (A6 (Av (Aa Ia (Am n.g (j.mono (by decide)) rfl T.tO T.tP n.b .nil Az (A0 (pv 6) (A0 (pv 4) A4))) (pv 5) (Ac _)) (A6 (Af Gs)) Ad)))) Ad))))))) (A6 (Af (Pc (B6 Ba (Am n.g (j.mono (by decide)) rfl T.tO T.tP n.b .nil Az (A0 (pv 1) (A0 Ae A4))) A5 (Ac _)) (Hf (B6 Ba (Am n.g (j.mono (by decide)) rfl T.tO T.tP n.b .nil Az (A0 (pv 2) (A0 Ae A4))) A5 (Ac _))))))))),?_⟩;refine λf YW HL Y hne1=>⟨f,YW,rfl,A2,λH1 b1 R=>⟨rfl,?_⟩⟩;have s1:A7 H H1:=P3 HL Y b1;refine λg u nJ Z hne2=>⟨g,u,rfl,A2,λM b2 e2=>⟨rfl,?_⟩⟩;have s2:A7 H1 M:=P3 nJ Z b2;have jP:=s2 _ _ R;have HH:=s1.trans s2;refine⟨_,rfl,_,rfl,a,_,rfl,HH.seq hS,λG kR=>?_⟩;rw[Ni];have U:∀z∈Xo ns none (some 40),intBits z<=2^20:=λz hz=>fF z (List.mem_of_mem_drop (List.mem_of_mem_take hz));generalize Xo ns none (some 40)=N at U⊢;have s3:A7 M (upd M G (.lst (N.map V.int))):=A7.upd kR;have e3:(upd M G (.lst (N.map V.int))) G=some (.lst (N.map V.int)):=A2;generalize upd M G (.lst (N.map V.int))=H3 at s3 e3⊢;have I:=(HH.trans s3) _ _ hT;have R:=s3 _ _ jP;have e2:=s3 _ _ e2;refine⟨G,rfl,.inl ⟨⟨_,Ao.of e3⟩,?_⟩⟩;refine Cc (K:=K) (a:=G) (xs:=N.map V.int) (λi l r=>di λ(v3 v4 v5 C:Option V)=>l=[some (.ref a),some (.ref f),some (.ref g),v3,v4,v5,C]/\A7 H3 r) ⟨_,_,_,_,rfl,A7.refl _⟩ (by rintro i l r _ ⟨_,_,_,_,_,s⟩;exact Ao.of (s _ _ e3)) ?_ ?_
  ·rintro i y l H4 hy ⟨v3,v4,v5,C,rfl,s4⟩;rw[List.getElem?_map]at hy;obtain⟨c,hc,rfl⟩:=d0.mp hy;refine⟨_,rfl,c,rfl,U c (cI hc),λv H5 s5 hv=>?_⟩;refine⟨_,rfl,v,rfl,hv,λd m s6 sA h0 h6=>?_⟩;have DJ:=sA.same s6;have J:=(s4.trans s5).trans s6;refine⟨_,rfl,rfl,_,rfl,?_⟩;refine D0 (λh=>?_) (λh=>?_)
   ·have X:d=6:=by
     have:=of_decide_eq_true h;injection this
    subst X;refine λx7 O hx7 hdx7 hne7=>⟨x7,O,rfl,A2,λH7 b7 S=>⟨rfl,?_⟩⟩;have p:A7 m H7:=P3 hx7 hdx7 b7;refine⟨_,rfl,x7,O,v,6,rfl,S,(J.trans p) _ _ I,DJ.same p,by decide,by decide,(λz=>absurd z (by decide)),λ_ H8 b8=>?_⟩;have B:A7 m H8:=λb o e=>b8 b o (Ag e hx7) (p _ _ e);refine⟨rfl,_,rfl,Bx (by decide) ?_⟩;exact⟨_,_,_,_,rfl,J.trans B⟩
   ·have X:d≠6:=λz=>h (by rw[z];rfl);refine⟨_,rfl,_,_,rfl,rfl,_,rfl,?_⟩;refine D0 (λh1=>?_) (λh1=>⟨_,_,_,_,rfl,J⟩);have zX:d>0:=of_decide_eq_true h1;refine⟨_,rfl,_,rfl,_,rfl,B7,λL hL=>?_⟩;have p:A7 m (upd m L (.lst [.ref f,.ref g,.ref f])):=A7.upd hL;have S:(upd m L (.lst [.ref f,.ref g,.ref f])) L=some (.lst [.ref f,.ref g,.ref f]):=A2;generalize upd m L (.lst [.ref f,.ref g,.ref f])=H7 at p S⊢;refine⟨L,rfl,.inl ⟨⟨_,Ao.of S⟩,?_⟩⟩;refine Cc (K:=K) (a:=L) (xs:=[.ref f,.ref g,.ref f]) (λi l r=>∃(C:Option V),l=[some (.ref a),some (.ref f),some (.ref g),some (.int c),some v,some (.int d),C]/\A7 H7 r) ⟨_,rfl,A7.refl _⟩ (by rintro i l r _ ⟨_,_,s⟩;exact Ao.of (s _ _ S)) ?_ ?_
    ·rintro i y l H8 hy ⟨C,rfl,B⟩;have YX:=J.trans (p.trans B)
     obtain⟨x,dx,rfl,hx⟩:∃x dx,y=.ref x/\H8 x=some (.ins aH dx (Cq .aX .aX .aX .aX)):=by
      match i,hy with
      |0,hy=>exact⟨f,YW,(eo hy).symm,YX _ _ R⟩
      |1,hy=>exact⟨g,u,(eo hy).symm,YX _ _ e2⟩
      |2,hy=>exact⟨f,YW,(eo hy).symm,YX _ _ R⟩
      |i+3,hy=>cases hy
     refine⟨_,rfl,_,rfl,x,dx,v,d,rfl,hx,YX _ _ I,DJ.same (p.trans B),by omega,h6,(λ_ H9 s9=>?_),λz=>absurd z X⟩;refine⟨_,rfl,rfl,_,rfl,Bx (by simp) ?_⟩;exact⟨_,rfl,B.trans s9⟩
    rintro l H8 ⟨C,rfl,B⟩;exact⟨_,_,_,_,rfl,J.trans (p.trans B)⟩
  rintro l H4 ⟨v3,v4,v5,C,rfl,s4⟩;have rt:Ku (Str.ofString "turn 0") (Str.ofString "turn") [0] none:=gz (x:=Str.ofString "turn ") (hd:=Str.ofString "turn") (n:=0) ⟨by decide,by decide⟩ (by decide) (by decide) (by decide) (by decide) (by decide+kernel);refine⟨_,rfl,f,YW,_,2,rfl,s4 _ _ R,s4 _ _ I,.inr ⟨_,_,[],none,rfl,Zh,by decide,.inl ⟨rfl,by decide,by decide⟩⟩,by decide,by decide,(λ_ H5 s5=>?_),λz=>absurd z (by decide)⟩;have LW:=s4.trans s5;refine⟨rfl,_,(λd r=>d=true/\r aI=some (.tab lamQ lamP)),rfl,(λz=>absurd z (by decide)),(λ_=>?_),λd m X=>?_⟩
  ·exact⟨_,rfl,g,u,_,2,rfl,LW _ _ e2,LW _ _ I,.inr ⟨_,_,[0],none,rfl,rt,by decide,.inl ⟨rfl,by decide,by decide⟩⟩,by decide,by decide,(λ_ m s6=>⟨rfl,_,rfl,rfl,(LW.trans s6) _ _ I⟩),λz=>absurd z (by decide)⟩
  obtain⟨rfl,hT6⟩:=X;exact q _ hT6
end
structure E8(K:W.Frag)(n:Str)(st:Stmt)(f:Addr):Prop where
 a:W.nsIn K mainGlobals n=some (some (.ref f))
 e:∃fd,D8 K n n st f fd
 k:W.keepIn K (.ref f)=true
structure ij(K:W.Frag)(x n:Str)(st:Stmt)(f:Addr):Prop where
 a:W.isFn K (.ref f)=true
 e:∃fd,D8 K x n st f fd
 k:W.keepIn K (.ref f)=true
theorem E8.m0{K:W.Frag}{n:Str}{st:Stmt}{f:Addr}{g:q5}{h e:Option Addr}{i:Array (Option q5)}{kV b j d ct:q5}(a:W.nsIn K mainGlobals n=some (some (.ref f)))(l:K.lookup f=some ⟨g,h,.func (W.fnOf n n (Cb st) (Be st) (A8 st) .none kV b j e d ct),i⟩)(c:W.codeIn K d n=true)(k:W.keepIn K (.ref f)=true):E8 K n st f:=⟨a,⟨_,Os l c k⟩,k⟩
theorem ij.m1{K:W.Frag}{x n:Str}{st:Stmt}{f:Addr}{g:q5}{h e:Option Addr}{i:Array (Option q5)}{kV b j d ct:q5}(a:W.isFn K (.ref f)=true)(l:K.lookup f=some ⟨g,h,.func (W.fnOf x n (Cb st) (Be st) (A8 st) .none kV b j e d ct),i⟩)(c:W.codeIn K d n=true)(k:W.keepIn K (.ref f)=true):ij K x n st f:=⟨a,⟨_,Os l c k⟩,k⟩
local macro_rules | `(tactic| trivial)=>`(tactic| (intro _ _ _ _ _ _ us hl; first | (obtain e:=wb hl; subst e; rfl) | (obtain ⟨_,e⟩ := qk hl; subst e; rfl) | (obtain ⟨_,_,e⟩ := ql hl; subst e; rfl) | (obtain ⟨_,_,_,e⟩ := qm hl; subst e; rfl) | (obtain ⟨_,_,_,_,e⟩ := wc hl; subst e; rfl)))
theorem all_mk{l:W.OpenLaw}{w:ro}{K:W.Frag}{h:Heap}{mg:Str->Option q5}{fa:Addr}(X:K.In h)(G:h.Ns mainGlobals mg)(hfa:mg "law"=some (.ref fa)){iU kS kT kU iV kW qC Z kX iW kY kZ lA fR lB iX lC qD lD qE fS lF iY lG lH lI qF lJ qG lK lL lM lN lO lP qH qI lQ qJ qK lR iZ lS lU lV lW qL lX lY lZ mB mC a p q f b g d m u x y z i r qO aW aQ aO:Addr}{JP JQ JR sE JS sF JT xM:Option Addr}{JU JV JW JX:Array (Option q5)}{JY JZ KA KC sH KD KG sI sJ sL pB sM KH sO sP sQ pC sR KI xN xO xP sS xQ:q5}{pD:Addr}{KJ:q5}{KL:Option Addr}{KN:Nat}{KO:Array (Option q5)}{pE:Addr}{KP:q5}{KQ:Option Addr}{KR:Nat}{KS:Array (Option q5)}
  (xR:E8 K "divisor" ag iU)
  (xS:E8 K "least_round" Zo kS)
  (xU:E8 K "shares" V5 kT)
  (xV:E8 K "are_chain" Uz kU)
  (xW:E8 K "have_room" Zw iV)
  (xX:E8 K "free_first" Zt kW)
  (KU:E8 K "rising_firsts" oy qC)
  (TR:W.nsIn K mainGlobals "chain_wheel"=some (some (.ref Z)))(TU:K.lookup Z=some ⟨JY,JP,.func (W.fnOf "chain_wheel" "chain_wheel" (Cb Ij) (Be Ij) (A8 Ij) .none JZ KA KC JQ sH KD),JU⟩)(TV:W.codeIn K sH "chain_wheel"=true)(tL:W.keepIn K (.ref Z)=true)
  (xY:E8 K "doubling" a8 kX)
  (xZ:E8 K "doubled" Rg iW)
  (yA:E8 K "halved_down" Zp kY)
  (yB:E8 K "best_base" Rf kZ)
  (yC:E8 K "wheel_for" Zx lA)
  (TX:W.nsIn K mainGlobals "hall_of"=some (some (.ref fR)))(TY:K.lookup fR=some ⟨KG,JR,.func (W.fnOf "hall_of" "hall_of" (Cb Fg) (Be Fg) (A8 Fg) (.ref pD) sI sJ sL sE pB sM),JV⟩)(TZ:W.codeIn K pB "hall_of"=true)(wK:W.keepIn K (.ref fR)=true)(DK:K.lookup pD=some ⟨KJ,KL,.seq #[Value.none] KN,KO⟩)
  (yD:E8 K "beginning" Zy lB)
  (yE:E8 K "may_lose" a9 iX)
  (yF:E8 K "is_listener" Zq lC)
  (KW:E8 K "refuse_wrong_turn" ow qD)
  (yG:E8 K "left_behind" Ux lD)
  (KY:E8 K "quiet_behind" pd qE)
  (UA:W.nsIn K mainGlobals "after"=some (some (.ref fS)))(UB:K.lookup fS=some ⟨KH,JS,.func (W.fnOf "after" "after" (Cb Fh) (Be Fh) (A8 Fh) (.ref pE) sO sP sQ sF pC sR),JW⟩)(UC:W.codeIn K pC "after"=true)(tM:W.keepIn K (.ref fS)=true)(DL:K.lookup pE=some ⟨KP,KQ,.seq #[Value.bool false] KR,KS⟩)
  (yH:E8 K "all_behind" Zu lF)
  (yI:E8 K "quiet_values" Zn iY)
  (yJ:E8 K "how_many" aa lG)
  (yK:E8 K "all_left" V2 lH)
  (yL:E8 K "standings" V0 lI)
  (KZ:E8 K "calls_by_standing" ox qF)
  (yM:E8 K "ways_to" ah lJ)
  (LA:E8 K "without_calls_left" ou qG)
  (yN:E8 K "ranks" V6 lK)
  (yO:E8 K "is_number" V1 lL)
  (yP:E8 K "numbers_of" Re lM)
  (yQ:E8 K "takes" ak lN)
  (yR:E8 K "row_read" ac lO)
  (yS:E8 K "place_text" Zv lP)
  (UD:ij K "__init__" "Desk.__init__" oz qH)
  (LB:ij K "refuse_without_stand" "Desk.refuse_without_stand" ot qI)
  (yT:ij K "put" "Desk.put" ae lQ)
  (LC:ij K "new_hall" "Desk.new_hall" pc qJ)
  (LD:ij K "new_wheel" "Desk.new_wheel" i4 qK)
  (yU:ij K "told" "Desk.told" Zz lR)
  (yV:E8 K "_law_big" ai iZ)
  (yW:E8 K "_law_sign" af lS)
  (yX:E8 K "_law_figures" Zr lU)
  (yY:E8 K "_law_written" Zs lV)
  (yZ:E8 K "_law_row" aj lW)
  (LF:E8 K "_law_is_number" i5 qL)
  (zj:E8 K "_law_is_row" Uy lX)
  (zk:E8 K "_law_due" V4 lY)
  (zl:E8 K "_law_kind" V3 lZ)
  (zm:E8 K "_law_asked" a7 mB)
  (DM:W.nsIn K mainGlobals "law"=some (some (.ref mC)))(UE:K.lookup mC=some ⟨KI,JT,.func (W.fnOf "law" "law" (Cb Ii) (Be Ii) (A8 Ii) .none xN xO xP xM sS xQ),JX⟩)(UG:W.codeIn K sS "law"=true)(wL:W.keepIn K (.ref mC)=true)
  (BA:W.plainGet K i Str.empty=true)(BB:W.hasDictIn K i=true)(BC:W.plainOver K i=true)(BD:W.findIn K (.ref i) "__setattr__"=some (some (.builtin "object.__setattr__")))(BE:W.makesIn K i=true)(BF:W.keepIn K (.ref i)=true)(C:W.findIn K (.ref i) "__init__"=some (some (.ref qH)))(n:W.findIn K (.ref i) "told"=some (some (.ref lR)))(A:W.findIn K (.ref i) "refuse_without_stand"=some (some (.ref qI)))(o:W.findIn K (.ref i) "put"=some (some (.ref lQ)))(D:W.findIn K (.ref i) "new_hall"=some (some (.ref qJ)))(B:W.findIn K (.ref i) "new_wheel"=some (some (.ref qK)))(pF:W.findIn K (.ref i) "hall"=some none)(kJ:W.findIn K (.ref i) "standing"=some none)(nL:W.findIn K (.ref i) "table"=some none)(nM:W.findIn K (.ref i) "wheel"=some none)
  {sT:Nat}(vL:W.nsIn K mainGlobals "FIGURES"=some (some (.str "0123456789" sT))){nC nD nO:Nat}{nQ:Option Addr}{nR:Array (Option q5)}(pG:W.nsIn K mainGlobals "ROWS_ALONE"=some (some (.ref aW)))(fK:K.lookup aW=some ⟨.type "tuple",nQ,.seq #[.str "best" nC,.str "rank" nD] nO,nR⟩){jE jF jG jH jI jJ kK:Nat}{kL:Option Addr}{kM:Array (Option q5)}(mR:W.nsIn K mainGlobals "ROWS_WITH_ONE"=some (some (.ref aQ)))(dR:K.lookup aQ=some ⟨.type "tuple",kL,.seq #[.str "call" jE,.str "lost" jF,.str "answer" jG,.str "join" jH,.str "leave" jI,.str "turn" jJ] kK,kM⟩){iC iE jK:Nat}{jL:Option Addr}{jM:Array (Option q5)}(kN:W.nsIn K mainGlobals "ROWS_WITH_SOME"=some (some (.ref aO)))(cT:K.lookup aO=some ⟨.type "tuple",jL,.seq #[.str "hall" iC,.str "wheel" iE] jK,jM⟩)
  {jN:Nat}(kO:W.nsIn K mainGlobals "MOST_LISTENERS"=some (some (.int 8 jN))){jO:Nat}(kP:W.nsIn K mainGlobals "MOST_STANDINGS"=some (some (.int 3000 jO))){mS:Nat}(nF:W.nsIn K mainGlobals "MOST_FIGURES"=some (some (.int 100 mS)))(UH:W.nsIn K mainGlobals "sum"=some none)(zo:W.nsIn K mainGlobals "sorted"=some none)(UI:W.nsIn K mainGlobals "all"=some none)(UJ:W.nsIn K mainGlobals "zip"=some none)(UK:W.nsIn K mainGlobals "any"=some none)(BG:W.nsIn K mainGlobals "range"=some none)(UL:W.nsIn K mainGlobals "len"=some none)(UM:W.nsIn K mainGlobals "min"=some none)(UN:W.nsIn K mainGlobals "max"=some none)(UO:W.nsIn K mainGlobals "set"=some none)(BH:W.nsIn K mainGlobals "tuple"=some none)(qW:W.nsIn K mainGlobals "enumerate"=some none)(UP:W.nsIn K mainGlobals "int"=some none)(pH:W.nsIn K mainGlobals "isinstance"=some none)(UQ:W.nsIn K mainGlobals "str"=some none)(pI:W.nsIn K mainGlobals "ValueError"=some none)(sU:W.nsIn K mainGlobals "NoWheel"=some (some (.ref a)))(sV:W.nsIn K mainGlobals "NoChain"=some (some (.ref p)))(sW:W.nsIn K mainGlobals "TooMuch"=some (some (.ref q)))(vM:W.nsIn K mainGlobals "NoHall"=some (some (.ref f)))(sX:W.nsIn K mainGlobals "TooMany"=some (some (.ref b)))(zp:W.nsIn K mainGlobals "NoRow"=some (some (.ref g)))(sY:W.nsIn K mainGlobals "NoStand"=some (some (.ref d)))(nU:W.nsIn K mainGlobals "RoundError"=some (some (.ref m)))(nV:W.nsIn K mainGlobals "NoListener"=some (some (.ref u)))(vN:W.nsIn K mainGlobals "NoLoss"=some (some (.ref x)))(vP:W.nsIn K mainGlobals "NoPart"=some (some (.ref y)))(vQ:W.nsIn K mainGlobals "Unsafe"=some (some (.ref z)))(j:W.nsIn K mainGlobals "Desk"=some (some (.ref i)))(fG:W.excIn K a [.type "ValueError",.type "Exception",.type "BaseException",.type "object"] "ValueError.__new__"=true)(jY:W.excIn K p [.type "ValueError",.type "Exception",.type "BaseException",.type "object"] "ValueError.__new__"=true)(jZ:W.excIn K q [.type "ValueError",.type "Exception",.type "BaseException",.type "object"] "ValueError.__new__"=true)(fT:W.excIn K f [.type "ValueError",.type "Exception",.type "BaseException",.type "object"] "ValueError.__new__"=true)(kA:W.excIn K b [.type "ValueError",.type "Exception",.type "BaseException",.type "object"] "ValueError.__new__"=true)(jD:W.excIn K g [.type "ValueError",.type "Exception",.type "BaseException",.type "object"] "ValueError.__new__"=true)(gP:W.excIn K d [.type "ValueError",.type "Exception",.type "BaseException",.type "object"] "ValueError.__new__"=true)(fL:W.excIn K m [.type "ValueError",.type "Exception",.type "BaseException",.type "object"] "ValueError.__new__"=true)(fM:W.subIn K (.ref m) (.type "BaseException")=some true)(GQ:W.specialIn K (.builtin "object.__class__") "__get__"=some (some (.builtin "getset_descriptor.__get__")))(GR:W.takesIn K (.builtin "object.__class__")=some true)(kB:W.findIn K (.ref g) "__getattribute__"=some (some (.builtin "BaseException.__getattribute__")))(kC:W.findIn K (.ref g) "__getattr__"=some none)(kD:W.findIn K (.ref g) "__class__"=some (some (.builtin "object.__class__")))(kE:W.mroIn K g (.type "object")=some true)(kG:W.subIn K (.ref g) (.type "BaseException")=some true)(bW:W.subIn K (.ref g) (.ref m)=some true)(bX:W.kitOne K (.ref g) (.ref u)=some false)(eS:W.kitOne K (.ref g) (.ref x)=some false)(dU:W.kitOne K (.ref g) (.ref p)=some false)(dW:W.kitOne K (.ref g) (.ref q)=some false)(eU:W.kitOne K (.ref g) (.ref y)=some false)(eV:W.kitOne K (.ref g) (.ref z)=some false)(fE:W.kitOne K (.ref g) (.ref g)=some true)(dX:W.kitOne K (.ref g) (.ref d)=some false)(eX:W.kitOne K (.ref g) (.ref f)=some false)(dY:W.kitOne K (.ref g) (.ref b)=some false)(dZ:W.kitOne K (.ref g) (.ref a)=some false)(bZ:W.kitOne K (.ref g) (.type "ValueError")=some true)(fU:W.findIn K (.ref d) "__getattribute__"=some (some (.builtin "BaseException.__getattribute__")))(fV:W.findIn K (.ref d) "__getattr__"=some none)(fX:W.findIn K (.ref d) "__class__"=some (some (.builtin "object.__class__")))(fY:W.mroIn K d (.type "object")=some true)(fZ:W.subIn K (.ref d) (.type "BaseException")=some true)(bE:W.subIn K (.ref d) (.ref m)=some true)(bG:W.kitOne K (.ref d) (.ref u)=some false)(cU:W.kitOne K (.ref d) (.ref x)=some false)(cC:W.kitOne K (.ref d) (.ref p)=some false)(cD:W.kitOne K (.ref d) (.ref q)=some false)(cV:W.kitOne K (.ref d) (.ref y)=some false)(cW:W.kitOne K (.ref d) (.ref z)=some false)(eA:W.kitOne K (.ref d) (.ref g)=some false)(cE:W.kitOne K (.ref d) (.ref d)=some true)(cX:W.kitOne K (.ref d) (.ref f)=some false)(cF:W.kitOne K (.ref d) (.ref b)=some false)(cH:W.kitOne K (.ref d) (.ref a)=some false)(bH:W.kitOne K (.ref d) (.type "ValueError")=some true)(hJ:W.findIn K (.ref f) "__getattribute__"=some (some (.builtin "BaseException.__getattribute__")))(hU:W.findIn K (.ref f) "__getattr__"=some none)(hV:W.findIn K (.ref f) "__class__"=some (some (.builtin "object.__class__")))(hZ:W.mroIn K f (.type "object")=some true)(iA:W.subIn K (.ref f) (.type "BaseException")=some true)(bR:W.subIn K (.ref f) (.ref m)=some true)(bS:W.kitOne K (.ref f) (.ref u)=some false)(eC:W.kitOne K (.ref f) (.ref x)=some false)(cY:W.kitOne K (.ref f) (.ref p)=some false)(cZ:W.kitOne K (.ref f) (.ref q)=some false)(eE:W.kitOne K (.ref f) (.ref y)=some false)(eG:W.kitOne K (.ref f) (.ref z)=some false)(eY:W.kitOne K (.ref f) (.ref g)=some false)(dA:W.kitOne K (.ref f) (.ref d)=some false)(eJ:W.kitOne K (.ref f) (.ref f)=some true)(dB:W.kitOne K (.ref f) (.ref b)=some false)(dC:W.kitOne K (.ref f) (.ref a)=some false)(bT:W.kitOne K (.ref f) (.type "ValueError")=some true)(gA:W.findIn K (.ref b) "__getattribute__"=some (some (.builtin "BaseException.__getattribute__")))(gB:W.findIn K (.ref b) "__getattr__"=some none)(gC:W.findIn K (.ref b) "__class__"=some (some (.builtin "object.__class__")))(gD:W.mroIn K b (.type "object")=some true)(gE:W.subIn K (.ref b) (.type "BaseException")=some true)(bI:W.subIn K (.ref b) (.ref m)=some true)(bJ:W.kitOne K (.ref b) (.ref u)=some false)(dD:W.kitOne K (.ref b) (.ref x)=some false)(cJ:W.kitOne K (.ref b) (.ref p)=some false)(cK:W.kitOne K (.ref b) (.ref q)=some false)(dE:W.kitOne K (.ref b) (.ref y)=some false)(dG:W.kitOne K (.ref b) (.ref z)=some false)(eK:W.kitOne K (.ref b) (.ref g)=some false)(cL:W.kitOne K (.ref b) (.ref d)=some false)(dH:W.kitOne K (.ref b) (.ref f)=some false)(cM:W.kitOne K (.ref b) (.ref b)=some true)(cN:W.kitOne K (.ref b) (.ref a)=some false)(bK:W.kitOne K (.ref b) (.type "ValueError")=some true)(gF:W.findIn K (.ref a) "__getattribute__"=some (some (.builtin "BaseException.__getattribute__")))(gG:W.findIn K (.ref a) "__getattr__"=some none)(gH:W.findIn K (.ref a) "__class__"=some (some (.builtin "object.__class__")))(gI:W.mroIn K a (.type "object")=some true)(gJ:W.subIn K (.ref a) (.type "BaseException")=some true)(bL:W.subIn K (.ref a) (.ref m)=some true)(bM:W.kitOne K (.ref a) (.ref u)=some false)(dJ:W.kitOne K (.ref a) (.ref x)=some false)(cO:W.kitOne K (.ref a) (.ref p)=some false)(cP:W.kitOne K (.ref a) (.ref q)=some false)(dM:W.kitOne K (.ref a) (.ref y)=some false)(dN:W.kitOne K (.ref a) (.ref z)=some false)(eM:W.kitOne K (.ref a) (.ref g)=some false)(cQ:W.kitOne K (.ref a) (.ref d)=some false)(dQ:W.kitOne K (.ref a) (.ref f)=some false)(cR:W.kitOne K (.ref a) (.ref b)=some false)(cS:W.kitOne K (.ref a) (.ref a)=some true)(bN:W.kitOne K (.ref a) (.type "ValueError")=some true)(nZ:sH=.ref qO)(zq:W.codeHdIn K qO r=true)(LG:K.lookup r=none):
  (K.lookup r=none/\∃c,W.codeHdIn K c r=true)/\∃fd:ri,(∀(s:q4) (v:q5),BindsTo s fd ⟨[v],[]⟩ [("script",v)])/\∀base:Heap,K.In base->base.Ns mainGlobals mg->Ry base mg->B1 l.prog w K mg base (CX1 l.prog w) 11 fa fd ["script"] (sp_law K r):=by
 have e:=hfa.symm.trans (mr X G DM);cases e;have T:Txt K mg ⟨iU,kS,kT,kU,iV,kW,qC,Z,kX,iW,kY,kZ,lA,fR,lB,iX,lC,qD,lD,qE,fS,lF,iY,lG,lH,lI,qF,lJ,qG,lK,lL,lM,lN,lO,lP,qH,qI,lQ,qJ,qK,lR,iZ,lS,lU,lV,lW,qL,lX,lY,lZ,mB,fa⟩ a p q f b g d m u x y z i r aW aQ aO:=⟨mr X G xR.a,xR.k,mr X G xS.a,xS.k,mr X G xU.a,xU.k,mr X G xV.a,xV.k,mr X G xW.a,xW.k,mr X G xX.a,xX.k,mr X G KU.a,KU.k,mr X G TR,tL,mr X G xY.a,xY.k,mr X G xZ.a,xZ.k,mr X G yA.a,yA.k,mr X G yB.a,yB.k,mr X G yC.a,yC.k,mr X G TX,wK,mr X G yD.a,yD.k,mr X G yE.a,yE.k,mr X G yF.a,yF.k,mr X G KW.a,KW.k,mr X G yG.a,yG.k,mr X G KY.a,KY.k,mr X G UA,tM,mr X G yH.a,yH.k,mr X G yI.a,yI.k,mr X G yJ.a,yJ.k,mr X G yK.a,yK.k,mr X G yL.a,yL.k,mr X G KZ.a,KZ.k,mr X G yM.a,yM.k,mr X G LA.a,LA.k,mr X G yN.a,yN.k,mr X G yO.a,yO.k,mr X G yP.a,yP.k,mr X G yQ.a,yQ.k,mr X G yR.a,yR.k,mr X G yS.a,yS.k,mr X G yV.a,yV.k,mr X G yW.a,yW.k,mr X G yX.a,yX.k,mr X G yY.a,yY.k,mr X G yZ.a,yZ.k,mr X G LF.a,LF.k,mr X G zj.a,zj.k,mr X G zk.a,zk.k,mr X G zl.a,zl.k,mr X G zm.a,zm.k,mr X G DM,wL,mu X G UH,mu X G zo,mu X G UI,mu X G UJ,mu X G UK,mu X G BG,mu X G UL,mu X G UM,mu X G UN,mu X G UO,mu X G BH,mu X G qW,mu X G UP,mu X G pH,mu X G UQ,mu X G pI,⟨_,mr X G kO⟩,⟨_,mr X G kP⟩,⟨_,mr X G nF⟩,⟨_,mr X G vL⟩,mr X G pG,λH=>.inr ⟨_,_,_,fK,rfl,rfl,(by show 2<=sizeLine;decide),(.cons ⟨_,rfl⟩ (.cons ⟨_,rfl⟩ .nil))⟩,mr X G mR,λH=>.inr ⟨_,_,_,dR,rfl,rfl,(by show 6<=sizeLine;decide),(.cons ⟨_,rfl⟩ (.cons ⟨_,rfl⟩ (.cons ⟨_,rfl⟩ (.cons ⟨_,rfl⟩ (.cons ⟨_,rfl⟩ (.cons ⟨_,rfl⟩ .nil))))))⟩,mr X G kN,λH=>.inr ⟨_,_,_,cT,rfl,rfl,(by show 2<=sizeLine;decide),(.cons ⟨_,rfl⟩ (.cons ⟨_,rfl⟩ .nil))⟩,mr X G sU,mr X G sV,mr X G sW,mr X G vM,mr X G sX,mr X G zp,mr X G sY,mr X G nU,mr X G nV,mr X G vN,mr X G vP,mr X G vQ,mr X G j,⟨BA,BB,BC,BD⟩,⟨BE,C,UD.a,BF⟩,⟨n,yU.a,yU.k⟩,⟨A,LB.a,LB.k⟩,⟨o,yT.a,yT.k⟩,⟨D,LC.a,LC.k⟩,⟨B,LD.a,LD.k⟩,pF,kJ,nL,nM,fG,jY,jZ,fT,kA,jD,gP,fL,fM,GQ,GR,kB,kC,kD,kE,kG,bW,bX,eS,dU,dW,eU,eV,fE,dX,eX,dY,dZ,bZ,fU,fV,fX,fY,fZ,bE,bG,cU,cC,cD,cV,cW,eA,cE,cX,cF,cH,bH,hJ,hU,hV,hZ,iA,bR,bS,eC,cY,cZ,eE,eG,eY,dA,eJ,dB,dC,bT,gA,gB,gC,gD,gE,bI,bJ,dD,cJ,cK,dE,dG,eK,cL,dH,cM,cN,bK,gF,gG,gH,gI,gJ,bL,bM,dJ,cO,cP,dM,dN,eM,cQ,dQ,cR,cS,bN⟩;obtain⟨_,DN⟩:=xR.e;obtain⟨_,DP⟩:=xS.e;obtain⟨_,DQ⟩:=xU.e;obtain⟨_,DR⟩:=xV.e;obtain⟨_,DS⟩:=xW.e;obtain⟨_,DT⟩:=xX.e;obtain⟨_,UR⟩:=KU.e;have gL:=Os (st:=Ij) TU TV tL;have US:dj K "chain_wheel" "chain_wheel" Ij Z _ qO r:=⟨gL,nZ,zq⟩;obtain⟨_,DU⟩:=xY.e;obtain⟨_,DV⟩:=xZ.e;obtain⟨_,DW⟩:=yA.e;obtain⟨_,DX⟩:=yB.e;obtain⟨_,DY⟩:=yC.e;have UT:Q5 K "hall_of" "hall_of" Fg fR _:=⟨⟨_,_,_,_,_,_,_,_,_,_,rfl,TY,TZ⟩⟩;obtain⟨_,DZ⟩:=yD.e;obtain⟨_,EA⟩:=yE.e;obtain⟨_,EB⟩:=yF.e;obtain⟨_,UU⟩:=KW.e;obtain⟨_,EC⟩:=yG.e;obtain⟨_,UW⟩:=KY.e;have UX:Q5 K "after" "after" Fh fS _:=⟨⟨_,_,_,_,_,_,_,_,_,_,rfl,UB,UC⟩⟩;obtain⟨_,ED⟩:=yH.e;obtain⟨_,EE⟩:=yI.e;obtain⟨_,EF⟩:=yJ.e;obtain⟨_,EG⟩:=yK.e;obtain⟨_,EH⟩:=yL.e;obtain⟨_,UY⟩:=KZ.e;obtain⟨_,EI⟩:=yM.e;obtain⟨_,UZ⟩:=LA.e;obtain⟨_,EJ⟩:=yN.e;obtain⟨_,EK⟩:=yO.e;obtain⟨_,EL⟩:=yP.e;obtain⟨_,EM⟩:=yQ.e;obtain⟨_,EN⟩:=yR.e;obtain⟨_,EO⟩:=yS.e;obtain⟨_,VA⟩:=UD.e;obtain⟨_,VB⟩:=LB.e;obtain⟨_,ER⟩:=yT.e;obtain⟨_,VC⟩:=LC.e;obtain⟨_,VD⟩:=LD.e;obtain⟨_,ES⟩:=yU.e;obtain⟨_,ET⟩:=yV.e;obtain⟨_,EU⟩:=yW.e;obtain⟨_,EV⟩:=yX.e;obtain⟨_,EW⟩:=yY.e;obtain⟨_,EX⟩:=yZ.e;obtain⟨_,VE⟩:=LF.e;obtain⟨_,EY⟩:=zj.e;obtain⟨_,EZ⟩:=zk.e;obtain⟨_,FA⟩:=zl.e;obtain⟨_,FC⟩:=zm.e;have VF:=Os (st:=Ii) UE UG wL;have VG:=DN.binds (ps:=["one","other"]) (by trivial);have VH:=DP.binds (ps:=["numbers"]) (by trivial);have VI:=DQ.binds (ps:=["numbers"]) (by trivial);have VJ:=DR.binds (ps:=["periods"]) (by trivial);have VL:=DS.binds (ps:=["periods"]) (by trivial);have VM:=DT.binds (ps:=["levels","taken"]) (by trivial);have Q:=UR.binds (ps:=["periods"]) (by trivial);have VN:=gL.binds (ps:=["periods"]) (by trivial);have VO:=DU.binds (ps:=["wait","base"]) (by trivial);have VP:=DV.binds (ps:=["waits","base"]) (by trivial);have VQ:=DW.binds (ps:=["wait","most"]) (by trivial);have VR:=DX.binds (ps:=["waits"]) (by trivial);have VS:=DY.binds (ps:=["waits"]) (by trivial)
 have VT:Di K (W.fnOf "hall_of" "hall_of" (Cb Fg) (Be Fg) (A8 Fg) (.ref pD) sI sJ sL sE pB sM) ["waits","calm"] []:=λs J F I=>by
  have E:J.length=2:=by simpa using I
  obtain⟨_,_,rfl⟩:=ql E;exact BindsTo.of_defaults rfl (F _ _ DK) rfl rfl rfl
 have mL:Di K (W.fnOf "hall_of" "hall_of" (Cb Fg) (Be Fg) (A8 Fg) (.ref pD) sI sJ sL sE pB sM) ["waits","calm"] [Value.none]:=λs J F I=>by
  have E:J.length=1:=by simpa using I
  obtain⟨_,rfl⟩:=qk E;exact BindsTo.of_defaults rfl (F _ _ DK) rfl rfl rfl
 have VU:=DZ.binds (ps:=["hall"]) (by trivial);have VV:=EA.binds (ps:=["hall","standing"]) (by trivial);have VW:=EB.binds (ps:=["hall","who"]) (by trivial);have N:=UU.binds (ps:=["hall","standing","who","lost"]) (by trivial);have VX:=EC.binds (ps:=["hall","standing","who","lost"]) (by trivial);have Y:=UW.binds (ps:=["hall","standing","lost"]) (by trivial)
 have VY:Di K (W.fnOf "after" "after" (Cb Fh) (Be Fh) (A8 Fh) (.ref pE) sO sP sQ sF pC sR) ["hall","standing","who","lost"] []:=λs J F I=>by
  have E:J.length=4:=by simpa using I
  obtain⟨_,_,_,_,rfl⟩:=wc E;exact BindsTo.of_defaults rfl (F _ _ DL) rfl rfl rfl
 have kH:Di K (W.fnOf "after" "after" (Cb Fh) (Be Fh) (A8 Fh) (.ref pE) sO sP sQ sF pC sR) ["hall","standing","who","lost"] [Value.bool false]:=λs J F I=>by
  have E:J.length=3:=by simpa using I
  obtain⟨_,_,_,rfl⟩:=qm E;exact BindsTo.of_defaults rfl (F _ _ DL) rfl rfl rfl
 have VZ:=ED.binds (ps:=["hall","standing","who"]) (by trivial);have WA:=EE.binds (ps:=["hall"]) (by trivial);have WB:=EF.binds (ps:=["hall"]) (by trivial);have WC:=EG.binds (ps:=["waits"]) (by trivial);have WD:=EH.binds (ps:=["hall"]) (by trivial);have O:=UY.binds (ps:=["hall"]) (by trivial);have WE:=EI.binds (ps:=["pending"]) (by trivial);have M:=UZ.binds (ps:=["pending","ways","ranked"]) (by trivial);have WG:=EJ.binds (ps:=["hall"]) (by trivial);have WH:=EK.binds (ps:=["word"]) (by trivial);have WI:=EL.binds (ps:=["words"]) (by trivial);have WJ:=EM.binds (ps:=["word","size"]) (by trivial);have WK:=EN.binds (ps:=["row"]) (by trivial);have WL:=EO.binds (ps:=["place"]) (by trivial);have R:=VA.binds (ps:=["self"]) (by trivial);have L:=VB.binds (ps:=["self","word"]) (by trivial);have WM:=ER.binds (ps:=["self","hall","standing","table"]) (by trivial);have S:=VC.binds (ps:=["self","hall"]) (by trivial);have P:=VD.binds (ps:=["self","found"]) (by trivial);have WN:=ES.binds (ps:=["self","row"]) (by trivial);have WO:=ET.binds (ps:=["cell"]) (by trivial);have WQ:=EU.binds (ps:=["number"]) (by trivial);have WR:=EV.binds (ps:=["number","head"]) (by trivial);have WS:=EW.binds (ps:=["cell"]) (by trivial);have WT:=EX.binds (ps:=["cell"]) (by trivial);have U:=VE.binds (ps:=["word"]) (by trivial);have WU:=EY.binds (ps:=["row"]) (by trivial);have WV:=EZ.binds (ps:=["row"]) (by trivial);have WW:=FA.binds (ps:=["e"]) (by trivial);have WX:=FC.binds (ps:=["desk","row"]) (by trivial);refine⟨⟨LG,_,zq⟩,?_⟩;refine⟨W.fnOf "law" "law" (Cb Ii) (Be Ii) (A8 Ii) .none xN xO xP xM sS xQ,λs v=>.of_eq rfl,λbase _ _ hB=>?_⟩;have mF:=Gk.mk (nh (P:=l.prog) (w:=w) (base:=base) T DN ) VG;have tS:=Gk.mk (kx (P:=l.prog) (w:=w) (base:=base) T DP mF) VH;have tT:=Gk.mk (nu (P:=l.prog) (w:=w) (base:=base) T DQ tS mF) VI;have tV:=Gk.mk (lw (P:=l.prog) (w:=w) (base:=base) T DR ) VJ;have mG:=Gk.mk (lz (P:=l.prog) (w:=w) (base:=base) T DS tT) VL;have tU:=Gk.mk (lj (P:=l.prog) (w:=w) (base:=base) T DT ) VM;have zZ:=Gk.mk (uc (P:=l.prog) (w:=w) (base:=base) T UR tU) Q;have tZ:=Gk.mk (ky (P:=l.prog) (w:=w) (base:=base) T hB US tV mG zZ) VN;have tW:=Gk.mk (ms (P:=l.prog) (w:=w) (base:=base) T DU ) VO;have mH:=Gk.mk (ni (P:=l.prog) (w:=w) (base:=base) T DV tW) VP;have tX:=Gk.mk (l0 (P:=l.prog) (w:=w) (base:=base) T DW ) VQ;have tY:=Gk.mk (mf (P:=l.prog) (w:=w) (base:=base) T DX tX mG mH) VR;have uQ:=Gk.mk (mh (P:=l.prog) (w:=w) (base:=base) T DY tY tZ mH) VS;have uP:=Gk.mk (nj (P:=l.prog) (w:=w) (base:=base) T UT ) VT;have uM:=Gk.mk (mi (P:=l.prog) (w:=w) (base:=base) T DZ ) VU;have mI:=Gk.mk (mw (P:=l.prog) (w:=w) (base:=base) T EA ) VV;have uA:=Gk.mk (l8 (P:=l.prog) (w:=w) (base:=base) T EB ) VW;have AD:=Gk.mk (u7 (P:=l.prog) (w:=w) (base:=base) T UU uA mI) N;have uB:=Gk.mk (lf (P:=l.prog) (w:=w) (base:=base) T EC AD) VX;have AE:=Gk.mk (ug (P:=l.prog) (w:=w) (base:=base) T UW ) Y;have qS:=Gk.mk (nv (P:=l.prog) (w:=w) (base:=base) T UX uB AE) VY;have uG:=Gk.mk (lm (P:=l.prog) (w:=w) (base:=base) T ED qS kH mI) VZ;have mJ:=Gk.mk (kt (P:=l.prog) (w:=w) (base:=base) T EE ) WA;have uD:=Gk.mk (mx (P:=l.prog) (w:=w) (base:=base) T EF mJ) WB;have uE:=Gk.mk (mz (P:=l.prog) (w:=w) (base:=base) T EG ) WC;have uF:=Gk.mk (mj (P:=l.prog) (w:=w) (base:=base) T EH uD uE mJ) WD;have AN:=Gk.mk (u8 (P:=l.prog) (w:=w) (base:=base) T UY uF uG) O;have uH:=Gk.mk (nk (P:=l.prog) (w:=w) (base:=base) T EI ) WE;have AO:=Gk.mk (u6 (P:=l.prog) (w:=w) (base:=base) T UZ ) M;have uK:=Gk.mk (nw (P:=l.prog) (w:=w) (base:=base) T EJ AN uH AO) WG;have uI:=Gk.mk (mm (P:=l.prog) (w:=w) (base:=base) T EK ) WH;have oJ:=Gk.mk (ln (P:=l.prog) (w:=w) (base:=base) T EL uI) WI;have uJ:=Gk.mk (ny (P:=l.prog) (w:=w) (base:=base) T EM ) WJ;have uO:=Gk.mk (n0 (P:=l.prog) (w:=w) (base:=base) T EN oJ uJ) WK;have uN:=Gk.mk (lp (P:=l.prog) (w:=w) (base:=base) T EO ) WL;have qV:=Gk.mk (ud (P:=l.prog) (w:=w) (base:=base) T VA ) R;have AV:=Gk.mk (u5 (P:=l.prog) (w:=w) (base:=base) T VB ) L;have uL:=Gk.mk (n8 (P:=l.prog) (w:=w) (base:=base) T ER ) WM;have AW:=Gk.mk (ue (P:=l.prog) (w:=w) (base:=base) T VC uK uL uM) S;have AX:=Gk.mk (u9 (P:=l.prog) (w:=w) (base:=base) T VD uN) P;have uV:=Gk.mk (mn (P:=l.prog) (w:=w) (base:=base) T ES uO AV AW uP mL AX uQ) WN;have mM:=Gk.mk (nl (P:=l.prog) (w:=w) (base:=base) T ET ) WO;have uT:=Gk.mk (n9 (P:=l.prog) (w:=w) (base:=base) T EU ) WQ;have uR:=Gk.mk (lg (P:=l.prog) (w:=w) (base:=base) T EV ) WR;have uS:=Gk.mk (lh (P:=l.prog) (w:=w) (base:=base) T EW mM uR) WS;have uX:=Gk.mk (nq (P:=l.prog) (w:=w) (base:=base) T EX mM uS uT) WT;have vK:=Gk.mk (uf (P:=l.prog) (w:=w) (base:=base) T VE ) U;have uU:=Gk.mk (lr (P:=l.prog) (w:=w) (base:=base) T EY vK) WU;have uY:=Gk.mk (nr (P:=l.prog) (w:=w) (base:=base) T EZ uU) WV;have uW:=Gk.mk (ng (P:=l.prog) (w:=w) (base:=base) T FA ) WW;have gX:=Gk.mk (mq (P:=l.prog) (w:=w) (base:=base) T FC uV uW) WX;exact kr T VF qV uX uY gX
end Law
namespace PySem.W.Fast
theorem tw10092008012479805888:True:=trivial
theorem tw6701071183142158053:True:=trivial
theorem tw8371245742537948590:True:=trivial
theorem tw1445859653093614629:True:=trivial
theorem tw7318551972080105888:True:=trivial
theorem tw13381256934216263876:True:=trivial
theorem tw12376080248143945644:True:=trivial
theorem tw6707284379911502223:True:=trivial
theorem tw9587735129176856246:True:=trivial
theorem tw5497837066078099086:True:=trivial
theorem tw17332087548200799007:True:=trivial
theorem tw438465592268594543:True:=trivial
theorem tw5961673761218136630:True:=trivial
theorem tw16377531935062687807:True:=trivial
theorem tw2615163814112945237:True:=trivial
theorem tw14257870210230666464:True:=trivial
theorem tw7335022011959713316:True:=trivial
theorem tw15539180231682392193:True:=trivial
theorem tw15331823904533655380:True:=trivial
theorem tw11509477601424827327:True:=trivial
theorem tw5838613830112313991:True:=trivial
theorem tw12851614979502366102:True:=trivial
theorem tw13834519281950077392:True:=trivial
theorem tw17868181108210418575:True:=trivial
theorem tw5833708368827753245:True:=trivial
theorem tw8654271075588988483:True:=trivial
theorem tw16546621574714471985:True:=trivial
theorem tw18396111154226061811:True:=trivial
theorem tw1413951284709226403:True:=trivial
theorem tw5151003017335065274:True:=trivial
theorem tw12979144733672932087:True:=trivial
theorem tw9909338314768587953:True:=trivial
theorem tw11410603610530857909:True:=trivial
theorem tw17959106660994375615:True:=trivial
theorem tw13371131951059817057:True:=trivial
theorem tw3060764601783920723:True:=trivial
theorem tw8751535212924970849:True:=trivial
theorem tw4445730714405471927:True:=trivial
theorem tw18214500999245774858:True:=trivial
theorem tw10324166815659275610:True:=trivial
theorem tw5482737785819876622:True:=trivial
theorem tw17103025556148363144:True:=trivial
theorem tw9306218126621959380:True:=trivial
theorem tw2965649488247120187:True:=trivial
theorem tw4520329919033093011:True:=trivial
theorem tw8392057980208527037:True:=trivial
theorem tw15103871163151007580:True:=trivial
theorem tw14379470648934846002:True:=trivial
theorem tw9682874673237272107:True:=trivial
theorem tw11738542775988590837:True:=trivial
theorem tw2338908558011485358:True:=trivial
theorem tw12918759636150860079:True:=trivial
theorem tw1490589729498537596:True:=trivial
theorem tw4110048460182920344:True:=trivial
theorem tw8281890545901293047:True:=trivial
theorem tw7538835360805395128:True:=trivial
theorem tw6002551447792371107:True:=trivial
theorem tw11935446410103188703:True:=trivial
theorem tw1087372632665216500:True:=trivial
theorem tw9361628861496698391:True:=trivial
theorem tw2482761526040260484:True:=trivial
theorem tw3128805023644984738:True:=trivial
theorem tw1060085307260049054:True:=trivial
theorem tw82317762666169128:True:=trivial
theorem tw4060290443962648173:True:=trivial
theorem tw1019748251400322146:True:=trivial
theorem tw8308166196990023716:True:=trivial
theorem tw10838624042436987543:True:=trivial
theorem tw5709841793603775661:True:=trivial
theorem tw13478619382784635953:True:=trivial
theorem tw14307329433607945367:True:=trivial
theorem tw9097321957021260882:True:=trivial
theorem tw1544417790884456999:True:=trivial
theorem tw13621782430142616422:True:=trivial
theorem tw10467676369383934480:True:=trivial
theorem tw10629445909260594130:True:=trivial
theorem tw272070171929091214:True:=trivial
theorem tw11819938702712988630:True:=trivial
theorem tw12328139152052659430:True:=trivial
theorem tw3820636812780307789:True:=trivial
theorem tw12763716424211967653:True:=trivial
theorem tw10328498624478519031:True:=trivial
theorem tw15246867735176545193:True:=trivial
theorem tw3539577596730571942:True:=trivial
theorem tw14246486569187413959:True:=trivial
theorem tw10261434631494113472:True:=trivial
theorem tw7462082330339786988:True:=trivial
theorem tw10319780006105310947:True:=trivial
theorem tw8286813276504387657:True:=trivial
theorem tw8554131096774094370:True:=trivial
theorem tw10190326930147260489:True:=trivial
theorem tw15294486286728741148:True:=trivial
theorem tw18243056561552897687:True:=trivial
theorem tw16734715599954391130:True:=trivial
theorem tw10238719254823096677:True:=trivial
theorem tw11539386503360286231:True:=trivial
theorem tw7013457288174366405:True:=trivial
theorem tw7308152251685314989:True:=trivial
theorem tw18144145678227290015:True:=trivial
theorem tw10956305287710314497:True:=trivial
theorem tw8246650713254181568:True:=trivial
theorem tw3987138379587190579:True:=trivial
theorem tw4110845858250250852:True:=trivial
theorem tw7236706023805636795:True:=trivial
theorem tw5187519096648166703:True:=trivial
theorem tw3550780459605681361:True:=trivial
theorem tw14880576424813706760:True:=trivial
theorem tw14422235509791298091:True:=trivial
theorem tw2446626340766536581:True:=trivial
theorem tw7760645138915816379:True:=trivial
theorem tw13248219426311330728:True:=trivial
theorem tw4070714164724406747:True:=trivial
theorem tw15350227297428466633:True:=trivial
theorem tw7675147513342909230:True:=trivial
theorem tw4872355702467411141:True:=trivial
theorem tw15363494229879181550:True:=trivial
theorem tw12488760631709168188:True:=trivial
theorem tw7040191137012704978:True:=trivial
theorem tw6351550598063554884:True:=trivial
theorem tw9668164602824395818:True:=trivial
theorem tw18053733096228762689:True:=trivial
theorem tw8535076805125565275:True:=trivial
theorem tw9196608847757926116:True:=trivial
theorem tw524574580110418149:True:=trivial
theorem tw15289058005833721280:True:=trivial
theorem tw4868668203878860152:True:=trivial
theorem tw5058385782647860543:True:=trivial
theorem tw2059364010406759353:True:=trivial
theorem tw14883602828599670189:True:=trivial
theorem tw17793596783763292037:True:=trivial
theorem tw10116465507025296574:True:=trivial
theorem tw13341023899752090294:True:=trivial
theorem tw5530671028615717438:True:=trivial
theorem tw5814894432020033555:True:=trivial
theorem tw12549858579696523083:True:=trivial
theorem tw3561700570522280957:True:=trivial
theorem tw12514398669879820974:True:=trivial
theorem tw10781132708927149788:True:=trivial
theorem tw14301691084723275626:True:=trivial
theorem tw10286182373876690117:True:=trivial
theorem tw6350616742839166825:True:=trivial
theorem tw16925776108431890714:True:=trivial
theorem tw9432208511652819301:True:=trivial
theorem tw9258465279930801065:True:=trivial
theorem tw17626200637182081525:True:=trivial
theorem tw12687739120279729045:True:=trivial
theorem tw11941636951942612882:True:=trivial
theorem tw14340378802051637875:True:=trivial
theorem tw15272440811215765584:True:=trivial
theorem tw15177196927531720916:True:=trivial
theorem tw15892457964732449349:True:=trivial
theorem tw9717262868497467286:True:=trivial
theorem tw8564148313592373359:True:=trivial
theorem tw6239102683621207517:True:=trivial
theorem tw3529513888522919076:True:=trivial
theorem tw7193529090243154058:True:=trivial
theorem tw9183572107277203200:True:=trivial
theorem tw6525453118134524274:True:=trivial
theorem tw8252384304741426392:True:=trivial
theorem tw959705556416852347:True:=trivial
theorem tw6186256629150872839:True:=trivial
theorem tw1887325361107361787:True:=trivial
theorem tw3191360415006115737:True:=trivial
theorem tw3421405279618216471:True:=trivial
theorem tw2609757242522288606:True:=trivial
theorem tw2111556587594581854:True:=trivial
theorem tw6448728962030032954:True:=trivial
theorem tw8009888101928843566:True:=trivial
theorem tw6081937634668122889:True:=trivial
theorem tw6191386269996610201:True:=trivial
theorem tw987282081170214195:True:=trivial
theorem tw5271352960392996842:True:=trivial
end PySem.W.Fast
open PySem PySem.W PyProof.Rows
set_option maxRecDepth 100000 in
set_option maxHeartbeats 0 in
theorem PySem.Challenge.cw_roundcall_k91_rows_read_holds : PySem.Challenge.rw_roundcall_k91_rows_read.Holds := by
 w_on; o_law; km_head; (case hw=>w_witness2)
 k_fill
 refine L2.walk_ofT (l:=PySem.Challenge.rw_roundcall_k91_rows_read) (n:=63) (k:=11) (x := "script") (CX:=fun w=>L2.CX1 PySem.Challenge.rw_roundcall_k91_rows_read.prog w) (sp:=fun w=>Law.sp_law _ _) (lq:=Law.lamQ) (lpos:=Law.lamP) rfl (by decide) rfl ⟨rfl,by decide,by decide⟩ (fun w h Y=>PySem.W.km_in_of Y) (fun w h Y=>PySem.W.km_tabs_of Y _ List.mem_cons_self) ?F (fun _ _ a ns hl hb hP hS=>⟨a,ns,rfl,hS,hl,hb,hP,fun _ e=>⟨rfl,e⟩⟩) (fun _ _ _ _ _ ⟨_,_,_,_,_,_,_,_,q⟩=>q)
 case F =>
  intro w mg fa h KX G hmg
  refine' Law.all_mk KX G hmg (.m0 ?_ ?_ ?_ ?_) (.m0 ?_ ?_ ?_ ?_) (.m0 ?_ ?_ ?_ ?_) (.m0 ?_ ?_ ?_ ?_) (.m0 ?_ ?_ ?_ ?_) (.m0 ?_ ?_ ?_ ?_) (.m0 ?_ ?_ ?_ ?_) ?_ ?_ ?_ ?_ (.m0 ?_ ?_ ?_ ?_) (.m0 ?_ ?_ ?_ ?_) (.m0 ?_ ?_ ?_ ?_) (.m0 ?_ ?_ ?_ ?_) (.m0 ?_ ?_ ?_ ?_) ?_ ?_ ?_ ?_ ?_ (.m0 ?_ ?_ ?_ ?_) (.m0 ?_ ?_ ?_ ?_) (.m0 ?_ ?_ ?_ ?_) (.m0 ?_ ?_ ?_ ?_) (.m0 ?_ ?_ ?_ ?_) (.m0 ?_ ?_ ?_ ?_) ?_ ?_ ?_ ?_ ?_ (.m0 ?_ ?_ ?_ ?_) (.m0 ?_ ?_ ?_ ?_) (.m0 ?_ ?_ ?_ ?_) (.m0 ?_ ?_ ?_ ?_) (.m0 ?_ ?_ ?_ ?_) (.m0 ?_ ?_ ?_ ?_) (.m0 ?_ ?_ ?_ ?_) (.m0 ?_ ?_ ?_ ?_) (.m0 ?_ ?_ ?_ ?_) (.m0 ?_ ?_ ?_ ?_) (.m0 ?_ ?_ ?_ ?_) (.m0 ?_ ?_ ?_ ?_) (.m0 ?_ ?_ ?_ ?_) (.m0 ?_ ?_ ?_ ?_) (.m1 ?_ ?_ ?_ ?_) (.m1 ?_ ?_ ?_ ?_) (.m1 ?_ ?_ ?_ ?_) (.m1 ?_ ?_ ?_ ?_) (.m1 ?_ ?_ ?_ ?_) (.m1 ?_ ?_ ?_ ?_) (.m0 ?_ ?_ ?_ ?_) (.m0 ?_ ?_ ?_ ?_) (.m0 ?_ ?_ ?_ ?_) (.m0 ?_ ?_ ?_ ?_) (.m0 ?_ ?_ ?_ ?_) (.m0 ?_ ?_ ?_ ?_) (.m0 ?_ ?_ ?_ ?_) (.m0 ?_ ?_ ?_ ?_) (.m0 ?_ ?_ ?_ ?_) (.m0 ?_ ?_ ?_ ?_) ?_ ?_ ?_ ?_ ?_ ?_ ?_ ?_ ?_ ?_ ?fm_x6 ?fm_x30 ?fm_x0 ?fm_x37 ?fm_x7 ?fm_x4 ?_ ?_ ?_ ?_ ?_ ?_ ?_ ?_ ?_ ?_ ?_ ?_ ?_ ?_ ?_ ?_ ?_ ?_ ?_ ?_ ?_ ?_ ?_ ?_ ?_ ?_ ?_ ?_ ?_ ?_ ?_ ?_ ?_ ?_ ?_ ?_ ?_ ?_ ?_ ?_ ?_ ?_ ?ac_Desk ?_ ?_ ?_ ?_ ?_ ?_ ?_ ?_ ?_ ?_ ?_ ?_ ?_ ?_ ?_ ?_ ?_ ?_ ?_ ?_ ?_ ?_ ?_ ?_ ?_ ?_ ?_ ?_ ?_ ?_ ?_ ?_ ?_ ?_ ?_ ?_ ?_ ?_ ?_ ?_ ?_ ?_ ?_ ?_ ?_ ?_ ?_ ?_ ?_ ?_ ?_ ?_ ?_ ?_ ?_ ?_ ?_ ?_ ?_ ?_ ?_ ?_ ?_ ?_ ?_ ?_ ?_ ?_ ?_ ?_ ?_ ?_ ?_ ?_ ?_ ?_ ?_ ?_ ?_ ?_ ?_ ?_ ?_ ?_ ?_ ?_ ?_ ?_ ?_ ?_ ?_ ?_ ?_ ?_ ?_ ?_ ?_ ?_ ?_ ?_ ?_ ?_ ?_ ?_
  (case ac_Desk=>k_is)
  (case fm_x6=>k_is)
  (case fm_x30=>k_is)
  (case fm_x0=>k_is)
  (case fm_x37=>k_is)
  (case fm_x7=>k_is)
  (case fm_x4=>k_is)
  all_goals try k_is
  all_goals try first|kit_is|k_exc|rfl|kernel_rfl
