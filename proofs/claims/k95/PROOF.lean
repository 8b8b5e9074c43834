import PyProof.Rows.All
import Wide.All
import OpenK.AllK
import Wide.FinOn
import Lean
import PyProof.EqAt
import PyProof.EqKinds
import PyProof.TupleCall
import PySem.Challenge.RW_roundcall_k95_wheels_at_the_desk
/-! THE HAND LAYER, for ints, bools, texts, own classes, LISTS and tuples (index, slices, in, append, pop ..), calls, loops. Paste it whole ahead of your own text; what your proof does not reach may be deleted. -/
set_option Elab.async false
set_option linter.all false
set_option maxRecDepth 100000
set_option maxHeartbeats 4000000
set_option bootstrap.genMatcherCode false
namespace L2
local macro_rules | `(tactic| omega) => `(tactic| lia)
open PySem PySem.Spec PyProof.Rows
abbrev aN:=@wpAny_bind
abbrev a6:=@wpAny_pure
abbrev cb:=@List.getElem?_eq_some_iff
abbrev cv:=@Heap.get?_push_of_some
abbrev cI:=@List.mem_of_getElem?
abbrev da:=@Heap.get?_push_size
abbrev dm:=@List.mem_cons_self
abbrev dr:=@Nat.le_refl
abbrev dt:=@Heap.lt_size
abbrev dI:=@Option.map_eq_some_iff
abbrev d0:=@List.mem_cons_of_mem
abbrev d3:=@List.getElem?_eq_getElem
abbrev ea:=@Nat.le_trans
abbrev en:=@Option.some.inj
abbrev eH:=@List.mem_cons
abbrev eI:=@Heap.get?_update_other
abbrev ft:=@Nat.ne_of_lt
abbrev fx:=@List.mem_map
abbrev fy:=@Bool.false_ne_true
abbrev fC:=@Nat.lt_of_lt_of_le
abbrev fF:=@List.mem_append
abbrev fY:=@wpAny_holding
abbrev gd:=@wpAny_seqItems
abbrev gv:=@List.mem_append_right
abbrev gy:=@List.mem_append_left
abbrev gP:=@List.mem_iff_getElem?
abbrev g0:=@Heap.get?_update_self
abbrev g6:=@wpAny_newObj_type
abbrev hH:=@wpAny_call_entry
abbrev il:=@Heap.SameBut.update
abbrev iv:=@wpAny_mono
abbrev i0:=@wpAny_truthy_bool
abbrev i3:=@Nat.lt_or_ge
abbrev k8:=@List.mem_singleton
abbrev la:=@Nat.add_le_add_left
abbrev ll:=@Int.mul_le_mul_of_nonneg_left
abbrev l7:=@Int.lt_of_le_of_lt
abbrev me:=@Array.getElem?_eq_some_iff
abbrev ml:=@PassesOwn.never
abbrev mr:=@decide_eq_false
abbrev mu:=@Nat.zero_le
abbrev mv:=@W.mg_of
abbrev mx:=@W.mg_none_of
abbrev my:=@Int.le_of_dvd
abbrev m8:=@Int.ediv_nonneg
abbrev nf:=@List.length_pos_iff
abbrev nB:=@wpAny_isInstance
abbrev nC:=@wpAny_rule
abbrev nP:=@plainId_quiet
abbrev nU:=@Nat.not_lt_zero
abbrev nV:=@Nat.le_of_lt
abbrev nX:=@Nat.lt_of_le_of_lt
abbrev oa:=@List.getElem_mem
abbrev oe:=@wpAny_callSpecial?_slot
abbrev ov:=@wpAny_attempt
abbrev oD:=@Int.le_trans
abbrev oI:=@Int.mul_nonneg
abbrev oK:=@Int.emod_nonneg
abbrev oM:=@List.mem_range
abbrev pa:=@List.mem_filter
abbrev px:=@Int.emod_lt_of_pos
abbrev pQ:=Value->Shared->Prop
abbrev qG:=List Int
abbrev qH:=Option Int
abbrev qU:=Shared
abbrev q3:=Value
abbrev q4:=Program
abbrev q5:=Around
abbrev q7:=FuncData
abbrev ra:=World
abbrev rb:=PyData
abbrev E3:=Sum Int Str
def J6:E3->q3->Bool
 | .inl k,v=>Value.isInt k v
 | .inr x,v=>Value.isStrOf x v
def A1y(w:ra):E3->Int
 | .inl k=>hashInt k
 | .inr x=>hashStr w x
theorem Cb:∀{k:E3}{v:q3},J6 k v=true->(∃i t,k=Sum.inl i/\v=Value.int i t)\/(∃x t,k=Sum.inr x/\v=Value.str x t)
 | .inl i,v,h=>by
  obtain⟨t,e⟩:=Value.isInt_shape (k:=i) (v:=v) h;exact .inl ⟨i,t,rfl,e⟩
 | .inr x,v,h=>by
  obtain⟨t,e⟩:=Value.isStrOf_shape (x:=x) (v:=v) h;exact .inr ⟨x,t,rfl,e⟩
theorem Ya(i:Int)(t:Tok):J6 (.inl i) (.int i t)=true:=by simp[J6,Value.isInt]
theorem Yb(x:Str)(t:Tok):J6 (.inr x) (.str x t)=true:=by simp[J6,Value.isStrOf]
theorem sd(a b:Int):decide ((Sum.inl a:E3)=Sum.inl b)=(a==b):=by
 by_cases e:a=b
 ·subst e;simp
 ·have h:¬(Sum.inl a:E3)=Sum.inl b:=λq=>e (Sum.inl.inj q);rw[decide_eq_false h];exact(beq_eq_false_iff_ne.mpr e).symm
theorem sh(a b:Str):decide ((Sum.inr a:E3)=Sum.inr b)=decide (a=b):=by
 by_cases e:a=b
 ·subst e;simp
 ·have h:¬(Sum.inr a:E3)=Sum.inr b:=λq=>e (Sum.inr.inj q);rw[decide_eq_false h,decide_eq_false e]
theorem se(a:Int)(b:Str):decide ((Sum.inl a:E3)=Sum.inr b)=false:=mr (λq=>nomatch q)
theorem sf(a:Str)(b:Int):decide ((Sum.inr a:E3)=Sum.inl b)=false:=mr (λq=>nomatch q)
def De(prog:q4)(w:ra):PySem.KeyKind prog w E3 where
 is:=J6
 hash:=A1y w
 inj:=λv a b g f=>by
  rcases Cb g with⟨i,t,rfl,rfl⟩|⟨x,t,rfl,rfl⟩
  ·rcases Cb f with⟨j,u,rfl,e⟩|⟨y,u,rfl,e⟩
   ·injection e with c _;rw[c]
   ·exact nomatch e
  ·rcases Cb f with⟨j,u,rfl,e⟩|⟨y,u,rfl,e⟩
   ·exact nomatch e
   ·injection e with c _;rw[c]
 byValue:=λk v h=>by
  rcases Cb h with⟨i,t,rfl,rfl⟩|⟨x,t,rfl,rfl⟩<;>rfl
 pyHash:=λd h=>by
  rcases Cb d with⟨i,t,rfl,rfl⟩|⟨x,t,rfl,rfl⟩
  ·exact wpAny_pyHash_int h
  ·exact wpAny_pyHash_str h
 eqBool:=λl d h=>by
  rcases Cb l with⟨i,t,rfl,rfl⟩|⟨x,t,rfl,rfl⟩
  ·rcases Cb d with⟨j,u,rfl,rfl⟩|⟨y,u,rfl,rfl⟩
   ·rw[sd]at h;exact wpAny_eqBool_int h
   ·rw[se]at h;exact SeqAt.EqAt.int_str i t y u _ _ _ _ h
  ·rcases Cb d with⟨j,u,rfl,rfl⟩|⟨y,u,rfl,rfl⟩
   ·rw[sf]at h;exact SeqAt.EqAt.str_int x t j u _ _ _ _ h
   ·rw[sh]at h;exact wpAny_eqBool_str h
 «strs»:=λk x t v h=>by
  rcases Cb h with⟨i,u,rfl,e⟩|⟨y,u,rfl,e⟩
  ·exact nomatch e
  ·injection e with c _;subst c;cases v<;>rfl
theorem Sm(prog:q4)(w:ra)(i:Int)(t:Tok):(De prog w).is (.inl i) (.int i t)=true:=Ya i t
theorem Sn(prog:q4)(w:ra)(x:Str)(t:Tok):(De prog w).is (.inr x) (.str x t)=true:=Yb x t
inductive V where
 |bN|bl (b:Bool)|int (i:Int)|str (x:Str)|uK (b:Array UInt8)|JU (b:UInt64)|ref (a:Addr)|ty (n:String)
 deriving DecidableEq
def B0:V->q3->Prop
 | .bN,u=>u=Value.none
 | .bl b,u=>u=Value.bool b
 | .int i,u=>∃t,u=Value.int i t
 | .str x,u=>∃t,u=Value.str x t
 | .uK b,u=>∃t,u=Value.bytes b t
 | .JU b,u=>∃t,u=Value.float b t
 | .ref a,u=>u=Value.ref a
 | .ty n,u=>u=Value.type n
abbrev Ay:List V->List q3->Prop:=Paired B0
theorem Ay.length(r:Ay xs us):xs.length=us.length:=Paired.length r
theorem Ay.get:∀{xs:List V}{us:List q3}{i:Nat}{x:V},Ay xs us->xs[i]?=some x->∃u,us[i]?=some u/\B0 x u
 |_,_,_,_,.nil,e=>by simp at e
 |_,_,0,_,.cons r _,e=>by simp at e;subst e;exact⟨_,rfl,r⟩
 |_,_,i+1,x,.cons _ t,e=>by
  obtain⟨u,a,b⟩:=Ay.get (i:=i) (x:=x) t (by simpa using e);exact⟨u,by simpa using a,b⟩
theorem Ay.set(r:B0 x u):∀{xs:List V}{us:List q3} (i:Nat),Ay xs us->Ay (xs.set i x) (us.set i u)
 |_,_,_,.nil=>.nil
 |_,_,0,.cons _ t=>.cons r t
 |_,_,i+1,.cons q t=>.cons q (Ay.set r i t)
theorem Ay.append(h:Ay xs us)(s:Ay ys ws):Ay (xs++ys) (us++ws):=by
 induction h with
 |nil=>exact s
 |cons r t a=>exact .cons r a
theorem Ay.take:∀{xs:List V}{us:List q3} (n:Nat),Ay xs us->Ay (xs.take n) (us.take n)
 |_,_,0,_=>.nil
 |_,_,_+1,.nil=>.nil
 |_,_,n+1,.cons r t=>.cons r (Ay.take n t)
theorem Ay.drop:∀{xs:List V}{us:List q3} (n:Nat),Ay xs us->Ay (xs.drop n) (us.drop n)
 |_,_,0,r=>r
 |_,_,_+1,.nil=>.nil
 |_,_,n+1,.cons _ t=>Ay.drop n t
def Ft:Option V->Option q3->Prop
 |some v,some u=>B0 v u
 |none,none=>True
 |_,_=>False
def KV:List (a×V)->List (a×q3)->Prop:=Paired λ(p:a×V) (q:a×q3)=>p.1=q.1/\B0 p.2 q.2
def kV:E3->V
 | .inl i=>.int i
 | .inr x=>.str x
section
variable {prog:q4}{w:ra}
def D0(prog:q4)(w:ra)(h:Heap)(k:qG×Int)(a:Addr):Prop:=
 ∃o n u t,h.get? a=some o/\o.cls=.type "tuple"/\o.data=.seq #[.ref u,.int k.2 t] n/\IsTupleKey (intKind prog w) h k.1 u
theorem D0.typeIs{s:qU}{k:qG×Int}{a:Addr}(x:D0 prog w s.heap k a):s.TypeIs (.ref a) "tuple":=let⟨o,_,_,_,c,b,_⟩:=x;⟨o,c,b⟩
theorem D0.inj(i:D0 prog w h x a)(j:D0 prog w h y a):x=y:=by
 obtain⟨o,n,u,t,g,_,e,f⟩:=i;obtain⟨p,q,s,r,l,_,c,m⟩:=j;obtain rfl:o=p:=en (g.symm.trans l);rw[e]at c;injection c with b _;simp only[Array.mk.injEq,List.cons.injEq,Value.ref.injEq,Value.int.injEq,and_true]at b;obtain⟨rfl,d,_⟩:=b;exact Prod.ext (f.inj m) d
theorem D0.keeps{k:qG×Int}{es ep}(x:D0 prog w h k a)(e:h.get? d=some o)(c:o.data=.dict es ep)(f:Heap.SameBut d h h'):D0 prog w h' k a:=by
 obtain⟨i,n,u,t,g,l,b,m⟩:=x
 have j:a≠d:=by
  rintro rfl;obtain rfl:i=o:=en (g.symm.trans e);rw[c]at b;exact nomatch b
 exact⟨i,n,u,t,(f.2 a j).trans g,l,b,m.keeps e c f⟩
def Ks(prog:q4)(w:ra)(k:qG×Int):Int:=reduceHash (Builtin.Tuple.tupleHashOf [tupleKeyHash (intKind prog w) k.1,(intKind prog w).hash k.2])
theorem Vm{A:q5}{E:pQ}{s:qU}{k:qG×Int}{a:Addr}{Q:Int->qU->Prop}(l:A.units+8<cLine)(d:D0 prog w s.heap k a)(h:Q (Ks prog w k) {s with toks:=s.toks+(k.1.length+3) }):
  wpAny (model prog w) A (pyHash (.ref a)) Q E s:=by
 have b:=d.typeIs;obtain⟨o,n,u,t,i,_,f,g⟩:=d;unfold pyHash
 first|unfold pyHashByItsType|skip
 first|refine aN (wpAny_cRoomFor_or (.inr (by omega)) ?_)|skip
 refine aN (wpAny_specialOf b F.slot_tuple_hash.lookup ?_);show wpAny _ _ (if(some (Value.builtin "tuple.__hash__")==some Value.none)=true then _ else _) Q E s;rw[if_neg (by rw[beq_builtin_none];exact Bool.false_ne_true)];refine aN (wpAny_specialOf b F.slot_tuple_hash.lookup ?_);show wpAny _ _ (callSpecialIfBoundUnlessNone? (.ref a) "__hash__" _>>=_) Q E s;refine aN (wpAny_callSpecialIfBoundUnlessNone?_slot b F.slot_tuple_hash (hH F.slot_tuple_hash b F.entry_tuple_hash ?_ (F.args_tuple_hash_1 _)));show wpAny _ _ (Builtin.Tuple.tupleItemsOf (.ref a)>>=_) _ _ s;refine aN (wpAny_tupleItemsOf i f ?_);refine aN ?_;rw[<- Array.forIn_toList];show wpAny _ _ (forIn [Value.ref u,Value.int k.2 t] _ _) _ _ _;rw[List.forIn_cons]
 have j:A.in1.units<cLine:=by
  first|(show A.units+1<cLine;omega)|(show A.units<cLine;omega)|(simp only[Around.in1];omega)
 refine aN (aN (wpAny_pyHash_tuple (knd:=intKind prog w) j g ?_));refine a6 ?_;show wpAny _ _ (forIn [Value.int k.2 t] _ _) _ _ _;rw[List.forIn_cons];refine aN (aN ((intKind prog w).pyHash (k:=k.2) (by simp[intKind,Value.isInt]) ?_));refine a6 ?_;show wpAny _ _ (forIn [] _ _) _ _ _;rw[List.forIn_nil];refine a6 ?_;show wpAny _ _ (retInt (Builtin.Tuple.tupleHashOf [tupleKeyHash (intKind prog w) k.1,(intKind prog w).hash k.2])) _ _ _;refine wpAny_ret_mkInt ?_;generalize e:Builtin.Tuple.tupleHashOf [tupleKeyHash (intKind prog w) k.1,(intKind prog w).hash k.2]=z;show wpAny _ _ (if(decide (-(2:Int)^63<=z)&&decide (z<2^63))=true then _ else _) Q E _;unfold Ks reduceHash at h;rw[e]at h;by_cases c:(decide (-(2:Int)^63<=z)&&decide (z<2^63))=true
 ·rw[if_pos c];rw[if_pos c]at h;exact a6 (by simpa[Nat.add_assoc]using h)
 ·rw[if_neg c];rw[if_neg c]at h;exact aN (nC (a6 (by simpa[Nat.add_assoc]using h)))
theorem jg{A:q5}{E:pQ}{s:qU}{x y:qG×Int}{a b:Addr}{Q:Bool->qU->Prop}(D:A.units+8<cLine)(g:D0 prog w s.heap x a)(i:D0 prog w s.heap y b)(h:Q (decide (x=y)) s):
  wpAny (model prog w) A (eqBool (.ref a) (.ref b)) Q E s:=by
 unfold eqBool
 try with_reducible refine fY ?_
 show wpAny _ _ (if(Value.ref a==Value.ref b)=true then _ else _) Q E s;by_cases c:(Value.ref a==Value.ref b)=true
 ·rw[if_pos c];have e:a=b:=by have:=eq_of_beq c;injection this
  subst e;obtain rfl:=g.inj i;exact aN (nC (a6 (by simpa using h)))
 ·rw[if_neg c]
  refine aN (wpAny_richCompare_same_room (op:=.Eq) g.typeIs i.typeIs F.slot_tuple_eq
   (hH F.slot_tuple_eq g.typeIs F.entry_tuple_eq ?_ (F.args_tuple_eq_2 _ _)) (by omega))
  have j:=i.typeIs;obtain⟨I,G,B,q,o,_,l,m⟩:=g;obtain⟨J,H,C,r,p,_,v,n⟩:=i;show wpAny _ _ (isInstance (.ref b) (.type "tuple")>>=_) _ _ s;refine aN (nB j isSubtype_tuple_tuple ?_);simp only[Bool.not_true,Bool.false_eq_true,if_false];refine aN (wpAny_tupleItemsOf o l ?_);refine aN (wpAny_tupleItemsOf p v ?_);refine aN ?_;show wpAny _ _ (forIn [(Value.ref B,Value.ref C),(Value.int x.2 q,Value.int y.2 r)] _ _) _ _ _;rw[List.forIn_cons]
  have u:A.in1.units<cLine:=by
   first|(show A.units+1<cLine;omega)|(show A.units<cLine;omega)|(simp only[Around.in1];omega)
  refine aN (aN (wpAny_eqBool_tuple (knd:=intKind prog w) u m n ?_));by_cases d:x.1=y.1
  ·rw[decide_eq_true d];simp only[Bool.not_true,Bool.false_eq_true,if_false];refine a6 ?_;show wpAny _ _ (forIn [(Value.int x.2 q,Value.int y.2 r)] _ _) _ _ _;rw[List.forIn_cons];refine aN (aN ((intKind prog w).eqBool (a:=x.2) (b:=y.2) (by simp[intKind,Value.isInt]) (by simp[intKind,Value.isInt]) ?_));by_cases f:x.2=y.2
   ·rw[decide_eq_true f];simp only[Bool.not_true,Bool.false_eq_true,if_false];refine a6 ?_;show wpAny _ _ (forIn [] _ _) _ _ _;rw[List.forIn_nil];refine a6 ?_;have e:decide (x=y)=true:=decide_eq_true (Prod.ext d f);rw[e]at h;exact a6 ⟨_,rfl,(λe=>nomatch e),i0 h⟩
   ·rw[decide_eq_false f];simp only[Bool.not_false,if_true];have e:decide (x=y)=false:=mr λz=>f (by rw[z]);rw[e]at h;exact aN (a6 (a6 (a6 (a6 ⟨_,rfl,(λe=>nomatch e),i0 h⟩))))
  ·rw[decide_eq_false d];simp only[Bool.not_false,if_true];have e:decide (x=y)=false:=mr λz=>d (by rw[z]);rw[e]at h;exact aN (a6 (a6 (a6 (a6 ⟨_,rfl,(λe=>nomatch e),i0 h⟩))))
theorem wk(j:IsTupleKey (intKind prog w) s.heap q a)(h:Q true s):wpAny (model prog w) A (eqIsQuiet 7 (.ref a)) Q E s:=by
 have i:=j.typeIs;obtain⟨o,d,n,p,_,l,m⟩:=j;unfold eqIsQuiet;refine aN (wpAny_specialOf i F.slot_tuple_eq.lookup ?_);show wpAny _ _ (isInstance (.ref a) (.type "tuple")>>=_) _ _ s;refine aN (nB i isSubtype_tuple_tuple ?_);simp only[Bool.not_true,Bool.false_eq_true,if_false];refine aN (gd p l ?_);refine aN ?_;show wpAny _ _ (forIn d _ _) _ _ s;rw[<- Array.forIn_toList];refine wpAny_forIn_list _ (λc r g=>r.1=none/\g=s/\∀v∈c,carriedByValue v=true) _ ?_ ?_ _ _ ⟨rfl,rfl,m.byValue⟩
 ·rintro v c r g ⟨e,rfl,b⟩;rw[eqIsQuiet_byValue _ (b v List.mem_cons_self)];refine aN (a6 ?_);simp only[Bool.not_true,Bool.false_eq_true,if_false];exact a6 ⟨rfl,rfl,λu f=>b u (d0 _ f)⟩
 ·rintro⟨x,y⟩ g ⟨e,rfl,_⟩;simp only at e;subst e;exact a6 h
theorem Tm{A:q5}{E:pQ}{s:qU}{k:qG×Int}{a:Addr}{Q:Bool->qU->Prop}(c:D0 prog w s.heap k a)(h:Q true s):wpAny (model prog w) A (eqIsQuiet 8 (.ref a)) Q E s:=by
 have b:=c.typeIs;obtain⟨o,n,u,t,f,_,d,e⟩:=c;unfold eqIsQuiet;refine aN (wpAny_specialOf b F.slot_tuple_eq.lookup ?_);show wpAny _ _ (isInstance (.ref a) (.type "tuple")>>=_) _ _ s;refine aN (nB b isSubtype_tuple_tuple ?_);simp only[Bool.not_true,Bool.false_eq_true,if_false];refine aN (gd f d ?_);refine aN ?_;show wpAny _ _ (forIn #[Value.ref u,Value.int k.2 t] _ _) _ _ s;rw[<- Array.forIn_toList];show wpAny _ _ (forIn [Value.ref u,Value.int k.2 t] _ _) _ _ s;rw[List.forIn_cons];refine aN (aN (wk e ?_));simp only[Bool.not_true,Bool.false_eq_true,if_false];refine a6 ?_;show wpAny _ _ (forIn [Value.int k.2 t] _ _) _ _ s;rw[List.forIn_cons,eqIsQuiet_byValue _ rfl];refine aN (aN (a6 ?_));simp only[Bool.not_true,Bool.false_eq_true,if_false];refine a6 ?_;show wpAny _ _ (forIn [] _ _) _ _ s;rw[List.forIn_nil];exact a6 (a6 h)
def D3(prog:q4)(w:ra):HeapKind prog w (qG×Int)where
 is:=D0 prog w
 hash:=Ks prog w
 draws:=λk=>k.1.length+3
 room:=λA=>A.units+8<cLine
 inj:=λc d=>c.inj d
 keeps:=λx f e g=>x.keeps f e g
 pyHash:=λb a h=>Vm b a h
 eqBool:=λb c d h=>jg b c d h
 quiet:=λa h=>Tm a h
end
set_option genInjectivity false in
set_option genSizeOf false in
inductive HO where
  |lst (xs:List V)
  |tup (xs:List V)
  |dK (kvs:List (E3×V))|dT (kvs:List ((List Int×Int)×V))
  |set (S:Int->Bool) (n:Nat)
  |ins (C dx:Addr) (fs:List (Str×V))
  |own (x:Addr)
  |xd (fs:List (Str×V))
  |met (f x:Addr)
  |xH (lo hi:Int)
  |fB (o:Obj) (u:HO)
  |CH (ps:Array q3)
 |tab (q:Str) (pos:Pos)
  |ext (φ:Heap->Prop)
abbrev pR:=List ((List Int×Int)×V)
abbrev Hp:=Addr->Option HO
def Iu(H:Hp)(b:Addr)(k:qG×Int):Prop:=∃u,H b=some (.tup [.ref u,.int k.2])/\H u=some (.tup (k.1.map V.int))
theorem Iu.up{k:qG×Int}(c:∀b xs,H b=some (.tup xs)->a b=some (.tup xs))(h:Iu H b k):Iu a b k:=let⟨u,d,e⟩:=h;⟨u,c _ _ d,c _ _ e⟩
def upd(H:Hp)(a:Addr)(o:HO):Hp:=λb=>if b=a then some o else H b
theorem A2:upd H a o a=some o:=by unfold upd;rw[if_pos rfl]
theorem A9(h:b≠a):upd H a o b=H b:=by unfold upd;rw[if_neg h]
theorem Jr:upd (upd H a o) a u=upd H a u:=by
 funext b;unfold upd;split<;>rfl
theorem Bf{H:Hp}{a b:Addr}{o u:HO}(h:H a=some o)(h':H b=some u)(d:o≠u):a≠b:=by
 intro e;subst e;rw[h]at h';exact d (en h')
theorem Aa{H:Hp}{a b:Addr}{o:HO}(h:H a=some o)(h':H b=none):a≠b:=by
 intro e;subst e;rw[h]at h';cases h'
section
variable (P:q4) (w:ra)
def Bl(H:Hp)(h:Heap)(a:Addr):HO->Prop
 | .lst d=>d.length<=sizeLine/\∃(g:List q3) (n:Nat),Ay d g/\h.get? a=some {cls:=.type "list",data:=.seq g.toArray n}
 | .tup d=>(d.length<=sizeLine/\∃o,h.get? a=some o/\o.dict=none)/\∃g:List q3,Ay d g/\IsTup h a g.toArray
 | .dK b=>b.length<=sizeLine/\(a==sysModules)=false/\∃s,KV b s/\h.DictOf (De P w) a s
 | .dT b => b.length <= sizeLine /\ (a == sysModules) = false /\ ∃ d : List ((qG × Int) × Addr × q3),
   Paired (λ(p:(qG×Int)×V) (q:(qG×Int)×Addr×q3)=>p.1=q.1/\Iu H q.2.1 p.1/\B0 p.2 q.2.2) b d/\
   ∃o l y,h.get? a=some o/\o.ExactDict/\o.data=.dict l y/\l.toList=d.map (entryOfKey (D3 P w))/\(d.map (·.1)).Nodup
 | .set S n=>h.SetOf (intKind P w) a S n
 | .ins C i fs => H i = some (.own a) /\ fs.length <= 1000 /\ i ≠ a /\ h.get? a = some (W.instObj C i) /\
   ∃e,h.Ns1 i e/\(∀f,Ft (fs.lookup f) (e f))/\PySem.Within e (fs.map (·.1))
 | .own _=>∃o,h.get? a=some o
 | .xd fs=>∃e,h.Ns1 a e/\∀f,Ft (fs.lookup f) (e f)
 | .xH A z=>∃t u v,h.get? a=some {cls:=.type "range",data:=.fields #[.int A t,.int z u,.int 1 v] }
 | .fB o u=>h.get? a=some o/\Bl H h a u
 | .CH B=>h.get? a=some {cls:=.none,data:=.fields B}
 | .tab q pos=>h.get? a=some (W.tabObj #[])\/∃c:Addr,H c=some (.own a)/\c≠a/\h.get? a=some (W.tabObj #[rawInt pos.line,rawInt pos.col,.ref c])/\h.CodeRec (.ref c) q
 | .met f x=>h.get? a=some (W.methodObj (.ref f) (.ref x))
 | .ext j=>j h/\(∃o,h.get? a=some o)/\∀m r:Heap,j m->(∀o,m.get? a=some o->r.get? a=some o)->j r
def Gm(H:Hp)(h:Heap):Prop:=∀a o,H a=some o->Bl P w H h a o
end
section
variable {P:q4}{w:ra}{H H':Hp}{h h':Heap}{a:Addr}{o:HO}
theorem Bl.lt(x:Bl P w H h a o):a<h.objs.size:=by
 cases o with
 |lst c=>obtain⟨_,_,_,_,e⟩:=x;exact dt e
 |tup c=>obtain⟨_,_,_,p⟩:=x;exact p.lt
 |dK b=>obtain⟨_,_,_,_,o,_,_,e,_⟩:=x;exact dt e
 |dT b=>obtain⟨_,_,_,_,o,_,_,e,_⟩:=x;exact dt e
 |set S n=>obtain⟨o,_,_,_,e,_⟩:=x;exact dt e
 |ins C d fs=>obtain⟨_,_,_,e,_⟩:=x;exact dt e
 |own y=>obtain⟨_,e⟩:=x;exact dt e
 |xd fs=>obtain⟨_,⟨_,_,_,e,_⟩,_⟩:=x;exact dt e
 |xH i g=>obtain⟨_,_,_,e⟩:=x;exact dt e
 |fB j u=>obtain⟨e,_⟩:=x;exact dt e
 |CH l=>exact dt (show h.get? a=some _ from x)
 |tab q pos=>
  rcases x with e|⟨_,_,_,e,_⟩
  ·exact dt e
  ·exact dt e
 |met f y=>exact dt (show h.get? a=some _ from x)
 |ext m=>obtain⟨_,⟨_,e⟩,_⟩:=x;exact dt e
theorem Paired.RN(h:Paired F c d)(f:∀a b,F a b->G a b):Paired G c d:=by
 induction h with
 |nil=>exact .nil
 |cons r t i=>exact .cons (f _ _ r) i
theorem Bl.gY(x:Bl P w H h a o)(k:∀b u,(b=a\/H b=some (.own a))->h.get? b=some u->h'.get? b=some u)
  (E:∀b,H b=some (.own a)->H' b=some (.own a))(J:∀b xs,H b=some (.tup xs)->H' b=some (.tup xs)):Bl P w H' h' a o:=by
 induction o with
 |lst xs=>obtain⟨z,m,n,r,e⟩:=x;exact⟨z,m,n,r,k _ _ (.inl rfl) e⟩
 |tup xs=>obtain⟨z,m,r,g,e,c⟩:=x;exact⟨⟨z.1,let⟨o,l,d⟩:=z.2;⟨o,k _ _ (.inl rfl) l,d⟩⟩,m,r,g,k _ _ (.inl rfl) e,c⟩
 |dK s=>obtain⟨z,y,D,r,g,j,i,e,c⟩:=x;exact⟨z,y,D,r,g,j,i,k _ _ (.inl rfl) e,c⟩
 |dT s=>
  obtain⟨z,y,xs,r,g,j,i,e,c⟩:=x;exact⟨z,y,xs,Paired.RN r λp q z=>⟨z.1,z.2.1.up J,z.2.2⟩,g,j,i,k _ _ (.inl rfl) e,c⟩
 |set S n=>obtain⟨g,j,i,t,e,c⟩:=x;exact⟨g,j,i,t,k _ _ (.inl rfl) e,c⟩
 |ins C O fs=>
  obtain⟨d,z,ne,e,A,⟨B,j,i,l,c⟩,r⟩:=x;exact⟨E _ d,z,ne,k _ _ (.inl rfl) e,A,⟨B,j,i,k _ _ (.inr d) l,c⟩,r⟩
 |own y=>obtain⟨g,e⟩:=x;exact⟨g,k _ _ (.inl rfl) e⟩
 |xd fs=>obtain⟨A,⟨B,j,i,e,c⟩,r⟩:=x;exact⟨A,⟨B,j,i,k _ _ (.inl rfl) e,c⟩,r⟩
 |xH R Q=>obtain⟨t,u,v,e⟩:=x;exact⟨t,u,v,k _ _ (.inl rfl) e⟩
 |fB g u K=>obtain⟨e,q⟩:=x;exact⟨k _ _ (.inl rfl) e,K q⟩
 |tab q pos=>
  rcases x with e|⟨c,d,ne,e,N,L,D,M,l,I,r⟩
  ·exact .inl (k _ _ (.inl rfl) e)
  ·cases l;exact .inr ⟨c,E _ d,ne,k _ _ (.inl rfl) e,c,L,D,M,rfl,k _ _ (.inr d) I,r⟩
 |CH F=>
  have e:h.get? a=some {cls:=.none,data:=.fields F}:=x;show h'.get? a=some {cls:=.none,data:=.fields F};exact k a _ (.inl rfl) e
 |met f y=>
  have e:h.get? a=some (W.methodObj (.ref f) (.ref y)):=x;show h'.get? a=some (W.methodObj (.ref f) (.ref y));exact k a _ (.inl rfl) e
 |ext T=>obtain⟨p,⟨o,e⟩,G⟩:=x;exact⟨G _ _ p λo q=>k _ _ (.inl rfl) q,⟨o,k _ _ (.inl rfl) e⟩,G⟩
theorem Gm.lt(x:Gm P w H h)(e:H a=some o):a<h.objs.size:=(x a o e).lt
theorem Gm.fresh(x:Gm P w H h)(e:h.objs.size<=a):H a=none:=by
 cases q:H a with
 |none=>rfl
 |some u=>exact absurd (fC (x.lt q) e) (Nat.lt_irrefl _)
theorem Gm.kept(x:Gm P w H h)(k:∀b u,h.get? b=some u->h'.get? b=some u):Gm P w H h':=λa o e=>
 (x a o e).gY (λb u _ q=>k b u q) (λ_ q=>q) λ_ _ q=>q
theorem Gm.laid(x:Gm P w H h)(k:∀b u,h.get? b=some u->h'.get? b=some u)(g:h.objs.size<=a)(new:Bl P w (upd H a o) h' a o):Gm P w (upd H a o) h':=λb u e=>by
 have f:=x.fresh g;by_cases d:b=a
 ·subst d;rw[A2]at e;cases e;exact new
 ·rw[A9 d]at e;exact(x b u e).gY (λc v _ q=>k c v q) (λc q=>by rw[A9 (Aa q f)];exact q) λc i q=>by rw[A9 (Aa q f)];exact q
end
def Rd(H:Hp)(a:Addr)(u:HO):Prop:=H a=some u\/∃o,H a=some (.fB o u)
theorem Rd.ok(r:Rd H a u)(x:Gm P w H h):Bl P w H h a u:=by
 rcases r with r|⟨o,r⟩
 ·exact x a u r
 ·obtain⟨_,q⟩:=x a _ r;exact q
def zl:Option HO->Prop
 |some (.lst _)=>True
 |some (.dK _)=>True
 |some (.dT _)=>True
 |some (.set _ _)=>True
 |some (.ins _ _ _)=>True
 |some (.ext _)=>True
 |some (.tab _ _)=>True
 |_=>False
section
variable {P:q4}{w:ra}{H:Hp}{h h':Heap}{x e:Addr}{o':HO}
theorem Gm.write(ok:Gm P w H h)(g:zl (H x))(he:e=x\/H e=some (.own x))(k:∀b u,b≠e->h.get? b=some u->h'.get? b=some u)(n:∃u,h'.get? e=some u)
  (new:Bl P w (upd H x o') h' x o'):Gm P w (upd H x o') h':=λb u q=>by
 have l:∀c y,H c=some (.own y)->c≠x:=λc y r z=>by subst z;rw[r]at g;exact g
 have a:∀c j,H c=some (.tup j)->c≠x:=λc j r z=>by subst z;rw[r]at g;exact g
 by_cases d:b=x
 ·subst d;rw[A2]at q;cases q;exact new
 ·rw[A9 d]at q;by_cases i:b=e
  ·have m:H b=some (.own x):=by
    rcases he with z|z
    ·exact absurd (i.trans z) d
    ·rw[i];exact z
   rw[q]at m;cases m;obtain⟨v,o⟩:=n;exact⟨v,by rw[i];exact o⟩
  ·refine(ok b u q).gY (λc v f r=>k c v ?_ r) (λc r=>by rw[A9 (l c b r)];exact r) λc j r=>by rw[A9 (a c j r)];exact r
   rcases f with rfl|f
   ·exact i
   ·rintro rfl;rcases he with z|z
    ·exact l c b f z
    ·rw[f]at z;cases z;exact d rfl
end
structure Un(fs ex:List Addr)(H H':Hp)(h h':Heap):Prop where
 keep:∀b o,h.get? b=some o->H b=none->b∉fs->b∉ex->h'.get? b=some o
 slot:∀b o,h.get? b=some o->H b=none->b∈fs->b∉ex->∃sl,h'.get? b=some {o with slots:=sl}
 free:∀b o,h.get? b=some o->H b=none->b∉ex->H' b=none
 there:∀b o,h.get? b=some o->b∉ex->∃o',h'.get? b=some o'
 iG:∀b xs,H b=some (.tup xs)->H' b=some (.tup xs)
 gN:∀b o u,H b=some (.fB o u)->H' b=some (.fB o u)
 iH:∀b ps,H b=some (.CH ps)->∃more,H' b=some (.CH (ps++more))
section
variable {fs fs' ex ex':List Addr}{H H1 H2:Hp}{h h1 h2 h':Heap}{a x e:Addr}{o:HO}
theorem Un.any(u:Un fs ex H H1 h h1)(q:h.get? b=some c)(n:H b=none)(f:b∉ex):∃g,h1.get? b=some {c with slots:=g}:=by
 by_cases d:b∈fs
 ·exact u.slot b c q n d f
 ·exact⟨c.slots,u.keep b c q n d f⟩
theorem Un.trans(a:Un fs ex H H1 h h1)(b:Un fs ex H1 H2 h1 h2):Un fs ex H H2 h h2 where
 keep:=λc f q n i d=>b.keep c f (a.keep c f q n i d) (a.free c f q n d) i d
 slot:=λc f q n i d=>by
  obtain⟨u,g⟩:=a.slot c f q n i d;obtain⟨p,l⟩:=b.slot c _ g (a.free c f q n d) i d;exact⟨p,l⟩
 free:=λc f q n d=>by
  obtain⟨m,g⟩:=a.there c f q d;exact b.free c m g (a.free c f q n d) d
 there:=λc f q d=>by
  obtain⟨m,g⟩:=a.there c f q d;exact b.there c m g d
 iG:=λc j q=>b.iG c j (a.iG c j q)
 gN:=λc f j q=>b.gN c f j (a.gN c f j q)
 iH:=λc s q=>by
  obtain⟨m1,g⟩:=a.iH c s q;obtain⟨r,l⟩:=b.iH c _ g;exact⟨m1++r,by rw[l,Array.append_assoc]⟩
theorem Un.kept(k:∀b u,h.get? b=some u->h'.get? b=some u):Un fs ex H H h h':=
 ⟨λb c q _ _ _=>k b c q,λb c q _ _ _=>⟨c.slots,k b c q⟩,λ_ _ _ n _=>n,λb c q _=>⟨c,k b c q⟩,λ_ _ q=>q,λ_ _ _ q=>q,λ_ d q=>⟨#[],by rw[q];simp⟩⟩
theorem Un.refl:Un fs ex H H h h:=Un.kept λ_ _ q=>q
theorem Un.laid(k:∀b u,h.get? b=some u->h'.get? b=some u)(d:h.objs.size<=a)(c:H a=none):Un fs ex H (upd H a o) h h' where
 keep:=λb u q _ _ _=>k b u q
 slot:=λb u q _ _ _=>⟨u.slots,k b u q⟩
 free:=λb u q n _=>by rw[A9 (Nat.ne_of_lt (Nat.lt_of_lt_of_le (Heap.lt_size q) d))];exact n
 there:=λb u q _=>⟨u,k b u q⟩
 iG:=λb f q=>by rw[A9 (Aa q c)];exact q
 gN:=λb u f q=>by rw[A9 (Aa q c)];exact q
 iH:=λb g q=>⟨#[],by rw[A9 (Aa q c),q];simp⟩
theorem Un.write(c:zl (H x))(he:e=x\/H e=some (.own x))(k:∀b u,b≠e->h.get? b=some u->h'.get? b=some u)(j:∃u,h'.get? e=some u):Un fs ex H (upd H x o) h h':=by
 have g:∀b,H b=none->b≠x:=λb n z=>by subst z;rw[n]at c;exact c
 have f:∀b,H b=none->b≠e:=λb n z=>by
  subst z;rcases he with r|r
  ·exact g b n r
  ·rw[n]at r;cases r
 have d:∀b u,H b=some u->¬zl (some u)->b≠x:=λb u q l z=>by subst z;rw[q]at c;exact l c
 refine⟨λb u q n _ _=>k b u (f b n) q,λb u q n _ _=>⟨u.slots,k b u (f b n) q⟩,λb u q n _=>by rw[A9 (g b n)];exact n,λb u q _=>?_,
  λb m q=>by rw[A9 (d b _ q λz=>z)];exact q,λb u m q=>by rw[A9 (d b _ q λz=>z)];exact q,λb p q=>⟨#[],by rw[A9 (d b _ q λz=>z),q];simp⟩⟩
 by_cases i:b=e
 ·subst i;exact j
 ·exact⟨u,k b u i q⟩
end
def trk(h:Heap)(H:Hp):List Addr:=(List.range h.objs.size).filter λa=>(H a).isSome
def Od(h:Heap)(H:Hp):Heap:=W.hideAll h (trk h H)
theorem Y7(h:Heap)(H:Hp):(Od h H).objs.size=h.objs.size:=W.hideAll_size _ _
theorem av(e:h.get? b=some o)(n:H b=none):(Od h H).get? b=some o:=
 W.hideAll_get _ e λa=>by
  have q:(H b).isSome=true:=(pa.mp a).2;rw[n]at q;simp at q
theorem lz(e:(Od h H).get? b=some o):h.get? b=some o/\H b=none:=by
 have a:h.get? b=some o:=W.of_hideAll (trk h H) e;refine⟨a,?_⟩;cases q:H b with
 |none=>rfl
 |some x=>
  have c:b∈trk h H:=pa.mpr ⟨oM.mpr (dt a),by simp[q]⟩;have z:(Od h H).get? b=none:=W.hideAll_none (trk h H) c;rw[z]at e;cases e
def Hh(g h:Heap)(L:Addr):List (Addr×Obj):=(List.range h.objs.size).filterMap λa=>if a=L\/(g.get? a).isSome=true then none else(h.get? a).map λo=>(a,o)
theorem L5(h1:a≠L)(c:g.get? a=none)(b:h.get? a=some o):(a,o)∈Hh g h L:=
 List.mem_filterMap.mpr ⟨a,oM.mpr (dt b),by simp[h1,c,b]⟩
theorem Nj(c:p∈Hh g h L):p.1≠L/\g.get? p.1=none/\h.get? p.1=some p.2:=by
 obtain⟨b,_,e⟩:=List.mem_filterMap.mp c;split at e
 ·cases e
 ·rename_i a;cases q:h.get? b with
  |none=>rw[q]at e;simp at e
  |some u=>
   rw[q]at e;simp only[Option.map_some,Option.some.injEq]at e;subst e;refine⟨λz=>a (.inl z),?_,q⟩;show g.get? b=none;cases r:g.get? b with
   |none=>rfl
   |some v=>exact(a (.inr (by simp[r]))).elim
theorem bu:News g L h (Hh g h L):=λp d=>let⟨a,b,c⟩:=Nj d;⟨c,a,b⟩
structure Mod(K:W.Frag)(mg:Str->Option q3)(base:Heap):Prop where
 fD:K.In base
 glob:base.Ns mainGlobals mg
 blt:∃mb,base.Ns builtinsNs mb/\∀x:Str,x≠"__name__"->mb x=bootBuiltins x
 nolimit:base.NoLimit
set_option genInjectivity false in
set_option genSizeOf false in
structure Cx where
 prog:q4
 w:ra
 K:W.Frag
 mg:Str->Option q3
 base:Heap
 A:q5
 N:List Str
 s₀:qU
 H₀:Hp
 env:Env
 outer:List Env
 stack:List Env
 ex:List Addr
 fn:Str->Bool
 calm:Bool
 pn:List (Addr×Obj)
 xe:pQ
def jR(l:List Env):List Addr:=l.filterMap (·.frame)
abbrev Cx.fs(X:Cx):List Addr:=jR X.outer
def zr(a:Scope)(x:Str):Prop:=a.names.lookup x=some .local\/a.names.lookup x=some .cell\/a.names.lookup x=some .free
def zk(a:Scope)(x:Str):Prop:=a.names.lookup x=some .local\/a.names.lookup x=some .cell
def A1p(env:Env)(h:Heap)(m:Str->Option q3)(x:Str)(u:q3):Prop:=
 (env.kindOf x=some .local/\m x=some u)\/((env.kindOf x=some .cell\/env.kindOf x=some .free)/\∃c,env.cells.lookup x=some c/\h.IsCell c (some u))
structure Cx.Ok(X:Cx):Prop where
 mod:Mod X.K X.mg X.base
 kind:X.env.scope.kind=.function
 glob:X.env.globals=mainGlobals
 blt:X.env.builtins=builtinsNs
 above:X.s₀.heap.objs.size<=X.env.locals
 inj:∀x y c,X.env.cells.lookup x=some c->X.env.cells.lookup y=some c->x=y
 has:∀x,(X.env.kindOf x=some .cell\/X.env.kindOf x=some .free)->∃c,X.env.cells.lookup x=some c
 JV:∀x c,X.fn x=true->X.env.cells.lookup x=some c->X.s₀.heap.objs.size<=c
 hd:X.calm=true->X.A.handled=none
 frames:X.A.frames=some X.stack
 QN:X.stack=X.outer\/(X.stack=X.env::X.outer/\X.env.frame=some X.env.locals)
 RQ:∀b∈X.ex,b≠X.env.locals/\∀x c,X.env.cells.lookup x=some c->c≠b
 bs:∀b o,X.base.get? b=some o->X.s₀.heap.get? b=some o/\X.H₀ b=none
 xI:X.base.objs.size<=X.s₀.heap.objs.size
 rV:∀b o,X.base.get? b=some o->b∉X.ex
 rX:∀b∈X.ex,b∉X.fs
 iI:X.s₀.heap.FunFrames X.base X.outer
 DA:∀b∈X.fs,X.H₀ b=none
structure Am(X:Cx)(pins:List (Addr×Obj))(σ:List (Option V))(H:Hp)(s:qU):Prop where
 ok:X.Ok
 os:s.os=X.s₀.os
 bare:AllBare s.gens
 base:Un X.fs X.ex X.H₀ H X.s₀.heap s.heap
 loc:∃m,s.heap.Ns X.env.locals m/\∀(i:Nat) (x:Str) (v:V),X.N[i]?=some x->σ[i]?=some (some v)->zr X.env.scope x->∃u,B0 v u/\A1p X.env s.heap m x u
 cell:∀x c,X.env.cells.lookup x=some c->∃v,s.heap.IsCell c v
 free:H X.env.locals=none
 cP:∀x c,X.env.cells.lookup x=some c->H c=none
 pin:∀p∈X.pn++pins,s.heap.get? p.1=some p.2/\H p.1=none/\p.1≠X.env.locals/\p.1∉X.fs/\∀v,p.2.data≠ .cell v
 aK:Gm X.prog X.w H s.heap
 len:σ.length=X.N.length
section
variable {X:Cx}{pins:List (Addr×Obj)}{σ:List (Option V)}{H H':Hp}{s:qU}{h':Heap}
theorem Cx.Ok.nofr(ok:X.Ok){b:Addr}{o:Obj}(e:X.base.get? b=some o):b∉X.fs:=λa=>by
 have:=(ok.iI.mem a).1;rw[e]at this;cases this
theorem Am.bs(I:Am X pins σ H s):∀b o,X.base.get? b=some o->s.heap.get? b=some o/\H b=none:=λb o e=>
 ⟨I.base.keep b o (I.ok.bs b o e).1 (I.ok.bs b o e).2 (I.ok.nofr e) (I.ok.rV b o e),I.base.free b o (I.ok.bs b o e).1 (I.ok.bs b o e).2 (I.ok.rV b o e)⟩
theorem Am.bk(I:Am X pins σ H s):∀b o,X.base.get? b=some o->s.heap.get? b=some o:=λb o e=>(I.bs b o e).1
theorem Am.mod(I:Am X pins σ H s):Mod X.K X.mg X.base:=I.ok.mod
theorem Am.gZ(I:Am X pins σ H s):X.K.In s.heap:=I.ok.mod.fD.keeps I.bk
theorem Am.lt(I:Am X pins σ H s):X.env.locals<s.heap.objs.size:=let⟨_,a,_⟩:=I.loc;a.lt
theorem Am.sz(I:Am X pins σ H s):X.s₀.heap.objs.size<=s.heap.objs.size:=ea I.ok.above (nV I.lt)
theorem Am.nofs(I:Am X pins σ H s)(h:s.heap.objs.size<=a):a∉X.fs:=λb=>by
 obtain⟨_,o,c,_⟩:=I.ok.iI.mem b;exact absurd (fC (dt c) (ea I.sz h)) (Nat.lt_irrefl _)
theorem Am.DB(I:Am X pins σ H s):∀x c,X.env.cells.lookup x=some c->c≠X.env.locals:=λx c e z=>by
 obtain⟨v,o,b,a⟩:=I.cell x c e;obtain⟨m,⟨i,h,g,d,f,_⟩,_⟩:=I.loc;rw[z,d]at b;cases b;rw[f]at a;cases a
theorem Am.iI(I:Am X pins σ H s):s.heap.FunFrames X.base X.outer:=by
 have all:∀(l:List Env),(∀b∈jR l,b∈X.fs)->X.s₀.heap.FunFrames X.base l->s.heap.FunFrames X.base l:=by
  intro l
  induction l with
  |nil=>intro _ _;trivial
  |cons g r q=>
   intro f j;obtain⟨i,⟨L,o,d,m,n,h⟩,p⟩:=j;have a:L∈X.fs:=f L (by unfold jR;rw[List.filterMap_cons,d];exact dm);obtain⟨u,e⟩:=I.base.slot L o n (I.ok.DA L a) a λz=>I.ok.rX L z a;exact⟨i,⟨L,_,d,m,e,h⟩,q (λb c=>f b (by unfold jR;rw[List.filterMap_cons,d];exact d0 _ c)) p⟩
 exact all X.outer (λ_ c=>c) I.ok.iI
theorem Am.stack(I:Am X pins σ H s):s.heap.FunFrames X.base X.stack:=by
 rcases I.ok.QN with e|⟨e,a⟩
 ·rw[e];exact I.iI
 ·rw[e];obtain⟨m,b,_⟩:=I.loc;refine .cons (by rw[I.ok.kind];decide) a b ?_ I.iI;exact Heap.get?_none_of_le (ea I.ok.xI I.ok.above)
theorem Am.rY(I:Am X pins σ H s):∀b∈jR X.stack,b∈X.env.locals::X.fs:=λb a=>by
 rcases I.ok.QN with e|⟨e,c⟩
 ·rw[e]at a;exact d0 _ a
 ·rw[e]at a;unfold jR at a;rw[List.filterMap_cons,c]at a;exact a
theorem Am.gI(I:Am X pins σ H s):∀b∈jR X.stack,H b=none:=λb a=>by
 rcases eH.mp (I.rY b a)with e|a
 ·rw[e];exact I.free
 ·obtain⟨_,o,c,_⟩:=I.ok.iI.mem a;exact I.base.free b o c (I.ok.DA b a) λz=>I.ok.rX b z a
theorem Am.step{g':Array GenState}{t':Nat}{d':Drawn}{ch:List Addr}(I:Am X pins σ H s)
  (D:∀b∈ch,(b∈X.ex\/X.s₀.heap.objs.size<=b)/\b≠X.env.locals/\(∀x c,X.env.cells.lookup x=some c->c≠b)/\∀p∈X.pn++pins,p.1≠b)
  (keep:∀b o,b≠X.env.locals->b∉X.fs->b∉ch->s.heap.get? b=some o->H b=none->h'.get? b=some o)
  (j:∀b o,b≠X.env.locals->b∈X.fs->b∉ch->s.heap.get? b=some o->H b=none->∃G,h'.get? b=some {o with slots:=G})(free:∀b o,b∉ch->s.heap.get? b=some o->H b=none->H' b=none)
  (y:∀b o,b∉ch->s.heap.get? b=some o->∃E,h'.get? b=some E)
  (U:∀b xs,H b=some (.tup xs)->H' b=some (.tup xs))(Q:∀b o u,H b=some (.fB o u)->H' b=some (.fB o u))(Y:∀b ps,H b=some (.CH ps)->∃more,H' b=some (.CH (ps++more)))
  (ns:∀m,s.heap.Ns X.env.locals m->h'.Ns X.env.locals m)(O:Gm X.prog X.w H' h')(R:AllBare g'):
  Am X pins σ H' {s with heap:=h',gens:=g',drawn:=d',toks:=t'}:=by
 have J:∀b o,X.s₀.heap.get? b=some o->b≠X.env.locals:=λb o e=>ft (fC (dt e) I.ok.above)
 have h:∀b o,X.s₀.heap.get? b=some o->b∉X.ex->b∉ch:=λb o e a w=>by
  rcases(D b w).1 with z|z
  ·exact a z
  ·exact absurd (fC (dt e) z) (Nat.lt_irrefl _)
 have f:∀x c,X.env.cells.lookup x=some c->∀v,s.heap.IsCell c v->h'.IsCell c v:=λx c e v ⟨o,A,F⟩=>by
  have B:c∉ch:=λz=>(D c z).2.2.1 x c e rfl;by_cases K:c∈X.fs
  ·obtain⟨G,q⟩:=j c o (I.DB x c e) K B A (I.cP x c e);exact⟨_,q,F⟩
  ·exact⟨o,keep c o (I.DB x c e) K B A (I.cP x c e),F⟩
 refine⟨I.ok,I.os,R,⟨λb o e n w a=>?_,λb o e n w a=>?_,λb o e n a=>?_,λb o e a=>?_,λb xs e=>U b xs (I.base.iG b xs e),λb o xs e=>Q b o xs (I.base.gN b o xs e),λb ps e=>?_⟩,?_,λx c e=>?_,?_,λx c e=>?_,λp L=>?_,O,I.len⟩
 ·exact keep b o (J b o e) w (h b o e a) (I.base.keep b o e n w a) (I.base.free b o e n a)
 ·obtain⟨G,g⟩:=I.base.slot b o e n w a;obtain⟨N,C⟩:=j b _ (J b o e) w (h b o e a) g (I.base.free b o e n a);exact⟨N,C⟩
 ·obtain⟨E,g⟩:=I.base.there b o e a;exact free b E (h b o e a) g (I.base.free b o e n a)
 ·obtain⟨E,g⟩:=I.base.there b o e a;exact y b E (h b o e a) g
 ·obtain⟨m1,g⟩:=I.base.iH b ps e;obtain⟨Z,C⟩:=Y b _ g;exact⟨m1++Z,by rw[C,Array.append_assoc]⟩
 ·obtain⟨m,T,S⟩:=I.loc;refine⟨m,ns m T,λi x v g C P=>?_⟩;obtain⟨u,r,l⟩:=S i x v g C P;refine⟨u,r,?_⟩;rcases l with l|⟨k,c,e,z⟩
  ·exact .inl l
  ·exact .inr ⟨k,c,e,f x c e _ z⟩
 ·obtain⟨v,z⟩:=I.cell x c e;exact⟨v,f x c e v z⟩
 ·obtain⟨m,⟨o,_,_,A,_⟩,_⟩:=I.loc;exact free _ o (λz=>(D _ z).2.1 rfl) A I.free
 ·obtain⟨v,o,A,F⟩:=I.cell x c e;exact free c o (λz=>(D c z).2.2.1 x c e rfl) A (I.cP x c e)
 ·obtain⟨e,n,ne,M,d⟩:=I.pin p L;have B:p.1∉ch:=λz=>(D p.1 z).2.2.2 p L rfl;exact⟨keep p.1 p.2 ne M B e n,free p.1 p.2 B e n,ne,M,d⟩
theorem Am.un{t':Nat}(I:Am X pins σ H s)(u:Un X.fs [] H H' s.heap h')(g:Gm X.prog X.w H' h'):Am X pins σ H' {s with heap:=h',toks:=t'}:=by
 obtain⟨m,⟨o,q,p,c,r⟩,_⟩:=id I.loc;obtain⟨x,h⟩:=u.any c I.free (by simp)
 exact I.step (g':=s.gens) (d':=s.drawn) (ch:=[]) (λ_ z=>nomatch z) (λb o _ a _ e n=>u.keep b o e n a (by simp)) (λb o _ a _ e n=>u.slot b o e n a (by simp)) (λb o _ e n=>u.free b o e n (by simp)) (λb o _ e=>u.there b o e (by simp)) u.iG u.gN u.iH (λv i=>by
  obtain⟨w,f,l,d,j⟩:=i;rw[c]at d;cases d;exact⟨_,f,l,h,j⟩) g I.bare
theorem Am.call{g':Array GenState}{t':Nat}{d':Drawn}{ch:List Addr}(I:Am X pins σ H s)(u:Un (jR X.stack) ch H H' s.heap h')(j:Gm X.prog X.w H' h')(q:AllBare g')
  (f:∀b∈ch,(b∈X.ex\/X.s₀.heap.objs.size<=b)/\b≠X.env.locals/\(∀x c,X.env.cells.lookup x=some c->c≠b)/\∀p∈X.pn++pins,p.1≠b):
  Am X pins σ H' {s with heap:=h',gens:=g',drawn:=d',toks:=t'}:=by
 obtain⟨m,⟨o,B,A,g,r⟩,_⟩:=id I.loc;obtain⟨E,d⟩:=u.any g I.free λz=>(f _ z).2.1 rfl
 exact I.step (ch:=ch) f (λb o d l a e n=>u.keep b o e n (λz=>(eH.mp (I.rY b z)).elim d l) a) (λb o _ _ a e n=>u.any e n a) (λb o a e n=>u.free b o e n a) (λb o a e=>u.there b o e a) u.iG u.gN u.iH (λC v=>by
  obtain⟨D,i,y,h,w⟩:=v;rw[g]at h;cases h;exact⟨_,i,y,d,w⟩) j q
theorem Am.turned{t':Nat}(I:Am X pins σ H s)(k:∀b o,b≠it->s.heap.get? b=some o->h'.get? b=some o)(y:H it=none)(f:it≠X.env.locals)
  (h1:it∈X.ex\/X.s₀.heap.objs.size<=it)(i:∀x c,X.env.cells.lookup x=some c->c≠it)(j:∀p∈X.pn++pins,p.1≠it):Am X pins σ H {s with heap:=h',toks:=t'}:=by
 have d:∀b u,H b=some u->b≠it:=λb u e z=>by rw[z,y]at e;cases e
 refine I.step (g':=s.gens) (d':=s.drawn) (ch:=[it]) (λb l=>?_) (λb o _ _ a e _=>k b o (λz=>a (by simp[z])) e) (λb o _ _ a e _=>⟨o.slots,k b o (λz=>a (by simp[z])) e⟩) (λ_ _ _ _ n=>n)
  (λb o a e=>⟨o,k b o (λz=>a (by simp[z])) e⟩) (λ_ _ e=>e) (λ_ _ _ e=>e) (λb B e=>⟨#[],by rw[e];simp⟩) (λm w=>?_) (λb u e=>?_) I.bare
 ·have e:b=it:=by simpa using l
  subst e;exact⟨h1,f,i,j⟩
 ·obtain⟨o,h,g,A,r⟩:=w;exact⟨o,h,g,k _ o (Ne.symm f) A,r⟩
 ·refine(I.aK b u e).gY (λc v a q=>k c v ?_ q) (λ_ q=>q) λ_ _ q=>q;rcases a with z|z
  ·rw[z];exact d b u e
  ·exact d c _ z
theorem Am.tok(I:Am X pins σ H s)(t:Nat):Am X pins σ H {s with toks:=t}:=I.un (h':=s.heap) (t':=t) Un.refl I.aK
theorem Am.kept{t':Nat}(I:Am X pins σ H s)(k:∀b u,s.heap.get? b=some u->h'.get? b=some u):Am X pins σ H {s with heap:=h',toks:=t'}:=I.un (Un.kept k) (I.aK.kept k)
theorem Am.laid{t':Nat}(I:Am X pins σ H s)(k:∀b u,s.heap.get? b=some u->h'.get? b=some u)(c:s.heap.objs.size<=a)(new:Bl X.prog X.w (upd H a o) h' a o):
  Am X pins σ (upd H a o) {s with heap:=h',toks:=t'}:=I.un (Un.laid k c (I.aK.fresh c)) (I.aK.laid k c new)
theorem Am.write{t':Nat}(I:Am X pins σ H s)(c:zl (H x))(he:e=x\/H e=some (.own x))(k:∀b u,b≠e->s.heap.get? b=some u->h'.get? b=some u)(a:∃u,h'.get? e=some u)
  (new:Bl X.prog X.w (upd H x o) h' x o):Am X pins σ (upd H x o) {s with heap:=h',toks:=t'}:=I.un (Un.write c he k a) (I.aK.write c he k a new)
theorem Am.weak(I:Am X pins σ H s)(f:a.length=σ.length)(w:∀(i:Nat) v,a[i]?=some (some v)->σ[i]?=some (some v)):Am X pins a H s:=
 ⟨I.ok,I.os,I.bare,I.base,let⟨m,g,b⟩:=I.loc;⟨m,g,λi x v c d e=>b i x v c (w i v d) e⟩,I.cell,I.free,I.cP,I.pin,I.aK,f.trans I.len⟩
theorem Am.uL(I:Am X pins σ H s)(h:∀p∈a,s.heap.get? p.1=some p.2/\H p.1=none/\p.1≠X.env.locals/\p.1∉X.fs/\∀v,p.2.data≠ .cell v):Am X a σ H s:=
 ⟨I.ok,I.os,I.bare,I.base,I.loc,I.cell,I.free,I.cP,λp b=>(fF.mp b).elim (λz=>I.pin p (gy _ z)) (h p),I.aK,I.len⟩
theorem Ni{N:List Str}(e:N.Nodup){i j:Nat}(a:N[i]?=some x)(b:N[j]?=some x):i=j:=by
 obtain⟨f,c⟩:=cb.mp a;obtain⟨g,d⟩:=cb.mp b;exact(List.getElem_inj e).mp (c.trans d.symm)
theorem Pq{M:Model}{A:q5}{E:pQ}{i:Nat}{u:q3}{Q:Unit->qU->Prop}(I:Am X pins σ H s)(hN:X.N.Nodup)(N:X.N[i]?=some x)(B:zk X.env.scope x)(r:B0 v u)
  (h:∀s',Am X pins (σ.set i (some v)) H s'->(∃a,Heap.SameBut a s.heap s'.heap/\(a=X.env.locals\/X.env.cells.lookup x=some a))->Q () s')(hf:X.fn x=true\/X.env.scope.names.lookup x=some .local:=by first|exact .inl rfl|exact .inr rfl|assumption):wpAny M A (storeName X.env x u) Q E s:=by
 obtain⟨m,T,hl⟩:=id I.loc;have L:(X.env.scope.kind== .class||(X.env.scope.kind== .module&&X.env.locals != X.env.globals))=false:=by rw[I.ok.kind];rfl
 have D:i<σ.length:=by rw[I.len];exact(cb.mp N).1
 have DB:=I.DB
 have l:∀{a:Addr}{h':Heap},(∃o,s.heap.get? a=some o/\H a=none)->Heap.SameBut a s.heap h'->Gm X.prog X.w H h':=λ{a h'} ha f b ob e=>by
  obtain⟨_,_,mX⟩:=ha;refine(I.aK b ob e).gY (λc R w q=>(f.2 c ?_).trans q) (λ_ q=>q) λ_ _ q=>q;rintro rfl;rcases w with rfl|w
  ·rw[mX]at e;cases e
  ·rw[mX]at w;cases w
 rcases B with F|F
 ·refine wpAny_storeName_local F T (λh' U f=>?_) L;obtain⟨oL,_,_,xJ,_⟩:=id T;refine h _ ⟨I.ok,I.os,I.bare,⟨λb o e n G B=>?_,λb o e n G B=>?_,I.base.free,λb o e B=>?_,I.base.iG,I.base.gN,I.base.iH⟩,⟨_,U,λj y v' g C S=>?_⟩,λy c e=>?_,I.free,I.cP,λp Y=>?_,l ⟨oL,xJ,I.free⟩ f,by simpa using I.len⟩ ⟨_,f,.inl rfl⟩
  ·exact(f.2 b (ft (fC (dt e) I.ok.above))).trans (I.base.keep b o e n G B)
  ·obtain⟨sl,g⟩:=I.base.slot b o e n G B;exact⟨sl,(f.2 b (ft (fC (dt e) I.ok.above))).trans g⟩
  ·obtain⟨o',g⟩:=I.base.there b o e B;exact⟨o',(f.2 b (ft (fC (dt e) I.ok.above))).trans g⟩
  ·by_cases K:j=i
   ·subst K;rw[N]at g;cases g;rw[List.getElem?_set_self D]at C;cases C;exact⟨u,r,.inl ⟨F,by simp⟩⟩
   ·rw[List.getElem?_set_ne (Ne.symm K)]at C;obtain⟨u',r',q⟩:=hl j y v' g C S;refine⟨u',r',?_⟩;rcases q with⟨k,e⟩|⟨k,c,e,z⟩
    ·refine .inl ⟨k,?_⟩;have:y≠x:=λe=>K (Ni hN g (e▸N));simp[this,e]
    ·exact .inr ⟨k,c,e,z.sameBut f (DB y c e)⟩
  ·obtain⟨R,z⟩:=I.cell y c e;exact⟨R,z.sameBut f (DB y c e)⟩
  ·obtain⟨e,n,ne,Z,d⟩:=I.pin p Y;exact⟨(f.2 p.1 ne).trans e,n,ne,Z,d⟩
 ·have J:X.fn x=true:=by
   rcases hf with z|z
   ·exact z
   ·rw[z]at F;cases F
  obtain⟨c,w⟩:=I.ok.has x (.inl F);obtain⟨R,z⟩:=I.cell x c w;refine wpAny_storeName_cell I.ok.kind F w z (λh' oG f=>?_);obtain⟨oc,xQ,O⟩:=id z;refine h {s with heap:=h'} ⟨I.ok,I.os,I.bare,⟨λb o e n G B=>?_,λb o e n G B=>?_,I.base.free,λb o e B=>?_,I.base.iG,I.base.gN,I.base.iH⟩,⟨m,T.sameBut f (Ne.symm (DB x c w)),λj y v' g C S=>?_⟩,λy P e=>?_,I.free,I.cP,λp Y=>?_,l ⟨oc,xQ,I.cP x c w⟩ f,by simpa using I.len⟩ ⟨c,f,.inr w⟩
  ·exact(f.2 b (ft (fC (dt e) (I.ok.JV x c J w)))).trans (I.base.keep b o e n G B)
  ·obtain⟨sl,g⟩:=I.base.slot b o e n G B;exact⟨sl,(f.2 b (ft (fC (dt e) (I.ok.JV x c J w)))).trans g⟩
  ·obtain⟨o',g⟩:=I.base.there b o e B;exact⟨o',(f.2 b (ft (fC (dt e) (I.ok.JV x c J w)))).trans g⟩
  ·by_cases K:j=i
   ·subst K;rw[N]at g;cases g;rw[List.getElem?_set_self D]at C;cases C;exact⟨u,r,.inr ⟨.inl F,c,w,oG⟩⟩
   ·rw[List.getElem?_set_ne (Ne.symm K)]at C;obtain⟨u',r',q⟩:=hl j y v' g C S;refine⟨u',r',?_⟩;rcases q with q|⟨k,P,e,z'⟩
    ·exact .inl q
    ·refine .inr ⟨k,P,e,z'.sameBut f ?_⟩;rintro rfl;exact K (Ni hN g (I.ok.inj _ _ _ e w▸N))
  ·by_cases JW:P=c
   ·subst JW;exact⟨_,oG⟩
   ·obtain⟨w2,z2⟩:=I.cell y P e;exact⟨w2,z2.sameBut f JW⟩
  ·obtain⟨e,n,ne,Z,d⟩:=I.pin p Y;refine⟨(f.2 p.1 ?_).trans e,n,ne,Z,d⟩;intro q;rw[q,xQ]at e;have q':oc=p.2:=en e;exact d R (by rw[<- q'];exact O)
theorem Jq(I:Am X pins σ H s)(b:X.N.Nodup)(d:X.N[i]?=some x)(e:zk X.env.scope x)(r:B0 v u)
  (h:∀s',Am X pins (σ.set i (some v)) H s'->Q () s')(c:X.fn x=true\/X.env.scope.names.lookup x=some .local:=by first|exact .inl rfl|exact .inr rfl|assumption):wpAny M A (storeName X.env x u) Q E s:=
 Pq I b d e r (λs' a _=>h s' a) c
theorem Am.EZ(I:Am X pins σ H s)(i:s'.os=s.os)(u:Un (jR X.stack) ch H H' s.heap s'.heap)(a:Gm X.prog X.w H' s'.heap)(h:AllBare s'.gens)
  (g:∀b∈ch,(b∈X.ex\/X.s₀.heap.objs.size<=b)/\b≠X.env.locals/\(∀x c,X.env.cells.lookup x=some c->c≠b)/\∀p∈X.pn++pins,p.1≠b):Am X pins σ H' s':=by
 obtain⟨h',f,d,l,j⟩:=s';have e:j=s.os:=i;subst e;exact I.call (g':=f) (t':=l) (d':=d) u a h g
end
abbrev XK:=q3->Option Addr->Hp->Prop
abbrev St:=List (Option V)
abbrev VK:=V->Hp->Prop
abbrev TE:=St->Hp->VK->Prop
abbrev TT:=St->Hp->(Bool->Hp->Prop)->Prop
abbrev TA:=St->Hp->(List V->Hp->Prop)->Prop
set_option genInjectivity false in
set_option genSizeOf false in
structure Hq where
 nx:St->Hp->Prop
 rt:VK
 bk:St->Hp->Prop:=λ_ _=>False
 ct:St->Hp->Prop:=λ_ _=>False
abbrev TS:=Hq->St->Hp->Prop
def EP(X:Cx)(a:List (Addr×Obj))(c:St)(Q:VK)(u:q3)(s':qU):Prop:=∃v b,Am X a c b s'/\B0 v u/\Q v b
def TP(X:Cx)(a:List (Addr×Obj))(d:St)(Q:Bool->Hp->Prop)(b:Bool)(s':qU):Prop:=∃c,Am X a d c s'/\Q b c
def AP(X:Cx)(a:List (Addr×Obj))(d:St)(Q:List V->Hp->Prop)(us:List q3)(s':qU):Prop:=∃c b,Am X a d b s'/\Ay c us/\Q c b
def SP(X:Cx)(b:List (Addr×Obj))(D:Hq)(f:Flow)(s':qU):Prop:=
 match f with
 | .next=>∃a c,Am X b a c s'/\D.nx a c
 | .brk=>∃a c,Am X b a c s'/\D.bk a c
 | .cont=>∃a c,Am X b a c s'/\D.ct a c
 | .ret u=>∃v a c,Am X b a c s'/\B0 v u/\D.rt v c
def PE(X:Cx)(e:Expr)(t:TE):Prop:=
 ∀(a:List (Addr×Obj)) (s:qU) (b:St) (H:Hp) (Q:VK),Am X a b H s->t b H Q->wpAny (model X.prog X.w) X.A (eval e X.env) (EP X a b Q) X.xe s
def PT(X:Cx)(e:Expr)(t:TT):Prop:=
 ∀(a:List (Addr×Obj)) (s:qU) (b:St) (H:Hp) (Q:Bool->Hp->Prop),Am X a b H s->t b H Q->wpAny (model X.prog X.w) X.A (isTrue e X.env (eval e X.env)) (TP X a b Q) X.xe s
def PW(X:Cx)(e:Expr)(t:TT):Prop:=
 ∀(b:Sem q3) (a:List (Addr×Obj)) (s:qU) (c:St) (H:Hp) (Q:Bool->Hp->Prop),Am X a c H s->t c H Q->wpAny (model X.prog X.w) X.A (isTrue e X.env b) (TP X a c Q) X.xe s
theorem PW.pt{t:TT}(h:PW X e t):PT X e t:=h _
def PA(X:Cx)(es:List Expr)(t:TA):Prop:=
 ∀(pos:Pos) (a:List (Addr×Obj)) (s:qU) (b:St) (H:Hp) (Q:List V->Hp->Prop),Am X a b H s->t b H Q->wpAny (model X.prog X.w) X.A (spliced (backTo pos (starEach es X.env))) (AP X a b Q) X.xe s
def PS(X:Cx)(st:Stmt)(t:TS):Prop:=
 ∀(a:List (Addr×Obj)) (s:qU) (b:St) (H:Hp) (D:Hq),Am X a b H s->t D b H->wpAny (model X.prog X.w) X.A (exec st X.env) (SP X a D) X.xe s
def O6(X:Cx)(st:List Stmt)(t:TS):Prop:=
 ∀(a:List (Addr×Obj)) (s:qU) (b:St) (H:Hp) (D:Hq),Am X a b H s->t D b H->wpAny (model X.prog X.w) X.A (execs st X.env) (SP X a D) X.xe s
theorem Br{t:Sem c}(h:wpAny M A t Q E s)(d:∀a s,Q a s->b a s):wpAny M A t b E s:=iv h d λ_ _ x=>x
section
variable {X:Cx}
def A1j(i:Nat):TE:=λa H Q=>∃v,a[i]?=some (some v)/\Q v H
def tC(v:V):TE:=λ_ H Q=>Q v H
theorem we{pos:Pos}(n:X.N[i]?=some x)(w:zr X.env.scope x)(f:(x==("__debug__":Str))=false:=by decide)(y:(x==("__classdict__":Str))=false:=by decide):PE X (.Name x pos) (A1j i):=by
 intro d s z H Q I h;obtain⟨v,e,h⟩:=h;obtain⟨m,q,o⟩:=I.loc;obtain⟨u,r,l⟩:=o i x v n e w;have a:EP X d z Q u s:=⟨v,H,I,r,h⟩;rcases l with⟨b,p⟩|⟨b,c,g,j⟩
 ·exact wpAny_Name (wpAny_loadName_local I.ok.kind b q p a) f
 ·rcases b with b|b
  ·exact wpAny_Name (wpAny_loadName_cell I.ok.kind b g j a) f
  ·exact wpAny_Name (wpAny_loadName_free I.ok.kind b g j a y) f
theorem A7{i j pos}:PE X (.Constant (.int i) j pos) (tC (.int i)):=λ_ _ _ H _ I h=>wpAny_Constant_int ⟨.int i,H,I.tok _,⟨_,rfl⟩,h⟩
theorem Fi{b j pos}:PE X (.Constant (.bool b) j pos) (tC (.bl b)):=λ_ _ _ H _ I h=>Constant_bool ⟨.bl b,H,I,rfl,h⟩
theorem Bj{j pos}:PE X (.Constant .none j pos) (tC .bN):=λ_ _ _ H _ I h=>Constant_none ⟨.bN,H,I,rfl,h⟩
theorem Ah{x j pos}:PE X (.Constant (.str x) j pos) (tC (.str x)):=λ_ _ _ H _ I h=>Calls.Constant_str ⟨.str x,H,I.tok _,⟨_,rfl⟩,h⟩
def Gl(X:Cx)(x:Str):Prop:=X.env.kindOf x=some .globalImplicit
theorem Ja{pos:Pos}(I:Am X a e H s)(c:Gl X x)(d:X.mg x=some u)(h:Q u s)
  (b:(x==("__debug__":Str))=false:=by decide):wpAny (model X.prog X.w) X.A (eval (.Name x pos) X.env) Q E s:=
 Calls.Name_function_global I.ok.kind c (Calls.loadGlobal_global (by rw[I.ok.glob];exact I.mod.glob.keeps I.bk) d h) b
theorem E9{pos:Pos}(I:Am X a j H s)(e:Gl X x)(f:X.mg x=none)(i:bootBuiltins x=some u)(h:Q u s)
  (g:x≠"__name__":=by decide)(d:(x==("__debug__":Str))=false:=by decide):wpAny (model X.prog X.w) X.A (eval (.Name x pos) X.env) Q E s:=by
 obtain⟨l,b,c⟩:=I.mod.blt;exact Calls.Name_function_global I.ok.kind e (Calls.loadGlobal_builtin (by rw[I.ok.glob];exact I.mod.glob.keeps I.bk) f (by rw[I.ok.blt];exact b.keeps I.bk) ((c x g).trans i) h) d
theorem C5{pos:Pos}(b:Gl X x)(c:X.mg x=some u)(r:B0 v u)(a:(x==("__debug__":Str))=false:=by decide):PE X (.Name x pos) (tC v):=
 λ_ _ _ H _ I h=>Ja I b c ⟨v,H,I,r,h⟩ a
theorem mj{pos:Pos}(b:Gl X x)(c:X.mg x=none)(e:bootBuiltins x=some u)(r:B0 v u)(d:x≠"__name__":=by decide)(a:(x==("__debug__":Str))=false:=by decide):PE X (.Name x pos) (tC v):=
 λ_ _ _ H _ I h=>E9 I b c e ⟨v,H,I,r,h⟩ d a
variable {a b:Expr}{ta tb:TE}{pos:Pos}
def PC(X:Cx)(op:CmpOp)(a b:Expr)(t:TE):Prop:=
 ∀(c:List (Addr×Obj)) (s:qU) (f:St) (H:Hp) (Q:VK),Am X c f H s->t f H Q->
  wpAny (model X.prog X.w) X.A (eval a X.env) (λv d=>wpAny (model X.prog X.w) X.A (eval b X.env) (λu e=>wpAny (model X.prog X.w) X.A (compareOp op v u) (EP X c f Q) X.xe e) X.xe d) X.xe s
def tB(t:TE):TT:=λe H Q=>t e H λx d=>∃c,x=.bl c/\Q c d
theorem R3{t:TE}(h:PC X op a b t)(h1:behindInMarks op b=false:=by first|exact RU _ (by decide) (by decide)|rfl):PT X (.Compare a [op] [b] pos) (tB t):=by
 intro e s n H Q I j;refine wpAny_isTrue_Compare1 (Br (h e s n H _ I j) λv o h1=>Br h1 λu p i=>Br i λc r ⟨x,f,g,m,l⟩=>?_) h1;obtain⟨d,rfl,q⟩:=l;cases m;exact i0 ⟨f,g,q⟩
theorem Bk{t:TE}(h:PE X e t)(he:∀c,isTrue e X.env c=(do let v <- c;standAt e.pos;holding [v] (truthy v)):=by intro _;rfl):PT X e (tB t):=by
 intro f s n H Q I j;refine isTrue_plain (Br (h f s n H _ I j) λv o ⟨x,g,i,m,l⟩=>?_) (he _);obtain⟨d,rfl,q⟩:=l;cases m;exact i0 ⟨g,i,q⟩
variable {tA CJ:TT}{rest:List Expr}
def A2h(t:TT):TT:=λe H Q=>t e H λc d=>Q (!c) d
theorem Et(f:PT X a tA):PW X (.BoolOp .And [a] pos) tA:=by
 intro j d s g H Q I h;refine isTrue_and (Br (f d s g H Q I h) λc i e=>?_);cases c with
 |true=>exact isTrue_and_nil e
 |false=>exact e
theorem Ee(f:PT X a tA):PW X (.BoolOp .Or [a] pos) tA:=by
 intro j d s g H Q I h;refine isTrue_or (Br (f d s g H Q I h) λc i e=>?_);cases c with
 |false=>exact isTrue_or_nil e
 |true=>exact e
theorem D9(f:PT X a tA):PT X (.UnaryOp .Not a pos) (A2h tA):=by
 intro d s g H Q I h;exact isTrue_not (f d s g H (λc e=>Q (!c) e) I h)
theorem Hb{op}{t:TE}(h:PE X a t):PE X (.BoolOp op [a] pos) t:=λc s e H Q I d=>BoolOp_one (h c s e H Q I d)
def tIf(t:TT)(ta tb:TE):TE:=λd H Q=>t d H λc e=>if c=true then ta d e Q else tb d e Q
theorem Nm(p:PT X c tA)(n:PE X a ta)(o:PE X b tb):PE X (.IfExp c a b pos) (tIf tA ta tb):=by
 intro e s f H Q I h;refine wpAny_IfExp (Br (p e s f H _ I h) λd l m=>?_);obtain⟨g,i,j⟩:=m;cases d with
 |true=>exact n e l f g Q i j
 |false=>exact o e l f g Q i j
end
def Aq(K:W.Frag)(H:Hp)(a:Addr)(xs:List V):Prop:=
 Rd H a (.lst xs)\/
  ∃(o:Obj) (b:Array q3) (n:Nat),K.lookup a=some o/\o.cls=.type "list"/\o.dict=none/\o.data=.seq b n/\b.size<=sizeLine/\Ay xs b.toList
def Cf(K:W.Frag)(H:Hp)(a:Addr)(xs:List V):Prop:=
 Rd H a (.tup xs)\/
  ∃(o:Obj) (b:Array q3) (n:Nat),K.lookup a=some o/\o.cls=.type "tuple"/\o.data=.seq b n/\b.size<=sizeLine/\Ay xs b.toList
def A1s:q3->Option V
 | .none=>some .bN
 | .bool b=>some (.bl b)
 | .int i _=>some (.int i)
 | .str x _=>some (.str x)
 | .bytes b _=>some (.uK b)
 | .float b _=>some (.JU b)
 | .ref a=>some (.ref a)
 | .type n=>some (.ty n)
 |_=>none
theorem B0.abs(r:B0 x u):A1s u=some x:=by
 cases x with
 |bN=>cases r;rfl
 |bl _=>cases r;rfl
 |int _=>obtain⟨t,rfl⟩:=r;rfl
 |str _=>obtain⟨t,rfl⟩:=r;rfl
 |uK _=>obtain⟨t,rfl⟩:=r;rfl
 |JU _=>obtain⟨t,rfl⟩:=r;rfl
 |ref _=>cases r;rfl
 |ty _=>cases r;rfl
theorem B0.inj(r:B0 x u)(q:B0 y u):x=y:=en (r.abs.symm.trans q.abs)
theorem Ay.inj(h:Ay xs us)(g:Ay ys us):xs=ys:=by
 induction h generalizing ys with
 |nil=>
  cases g;rfl
 |cons r t a=>
  cases g with
  |cons b c=>rw[r.inj b,a c]
section
variable {X:Cx}{pins:List (Addr×Obj)}{σ:St}{H:Hp}{s:qU}{a:Addr}{xs ys:List V}
theorem Aq.of{K:W.Frag}(h:H a=some (.lst xs)):Aq K H a xs:=.inl (.inl h)
theorem Cf.of{K:W.Frag}(h:H a=some (.tup xs)):Cf K H a xs:=.inl (.inl h)
theorem Am.list(I:Am X pins σ H s)(h:Aq X.K H a xs):∃b:List q3,Ay xs b/\PlainL s.heap a b.toArray/\xs.length<=sizeLine:=by
 rcases h with h|⟨o,b,n,f,c,d,g,i,r⟩
 ·obtain⟨z,b,n,r,e⟩:=h.ok I.aK;exact⟨b,r,⟨_,n,e,rfl,rfl,rfl⟩,z⟩
 ·refine⟨b.toList,r,⟨o,n,I.gZ a o f,c,d,by simpa using g⟩,?_⟩;have e:=r.length;simp only[Array.length_toList]at e;omega
theorem Am.tuple(I:Am X pins σ H s)(h:Cf X.K H a xs):∃b:List q3,Ay xs b/\IsTup s.heap a b.toArray/\xs.length<=sizeLine:=by
 rcases h with h|⟨o,b,n,d,c,f,g,r⟩
 ·obtain⟨z,b,r,p⟩:=h.ok I.aK;exact⟨b,r,p,z.1⟩
 ·refine⟨b.toList,r,⟨o,I.gZ a o d,c,n,by simpa using f⟩,?_⟩;have e:=r.length;simp only[Array.length_toList]at e;omega
theorem Am.qN(I:Am X pins σ H s)(h:Aq X.K H a xs)(h':Aq X.K H a ys):xs=ys:=by
 obtain⟨g,r,⟨o,n,e,_,_,d⟩,_⟩:=I.list h;obtain⟨b,j,⟨m,l,f,_,_,c⟩,_⟩:=I.list h';rw[e]at f;cases f;rw[d]at c;injection c with i _;have:g=b:=by simpa using congrArg Array.toList i
 subst this;exact r.inj j
theorem Am.oH(I:Am X pins σ H s)(h:Cf X.K H a xs)(h':Cf X.K H a ys):xs=ys:=by
 obtain⟨g,r,⟨o,e,_,n,d⟩,_⟩:=I.tuple h;obtain⟨b,j,⟨m,f,_,l,c⟩,_⟩:=I.tuple h';rw[e]at f;cases f;rw[d]at c;injection c with i _;have:g=b:=by simpa using congrArg Array.toList i
 subst this;exact r.inj j
end
abbrev Cx.nR(X:Cx)(E:pQ):Cx:={X with xe:=E}
abbrev Cx.QP(X:Cx):Cx:=X.nR λ_ _=>False
theorem Cx.Ok.nR{X:Cx}(ok:X.Ok)(E:pQ):(X.nR E).Ok:=
 ⟨ok.mod,ok.kind,ok.glob,ok.blt,ok.above,ok.inj,ok.has,ok.JV,ok.hd,ok.frames,ok.QN,ok.RQ,ok.bs,ok.xI,ok.rV,ok.rX,ok.iI,ok.DA⟩
theorem Cx.Ok.fX{X:Cx}{E:pQ}(ok:(X.nR E).Ok):X.Ok:=
 ⟨ok.mod,ok.kind,ok.glob,ok.blt,ok.above,ok.inj,ok.has,ok.JV,ok.hd,ok.frames,ok.QN,ok.RQ,ok.bs,ok.xI,ok.rV,ok.rX,ok.iI,ok.DA⟩
section
variable {X:Cx}{pins:List (Addr×Obj)}{σ:St}{H:Hp}{s:qU}{E:pQ}
theorem Am.nR(I:Am X pins σ H s)(E:pQ):Am (X.nR E) pins σ H s:=⟨I.ok.nR E,I.os,I.bare,I.base,I.loc,I.cell,I.free,I.cP,I.pin,I.aK,I.len⟩
theorem Am.fX(I:Am (X.nR E) pins σ H s):Am X pins σ H s:=⟨I.ok.fX,I.os,I.bare,I.base,I.loc,I.cell,I.free,I.cP,I.pin,I.aK,I.len⟩
theorem SP.fX(h:SP (X.nR E) pins D f s'):SP X pins D f s':=by
 cases f with
 |next=>obtain⟨a,b,I,q⟩:=h;exact⟨a,b,I.fX,q⟩
 |brk=>obtain⟨a,b,I,q⟩:=h;exact⟨a,b,I.fX,q⟩
 |cont=>obtain⟨a,b,I,q⟩:=h;exact⟨a,b,I.fX,q⟩
 |ret u=>obtain⟨v,a,b,I,r,q⟩:=h;exact⟨v,a,b,I.fX,r,q⟩
theorem O6.QP{st:List Stmt}{t:TS}(h:O6 X.QP st t):O6 X st t:=λpins s σ H D I a=>
 iv (h pins s σ H D (I.nR _) a) (λ_ _ q=>q.fX) λ_ _ z=>False.elim z
end
section
variable {X:Cx}{st:Stmt}{rest:List Stmt}{t u:TS}{e:Expr}{te:TE}{pos:Pos}
def A1f:TS:=λD a H=>D.nx a H
def A2m(t u:TS):TS:=λD a H=>t {D with nx:=u D} a H
theorem Ae:O6 X [] A1f:=λ_ _ a H _ I h=>wpAny_execs_nil ⟨a,H,I,h⟩
theorem A3(h1:PS X st t)(g:O6 X rest u):O6 X (st::rest) (A2m t u):=by
 intro a s j H D I h;refine wpAny_execs_cons (Br (h1 a s j H {D with nx:=u D} I h) λf i q=>?_);cases f with
 |next=>
  obtain⟨b,c,d,q⟩:=q;exact g a i b c D d q
 |ret v=>exact q
 |brk=>exact q
 |cont=>exact q
theorem A5(h1:PS X st t):O6 X [st] t:=by
 intro a s b H D I h;refine wpAny_execs_cons (Br (h1 a s b H D I h) λf c q=>?_);cases f with
 |next=>exact wpAny_execs_nil q
 |ret v=>exact q
 |brk=>exact q
 |cont=>exact q
theorem Am.quiet(I:Am X a b H s):interactive X.env=false:=by simp[interactive,I.ok.kind]
def A1c(te:TE):TS:=λD a H=>te a H λ_ b=>D.nx a b
theorem Cs(he:PE X e te)(f:swapsWith e none pos.line X.env=pure false:=by rfl):PS X (.Expr e pos) (A1c te):=by
 intro a s b H D I h;exact wpAny_Expr_any (Br (he a s b H _ I h) λv j ⟨x,c,d,i,g⟩=>⟨b,c,d,g⟩) I.quiet f
def A2l(te:TE):TS:=λD a H=>te a H D.rt
theorem Ab(he:PE X e te):PS X (.Return (some e) pos) (A2l te):=by
 intro a s b H D I h;exact wpAny_Return_some (Br (he a s b H _ I h) λv i ⟨x,c,d,g,f⟩=>⟨x,b,c,d,g,f⟩)
def A2f(c:TT)(t u:TS):TS:=λD a H=>c a H λb d=>if b=true then t D a d else u D a d
theorem Az(r:PT X c n)(p:O6 X a t)(q:O6 X b u):PS X (.If c a b pos) (A2f n t u):=by
 intro f s g H D I h;refine wpAny_If (Br (r f s g H _ I h) λd m o=>?_);obtain⟨i,j,l⟩:=o;cases d with
 |true=>exact p f m g i D j l
 |false=>exact q f m g i D j l
def yi:TS:=λ_ _ _=>False
theorem D7:PS X st yi:=λ_ _ _ _ _ _ h=>h.elim
end
abbrev TG:=V->St->Hp->(St->Hp->Prop)->Prop
abbrev ju:=List V->St->Hp->(St->Hp->Prop)->Prop
def PG(X:Cx)(a:Expr)(t:TG):Prop:=
 ∀(b:List (Addr×Obj)) (s:qU) (e:St) (H:Hp) (v:V) (u:q3) (Q:St->Hp->Prop),Am X b e H s->B0 v u->t v e H Q->
  wpAny (model X.prog X.w) X.A (assign a X.env u) (λ_ f=>∃c d,Am X b c d f/\Q c d) X.xe s
def za(X:Cx)(h:List Expr)(t:ju):Prop:=
 ∀(a:List (Addr×Obj)) (s:qU) (f:St) (H:Hp) (e:List V) (d:List q3) (Q:St->Hp->Prop),Am X a f H s->Ay e d->t e f H Q->
  wpAny (model X.prog X.w) X.A (assignInOrder ((assignEach h X.env).map (·.2)) d) (λ_ g=>∃b c,Am X a b c g/\Q b c) X.xe s
abbrev qh:=V->V->V->Hp->(Hp->Prop)->Prop
def zo(X:Cx)(t:qh):Prop:=
 ∀(a:List (Addr×Obj)) (s:qU) (e:St) (H:Hp) (o i v:V) (d c u:q3) (Q:Hp->Prop),Am X a e H s->B0 o d->B0 i c->B0 v u->t o i v H Q->
  wpAny (model X.prog X.w) X.A (setItem d c u) (λ_ f=>∃b,Am X a e b f/\Q b) X.xe s
abbrev TIp:=V->V->Hp->VK->Prop
def PIp(X:Cx)(op:Operator)(t:TIp):Prop:=
 ∀(a:List (Addr×Obj)) (s:qU) (b:St) (H:Hp) (x y:V) (v u:q3) (Q:VK),Am X a b H s->B0 x v->B0 y u->t x y H Q->
  wpAny (model X.prog X.w) X.A (inplaceOp op v u) (EP X a b Q) X.xe s
section
variable {X:Cx}{pos:Pos}
def J2(i:Nat):TG:=λv a H Q=>Q (a.set i (some v)) H
theorem Aj(c:X.N.Nodup)(e:X.N[i]?=some x)(f:zk X.env.scope x)(d:X.fn x=true\/X.env.scope.names.lookup x=some .local:=by first|exact .inl rfl|exact .inr rfl|assumption):PG X (.Name x pos) (J2 i):=by
 intro a s j H v u Q I r h;exact wpAny_assign_Name (Jq I c e f r (λg b=>⟨_,H,b,h⟩) d)
def zx:ju:=λa b H Q=>a=[]/\Q b H
def ao(t:TG)(u:ju):ju:=λc d H Q=>∃v r,c=v::r/\t v d H λa b=>u r a b Q
theorem Df:za X [] zx:=by
 intro a s b H d c Q I r h;obtain⟨e,h⟩:=h;subst e;cases r;exact assignInOrder_nil ⟨b,H,I,h⟩
theorem Ba{t:TG}(h1:PG X e t)(i:za X es u)
  (j:(assignEach (e::es) X.env).map (·.2)=assign e X.env::(assignEach es X.env).map (·.2):=by rfl):za X (e::es) (ao t u):=by
 intro a s o H w p Q I r h;obtain⟨v,q,g,h⟩:=h;subst g;cases r with
 |cons r m=>
  rw[j];refine assignInOrder_cons (Br (h1 a s o H _ _ _ I r h) λ_ n f=>?_);obtain⟨b,c,d,l⟩:=f;exact i a n b c _ _ Q d m l
def r9(K:W.Frag)(n:Nat)(t:ju):TG:=λv c H Q=>∃a b,v=.ref a/\Cf K H a b/\b.length=n/\t b c H Q
theorem wf{k:Nat}{t:ju}(m:X.calm=true)(h:za X es t)
  (q:(assignEach es X.env).length=n:=by rfl)(j:(assignEach es X.env).findIdx? (·.1)=none:=by rfl):PG X (.Tuple es k pos) (r9 X.K n t):=by
 intro c s f H v u Q I r d;obtain⟨a,z,i,w,p,d⟩:=d;subst i;cases r;obtain⟨A,rv,x,B⟩:=I.tuple w;refine assign_Tuple_tuple (I.ok.hd m) x (by simp[q,<- p,rv.length]) j λl y=>?_;have g:Am X c f H {s with heap:=l}:=I.kept (t':=s.toks) λb o e=>y b o (ft (dt e)) e;exact h c _ f H z _ Q g (by simpa using rv) d
def A1w(f e:TE)(t:qh):TG:=λv a H Q=>f a H λo b=>e a b λi c=>t o i v c λd=>Q a d
theorem No{t:qh}(A:PE X o g)(z:PE X i f)(B:zo X t)
  (w:∀v,assign (.Subscript o i pos) X.env v=(do
   let b <- holding [v] (eval o X.env);let d <- holding [v,b] (eval i X.env)
   standAt pos
   holding [v,b,d] (setItem b d v)
   release [v,b,d] []):=by intro _;rfl):PG X (.Subscript o i pos) (A1w g f t):=by
 intro a s e H v u Q I r h;rw[w];refine aN (fY (Br (A a s e H _ I h) λb J c=>?_));obtain⟨x,j,n,F,C⟩:=c;refine aN (fY (Br (z a J e j _ n C) λd K c=>?_));obtain⟨y,l,p,G,D⟩:=c;refine aN (wpAny_standAt (aN (fY (Br (B a K e l x y v b d u _ p F G r D) λ_ L c=>?_))));obtain⟨m,q,E⟩:=c;exact wpAny_release ⟨e,m,q,E⟩
def A17(c:TE)(g:TG):TS:=λD a H=>c a H λx b=>g x a b D.nx
theorem Ig(he:PE X e c)(j:PG X b g)(l:swapsWithSole [b] e pos.line X.env=pure false:=by rfl)(m:swappedStores [b] e X.env=pure none:=by rfl)
  (h1:(assignEach [b] X.env).map (·.2)=[assign b X.env]:=by rfl):PS X (.Assign [b] e pos) (A17 c g):=by
 intro a s d H D I h;refine wpAny_Assign_stores (Br (he a s d H _ I h) λv p ⟨x,f,i,o,n⟩=>?_) l m;rw[h1];exact Br (j a p d f x v _ i o n) λ_ r q=>q
theorem Ad(j:X.N.Nodup)(m:X.N[i]?=some x)(o:zk X.env.scope x)(he:PE X e c)(n:swapsWith e (some (.Name x a)) pos.line X.env=pure false:=by rfl)(l:X.fn x=true\/X.env.scope.names.lookup x=some .local:=by first|exact .inl rfl|exact .inr rfl|assumption):
  PS X (.Assign [.Name x a] e pos) (A17 c (J2 i)):=by
 intro b s r H D I h;refine wpAny_Assign_Name (Br (he b s r H _ I h) λv u ⟨y,d,f,q,p⟩=>?_) n;exact Jq f j m o q (λw g=>⟨_,d,g,p⟩) l
def A29(i:Nat)(d:TE)(e:TIp):TS:=λD a H=>∃x,a[i]?=some (some x)/\d a H λy b=>e x y b λz c=>D.nx (a.set i (some z)) c
theorem cx(M:X.N.Nodup)(q:X.N[i]?=some x)(n:zk X.env.scope x)(he:PE X e A)(S:PIp X op B)(O:X.fn x=true\/X.env.scope.names.lookup x=some .local:=by first|exact .inl rfl|exact .inr rfl|assumption):
  PS X (.AugAssign (.Name x d) op e pos) (A29 i A B):=by
 intro a s C H D I h;obtain⟨v,L,h⟩:=h;obtain⟨m,R,P⟩:=I.loc;have o:zr X.env.scope x:=by rcases n with k|k;exact .inl k;exact .inr (.inl k)
 obtain⟨u,r,l⟩:=P i x v q L o;refine wpAny_AugAssign_Name ?_
 have p:wpAny (model X.prog X.w) X.A (eval e X.env) (λw f=>wpAny (model X.prog X.w) X.A (inplaceOp op u w) (λr g=>wpAny (model X.prog X.w) X.A (storeName X.env x r) (λ_=>SP X a D .next) X.xe g) X.xe f) X.xe s:=by
  refine Br (he a s C H _ I h) λw s1 j=>?_;obtain⟨y,E,G,Z,U⟩:=j;refine Br (S a s1 C E v y u w _ G r Z U) λz s2 j=>?_;obtain⟨zv,F,J,r2,Y⟩:=j;exact Jq J M q n r2 (λs3 K=>⟨_,F,K,Y⟩) O
 rcases l with⟨b,Q⟩|⟨b,c,N,T⟩
 ·exact wpAny_loadName_local I.ok.kind b R Q p
 ·rcases b with b|b
  ·exact wpAny_loadName_cell I.ok.kind b N T p
  ·rcases n with k|k
   ·have:X.env.scope.names.lookup x=some .free:=b;rw[k]at this;cases this
   ·have:X.env.scope.names.lookup x=some .free:=b;rw[k]at this;cases this
def ipI(f:Int->Int->Int):TIp:=λx y H Q=>∃i j,x=.int i/\y=.int j/\Q (.int (f i j)) H
theorem ay:PIp X .Add (ipI λi j=>i+j):=by
 intro a s g H x y v u Q I d e h;obtain⟨i,j,b,c,q⟩:=h;subst b;subst c;obtain⟨t,rfl⟩:=d;obtain⟨f,rfl⟩:=e;exact iadd_int ⟨.int _,H,I.tok _,⟨_,rfl⟩,q⟩
end
section
variable {X:Cx}{pos:Pos}
def jp(c:TT)(h:TS):TS:=λD a H=>∃W:Nat->St->Hp->Prop,(∃m,W m a H)/\∀m a H,W m a H->
 c a H λb f=>if b=true then∃N:St->Hp->Prop,(∀d e,N d e->∃g,g<m/\W g d e)/\h {D with nx:=N,ct:=N,bk:=D.nx} a f else D.nx a f
theorem Nr(C:PassesOwn (model X.prog X.w) X.A X.env X.xe)(L:PT X c F)(K:O6 X g E):PS X (.While c g [] pos) (jp F E):=by
 intro a s S H D I h;obtain⟨W,⟨m0,Q⟩,j⟩:=h;refine wpAny_While (codeAny_whileLoop (λn M=>∃l x,Am X a l x M/\W n l x) ?_ m0 ⟨S,H,I,Q⟩);rintro n O ⟨e,y,G,R⟩;refine wpAny_passesOwn C (Br (L a O e y _ G (j n e y R)) λb P J=>?_);obtain⟨z,A,m⟩:=J;cases b with
 |true=>
  obtain⟨N,B,m⟩:=m;rw[if_pos rfl];refine wpAny_passesOwn C (Br (K a P e z _ A m) λf T o=>?_);cases f with
  |next=>
   obtain⟨d,i,p,u⟩:=o;obtain⟨r,q,w⟩:=B d i u;exact⟨r,q,d,i,p,w⟩
  |cont=>
   obtain⟨d,i,p,u⟩:=o;obtain⟨r,q,w⟩:=B d i u;exact⟨r,q,d,i,p,w⟩
  |brk=>exact o
  |ret v=>exact o
 |false=>
  rw[if_neg Bool.false_ne_true];exact wpAny_execs_nil ⟨e,z,A,m⟩
end
set_option genInjectivity false in
set_option genSizeOf false in
structure It where
 go:Nat->Hp->Prop
 CK:Nat->Hp->V->Hp->Prop
 stop:Nat->Hp->Prop
def Lg(X:Cx)(a:List (Addr×Obj))(H:Hp)(b:Addr):Prop:=
 H b=none/\b≠X.env.locals/\b∉X.fs/\(b∈X.ex\/X.s₀.heap.objs.size<=b)/\(∀x c,X.env.cells.lookup x=some c->c≠b)/\∀p∈X.pn++a,p.1≠b
theorem Am.qO(I:Am X a i H s)(d:s.heap.objs.size<=b)(g:f b=none):Lg X a f b:=by
 refine⟨g,Nat.ne_of_gt (fC I.lt d),I.nofs d,.inr (ea I.sz d),λx c e z=>?_,λp h z=>?_⟩
 ·obtain⟨v,q⟩:=I.cell x c e;exact absurd (fC q.lt (by rw[z];exact d)) (Nat.lt_irrefl _)
 ·exact absurd (fC (dt (I.pin p h).1) (by rw[z];exact d)) (Nat.lt_irrefl _)
structure Pz(P:q4)(w:ra)(K:W.Frag)(tg:Expr)(J:It)(fp:List Addr)(it:Addr)(tn:Nat->Heap->Prop):Prop where
 mem:it∈fp
 obj:∀i h,tn i h->∀b∈fp,∃o,h.get? b=some o/\∀v,o.data≠ .cell v
 keep:∀i h h',tn i h->(∀b∈fp,∀o,h.get? b=some o->h'.get? b=some o)->tn i h'
 item:∀(X:Cx),X.prog=P->X.w=w->X.K=K->X.calm=true->∀(i:Nat) (pins:List (Addr×Obj)) (s:qU) (σ:St) (H:Hp) (E:pQ),Am X pins σ H s->(∀b∈fp,Lg X pins H b)->tn i s.heap->J.go i H->
  wpAny (model P w) X.A (pyNext (.ref it)) (λr s1=>∃u,r=some u/\
   wpAny (model P w) X.A (letOwnedTupleGo tg (.ref it) u) (λ_ s2=>∃x H',Am X pins σ H' s2/\B0 x u/\J.CK i H x H'/\tn (i+1) s2.heap/\∀b∈fp,H' b=none) E s1) E s
 done:∀(X:Cx),X.prog=P->X.w=w->X.K=K->X.calm=true->∀(i:Nat) (pins:List (Addr×Obj)) (s:qU) (σ:St) (H:Hp) (E:pQ),Am X pins σ H s->(∀b∈fp,Lg X pins H b)->tn i s.heap->J.stop i H->
  wpAny (model P w) X.A (pyNext (.ref it)) (λr s1=>r=none/\Am X pins σ H s1) E s
 self:∀(A:q5) (i:Nat) (s:qU) (Q:pQ) (E:pQ),tn i s.heap->Q (.ref it) s->wpAny (model P w) A (pyIter (.ref it)) Q E s
abbrev TI:=St->Hp->(It->Hp->Prop)->Prop
def PIE(X:Cx)(a:List (Addr×Obj))(j:St)(i:Expr)(R:It->Hp->Prop)(d:q3)(g:qU):Prop:=
 ∃(f:Addr) (e:List Addr) (h:Nat->Heap->Prop) (J:It) (c:Hp),d=.ref f/\Am X a j c g/\Pz X.prog X.w X.K i J e f h/\h 0 g.heap/\(∀b∈e,Lg X a c b)/\R J c
def PI(X:Cx)(e b:Expr)(f:TI):Prop:=
 ∀(a:List (Addr×Obj)) (s:qU) (c:St) (H:Hp) (R:It->Hp->Prop),Am X a c H s->f c H R->
  wpAny (model X.prog X.w) X.A (eval b X.env) (λv d=>wpAny (model X.prog X.w) X.A (pyIter v) (PIE X a c e R) X.xe d) X.xe s
theorem We(f:s.heap.get? it=some o)(c:o.cls=.type n)(d:o.data=.fields vs)
  (e:["enumerate","zip","dict_itemiterator","dict_reverseitemiterator","odict_iterator","itertools.zip_longest","itertools.pairwise"].contains n=false)(a:Q () s):wpAny M A (letOwnedTupleGo b (.ref it) u) Q E s:=by
 unfold letOwnedTupleGo
 cases b<;>first
  |exact a6 a
  | (cases u <;> first
    |exact a6 a
    | (refine aN (wpAny_load f ?_)
       rw[c,d];show wpAny M A (if(["enumerate","zip","dict_itemiterator","dict_reverseitemiterator","odict_iterator","itertools.zip_longest","itertools.pairwise"].contains n&&vs[0]? ==some (rawInt _))=true then _ else _) Q E s;rw[if_neg (by intro h;rw[e,Bool.false_and]at h;cases h)];exact a6 a))
def qf(K:W.Frag)(a:Addr):It:=
 ⟨λi H=>∃b x,Aq K H a b/\b[i]?=some x,λi H x c=>c=H/\∀b,Aq K H a b->b[i]?=some x,λi H=>∃b,Aq K H a b/\b.length<=i⟩
def yz(K:W.Frag)(a:Addr):It:=
 ⟨λi H=>∃b x,Cf K H a b/\b[i]?=some x,λi H x c=>c=H/\∀b,Cf K H a b->b[i]?=some x,λi H=>∃b,Cf K H a b/\b.length<=i⟩
def o8(b:Int)(n:Nat):It:=⟨λi _=>i<n,λi H x a=>a=H/\x=.int (b+i),λi _=>n<=i⟩
theorem Z4{P:q4}{w:ra}{K:W.Frag}{tg:Expr}(a it:Addr):Pz P w K tg (qf K a) [it] it (λi h=>h.IsListIter it a i)where
 mem:=by simp
 obj:=λi h f b j=>by
  have e:b=it:=by simpa using j
  subst e;obtain⟨o,e,c,d⟩:=f;exact⟨o,e,λv z=>by rw[d]at z;cases z⟩
 keep:=λi h l f k=>f.at λo e=>k it (by simp) o e
 item:=by
  intro X D G C L i g s N H E I m f F;subst D G C;obtain⟨xs,x,n,J⟩:=F;obtain⟨Q,rv,p,Y⟩:=I.list n;obtain⟨u,T,Z⟩:=rv.get J;obtain⟨q,r,S,y,A,B⟩:=m it (by simp);refine wpAny_pyNext_list_item f p.isList (x:=u) (by simpa using T) λl M sb=>?_;have O:Am X g N H {s with heap:=l}:=I.turned (t':=s.toks) (λb o j e=>(sb.2 b j).trans e) q r y A B;obtain⟨o,e,c,d⟩:=id M;exact⟨u,rfl,We (s:={s with heap:=l}) e c d (by decide) ⟨x,H,O,Z,⟨rfl,λys U=>by rw[I.qN U n];exact J⟩,M,λb j=>(m b j).1⟩⟩
 done:=by
  intro X D G C L i g s N H E I m f F;subst D G C;obtain⟨xs,n,J⟩:=F;obtain⟨Q,rv,p,Y⟩:=I.list n;obtain⟨q,r,S,y,A,B⟩:=m it (by simp);have hl:=rv.length;exact wpAny_pyNext_list_end (I.ok.hd L) f p.isList (by simp;omega) λl R=>⟨rfl,I.turned (t':=s.toks) (λb o j e=>R b o j e) q r y A B⟩
 self:=λ_ _ _ _ _ f h=>wpAny_pyIter_listiter f h
theorem Vs{P:q4}{w:ra}{K:W.Frag}{tg:Expr}(a it:Addr):Pz P w K tg (yz K a) [it] it (λi h=>h.IsTupleIter it a i)where
 mem:=by simp
 obj:=λi h f b j=>by
  have e:b=it:=by simpa using j
  subst e;obtain⟨o,e,c,d⟩:=f;exact⟨o,e,λv z=>by rw[d]at z;cases z⟩
 keep:=λi h l f k=>f.at λo e=>k it (by simp) o e
 item:=by
  intro X F J D M i g s O H E I m f G;subst F J D;obtain⟨xs,x,n,L⟩:=G;obtain⟨q,rv,p,Y⟩:=I.tuple n;obtain⟨u,T,Z⟩:=rv.get L;obtain⟨r,y,S,A,B,C⟩:=m it (by simp);refine wpAny_pyNext_tuple_item f (show s.heap.IsTuple a q.toArray from p) (x:=u) (by simpa using T) λl N sb=>?_;have Q:Am X g O H {s with heap:=l}:=I.turned (t':=s.toks) (λb o j e=>(sb.2 b j).trans e) r y A B C;obtain⟨o,e,c,d⟩:=id N;exact⟨u,rfl,We (s:={s with heap:=l}) e c d (by decide) ⟨x,H,Q,Z,⟨rfl,λys U=>by rw[I.oH U n];exact L⟩,N,λb j=>(m b j).1⟩⟩
 done:=by
  intro X F J D M i g s O H E I m f G;subst F J D;obtain⟨xs,n,L⟩:=G;obtain⟨q,rv,p,Y⟩:=I.tuple n;obtain⟨r,y,S,A,B,C⟩:=m it (by simp);have hl:=rv.length;exact wpAny_pyNext_tuple_end (I.ok.hd M) f (show s.heap.IsTuple a q.toArray from p) (by simp;omega) λl R=>⟨rfl,I.turned (t':=s.toks) (λb o j e=>R b o j e) r y A B C⟩
 self:=λ_ _ _ _ _ f h=>wpAny_pyIter_tupleiter f h
theorem Vr{P:q4}{w:ra}{K:PySem.W.Frag}{O:Expr}(it:Addr)(j:Int)(n:Nat):Pz P w K O (o8 j n) [it] it (λi h=>IsRangeIter h it (j+(i:Nat)*1) ((n:Int)-(i:Nat)) 1)where
 mem:=by simp
 obj:=λi h a b d=>by
  have e:b=it:=by simpa using d
  subst e
  exact⟨_,a,λv z=>by
   have Q:Data.fields _=Data.cell v:=z;cases Q⟩
 keep:=λi h f a k=>k it (by simp) _ a
 item:=by
  intro X x B u y i c s F H E I g a A;subst x B u;obtain⟨l,m,L,p,q,r⟩:=g it (by simp);have W:=Walks.range (prog:=X.prog) (w:=X.w) (I.ok.hd y) it j 1 n;refine W.item i s _ _ A a λv f C M D N=>?_;obtain⟨t,rfl⟩:=M;have G:Am X c F H {s with heap:=f,toks:=C}:=I.turned (λb o d e=>N b o (by simpa using d) e) l m p q r;refine⟨_,rfl,We (s:={s with heap:=f,toks:=C}) (n:="range_iterator") D rfl rfl (by decide) ⟨.int (j+i),H,G,⟨t,?_⟩,⟨rfl,rfl⟩,D,λb d=>(g b d).1⟩⟩;rw[Int.mul_one]
 done:=by
  intro X x B u y i c s F H E I g a A;subst x B u;obtain⟨l,m,L,p,q,r⟩:=g it (by simp);exact wpAny_pyNext_range_end (I.ok.hd y) a (by have:n<=i:=A;omega) λf J=>⟨rfl,I.turned (t':=s.toks) (λb o d e=>J b o d e) l m p q r⟩
 self:=λ_ _ _ _ _ a h=>wpAny_pyIter_rangeiter a h
section
variable {X:Cx}{tg:Expr}
theorem Ta{d:List (Addr×Obj)}{s:qU}{R:It->Hp->Prop}{E:pQ}{a c:Int}{t u v:Tok}{g:Nat}(I:Am X d h H s)(h1:-(2^62)<=a)(l:a<2^62)(m:-(2^62)<=c)(n:c<2^62)
  (q:R (o8 a (c-a).toNat) H):wpAny (model X.prog X.w) X.A (pyIter (.ref s.heap.objs.size)) (PIE X d h tg R) E {s with heap:=s.heap.push {cls:=.type "range",data:=.fields #[.int a t,.int c u,.int 1 v] },toks:=g}:=by
 refine wpAny_pyIter_range (IsRange.new ..) (small_one h1 l m n) ?_;have f:Am X d h H {s with heap:=s.heap.push {cls:=.type "range",data:=.fields #[.int a t,.int c u,.int 1 v] },toks:=g}:=I.kept λb o e=>cv _ e
 refine⟨(s.heap.push {cls:=.type "range",data:=.fields #[.int a t,.int c u,.int 1 v] }).objs.size,[(s.heap.push {cls:=.type "range",data:=.fields #[.int a t,.int c u,.int 1 v] }).objs.size],_,_,H,rfl,
  f.kept (t':=g) λb o e=>cv _ e,Vr _ a (c-a).toNat,?_,λb p=>?_,q⟩
 ·have i:a+((0:Nat):Int)*1=a:=by simp
  have j:(((c-a).toNat:Nat):Int)-((0:Nat):Int)=Builtin.Range.rangeSize a c 1:=by rw[rangeSize_one];split<;>omega
  show IsRangeIter _ _ (a+((0:Nat):Int)*1) ((((c-a).toNat:Nat):Int)-((0:Nat):Int)) 1;rw[i,j];exact da _ rfl
 ·have e:b=(s.heap.push {cls:=.type "range",data:=.fields #[.int a t,.int c u,.int 1 v] }).objs.size:=by simpa using p
  subst e;exact f.qO (dr _) (f.aK.fresh (dr _))
def zy(b:TA):TI:=λd H R=>b d H λc a=>∃j:Int,c=[.int j]/\-(2^62)<=j/\j<2^62/\R (o8 0 j.toNat) a
def zz(b:TA):TI:=λd H R=>b d H λc a=>∃i j:Int,c=[.int i,.int j]/\(-(2^62)<=i/\i<2^62/\-(2^62)<=j/\j<2^62)/\R (o8 i (j-i).toNat) a
theorem Fj{p pos:Pos}(i:Gl X "range")(l:X.mg "range"=none)(g:PA X [a] d)(m:starEach [a] X.env=[(false,eval a X.env)]:=by rfl):PI X tg (.Call (.Name "range" p) [a] [] pos) (zy d):=by
 intro b s v H R I h;refine Call_ (E9 I i l boot_range (PyProof.Rows.callWith_type1 (Br (g pos b s v H _ I h) λy x ⟨z,w,f,o,c⟩=>?_) m rfl));obtain⟨j,e,c,n,q⟩:=c;subst e;cases o with
 |cons r u=>
  cases u;obtain⟨t,rfl⟩:=r;exact call_range_1 (Ta f (by omega) (by omega) c n (by simpa using q))
theorem Yv{p pos:Pos}(o:Gl X "range")(u:X.mg "range"=none)(n:PA X [a,b] g)(v:starEach [a,b] X.env=[(false,eval a X.env),(false,eval b X.env)]:=by rfl)(l:starEach [b] X.env=[(false,eval b X.env)]:=by rfl):
  PI X tg (.Call (.Name "range" p) [a,b] [] pos) (zz g):=by
 intro c s B H R I h;refine Call_ (E9 I o u boot_range (PyProof.Rows.callWith_type1 (Br (n pos c s B H _ I h) λF D ⟨G,C,m,A,d⟩=>?_) (by rw[v,l]) (by rw[l];rfl)));obtain⟨i,j,e,⟨d,w,x,y⟩,q⟩:=d;subst e;cases A with
 |cons r f=>
  cases f with
  |cons z f=>
   cases f;obtain⟨t,rfl⟩:=r;obtain⟨E,rfl⟩:=z;exact call_range_2 (Ta m d w x y q)
def A2d(l:TI)(g:TG)(j:TS):TS:=λD a H=>l a H λJ f=>∃W:Nat->Nat->St->Hp->Prop,(∃m,W 0 m a f)/\∀i m a H,W i m a H->
 (J.stop i H/\D.nx a H)\/(J.go i H/\∃N:St->Hp->Prop,(∀c b,N c b->∃e,e<m/\W (i+1) e c b)/\∀x b,J.CK i H x b->g x a b λd h=>j {D with nx:=N,ct:=N,bk:=D.nx} d h)
def Nq(a:List Addr)(h:Heap):List (Addr×Obj):=a.filterMap λb=>(h.get? b).map λo=>(b,o)
theorem Fx(c:b∈a)(e:h.get? b=some o):(b,o)∈Nq a h:=List.mem_filterMap.mpr ⟨b,c,by rw[e];rfl⟩
theorem Yn(f:p∈Nq a h):p.1∈a/\h.get? p.1=some p.2:=by
 obtain⟨b,d,e⟩:=List.mem_filterMap.mp f;cases q:h.get? b with
 |none=>rw[q]at e;cases e
 |some o=>
  rw[q]at e;have c:(b,o)=p:=en e;subst c;exact⟨d,q⟩
theorem Am.pinned(I:Am X a h H s)(m:∀b∈c,Lg X a H b)(n:∀b∈c,∃o,s.heap.get? b=some o/\∀v,o.data≠ .cell v):Am X (a++Nq c s.heap) h H s:=
 I.uL λp q=>(fF.mp q).elim (λz=>I.pin p (gv _ z)) λz=>by
  obtain⟨g,e⟩:=Yn z;obtain⟨i,j,l,_⟩:=m p.1 g;obtain⟨o,f,d⟩:=n p.1 g;rw[e]at f;cases f;exact⟨e,i,j,l,d⟩
theorem Am.iJ(I:Am X (a++pl) b H s):Am X a b H s:=I.uL λp c=>I.pin p (gv _ (gy _ c))
theorem C1{pos:Pos}(M:PassesOwn (model X.prog X.w) X.A X.env X.xe)(hc:X.calm=true)(hi:PI X tg w wi)(hg:PG X tg g)(q:O6 X C tb)
  (hs:∀x,foldedSetIterable w X.env x=pure x:=by intro _;rfl):PS X (.For tg w C [] pos) (A2d wi g tb):=by
 intro a s σ H D I h;refine wpAny_For (Br (hi a s σ H _ I h) λv s1 h1=>Br h1 λitv s2 h2=>?_) hs;obtain⟨it,K,tn,J,H2,e,I2,T,CL,f2,W,⟨m0,w0⟩,Q⟩:=h2;subst e;have y:∀{B:Hp},(∀b∈K,B b=none)->∀b∈K,Lg X a B b:=λhn b q=>⟨hn b q,(f2 b q).2⟩;refine codeAny_forLoop_any (λn s'=>∃i z B,Am X a z B s'/\tn i s'.heap/\(∀b∈K,B b=none)/\W i n z B) ?_ m0 ⟨0,σ,H2,I2,CL,λb q=>(f2 b q).1,w0⟩;rintro n s3 ⟨i,A,R,I3,RV,L,w3⟩;rcases Q i n A R w3 with⟨P,qn⟩|⟨go,N,hN,step⟩
 ·refine wpAny_passesOwn M (Br (T.done X rfl rfl rfl hc i a s3 A R X.xe I3 (y L) RV P) λr s4 F=>?_);obtain⟨Y,I4⟩:=F;subst Y;exact wpAny_execs_nil ⟨A,R,I4,qn⟩
 ·refine wpAny_passesOwn M (Br (T.item X rfl rfl rfl hc i a s3 A R X.xe I3 (y L) RV go) λr s4 F=>?_);obtain⟨u,Y,h4⟩:=F;subst Y;refine wpAny_passesOwn M (Br h4 λ_ s5 F=>?_);obtain⟨x,H5,I5,r5,y5,G,U⟩:=F;have S:=I5.pinned (y U) (T.obj _ _ G);refine wpAny_passesOwn M (Br (hg _ s5 A H5 x u _ S r5 (step x H5 y5)) λ_ s6 F=>?_);obtain⟨σ6,H6,I6,q6⟩:=F;refine wpAny_passesOwn M (Br (q _ s6 σ6 H6 _ I6 q6) λf Z E=>?_)
  have p:∀{c:St}{j:Hp},Am X (a++Nq K s5.heap) c j Z->N c j->∃m,m<n/\∃i z B,Am X a z B Z/\tn i Z.heap/\(∀b∈K,B b=none)/\W i m z B:=λ{c j} l O=>by
   obtain⟨m',hm,w7⟩:=hN c j O;refine⟨m',hm,i+1,c,j,l.iJ,T.keep _ _ _ G λb q o e=>(l.pin (b,o) (gv _ (gv _ (Fx q e)))).1,λb q=>?_,w7⟩;obtain⟨o,e,d⟩:=T.obj _ _ G b q;exact(l.pin (b,o) (gv _ (gv _ (Fx q e)))).2.1
  cases f with
  |next=>obtain⟨c,j,l,O⟩:=E;exact p l O
  |cont=>obtain⟨c,j,l,O⟩:=E;exact p l O
  |brk=>obtain⟨c,j,l,E⟩:=E;exact⟨c,j,l.iJ,E⟩
  |ret v=>obtain⟨x7,c,j,l,r7,E⟩:=E;exact⟨x7,c,j,l.iJ,r7,E⟩
end
theorem Cl{K:PySem.W.Frag}{a:Addr}{xs:List V}{g:TG}{o:TS}{D:Hq}{b:St}{H:Hp}(c:Nat->St->Hp->Prop)(r:c 0 b H)(v:∀i b H,i<=xs.length->c i b H->Aq K H a xs)
  (w:∀i x b H,xs[i]?=some x->c i b H->g x b H λh j=>o {D with nx:=c (i+1),ct:=c (i+1),bk:=D.nx} h j)(s:∀b H,c xs.length b H->D.nx b H):
  ∃W:Nat->Nat->St->Hp->Prop,(∃m,W 0 m b H)/\∀i m b H,W i m b H->
   ((qf K a).stop i H/\D.nx b H)\/((qf K a).go i H/\∃N:St->Hp->Prop,(∀f d,N f d->∃n,n<m/\W (i+1) n f d)/\∀x d,(qf K a).CK i H x d->g x b d λh j=>o {D with nx:=N,ct:=N,bk:=D.nx} h j):=by
 refine⟨λi m b H=>m=xs.length-i/\i<=xs.length/\c i b H,⟨xs.length,by simp,mu _,r⟩,?_⟩;rintro i m b H ⟨rfl,u,p⟩;have q:=v i b H u p;by_cases l:i<xs.length
 ·refine .inr ⟨⟨xs,xs[i],q,by simp[l]⟩,c (i+1),λf d z=>⟨xs.length-(i+1),by omega,rfl,l,z⟩,λx d y=>?_⟩;obtain⟨e,y⟩:=y;subst e;exact w i x b _ (y xs q) p
 ·have e:i=xs.length:=by omega
  subst e;exact .inl ⟨⟨xs,q,dr _⟩,s b H p⟩
theorem Wd{K:PySem.W.Frag}{a:Addr}{xs:List V}{g:TG}{o:TS}{D:Hq}{b:St}{H:Hp}(c:Nat->St->Hp->Prop)(r:c 0 b H)(v:∀i b H,i<=xs.length->c i b H->Cf K H a xs)
  (w:∀i x b H,xs[i]?=some x->c i b H->g x b H λh j=>o {D with nx:=c (i+1),ct:=c (i+1),bk:=D.nx} h j)(s:∀b H,c xs.length b H->D.nx b H):
  ∃W:Nat->Nat->St->Hp->Prop,(∃m,W 0 m b H)/\∀i m b H,W i m b H->
   ((yz K a).stop i H/\D.nx b H)\/((yz K a).go i H/\∃N:St->Hp->Prop,(∀f d,N f d->∃n,n<m/\W (i+1) n f d)/\∀x d,(yz K a).CK i H x d->g x b d λh j=>o {D with nx:=N,ct:=N,bk:=D.nx} h j):=by
 refine⟨λi m b H=>m=xs.length-i/\i<=xs.length/\c i b H,⟨xs.length,by simp,mu _,r⟩,?_⟩;rintro i m b H ⟨rfl,u,p⟩;have q:=v i b H u p;by_cases l:i<xs.length
 ·refine .inr ⟨⟨xs,xs[i],q,by simp[l]⟩,c (i+1),λf d z=>⟨xs.length-(i+1),by omega,rfl,l,z⟩,λx d y=>?_⟩;obtain⟨e,y⟩:=y;subst e;exact w i x b _ (y xs q) p
 ·have e:i=xs.length:=by omega
  subst e;exact .inl ⟨⟨xs,q,dr _⟩,s b H p⟩
theorem Ke{h:Int}{n:Nat}{g:TG}{q:TS}{D:Hq}{a:St}{H:Hp}(c:Nat->St->Hp->Prop)(r:c 0 a H)
  (u:∀i a H,i<n->c i a H->g (.int (h+i)) a H λf j=>q {D with nx:=c (i+1),ct:=c (i+1),bk:=D.nx} f j)(s:∀a H,c n a H->D.nx a H):
  ∃W:Nat->Nat->St->Hp->Prop,(∃m,W 0 m a H)/\∀i m a H,W i m a H->
   ((o8 h n).stop i H/\D.nx a H)\/((o8 h n).go i H/\∃N:St->Hp->Prop,(∀d b,N d b->∃o,o<m/\W (i+1) o d b)/\∀x b,(o8 h n).CK i H x b->g x a b λf j=>q {D with nx:=N,ct:=N,bk:=D.nx} f j):=by
 refine⟨λi m a H=>m=n-i/\i<=n/\c i a H,⟨n,by simp,mu _,r⟩,?_⟩;rintro i m a H ⟨rfl,w,p⟩;by_cases l:i<n
 ·refine .inr ⟨l,c (i+1),λd b v=>⟨n-(i+1),by omega,rfl,l,v⟩,λx b y=>?_⟩;obtain⟨e,y⟩:=y;subst e y;exact u i a _ l p
 ·have e:i=n:=by omega
  subst e;exact .inl ⟨dr _,s a H p⟩
theorem O4(g:St->Hp->Prop)(h:St->Hp->Nat)(n:g a H)
  (o:∀a H,g a H->c a H λb f=>if b=true then j {D with nx:=λd e=>g d e/\h d e<h a H,ct:=λd e=>g d e/\h d e<h a H,bk:=D.nx} a f else D.nx a f)
  (mono:∀a H Q i,(∀b f,Q b f->i b f)->c a H Q->c a H i):jp c j D a H:=by
 refine⟨λm a H=>m=h a H/\g a H,⟨_,rfl,n⟩,?_⟩;rintro m a H ⟨rfl,p⟩;refine mono a H _ _ (λb f q=>?_) (o a H p);cases b with
 |true=>exact⟨_,λd e ⟨r,l⟩=>⟨_,l,rfl,r⟩,q⟩
 |false=>exact q
abbrev R2:=V->V->Hp->VK->Prop
def Gn(X:Cx)(f:q3->q3->Sem q3)(r:R2):Prop:=
 ∀(a:List (Addr×Obj)) (s:qU) (b:St) (H:Hp) (x y:V) (v u:q3) (Q:VK),Am X a b H s->B0 x v->B0 y u->r x y H Q->
  wpAny (model X.prog X.w) X.A (f v u) (EP X a b Q) X.xe s
def UnR(X:Cx)(f:q3->Sem q3)(r:V->Hp->VK->Prop):Prop:=
 ∀(a:List (Addr×Obj)) (s:qU) (b:St) (H:Hp) (x:V) (v:q3) (Q:VK),Am X a b H s->B0 x v->r x H Q->
  wpAny (model X.prog X.w) X.A (f v) (EP X a b Q) X.xe s
def Cu(X:Cx)(f:q3)(r:List V->Hp->VK->Prop):Prop:=
 ∀(a:List (Addr×Obj)) (s:qU) (d:St) (H:Hp) (c:List V) (b:List q3) (Q:VK),Am X a d H s->Ay c b->r c H Q->
  wpAny (model X.prog X.w) X.A (call f b) (EP X a d Q) X.xe s
def A1r(X:Cx)(r:V->Hp->(Bool->Hp->Prop)->Prop):Prop:=
 ∀(a:List (Addr×Obj)) (s:qU) (b:St) (H:Hp) (x:V) (v:q3) (Q:Bool->Hp->Prop),Am X a b H s->B0 x v->r x H Q->
  wpAny (model X.prog X.w) X.A (truthy v) (TP X a b Q) X.xe s
def tOp(r:R2)(d e:TE):TE:=λa H Q=>d a H λx b=>e a b λy c=>r x y c Q
def tUn(r:V->Hp->VK->Prop)(b:TE):TE:=λc H Q=>b c H λx a=>r x a Q
def rI(C:Int->Int->Prop)(g:Int->Int->V):R2:=λx y H Q=>∃i j,x=.int i/\y=.int j/\C i j/\Q (g i j) H
def ot(g:Int->Int->V):R2:=λx y H Q=>∃i j,x=.int i/\y=.int j/\Q (g i j) H
def rU(g:Int->V):V->Hp->VK->Prop:=λx H Q=>∃i,x=.int i/\Q (g i) H
section
variable {X:Cx}{a b c:Expr}{ta tb tc:TE}{pos:Pos}
theorem ql(q:PE X a ta)(r:PE X b tb){d:List (Addr×Obj)}{s:qU}{R:V->V->Hp->Prop}(I:Am X d g H s)
  (h:ta g H λx m=>tb g m λy e=>R x y e){Q:pQ}{f:q3->q3->Sem q3}
  (w:∀v u l x y e,Am X d g e l->B0 x v->B0 y u->R x y e->wpAny (model X.prog X.w) X.A (f v u) Q X.xe l):
  wpAny (model X.prog X.w) X.A (eval a X.env) (λv i=>wpAny (model X.prog X.w) X.A (eval b X.env) (λu j=>wpAny (model X.prog X.w) X.A (f v u) Q X.xe j) X.xe i) X.xe s:=by
 refine Br (q d s g H _ I h) λv D n=>?_;obtain⟨x,m,o,B,z⟩:=n;refine Br (r d D g m _ o z) λu l n=>?_;obtain⟨y,e,p,C,A⟩:=n;exact w v u l x y e p B C A
theorem Al{op:Operator}{r:R2}(j:Gn X (binaryOp op) r)(g:PE X a ta)(i:PE X b tb):PE X (.BinOp a op b pos) (tOp r ta tb):=by
 intro d s o H Q I h;exact wpAny_BinOp (ql g i I h λv u n x y e f l m q=>j d n o e x y v u Q f l m q)
theorem Jj(j:UnR X (unaryOp op) r)(i:PE X a ta):PE X (.UnaryOp op a pos) (tUn r ta):=by
 intro d s e H Q I h;exact UnaryOp_ (Br (i d s e H _ I h) λv n ⟨x,f,g,m,l⟩=>j d n e f x v Q g m l)
theorem zf{f:q3->q3->Sem q3}{C:Int->Int->Prop}{g:Int->Int->Int}
  (d:∀(i j:Int) (t u:Tok) (s:qU) (Q:pQ) (E:pQ),C i j->Q (.int (g i j) s.toks) {s with toks:=s.toks+1}->wpAny (model X.prog X.w) X.A (f (.int i t) (.int j u)) Q E s):
  Gn X f (rI C λi j=>.int (g i j)):=by
 intro e s p H x y v u Q I m n h;obtain⟨i,j,rfl,rfl,l,q⟩:=h;obtain⟨t,rfl⟩:=m;obtain⟨o,rfl⟩:=n;exact d i j t o s _ _ l ⟨.int (g i j),H,I.tok _,⟨_,rfl⟩,q⟩
theorem A0g{f:q3->q3->Sem q3}{g:Int->Int->Int}
  (d:∀(i j:Int) (t u:Tok) (s:qU) (Q:pQ) (E:pQ),Q (.int (g i j) s.toks) {s with toks:=s.toks+1}->wpAny (model X.prog X.w) X.A (f (.int i t) (.int j u)) Q E s):
  Gn X f (ot λi j=>.int (g i j)):=by
 intro e s o H x y v u Q I l m h;obtain⟨i,j,rfl,rfl,q⟩:=h;obtain⟨t,rfl⟩:=l;obtain⟨n,rfl⟩:=m;exact d i j t n s _ _ ⟨.int (g i j),H,I.tok _,⟨_,rfl⟩,q⟩
theorem m9{f:q3->q3->Sem q3}{g:Int->Int->Bool}
  (d:∀(i j:Int) (t u:Tok) (s:qU) (Q:pQ) (E:pQ),Q (.bool (g i j)) s->wpAny (model X.prog X.w) X.A (f (.int i t) (.int j u)) Q E s):
  Gn X f (ot λi j=>.bl (g i j)):=by
 intro e s o H x y v u Q I l m h;obtain⟨i,j,rfl,rfl,q⟩:=h;obtain⟨t,rfl⟩:=l;obtain⟨n,rfl⟩:=m;exact d i j t n s _ _ ⟨.bl (g i j),H,I,rfl,q⟩
def A1m(i j:Int):Prop:=0<j/\j<1073741824
def A1n(i j:Int):Prop:=0<=j/\j<=1000000/\i.natAbs<2^64
theorem Co:Gn X (binaryOp .Add) (ot λi j=>.int (i+j)):=A0g λ_ _ _ _ _ _ _ q=>add_int q
theorem Nk:Gn X (binaryOp .Sub) (ot λi j=>.int (i-j)):=A0g λ_ _ _ _ _ _ _ q=>sub_int q
theorem Cr:Gn X (binaryOp .FloorDiv) (rI A1m λi j=>.int (i/j)):=zf λi j _ _ _ _ _ d q=>by
 have e:(0:Int)<j:=d.1;have f:j<1073741824:=d.2;exact floordiv_int (by omega) (by rw[Int.fdiv_eq_ediv_of_nonneg i (by omega)];exact q) (.inl (PyProof.noPylong_small (by omega)))
theorem C0:Gn X (binaryOp .Mod) (rI (λ_ j=>0<j) λi j=>.int (i%j)):=zf λi j _ _ _ _ _ d q=>by
 have e:(0:Int)<j:=d;exact mod_int' (by omega) (by rw[Int.fmod_eq_emod_of_nonneg i (by omega)];exact q)
theorem c9:Gn X (binaryOp .Pow) (rI A1n λi j=>.int (i^j.toNat)):=zf λ_ _ _ _ _ _ _ d q=>pow_int_small d.1 d.2.1 d.2.2 q
theorem unI{f:q3->Sem q3}{g:Int->Int}
  (d:∀(i:Int) (t:Tok) (s:qU) (Q:pQ) (E:pQ),Q (.int (g i) s.toks) {s with toks:=s.toks+1}->wpAny (model X.prog X.w) X.A (f (.int i t)) Q E s):
  UnR X f (rU λi=>.int (g i)):=by
 intro e s l H x v Q I j h;obtain⟨i,rfl,q⟩:=h;obtain⟨t,rfl⟩:=j;exact d i t s _ _ ⟨.int (g i),H,I.tok _,⟨_,rfl⟩,q⟩
theorem Gd:UnR X (unaryOp .USub) (rU λi=>.int (-i)):=unI λ_ _ _ _ _ q=>neg_int q
end
def A12:V->V->Bool
 | .bN,.bN=>true| .bN,.int _=>true| .int _,.bN=>true| .bN,.bl _=>true| .bl _,.bN=>true| .bN,.str _=>true| .str _,.bN=>true
 | .int _,.int _=>true| .bl _,.bl _=>true| .str _,.str _=>true| .uK _,.uK _=>true
 | .int _,.str _=>true| .str _,.int _=>true| .bl _,.str _=>true| .str _,.bl _=>true
 |_,_=>false
def rEq:R2:=λx y H Q=>A12 x y=true/\Q (.bl (decide (x=y))) H
def rNe:R2:=λx y H Q=>A12 x y=true/\Q (.bl (!decide (x=y))) H
theorem W8:decide (V.int i=V.int j)=(i==j):=by
 rw[Bool.eq_iff_iff];simp
theorem Zy:decide (V.bl i=V.bl j)=(i==j):=by
 rw[Bool.eq_iff_iff];simp
theorem Qh:decide (V.str i=V.str j)=(i==j):=by
 rw[Bool.eq_iff_iff];simp
theorem W7:decide (V.uK i=V.uK j)=(i.toList==j.toList):=by
 rw[Bool.eq_iff_iff];cases i;cases j;simp
section
variable {X:Cx}{a b c:Expr}{ta tb tc:TE}{pos:Pos}
theorem B8{k f:Bool}(I:Am X d g H s)(q:Q (.bl k) H)(e:k=f):EP X d g Q (.bool f) s:=by
 subst e;exact⟨.bl k,H,I,rfl,q⟩
theorem C7:Gn X (compareOp .Eq) rEq:=by
 intro l s m H x y v u Q I g d h;obtain⟨f,q⟩:=h;cases x with
 |bN=>
  cases g;cases y with
  |bN=>cases d;exact PySem.EqNone.eq_none_none (B8 I q (by simp))
  |bl j=>cases d;exact PySem.EqNone.eq_none_bool (B8 I q (by simp))
  |int j=>obtain⟨e,rfl⟩:=d;exact PySem.EqNone.eq_none_int (B8 I q (by simp))
  |str j=>obtain⟨e,rfl⟩:=d;exact PySem.EqNone.eq_none_str (B8 I q (by simp))
  |_=>exact absurd (show false=true from f) fy
 |bl i=>
  cases g;cases y with
  |bN=>cases d;exact PySem.EqNone.eq_bool_none (B8 I q (by simp))
  |bl j=>cases d;exact eq_bool (B8 I q Zy)
  |str j=>obtain⟨e,rfl⟩:=d;exact PySem.EqMixed.eq_bool_str (B8 I q (by simp))
  |_=>exact absurd (show false=true from f) fy
 |int i=>
  obtain⟨t,rfl⟩:=g;cases y with
  |bN=>cases d;exact PySem.EqNone.eq_int_none (B8 I q (by simp))
  |int j=>obtain⟨e,rfl⟩:=d;exact eq_int (B8 I q W8)
  |str j=>obtain⟨e,rfl⟩:=d;exact PySem.EqMixed.eq_int_str (B8 I q (by simp))
  |_=>exact absurd (show false=true from f) fy
 |str i=>
  obtain⟨t,rfl⟩:=g;cases y with
  |bN=>cases d;exact PySem.EqNone.eq_str_none (B8 I q (by simp))
  |bl j=>cases d;exact PySem.EqMixed.eq_str_bool (B8 I q (by simp))
  |int j=>obtain⟨e,rfl⟩:=d;exact PySem.EqMixed.eq_str_int (B8 I q (by simp))
  |str j=>obtain⟨e,rfl⟩:=d;exact eq_str (B8 I q Qh)
  |_=>exact absurd (show false=true from f) fy
 |uK i=>
  obtain⟨t,rfl⟩:=g;cases y with
  |uK j=>obtain⟨e,rfl⟩:=d;exact W.eq_bytes (B8 I q W7)
  |_=>exact absurd (show false=true from f) fy
 |_=>cases y<;>exact absurd (show false=true from f) fy
theorem L6:Gn X (compareOp .NotEq) rNe:=by
 intro l s m H x y v u Q I g d h;obtain⟨f,q⟩:=h;cases x with
 |bN=>
  cases g;cases y with
  |bN=>cases d;exact PySem.EqNone.ne_none_none (B8 I q (by simp))
  |bl j=>cases d;exact PySem.EqNone.ne_none_bool (B8 I q (by simp))
  |int j=>obtain⟨e,rfl⟩:=d;exact PySem.EqNone.ne_none_int (B8 I q (by simp))
  |str j=>obtain⟨e,rfl⟩:=d;exact PySem.EqNone.ne_none_str (B8 I q (by simp))
  |_=>exact absurd (show false=true from f) fy
 |bl i=>
  cases g;cases y with
  |bN=>cases d;exact PySem.EqNone.ne_bool_none (B8 I q (by simp))
  |bl j=>cases d;exact ne_bool (B8 I q (congrArg not Zy))
  |str j=>obtain⟨e,rfl⟩:=d;exact PySem.EqMixed.ne_bool_str (B8 I q (by simp))
  |_=>exact absurd (show false=true from f) fy
 |int i=>
  obtain⟨t,rfl⟩:=g;cases y with
  |bN=>cases d;exact PySem.EqNone.ne_int_none (B8 I q (by simp))
  |int j=>obtain⟨e,rfl⟩:=d;exact ne_int (B8 I q (congrArg not W8))
  |str j=>obtain⟨e,rfl⟩:=d;exact PySem.EqMixed.ne_int_str (B8 I q (by simp))
  |_=>exact absurd (show false=true from f) fy
 |str i=>
  obtain⟨t,rfl⟩:=g;cases y with
  |bN=>cases d;exact PySem.EqNone.ne_str_none (B8 I q (by simp))
  |bl j=>cases d;exact PySem.EqMixed.ne_str_bool (B8 I q (by simp))
  |int j=>obtain⟨e,rfl⟩:=d;exact PySem.EqMixed.ne_str_int (B8 I q (by simp))
  |str j=>obtain⟨e,rfl⟩:=d;exact ne_str (B8 I q (congrArg not Qh))
  |_=>exact absurd (show false=true from f) fy
 |uK i=>
  obtain⟨t,rfl⟩:=g;cases y with
  |uK j=>obtain⟨e,rfl⟩:=d;exact W.ne_bytes (B8 I q (congrArg not W7))
  |_=>exact absurd (show false=true from f) fy
 |_=>cases y<;>exact absurd (show false=true from f) fy
theorem Fh:Gn X (compareOp .Lt) (ot λi j=>.bl (decide (i<j))):=m9 λ_ _ _ _ _ _ _ q=>lt_int q
theorem A0h:Gn X (compareOp .LtE) (ot λi j=>.bl (decide (i<=j))):=m9 λ_ _ _ _ _ _ _ q=>le_int q
theorem Jh:Gn X (compareOp .Gt) (ot λi j=>.bl (decide (j<i))):=m9 λ_ _ _ _ _ _ _ q=>gt_int q
theorem bz:Gn X (compareOp .GtE) (ot λi j=>.bl (decide (j<=i))):=m9 λ_ _ _ _ _ _ _ q=>ge_int q
theorem Yp:Gn X (compareOp .In) (λx y H Q=>∃i j,x=.str i/\y=.str j/\Q (.bl (!(Builtin.Str.occurrences j i 0 j.length 1).isEmpty)) H):=by
 intro d s l H x y v u Q I e f h;obtain⟨i,j,rfl,rfl,q⟩:=h;obtain⟨t,rfl⟩:=e;obtain⟨g,rfl⟩:=f;exact in_str (B8 I q rfl)
theorem Fy:Gn X (compareOp .Is) (λx y H Q=>y=.bN/\Q (.bl (decide (x=.bN))) H):=by
 intro d s g H x y v u Q I e f h;obtain⟨rfl,q⟩:=h;cases f;refine is_none_gen (B8 I q ?_)
 cases x<;>first
  |(cases e;rfl)
  |(obtain⟨t,rfl⟩:=e;rfl)
theorem M3:Gn X (compareOp .IsNot) (λx y H Q=>y=.bN/\Q (.bl (!decide (x=.bN))) H):=by
 intro d s g H x y v u Q I e f h;obtain⟨rfl,q⟩:=h;cases f;refine isnot_none_gen (B8 I q ?_)
 cases x<;>first
  |(cases e;rfl)
  |(obtain⟨t,rfl⟩:=e;rfl)
theorem Qw:Gn X (compareOp .NotIn) (λx y H Q=>∃i j,x=.str i/\y=.str j/\Q (.bl (!(!(Builtin.Str.occurrences j i 0 j.length 1).isEmpty))) H):=by
 intro d s l H x y v u Q I e f h;obtain⟨i,j,rfl,rfl,q⟩:=h;obtain⟨t,rfl⟩:=e;obtain⟨g,rfl⟩:=f;exact notIn_str (B8 I q rfl)
theorem Ag(b:Expr)(h:op≠ .In:=by decide)(f:op≠ .NotIn:=by decide):behindInMarks op b=false:=by
 have d:(op==CmpOp.In)=false:=by cases op<;>first|rfl|exact absurd rfl h
 have e:(op==CmpOp.NotIn)=false:=by cases op<;>first|rfl|exact absurd rfl f
 cases b<;>simp[behindInMarks,d,e]
theorem Bd(l:Gn X (compareOp op) r)(g:PE X a ta)(i:PE X b tb)(j:behindInMarks op b=false):PE X (.Compare a [op] [b] pos) (tOp r ta tb):=by
 intro d s p H Q I h;exact wpAny_Compare1 (ql g i I h λv u o x y e f m n q=>l d o p e x y v u Q f m n q) j
def A1h(t:TE):TT:=λe H Q=>t e H λx d=>∃k,x=.bl k/\Q k d
theorem Ai(w:Gn X (compareOp op) r)(o:PE X a ta)(p:PE X b tb)(q:behindInMarks op b=false):PT X (.Compare a [op] [b] pos) (A1h (tOp r ta tb)):=by
 intro d s f H Q I h
 refine wpAny_isTrue_Compare1 (Br (o d s f H _ I h) λv G ⟨x,g,l,D,A⟩=>Br (p d G f g _ l A) λu J ⟨y,i,m,E,B⟩=>
  Br (w d J f i x y v u _ m D E B) λc K ⟨z,j,n,F,k,e,C⟩=>?_) q
 subst e;cases F;exact i0 ⟨j,n,C⟩
def zq(K:W.Frag)(x:V)(H:Hp)(k:Bool):Prop:=
 match x with
 | .bN=>k=false
 | .bl b=>k=b
 | .int i=>k=(i != 0)
 | .str y=>y.length<=sizeLine/\k=((y.length:Int) != 0)
 | .uK y=>y.size<=sizeLine/\k=((y.size:Int) != 0)
 | .ref p=>(∃e,Aq K H p e/\k= !e.isEmpty)\/(∃e,Cf K H p e/\k= !e.isEmpty)\/∃d,H p=some (.dK d)/\k= !d.isEmpty
 |_=>False
theorem Uh(r:KV kvs vs):(!vs.isEmpty)= !kvs.isEmpty:=by
 cases r<;>rfl
theorem My(r:Ay xs d):(!d.toArray.isEmpty)= !xs.isEmpty:=by
 cases r<;>simp
theorem Gy:(sizeLine:Nat)<2^63:=by rw[sizeLine_eq];decide
theorem yk:A1r X (λx H Q=>∃k,zq X.K x H k/\Q k H):=by
 intro z s F H x v Q I l h;obtain⟨k,e,q⟩:=h;have D:=Gy;have E:sizeLine=16777216:=sizeLine_eq;cases x with
 |bN=>
  cases l;have d:k=false:=e;subst d;exact truthy_none ⟨H,I,q⟩
 |bl b=>
  cases l;have d:k=b:=e;subst d;exact i0 ⟨H,I,q⟩
 |int i=>
  obtain⟨t,rfl⟩:=l;have d:k=(i != 0):=e;subst d;exact PySem.P.truthy_int ⟨H,I,q⟩
 |str y=>
  obtain⟨t,rfl⟩:=l;obtain⟨C,d⟩:y.length<=sizeLine/\k=((y.length:Int) != 0):=e;subst d;exact PySem.P.truthy_str (by omega) ⟨H,I.tok _,q⟩
 |uK y=>
  obtain⟨t,rfl⟩:=l;obtain⟨C,d⟩:y.size<=sizeLine/\k=((y.size:Int) != 0):=e;subst d;exact W.truthy_bytes (by omega) ⟨H,I.tok _,q⟩
 |ref p=>
  cases l;have d:(∃j,Aq X.K H p j/\k= !j.isEmpty)\/(∃j,Cf X.K H p j/\k= !j.isEmpty)\/∃f,H p=some (.dK f)/\k= !f.isEmpty:=e;rcases d with⟨j,n,d⟩|⟨j,n,d⟩|⟨f,n,d⟩
  ·subst d;obtain⟨A,r,u,w⟩:=I.list n;have g:=r.length;exact wpAny_truthy_list u.isList (by simp only[List.size_toArray];omega) ⟨H,I.tok _,by rw[My r];exact q⟩
  ·subst d;obtain⟨A,r,u,w⟩:=I.tuple n;have g:=r.length;exact truthy_tuple u (by simp only[List.size_toArray];omega) ⟨H,I.tok _,by rw[My r];exact q⟩
  ·subst d;obtain⟨w,B,o,r,m⟩:f.length<=sizeLine/\(p==sysModules)=false/\∃o,KV f o/\s.heap.DictOf (De X.prog X.w) p o:=I.aK p _ n;have g:f.length=o.length:=Paired.length r;exact wpAny_truthy_dict B m (by omega) ⟨H,I.tok _,by rw[Uh r];exact q⟩
 |_=>exact(show False from e).elim
theorem Sy(l:PE X a ta)(he:∀d,isTrue a X.env d=(do let v <- d;standAt a.pos;holding [v] (truthy v))):
  PT X a (λf H Q=>ta f H λx g=>∃k,zq X.K x g k/\Q k g):=by
 intro e s f H Q I h;exact isTrue_plain (Br (l e s f H _ I h) λv o ⟨x,i,j,n,m⟩=>yk e o f i x v Q j n m) (he _)
theorem Cj:Gn X (binaryOp .Add) (λx y H Q=>∃i j,x=.str i/\y=.str j/\i.length+j.length<=sizeLine/\Q (.str (i++j)) H):=by
 intro d s n H x y v u Q I f g h;obtain⟨i,j,rfl,rfl,e,q⟩:=h;obtain⟨t,rfl⟩:=f;obtain⟨l,rfl⟩:=g;exact add_str (λl m=>⟨.str (i++j),H,I.tok _,⟨_,rfl⟩,q⟩) e
theorem Dg(r:Ay [x] us):∃u,us=[u]/\B0 x u:=by
 cases r with
 |cons d e=>cases e;exact⟨_,rfl,d⟩
theorem X9(r:Ay [x,y] us):∃u d,us=[u,d]/\B0 x u/\B0 y d:=by
 cases r with
 |cons e f=>
  cases f with
  |cons g h=>cases h;exact⟨_,_,rfl,e,g⟩
theorem Xj(f:X.calm=true):Cu X (.builtin "max") (λxs H Q=>∃i j,xs=[.int i,.int j]/\Q (.int (if j>i then j else i)) H):=by
 intro e s p H xs n Q I r h;obtain⟨i,j,rfl,q⟩:=h;obtain⟨u,o,rfl,⟨t,rfl⟩,⟨l,rfl⟩⟩:=X9 r;refine max_two_ints (I.ok.hd f) λg m k=>⟨_,H,I.kept k,?_,q⟩;by_cases d:j>i
 ·rw[if_pos d,if_pos d];exact⟨_,rfl⟩
 ·rw[if_neg d,if_neg d];exact⟨_,rfl⟩
theorem Xl(f:X.calm=true):Cu X (.builtin "min") (λxs H Q=>∃i j,xs=[.int i,.int j]/\Q (.int (if j<i then j else i)) H):=by
 intro e s p H xs n Q I r h;obtain⟨i,j,rfl,q⟩:=h;obtain⟨u,o,rfl,⟨t,rfl⟩,⟨l,rfl⟩⟩:=X9 r;refine min_two_ints (I.ok.hd f) λg m k=>⟨_,H,I.kept k,?_,q⟩;by_cases d:j<i
 ·rw[if_pos d,if_pos d];exact⟨_,rfl⟩
 ·rw[if_neg d,if_neg d];exact⟨_,rfl⟩
theorem K0:Cu X (.type "int") (λxs H Q=>(∃i,xs=[.int i]/\Q (.int i) H)\/∃k,xs=[.bl k]/\Q (.int (if k then 1 else 0)) H):=by
 intro d s g H xs f Q I r h;rcases h with⟨i,rfl,q⟩|⟨k,rfl,q⟩
 ·obtain⟨u,rfl,t,rfl⟩:=Dg r;exact call_int_int ⟨.int i,H,I,⟨_,rfl⟩,q⟩
 ·obtain⟨u,rfl,e⟩:=Dg r;cases e;exact call_int_bool ⟨.int (if k then 1 else 0),H,I.tok _,⟨_,rfl⟩,q⟩
theorem Bm:Cu X (.type "str") (λxs H Q=>∃i,xs=[.int i]/\i.natAbs.log2<1920/\Q (.str (toString i)) H):=by
 intro d s g H xs f Q I r h;obtain⟨i,rfl,e,q⟩:=h;obtain⟨u,rfl,t,rfl⟩:=Dg r;exact PySem.P.str_of_int e ⟨.str _,H,I.tok _,⟨_,rfl⟩,q⟩
end
structure Tz(h:Heap)(x dx C:Addr)(mA:Str->Option q3):Prop where
 obj:h.get? x=some (W.instObj C dx)
 ns:h.Ns1 dx mA
 ne:dx≠x
theorem Yg{h:Heap}{b:Addr}{d:Str->Option q3}(n:h.Ns1 b d):∃f,h.get? b=some f/\∀name,W.lookIn name f=some (d name):=by
 obtain⟨o,c,s,m,i,j,_,l⟩:=n;refine⟨o,m,λname=>?_⟩;have e:=l name;unfold nsFind findBy at e;rw[<- Array.find?_toList]at e;unfold W.lookIn;rw[i];dsimp only;split
 ·rename_i y q;rw[q]at e;exact congrArg some e
 ·rename_i q;rw[q]at e
  have a:c.toList.any (·.refKey)=false:=by
   rw[List.any_eq_false];intro y p;obtain⟨z,t,r⟩:=j y (Array.mem_toList_iff.mp p);simp[DictEntry.refKey,r]
  have g:¬c.toList.any (·.refKey)=true:=by rw[a];exact fy
  rw[if_neg g];exact congrArg some e
theorem Tz.look(I:Tz h x b C c):∃a,W.InstAt h x (W.instObj C b) C (some a)/\∀name,W.lookIn name a=some (c name):=
 let⟨a,e,d⟩:=Yg I.ns
 ⟨a,⟨I.obj,rfl,rfl,e⟩,d⟩
section
variable {prog:q4}{w:ra}{A:q5}{E:pQ}{s:qU}{K:W.Frag}{x dx C f:Addr}{mA:Str->Option q3}{name:Str}{v:q3}
theorem kx{a:Bool}{Q:pQ}(X:K.In s.heap)(I:Tz s.heap x dx C mA)(d:W.plainGet K C name=true)(e:W.hasDictIn K C=true)
  (c:W.findIn K (.ref C) name=some none)(i:mA name=some v)(b:W.handedIn v=true)(h:Q v {s with toks:=s.toks+1}):
  wpAny (model prog w) A (getAttr (.ref x) name a) Q E s:=by
 obtain⟨j,J,g⟩:=I.look;exact W.get_value X J (W.plainGet_of d).1 (W.findObj_own e c rfl (by rw[g,i])) b h
theorem ar{pl:Sem Bool}{Q:q3×List q3->qU->Prop}(X:K.In s.heap)(I:Tz s.heap x dx C mA)(a:W.plainGet K C name=true)
  (b:W.findIn K (.ref C) name=some (some (.ref f)))(d:W.isFn K (.ref f)=true)(e:mA name=none)(h:Q (.ref f,[.ref x]) s):
  wpAny (model prog w) A (getMethod (.ref x) name pl) Q E s:=by
 obtain⟨g,J,c⟩:=I.look;exact W.method_fn X J (W.plainGet_of a).1 (W.plainGet_of a).2 b (beq_iff_eq.mp d) (by show(W.lookIn name g).map (·.isSome)=some false;rw[c,e];rfl) h
theorem nr{ns:List Str}{Q:Unit->qU->Prop}(X:K.In s.heap)(I:Tz s.heap x dx C mA)
  (o:W.findIn K (.ref C) "__setattr__"=some (some (.builtin "object.__setattr__")))(n:W.plainOver K C=true)(p:W.takerIn K C name=some none)(m:W.hasDictIn K C=true)
  (q:PySem.Within mA ns)(hsz:ns.length<=sizeLine)
  (h:∀h',Tz h' x dx C (λy=>if y=name then some v else mA y)->Heap.SameBut dx s.heap h'->Q () {s with heap:=h',toks:=s.toks+2}):
  wpAny (model prog w) A (setAttr (.ref x) name v) Q E s:=by
 obtain⟨F,J,B⟩:=I.look;refine W.set_plain X J o (W.osa_open (s:={s with toks:=s.toks+1}) (r:=none) X J n p λb=>?_);obtain⟨z,l,u⟩:=W.any_some m;have r:s.heap.get? x=some ⟨.ref C,some dx,.plain,#[]⟩:=I.obj;refine aN (a6 (aN (aN (wpAny_loadPart r (aN (W.Looks.here (s:={s with toks:=s.toks+1}) (W.looks_clsIn X l) ?_))))));rw[u];refine a6 (a:=some dx) (aN (a6 (aN ?_)));refine wpAny_nsSet1 (s:={s with toks:=s.toks+1}) I.ns λh' d e=>?_;obtain⟨D,j,i,c,a,g⟩:=d.count (PySem.Within.cons name v q);refine aN (wpAny_lookBehind c (by rw[a];exact pastItsLine_dict (ea g (by rw[List.length_cons];omega))) ?_);exact a6 (h _ ⟨(e.2 _ (Ne.symm I.ne)).trans I.obj,d,I.ne⟩ e)
theorem bp{R:Result->qU->Prop}{vs:List q3}{b:List (Str×q3)}(X:K.In s.heap)(i:W.makesIn K C=true)
  (e:W.findIn K (.ref C) "__init__"=some (some (.ref f)))(c:W.typeIn K (.ref f)=some (.type "function"))
  (h:codeAny (model prog w) (A.under (.builtin "type.__call__" ⟨.ref C::vs,b⟩)) (.call (.ref f) ⟨.ref (s.heap.objs.size+1)::vs,b⟩) (W.InitBack (s.heap.objs.size+1) R)
   {s with heap:=(s.heap.push W.emptyDict).push (W.instObj C s.heap.objs.size) }):
  codeAny (model prog w) A (.call (.ref C) ⟨vs,b⟩) R s:=by
 obtain⟨j,g,d,t,l⟩:=s;exact W.make_core (W.makes_of X i) (W.looks_findIn X e) (λa=>W.bind_fn X a c) (.inl rfl) h
end
def Gj(f:Str)(v:V):List (Str×V)->List (Str×V)
 |[]=>[(f,v)]
 |(g,x)::r=>if g=f then(g,v)::r else(g,x)::Gj f v r
theorem Kz(f g:Str)(v:V):∀fs:List (Str×V),(Gj f v fs).lookup g=if g=f then some v else fs.lookup g
 |[]=>by
  show List.lookup g [(f,v)]=_;by_cases h:g=f
  ·have a:(g==f)=true:=beq_iff_eq.mpr h;simp only[List.lookup,a,if_pos h]
  ·have a:(g==f)=false:=beq_eq_false_iff_ne.mpr h;simp only[List.lookup,a,if_neg h]
 |(k,x)::r=>by
  have c:=Kz f g v r;rw[show Gj f v ((k,x)::r)=(if k=f then(k,v)::r else(k,x)::Gj f v r)from rfl];by_cases b:k=f
  ·rw[if_pos b];by_cases h:g=k
   ·have a:(g==k)=true:=beq_iff_eq.mpr h;simp only[List.lookup,a,if_pos (h.trans b)]
   ·have a:(g==k)=false:=beq_eq_false_iff_ne.mpr h;simp only[List.lookup,a,if_neg (λe:g=f=>h (e.trans b.symm))]
  ·rw[if_neg b];by_cases h:g=k
   ·have a:(g==k)=true:=beq_iff_eq.mpr h;simp only[List.lookup,a,if_neg (λe:g=f=>b (h.symm.trans e))]
   ·have a:(g==k)=false:=beq_eq_false_iff_ne.mpr h;simp only[List.lookup,a];exact c
theorem Kh(f:Str)(v:V):∀fs:List (Str×V),f∈(Gj f v fs).map (·.1)/\∀g,g∈fs.map (·.1)->g∈(Gj f v fs).map (·.1)
 |[]=>⟨by simp[Gj],λg h=>by simp at h⟩
 |(k,x)::r=>by
  obtain⟨b,c⟩:=Kh f v r;rw[show Gj f v ((k,x)::r)=(if k=f then(k,v)::r else(k,x)::Gj f v r)from rfl];by_cases a:k=f
  ·rw[if_pos a];subst a;exact⟨by simp,λg h=>by simpa using h⟩
  ·rw[if_neg a];refine⟨?_,λg h=>?_⟩
   ·rw[List.map_cons];exact d0 _ b
   ·rw[List.map_cons]at h⊢;rcases eH.mp h with e|e
    ·exact eH.mpr (.inl e)
    ·exact d0 _ (c g e)
theorem Ky(f:Str)(v:V):∀fs:List (Str×V),(Gj f v fs).length<=fs.length+1
 |[]=>by simp[Gj]
 |(k,x)::r=>by
  have b:=Ky f v r;rw[show Gj f v ((k,x)::r)=(if k=f then(k,v)::r else(k,x)::Gj f v r)from rfl];by_cases a:k=f
  ·rw[if_pos a,List.length_cons,List.length_cons];omega
  ·rw[if_neg a,List.length_cons,List.length_cons];omega
theorem Ft.some_of(r:Ft (some v) o):∃u,o=some u/\B0 v u:=by
 cases o with
 |none=>exact(show False from r).elim
 |some u=>exact⟨u,rfl,r⟩
theorem Ft.none_of(r:Ft none o):o=none:=by
 cases o with
 |none=>rfl
 |some u=>exact(show False from r).elim
theorem Y6(r:B0 v u):W.handedIn u=true:=by
 cases v with
 |bN=>cases(show u=Value.none from r);rfl
 |bl b=>cases(show u=Value.bool b from r);rfl
 |int i=>obtain⟨t,e⟩:=(show∃t,u=Value.int i t from r);cases e;rfl
 |str x=>obtain⟨t,e⟩:=(show∃t,u=Value.str x t from r);cases e;rfl
 |uK b=>obtain⟨t,e⟩:=(show∃t,u=Value.bytes b t from r);cases e;rfl
 |JU b=>obtain⟨t,e⟩:=(show∃t,u=Value.float b t from r);cases e;rfl
 |ref a=>cases(show u=Value.ref a from r);rfl
 |ty n=>cases(show u=Value.type n from r);rfl
section
variable {P:q4}{w:ra}{H H':Hp}{h h':Heap}{a C dx:Addr}{fs fs':List (Str×V)}
theorem Lz(c:Gm P w H h)(e:H a=some (.ins C dx fs)):∃b,Tz h a dx C b/\(∀f,Ft (fs.lookup f) (b f))/\PySem.Within b (fs.map (·.1))/\fs.length<=1000/\H dx=some (.own a):=by
 obtain⟨d,z,ne,g,b,n,r,q⟩:=(show Bl P w H h a (.ins C dx fs)from c a _ e);exact⟨b,⟨g,n,ne⟩,r,q,z,d⟩
end
structure Zc(K:W.Frag)(C:Addr):Prop where
 pg:W.plainGet K C Str.empty=true
 hd:W.hasDictIn K C=true
 po:W.plainOver K C=true
 sa:W.findIn K (.ref C) "__setattr__"=some (some (.builtin "object.__setattr__"))
theorem Zc.get{K:W.Frag}{C:Addr}(c:Zc K C)(f:Str):W.plainGet K C f=true:=c.pg
def Ex(K:W.Frag)(C:Addr)(f:Str):Prop:=W.findIn K (.ref C) f=some none
theorem Ex.RY{K:W.Frag}{C:Addr}{f:Str}(n:Ex K C f):W.takerIn K C f=some none:=by
 unfold W.takerIn;rw[show W.findIn K (.ref C) f=some none from n];rfl
structure Lh(K:W.Frag)(C:Addr)(m:Str)(f:Addr):Prop where
 at_:W.findIn K (.ref C) m=some (some (.ref f))
 fn:W.isFn K (.ref f)=true
 kp:W.keepIn K (.ref f)=true
section
variable {X:Cx}{pins:List (Addr×Obj)}{σ:St}{H:Hp}{s:qU}{a C dx:Addr}{fs:List (Str×V)}{f:Str}{v:V}{A:q5}{E:pQ}
theorem Ue(I:Am X pins σ H s)(e:H a=some (.ins C dx fs))(c:Zc X.K C)(n:Ex X.K C f)(l:fs.lookup f=some v)
  (h:∀u s',Am X pins σ H s'->B0 v u->Q u s'):wpAny (model X.prog X.w) A (getAttr (.ref a) f b) Q E s:=by
 obtain⟨i,O,r,_,_,_⟩:=Lz I.aK e;obtain⟨u,g,d⟩:=Ft.some_of (v:=v) (o:=i f) (by rw[<- l];exact r f);exact kx I.gZ O (c.get f) c.hd n g (Y6 d) (h u _ (I.tok _) d)
theorem Ic(I:Am X pins σ H s)(e:H a=some (.ins C dx fs))(c:Zc X.K C)(k:Lh X.K C m g)(l:fs.lookup m=none)
  (h:Q (.ref g,[.ref a]) s):wpAny (model X.prog X.w) A (getMethod (.ref a) m pl) Q E s:=by
 obtain⟨d,O,r,_,_,_⟩:=Lz I.aK e;have b:d m=none:=Ft.none_of (by rw[<- l];exact r m);exact ar I.gZ O (c.get m) k.at_ k.fn b h
theorem Va(I:Am X pins σ H s)(e:H a=some (.ins C dx fs))(c:Zc X.K C)(n:Ex X.K C f)(J:fs.length<1000)(F:B0 y u)
  (h:∀s',Am X pins σ (upd H a (.ins C dx (Gj f y fs))) s'->Q () s'):wpAny (model X.prog X.w) A (setAttr (.ref a) f u) Q E s:=by
 obtain⟨j,O,r,l,_,i⟩:=Lz I.aK e;have D:(fs.map (·.1)).length<=sizeLine:=by rw[List.length_map,sizeLine_eq];omega
 refine nr I.gZ O c.sa c.po n.RY c.hd l D λp d G=>h _ ?_;have x:∃o,p.get? dx=some o:=let⟨o,_,_,m,_⟩:=d.ns;⟨o,m⟩;refine I.write (x:=a) (e:=dx) (by rw[e];exact True.intro) (.inr i) (λb q w z=>(G.2 b w).trans z) x ?_;refine⟨by rw[A9 O.ne];exact i,?_,O.ne,d.obj,_,d.ns,λg=>?_,λg B=>?_⟩
 ·have:=Ky f y fs;omega
 ·show Ft ((Gj f y fs).lookup g) (if g=f then some u else j g);rw[Kz];by_cases q:g=f
  ·rw[if_pos q,if_pos q];exact F
  ·rw[if_neg q,if_neg q];exact r g
 ·by_cases q:g=f
  ·rw[q];exact(Kh f y fs).1
  ·refine(Kh f y fs).2 g (l g λz=>B ?_);show(if g=f then some u else j g)=none;rw[if_neg q];exact z
theorem Am.made(I:Am X pins σ H s):Am X pins σ (upd (upd H s.heap.objs.size (.own (s.heap.objs.size+1))) (s.heap.objs.size+1) (.ins C s.heap.objs.size []))
  {s with heap:=(s.heap.push W.emptyDict).push (W.instObj C s.heap.objs.size) }:=by
 have c:(s.heap.push W.emptyDict).get? s.heap.objs.size=some W.emptyDict:=da s.heap rfl
 have g:((s.heap.push W.emptyDict).push (W.instObj C s.heap.objs.size)).get? (s.heap.objs.size+1)=some (W.instObj C s.heap.objs.size):=by
  have:=da (s.heap.push W.emptyDict) (o:=W.instObj C s.heap.objs.size) rfl;rwa[Heap.size_push]at this
 have h:(s.heap.push W.emptyDict).Ns s.heap.objs.size (λ_=>none):=⟨W.emptyDict,#[],_,c,rfl,(λe i=>absurd i (by simp)),λ_=>rfl⟩;have d:=I.laid (a:=s.heap.objs.size) (o:=.own (s.heap.objs.size+1)) (h':=s.heap.push W.emptyDict) (t':=s.toks) (λb u q=>cv _ q) (dr _) ⟨_,c⟩;refine d.laid (a:=s.heap.objs.size+1) (o:=.ins C s.heap.objs.size []) (t':=s.toks) (λb u q=>cv _ q) (Nat.le_of_eq (Heap.size_push _ _)) ?_;have ne:s.heap.objs.size≠s.heap.objs.size+1:=ft (Nat.lt_succ_self _);refine⟨by rw[A9 ne,A2],mu _,ne,g,λ_=>none,(Heap.Ns1.of_empty h).at λo q=>cv _ q,λ_=>True.intro,λy j=>absurd rfl j⟩
theorem jy{prog:q4}{env:Env}{pos:Pos}(c:attributeBase e f env (eval e env)=eval e env)
  (h:wpAny (model prog w) A (eval e env) (λo b=>wpAny (model prog w) A (getAttr o f true) Q E b) E s):wpAny (model prog w) A (eval (.Attribute e f pos) env) Q E s:=
 Attribute_any_ h (by rw[arm_eval_Attribute,c])
end
def A2c(K:W.Frag)(d:TE)(f:Str):TE:=λe H Q=>d e H λx b=>∃a C c fs v,x=.ref a/\b a=some (.ins C c fs)/\Zc K C/\Ex K C f/\fs.lookup f=some v/\Q v b
def A28(K:W.Frag)(g h:TE)(f:Str):TS:=λD b H=>h b H λy e=>g b e λx c=>∃a C d fs,x=.ref a/\c a=some (.ins C d fs)/\Zc K C/\Ex K C f/\fs.length<1000/\
 D.nx b (upd c a (.ins C d (Gj f y fs)))
section
variable {X:Cx}{o e value:Expr}{f:Str}{pos pos' qP:Pos}{ta tv:TE}
theorem C8(he:PE X e ta)(r:attributeBase e f X.env (eval e X.env)=eval e X.env):PE X (.Attribute e f pos) (A2c X.K ta f):=by
 intro b s z H Q I h;refine jy r (Br (he b s z H _ I h) λu B j=>?_);obtain⟨x,d,g,y,a,C,A,fs,v,p,m,c,n,l,q⟩:=j;subst p;obtain rfl:u=Value.ref a:=y;exact Ue g m c n l λE D i w=>⟨v,d,i,w,q⟩
theorem F4(v:PE X o ta)(z:PE X value tv)(w:swapsWith value (some (.Attribute o f pos')) pos.line X.env=pure false):PS X (.Assign [.Attribute o f pos'] value pos) (A28 X.K ta tv f):=by
 intro b s d H D I h;refine plainObj_wpAny_Assign_Attribute (Br (z b s d H _ I h) λu G ⟨y,g,i,F,q⟩=>Br (v b G d g _ i q) λA L ⟨x,J,j,E,a,C,K,fs,r,p,c,n,l,B⟩=>?_) w;subst r;obtain rfl:A=Value.ref a:=E;exact Va j p c n l F λM m=>⟨d,_,m,B⟩
end
section
variable {X:Cx}{pins:List (Addr×Obj)}{σ:St}{H:Hp}{s:qU}{A:q5}{E:pQ}{Q:pQ}{c:q3}{b:Bool}
inductive Jy(K:W.Frag)(H:Hp):V->q3->Prop where
 |bN:Jy K H .bN (.type "NoneType")
 |bl (x:Bool):Jy K H (.bl x) (.type "bool")
 |int (i:Int):Jy K H (.int i) (.type "int")
 |str (x:Str):Jy K H (.str x) (.type "str")
 |JU (x:UInt64):Jy K H (.JU x) (.type "float")
 |lst {a:Addr}{xs:List V} (e:H a=some (.lst xs)):Jy K H (.ref a) (.type "list")
 |fB {a:Addr}{o:Obj}{xs:List V} (e:H a=some (.fB o (.lst xs))):Jy K H (.ref a) (.type "list")
 |tup {a:Addr}{xs:List V} (e:H a=some (.tup xs)):Jy K H (.ref a) (.type "tuple")
 |dK {a:Addr}{kvs:List (E3×V)} (e:H a=some (.dK kvs)):Jy K H (.ref a) (.type "dict")
 |dT {a:Addr}{kvs:pR} (e:H a=some (.dT kvs)):Jy K H (.ref a) (.type "dict")
 | ins {a C dx : Addr} {fs : List (Str × V)} (e : H a = some (.ins C dx fs)) (cl : Zc K C) (ha : W.findIn K (.ref C) "__class__" = some (some (.builtin "object.__class__")))
   (hn:W.specialIn K (.builtin "object.__class__") "__get__"=some (some (.builtin "getset_descriptor.__get__"))) (htk:W.takesIn K (.builtin "object.__class__")=some true)
   (hm:W.mroIn K C (.type "object")=some true):Jy K H (.ref a) (.ref C)
theorem Y9{u t:q3}(I:Am X pins σ H s)(f:B0 x u)(ty:Jy X.K H x t)(e:W.kitOne X.K t c=some b)(h:∀L,Q (.bool b) {s with toks:=L}):
  wpAny (model X.prog X.w) A (call (.builtin "isinstance") [u,c]) Q E s:=by
 cases ty with
 |bN=>cases(show u=Value.none from f);exact W.kia_one W.kitx_none I.gZ True.intro e (λz=>nomatch z) h
 |bl y=>cases(show u=Value.bool y from f);exact W.kia_one W.kitx_bool I.gZ True.intro e (λz=>nomatch z) h
 |int i=>obtain⟨t,q⟩:=(show∃t,u=Value.int i t from f);cases q;exact W.kia_one W.kitx_int I.gZ True.intro e (λz=>nomatch z) h
 |str y=>obtain⟨t,q⟩:=(show∃t,u=Value.str y t from f);cases q;exact W.kia_one W.kitx_str I.gZ True.intro e (λz=>nomatch z) h
 |JU y=>obtain⟨t,q⟩:=(show∃t,u=Value.float y t from f);cases q;exact W.kia_one W.kitx_float I.gZ True.intro e (λz=>nomatch z) h
 |@lst a l d=>
  cases(show u=Value.ref a from f);obtain⟨_,_,n,_,g⟩:=(show Bl X.prog X.w H s.heap a (.lst l)from I.aK a _ d);exact W.kia_one W.kitx_list I.gZ ⟨_,g,rfl⟩ e (λz=>nomatch z) h
 |@fB a K l d=>
  cases(show u=Value.ref a from f);obtain⟨_,_,_,n,_,g⟩:=(show Bl X.prog X.w H s.heap a (.fB K (.lst l))from I.aK a _ d);exact W.kia_one W.kitx_list I.gZ ⟨_,g,rfl⟩ e (λz=>nomatch z) h
 |@tup a l d=>
  cases(show u=Value.ref a from f);obtain⟨_,_,_,p⟩:=(show Bl X.prog X.w H s.heap a (.tup l)from I.aK a _ d);obtain⟨o,g,m,_⟩:=p;exact W.kia_one W.kitx_tuple I.gZ ⟨o,g,m⟩ e (λz=>nomatch z) h
 |@dK a j d=>
  cases(show u=Value.ref a from f);obtain⟨_,_,R,_,p⟩:=(show Bl X.prog X.w H s.heap a (.dK j)from I.aK a _ d);obtain⟨o,B,w,g,m,_⟩:=p;exact W.kia_one W.kitx_dict I.gZ ⟨o,g,m.1⟩ e (λz=>nomatch z) h
 |@dT a j d=>
  cases(show u=Value.ref a from f);obtain⟨_,_,l,_,o,B,w,g,m,_⟩:=(show Bl X.prog X.w H s.heap a (.dT j)from I.aK a _ d);exact W.kia_one W.kitx_dict I.gZ ⟨o,g,m.1⟩ e (λz=>nomatch z) h
 |@ins a C M fs d v D G r F=>
  cases(show u=Value.ref a from f);obtain⟨N,O,_⟩:=Lz I.aK d;obtain⟨P,J,_⟩:=O.look;exact W.kia_one (W.kitx_own (v.get _) v.hd D G r F) I.gZ J e (λz=>nomatch z) h
end
structure Be(k:Nat)(A:q5):Prop where
 hd:A.handled=none
 dp:A.depth+3*k+5<recursionLimit
 un:A.units+16*k+200<cLine
theorem Be.mono{j k:Nat}(r:Be k A)(h:j<=k):Be j A:=⟨r.hd,by have:=r.dp;omega,by have:=r.un;omega⟩
theorem Be.deeper{k:Nat}(r:Be (k+1) A)(env:Env):Be k (A.deeper env):=
 ⟨r.hd,by have:=r.dp;show A.depth+1+3*k+5<_;omega,by have:=r.un;show A.units+3+16*k+200<_;omega⟩
theorem Um{A:q5}{C:Addr}{us:List q3}{a:List (Str×q3)}:(A.under (.builtin "type.__call__" ⟨.ref C::us,a⟩)).depth=A.depth+1:=by
 first|rfl|simp[Around.under,Code.weight,Code.isCreation,Code.isGuard,Code.isCaller,Code.frames,Code.isFrame,guardIds]
theorem Uo{A:q5}{C:Addr}{us:List q3}{a:List (Str×q3)}:(A.under (.builtin "type.__call__" ⟨.ref C::us,a⟩)).units=A.units+1:=by
 first|rfl|simp[Around.under,Code.cUnits,Code.frames,Code.isFrame]
theorem Be.make{k:Nat}(r:Be (k+1) A)(C:Addr)(us:List q3)(a:List (Str×q3)):Be k (A.under (.builtin "type.__call__" ⟨.ref C::us,a⟩)):=
 ⟨r.hd,by have:=r.dp;rw[Um];omega,by have:=r.un;rw[Uo];omega⟩
theorem Be.depth{k:Nat}(r:Be k A):A.depth<recursionLimit:=by have:=r.dp;omega
theorem Be.units{k:Nat}(r:Be k A):A.units+64<cLine:=by have:=r.un;omega
def jl:TA:=λ_ H Q=>Q [] H
def jk(d:TE)(e:TA):TA:=λa H Q=>d a H λx b=>e a b λf c=>Q (x::f) c
section
variable {X:Cx}{e:Expr}{es:List Expr}{te:TE}{t:TA}{pos:Pos}
theorem A4:PA X [] jl:=λ_ _ _ _ H Q I h=>Calls.spliced_nil ⟨[],H,I,.nil,h⟩
theorem A0(j:PE X e te)(l:PA X es t)(m:starEach (e::es) X.env=(false,eval e X.env)::starEach es X.env:=by rfl):PA X (e::es) (jk te t):=by
 intro pos a s b H Q I h;rw[m];show wpAny _ _ (spliced ((false,eval e X.env)::backTo pos (starEach es X.env))) _ _ s;refine Calls.spliced_cons (Br (j a s b H _ I h) λu r i=>?_);obtain⟨x,c,f,p,n⟩:=i;exact Br (l pos a r b c _ f n) λy w ⟨v,d,g,q,o⟩=>⟨x::v,d,g,.cons p q,o⟩
def A2n(t:TA):TE:=λc H Q=>t c H λb a=>b.length<=sizeLine/\∀p,a p=none->Q (.ref p) (upd a p (.tup b))
def A2g(t:TA):TE:=λc H Q=>t c H λb a=>b.length<=sizeLine/\∀p,a p=none->Q (.ref p) (upd a p (.lst b))
theorem Cz{x1}(h:PA X es t):PE X (.Tuple es x1 pos) (A2n t):=by
 intro a s m H Q I i;refine wpAny_Tuple_spliced (Br (h pos a s m H _ I i) λj c ⟨l,d,f,r,z,q⟩=>⟨by rw[<- r.length];exact z,?_⟩);have g:d c.heap.objs.size=none:=f.aK.fresh (dr _);refine⟨.ref c.heap.objs.size,upd d c.heap.objs.size (.tup l),f.laid (t':=c.toks) (λb u e=>cv _ e) (dr _) ?_,rfl,q _ g⟩;exact⟨⟨z,⟨_,da _ rfl,rfl⟩⟩,j,r,⟨_,da _ rfl,rfl,_,rfl⟩⟩
theorem B6(h:PA X es t):PE X (.List es pos) (A2g t):=by
 intro a s m H Q I i;refine wpAny_List_spliced (Br (h pos a s m H _ I i) λj c ⟨l,d,f,r,z,q⟩=>⟨by rw[<- r.length];exact z,?_⟩);have g:d c.heap.objs.size=none:=f.aK.fresh (dr _);refine⟨.ref c.heap.objs.size,upd d c.heap.objs.size (.lst l),f.laid (t':=c.toks) (λb u e=>cv _ e) (dr _) ?_,rfl,q _ g⟩;exact⟨z,j,0,r,da _ rfl⟩
end
abbrev Sp:=List V->Hp->VK->XK->Prop
abbrev Ze:=List Env->Hp->qU->XK->q3->qU->Prop
structure Tw(P:q4)(w:ra)(K:W.Frag)(mg:Str->Option q3)(base:Heap)(A:q5)(outer:List Env)(s:qU)(H:Hp):Prop where
 frames:A.frames=some outer
 mod:Mod K mg base
 bs:∀b o,base.get? b=some o->s.heap.get? b=some o/\H b=none
 xI:base.objs.size<=s.heap.objs.size
 iI:s.heap.FunFrames base outer
 DA:∀b∈jR outer,H b=none
 aK:Gm P w H s.heap
 bare:AllBare s.gens
def CE(outer:List Env)(P:q4)(w:ra)(H:Hp)(s:qU)(Q:VK)(u:q3)(s':qU):Prop:=
 ∃v a,s'.os=s.os/\AllBare s'.gens/\Un (jR outer) [] H a s.heap s'.heap/\Gm P w a s'.heap/\B0 v u/\Q v a
def CR(CX:Ze)(outer:List Env)(P:q4)(w:ra)(H:Hp)(s:qU)(Q:VK)(E:XK)(r:Result)(s':qU):Prop:=
 match r with
 | .ok (.ret u)=>CE outer P w H s Q u s'
 | .ok _=>False
 | .error e=>CX outer H s E e s'
structure B3(P:q4)(w:ra)(K:W.Frag)(mg:Str->Option q3)(base:Heap)(CX:Ze)(k:Nat)(f:Addr)(fd:q7)(ps:List Str)(sp:Sp):Prop where
 len:∀vs H Q E,sp vs H Q E->vs.length=ps.length
 run:∀(A:q5) (outer:List Env) (s:qU) (H:Hp) (args:Args) (us:List q3) (vs:List V) (Q:VK) (E:XK),Be k A->Tw P w K mg base A outer s H->BindsTo s fd args (ps.zip us)->Ay vs us->sp vs H Q E->
  codeAny (model P w) A (.call (.ref f) args) (CR CX outer P w H s Q E) s
theorem Tw.make{P:q4}{w:ra}{K:W.Frag}{mg:Str->Option q3}{base:Heap}{A:q5}{outer:List Env}{s:qU}{H:Hp}(e:Tw P w K mg base A outer s H)(C:Addr)(us:List q3)(a:List (Str×q3)):
  Tw P w K mg base (A.under (.builtin "type.__call__" ⟨.ref C::us,a⟩)) outer s H:=⟨by first|exact e.frames|(simpa[Around.under,Code.envs,Code.isFrame,pushEnvs]using e.frames),e.mod,e.bs,e.xI,e.iI,e.DA,e.aK,e.bare⟩
section
variable {X:Cx}{pins:List (Addr×Obj)}{σ:St}{H:Hp}{s s':qU}
theorem Am.JY(I:Am X pins σ H s):Tw X.prog X.w X.K X.mg X.base X.A X.stack s H:=
 ⟨I.ok.frames,I.ok.mod,I.bs,ea I.ok.xI I.sz,I.stack,I.gI,I.aK,I.bare⟩
theorem Am.after(I:Am X pins σ H s)(h:CE X.stack X.prog X.w H s Q u s'):EP X pins σ Q u s':=by
 obtain⟨v,e,j,a,un,f,r,q⟩:=h;obtain⟨i,g,d,t,c⟩:=s';obtain rfl:c=s.os:=j;exact⟨v,e,I.call (h':=i) (g':=g) (d':=d) (t':=t) (ch:=[]) un f a (λb z=>absurd z (by simp)),r,q⟩
end
def A18(sp:Sp)(b:List V)(E:XK)(t:TA):TE:=λd H Q=>t d H λc a=>sp (c++b) a Q E
def pz(C:Addr)(m:Str)(sp:Sp)(f:List V)(E:XK)(g:TE)(t:TA):TE:=λc H Q=>g c H λx b=>∃a e fs,x=.ref a/\b a=some (.ins C e fs)/\fs.lookup m=none/\
 t c b λh d=>sp (x::(h++f)) d Q E
def A1d(C:Addr)(sp:Sp)(d:List V)(E:XK)(t:TA):TE:=λf H Q=>t f H λe b=>∀x a,b x=none->b a=none->a≠x->
 sp (.ref x::(e++d)) (upd (upd b a (.own x)) x (.ins C a [])) (λv c=>v=.bN/\Q (.ref x) c) E
def Cp(K:W.Frag)(c:q7)(ps:List Str)(b:List q3):Prop:=
 ∀(s:qU) (a:List q3),K.In s.heap->(a++b).length=ps.length->BindsTo s c ⟨a,[]⟩ (ps.zip (a++b))
theorem Cp.all{K:W.Frag}{a:q7}{ps:List Str}(h:∀us:List q3,us.length=ps.length->bindArgs a ⟨us,[]⟩=pure (ps.zip us)):Cp K a ps []:=λs us _ b=>by
 rw[List.append_nil]at b⊢;exact .of_eq (h us b)
def Hx(CX:Ze)(X:Cx)(E:XK):Prop:=∀(a:List (Addr×Obj)) (c:St) (H:Hp) (s:qU) (e:q3) (b:qU),Am X a c H s->CX X.stack H s E e b->X.xe e b
section
variable {X:Cx}{CX:Ze}{k:Nat}{f C:Addr}{fd:q7}{ps:List Str}{sp:Sp}{gJ:List V}{ds:List q3}{E:XK}{x m:Str}{p pos apos:Pos}{e o:Expr}{es:List Expr}{ta:TE}{t:TA}
theorem V4(F:B3 X.prog X.w X.K X.mg X.base CX k f fd ps sp)(n:Be k X.A)(i:Cp X.K fd ps ds)(j:Ay gJ ds)(q:Hx CX X E)
  (I:Am X a c H s)(r:Ay vs us)(h:sp (vs++gJ) H Q E):wpAny (model X.prog X.w) X.A (call (.ref f) us) (EP X a c Q) X.xe s:=by
 have d:Ay (vs++gJ) (us++ds):=r.append j;have l:(us++ds).length=ps.length:=by rw[<- d.length];exact F.len _ _ _ _ h
 refine wpAny_call (codeAny_mono (F.run X.A X.stack s H ⟨us,[]⟩ (us++ds) (vs++gJ) Q E n I.JY (i s us I.gZ l) d h) λr v b=>?_);cases r with
 |error e=>exact q a c H s e v I b
 |ok g=>
  cases g with
  |ret u=>exact I.after b
  |next=>exact False.elim b
  |brk=>exact False.elim b
  |cont=>exact False.elim b
theorem Ac(F:B3 X.prog X.w X.K X.mg X.base CX k f fd ps sp)(n:Be k X.A)(i:Gl X x)(l:X.mg x=some (.ref f))(j:W.keepIn X.K (.ref f)=true)(d:Cp X.K fd ps ds)(g:Ay gJ ds)(u:Hx CX X E)
  (c:PA X (e::es) t)(w:(x==("__debug__":Str))=false:=by decide)(he:starEach (e::es) X.env=(false,eval e X.env)::starEach es X.env:=by rfl)(v:(backTo pos (starEach es X.env)).any (·.1)=false:=by rfl):
  PE X (.Call (.Name x p) (e::es) [] pos) (A18 sp gJ E t):=by
 intro a s y H Q I h;refine wpAny_Call_Name_kw (Ja I i l ?_ w);refine W.callWith_K (h₀:=X.base) I.ok.mod.fD j (Br (c pos a s y H _ I h) λB A ⟨D,z,b,r,q⟩=>⟨b.gZ,?_⟩) he v;exact V4 F n d g u b r q
theorem M5(he:PE X o ta)(c:Zc X.K C)(i:Lh X.K C m f)(F:B3 X.prog X.w X.K X.mg X.base CX k f fd ps sp)(G:Be k X.A)(B:Cp X.K fd ps ds)(D:Ay gJ ds)(K:Hx CX X E)(A:PA X (e::es) t)
  (z:starEach (e::es) X.env=(false,eval e X.env)::starEach es X.env:=by rfl)(M:(backTo pos (starEach es X.env)).any (·.1)=false:=by rfl)
  (J:eval (.Call (.Attribute o m apos) (e::es) [] pos) X.env=(do
   let j <- eval o X.env
   standAt apos.atName;let(f,first) <- holding [j] (getMethod j m pl)
   callWith pos f first (backTo pos (starEach (e::es) X.env)) (backToKw pos (keywordEach [] X.env))):=by rfl):
  PE X (.Call (.Attribute o m apos) (e::es) [] pos) (pz C m sp gJ E ta t):=by
 intro b s n H Q I h;refine W.methodCall_KW (pl:=pl) (Br (he b s n H _ I h) λu O ⟨x,v,d,N,a,T,fs,y,w,l,q⟩=>?_) J;subst y;obtain rfl:u=Value.ref a:=N;refine Ic d w c i l ?_;refine W.callWith_K (first:=[.ref a]) (h₀:=X.base) I.ok.mod.fD i.kp (Br (A pos b O n v _ d q) λP U ⟨R,S,g,r,L⟩=>⟨g.gZ,?_⟩) z M;exact V4 (us:=.ref a::P) (vs:=.ref a::R) F G B D K g (.cons rfl r) L
theorem ck(he:PE X o ta)(c:Zc X.K C)(g:Lh X.K C m f)(F:B3 X.prog X.w X.K X.mg X.base CX k f fd ps sp)(w:Be k X.A)(r:Cp X.K fd ps ds)(v:Ay gJ ds)(z:Hx CX X E)
  (y:eval (.Call (.Attribute o m apos) [] [] pos) X.env=(do
   let i <- eval o X.env
   standAt apos.atName;let(f,first) <- holding [i] (getMethod i m pl)
   callWith pos f first (backTo pos (starEach [] X.env)) (backToKw pos (keywordEach [] X.env))):=by rfl):
  PE X (.Call (.Attribute o m apos) [] [] pos) (pz C m sp gJ E ta jl):=by
 intro b s B H Q I h;refine W.methodCall_KW (pl:=pl) (Br (he b s B H _ I h) λu J ⟨x,D,d,A,a,G,fs,n,j,l,q⟩=>?_) y;subst n;obtain rfl:u=Value.ref a:=A;refine Ic d j c g l ?_;exact W.callWith_K0 (first:=[.ref a]) d.gZ g.kp (V4 (us:=[.ref a]) (vs:=[.ref a]) F w r v z d (.cons rfl .nil) q)
structure Mk(K:W.Frag)(C f:Addr):Prop where
 makes:W.makesIn K C=true
 init:W.findIn K (.ref C) "__init__"=some (some (.ref f))
 fn:W.isFn K (.ref f)=true
 kp:W.keepIn K (.ref C)=true
theorem df(M:Mk X.K C f)(F:B3 X.prog X.w X.K X.mg X.base CX k f fd ps sp)(D:Be (k+1) X.A)(z:Cp X.K fd ps ds)(A:Ay gJ ds)
  (G:Hx CX X E)(I:Am X a g H s)(r:Ay vs us)
  (h:∀x d,H x=none->H d=none->d≠x->sp (.ref x::(vs++gJ)) (upd (upd H d (.own x)) x (.ins C d [])) (λv n=>v=.bN/\Q (.ref x) n) E):
  wpAny (model X.prog X.w) X.A (call (.ref C) us) (EP X a g Q) X.xe s:=by
 have i:=h (s.heap.objs.size+1) s.heap.objs.size (I.aK.fresh (Nat.le_succ _)) (I.aK.fresh (dr _)) (ft (Nat.lt_succ_self _));have c:=Am.made (C:=C) I;have j:Ay (V.ref (s.heap.objs.size+1)::(vs++gJ)) (Value.ref (s.heap.objs.size+1)::(us++ds)):=.cons rfl (r.append A)
 have B:(Value.ref (s.heap.objs.size+1)::us++ds).length=ps.length:=by
  have e:=j.length;rw[F.len _ _ _ _ i]at e;exact e.symm
 refine wpAny_call (bp (f:=f) I.gZ M.makes M.init (beq_iff_eq.mp M.fn) (codeAny_mono (F.run _ X.stack _ _ ⟨Value.ref (s.heap.objs.size+1)::us,[]⟩ (Value.ref (s.heap.objs.size+1)::(us++ds)) _ _ E (D.make C us [])
  (c.JY.make C us []) (z _ (Value.ref (s.heap.objs.size+1)::us) c.gZ B) j i) λr K b=>?_))
 cases r with
 |error e=>exact G a g _ _ e K c b
 |ok y=>
  cases y with
  |ret u=>
   obtain⟨v,l,q,rv,w,J⟩:=c.after b;subst w;exact⟨rv,⟨V.ref (s.heap.objs.size+1),l,q,rfl,J⟩⟩
  |next=>exact False.elim b
  |brk=>exact False.elim b
  |cont=>exact False.elim b
theorem Su(M:Mk X.K C f)(F:B3 X.prog X.w X.K X.mg X.base CX k f fd ps sp)(i:Be (k+1) X.A)(d:Gl X x)(g:X.mg x=some (.ref C))(b:Cp X.K fd ps ds)(c:Ay gJ ds)(j:Hx CX X E)
  (l:(x==("__debug__":Str))=false:=by decide):PE X (.Call (.Name x p) [] [] pos) (A1d C sp gJ E jl):=by
 intro a s n H Q I h;refine wpAny_Call_Name_kw (Ja I d g ?_ l);exact W.callWith_K0 I.gZ M.kp (df (us:=[]) M F i b c j I .nil h)
end
def PK(X:Cx)(c:List Keyword)(t:TA):Prop:=
 ∀(pos:Pos) (a:List (Addr×Obj)) (s:qU) (b:St) (H:Hp) (Q:List V->Hp->Prop),Am X a b H s->t b H Q->wpAny (model X.prog X.w) X.A (evalAll ((backToKw pos (keywordEach c X.env)).map (·.2))) (AP X a b Q) X.xe s
section
variable {X:Cx}{CX:Ze}{k:Nat}{f C:Addr}{fd:q7}{ps ks:List Str}{sp:Sp}{E:XK}{x m:Str}{p pos apos kpos:Pos}{e o:Expr}{es:List Expr}{RZ:List Keyword}{te ta:TE}{t tk:TA}{nm:Option Str}
theorem wg:PK X [] jl:=λ_ _ _ _ H Q I h=>wpAny_evalAll_nil ⟨[],H,I,.nil,h⟩
theorem mq(j:PE X e te)(l:PK X RZ t):PK X (⟨nm,e,kpos⟩::RZ) (jk te t):=by
 intro pos a s b H Q I h;show wpAny _ _ (evalAll ((do let v <- eval e X.env;standAt pos;pure v)::(backToKw pos (keywordEach RZ X.env)).map (·.2))) _ _ s;refine wpAny_evalAll_cons (aN (Br (j a s b H _ I h) λu y ⟨x,c,g,r,n⟩=>aN (wpAny_standAt (a6 ?_))));exact Br (l pos a y b c _ g n) λB A ⟨z,d,i,w,q⟩=>⟨x::z,d,i,.cons r w,q⟩
variable {g:List q3->List q3->List q3}{gV:List V->List V->List V}
end
structure Af(N P:List Str)(sc:Scope):Prop where
 kind:sc.kind=.function
 co:sc.isCoroutine=false
 gen:sc.isGenerator=false
 nd:N.Nodup
 pre:N.take P.length=P
 par:∀x∈P,sc.names.lookup x=some .local\/sc.names.lookup x=some .cell
 KA:∀y∈sc.names,y.2≠ .free
theorem Ou{a:Str->Option NameKind}:∀{binds:List (Str×q3)}{m:Str->Option q3},(∀v,(x,v)∉binds)->bindL a binds m x=m x
 |[],_,_=>rfl
 |(n,v)::r,m,h=>by
  unfold bindL;rw[Ou λw b=>h w (List.mem_cons_of_mem _ b)];split
  ·have:x≠n:=by rintro rfl;exact h v dm
   simp[this]
  ·rfl
theorem Os{a:Str->Option NameKind}:∀{binds:List (Str×q3)}{m:Str->Option q3},(∀v,(x,v)∉binds)->bindC a binds m x=m x
 |[],_,_=>rfl
 |(n,v)::r,m,h=>by
  unfold bindC;rw[Os λw b=>h w (List.mem_cons_of_mem _ b)];split
  ·rfl
  ·have:x≠n:=by rintro rfl;exact h v dm
   simp[this]
theorem Ot{a:Str->Option NameKind}{v:q3}:∀{P:List Str}{vs:List q3}{i:Nat}{m:Str->Option q3},P.Nodup->P[i]?=some x->vs[i]?=some v->a x=some .local->
  bindL a (P.zip vs) m x=some v
 |[],_,_,_,_,h,_,_=>by simp at h
 |_::_,[],_,_,_,_,h,_=>by simp at h
 |p::P,w::vs,0,m,e,b,c,d=>by
  simp at b c;subst b;subst c;show bindL a ((p,w)::P.zip vs) m p=_;unfold bindL;rw[Ou λv f=>(List.nodup_cons.mp e).1 (List.of_mem_zip f).1,if_pos d];simp
 |p::P,w::vs,i+1,m,e,b,c,d=>by
  show bindL a ((p,w)::P.zip vs) m x=_;unfold bindL;exact Ot (i:=i) (List.nodup_cons.mp e).2 (by simpa using b) (by simpa using c) d
theorem Oq{a:Str->Option NameKind}{v:q3}:∀{P:List Str}{vs:List q3}{i:Nat}{m:Str->Option q3},P.Nodup->P[i]?=some x->vs[i]?=some v->a x≠some .local->
  bindC a (P.zip vs) m x=some v
 |[],_,_,_,_,h,_,_=>by simp at h
 |_::_,[],_,_,_,_,h,_=>by simp at h
 |p::P,w::vs,0,m,e,b,c,d=>by
  simp at b c;subst b;subst c;show bindC a ((p,w)::P.zip vs) m p=_;unfold bindC;rw[Os λv f=>(List.nodup_cons.mp e).1 (List.of_mem_zip f).1,if_neg d];simp
 |p::P,w::vs,i+1,m,e,b,c,d=>by
  show bindC a ((p,w)::P.zip vs) m x=_;unfold bindC;exact Oq (i:=i) (List.nodup_cons.mp e).2 (by simpa using b) (by simpa using c) d
def start(N:List Str)(vs:List V):St:=vs.map some++List.replicate (N.length-vs.length) none
def Fd(CX:Ze)(P:q4)(w:ra)(K:W.Frag)(mg:Str->Option q3)(base:Heap)(N:List Str)(b:Str)(a:Scope)(f:Addr)(d:q3)(A:q5)(outer:List Env)(s:qU)(H:Hp)(E:XK):Cx where
 prog:=P
 w:=w
 K:=K
 mg:=mg
 base:=base
 A:=A.deeper (envOfC b a s.heap.objs.size f d)
 N:=N
 s₀:=s
 H₀:=H
 env:=envOfC b a s.heap.objs.size f d
 outer:=outer
 stack:=envOfC b a s.heap.objs.size f d::outer
 ex:=[]
 calm:=true
 fn:=λ_=>true
 pn:=[]
 xe:=λe h=>wpAny (model P w) (A.deeper (envOfC b a s.heap.objs.size f d)) (leaving (envOfC b a s.heap.objs.size f d) e) (λ_ c=>CX outer H s E e c) (λg c=>CX outer H s E g c) h
theorem Rx{a:Scope}{n:Nat}{x:Str}(h:a.names.lookup x=some .cell):∃c,(cellsFrom n a.names []).lookup x=some c:=by
 have q:=W.cellsFrom_some a.names n [] (.inl h);exact Option.isSome_iff_exists.mp q
theorem Y8{CX:Ze}{P:q4}{w:ra}{K:W.Frag}{mg:Str->Option q3}{base:Heap}{N ps:List Str}{g:Str}{d:Scope}{f:Addr}{B:q3}{A:q5}{outer:List Env}{s J:qU}{H:Hp}{E:XK}{us:List q3}{vs:List V}
  (S:Af N ps d)(M:A.handled=none)(l:Tw P w K mg base A outer s H)(Q:vs.length=ps.length)(r:Ay vs us)
  (x:InCallC s s.heap.objs.size (bindL (envOfC g d s.heap.objs.size f B).kindOf (ps.zip us) λ_=>none) (cellsFrom (s.heap.objs.size+1) d.names []) (bindC (envOfC g d s.heap.objs.size f B).kindOf (ps.zip us) λ_=>none) J):
  Am (Fd CX P w K mg base N g d f B A outer s H E) [] (start N vs) H J:=by
 have R:ps.length<=N.length:=by have:=congrArg List.length S.pre;rw[List.length_take]at this;omega
 obtain⟨C,T,rfl,G⟩:=x.done;have F:∀b:Addr,b∉(Fd CX P w K mg base N g d f B A outer s H E).ex:=λb z=>absurd (show b∈([]:List Addr)from z) (by simp)
 refine⟨⟨l.mod,S.kind,rfl,rfl,dr _,λy z c C j=>?_,λy m=>?_,λy c _ h=>?_,λ_=>M,Around.frames_deeper l.frames,.inr ⟨rfl,rfl⟩,λb z=>absurd z (F b),l.bs,l.xI,λb _ _=>F b,λb z=>absurd z (F b),l.iI,l.DA⟩,
  rfl,l.bare,Un.kept G,⟨_,x.toInCall.ns,λi y v C j O=>?_⟩,λy c h=>⟨_,x.cell y c h⟩,l.aK.fresh (dr _),λy c h=>?_,λp n=>absurd (show p∈([]:List (Addr×Obj))from n) (by simp),l.aK.kept G,?_⟩
 ·exact name_of_addr x.apart (PySem.mem_of_lookup C) (PySem.mem_of_lookup j)
 ·have m:d.names.lookup y=some .cell\/d.names.lookup y=some .free:=m;rcases m with m|m
  ·exact Rx m
  ·exact absurd rfl (S.KA _ (PySem.mem_of_lookup m))
 ·exact nV (x.above y c (PySem.mem_of_lookup h))
 ·have D:i<vs.length:=by
   unfold start at j;by_cases D:i<vs.length
   ·exact D
   ·rw[List.getElem?_append_right (by simpa using D)]at j;rw[List.getElem?_replicate]at j;split at j<;>cases j
  have L:vs[i]?=some v:=by
   unfold start at j;rw[List.getElem?_append_left (by simpa using D),List.getElem?_map]at j;cases e:vs[i]? with
   |none=>rw[e]at j;cases j
   |some a=>rw[e]at j;cases j;rfl
  obtain⟨u,I,rv⟩:=r.get L
  have n:ps[i]?=some y:=by
   rw[<- S.pre,List.getElem?_take_of_lt (by omega)];exact C
  have o:ps.Nodup:=by rw[<- S.pre];exact S.nd.sublist (List.take_sublist _ _)
  refine⟨u,rv,?_⟩;rcases S.par y (cI n)with k|k
  ·exact .inl ⟨k,Ot o n I k⟩
  ·obtain⟨c,e⟩:=Rx (n:=s.heap.objs.size+1) k;refine .inr ⟨.inl k,c,e,?_⟩;have q:=x.cell y c e;rw[Oq o n I (by show d.names.lookup y≠_;rw[k];decide)]at q;exact q
 ·exact l.aK.fresh (nV (x.above y c (PySem.mem_of_lookup h)))
 ·unfold start;show _=N.length;rw[List.length_append,List.length_map,List.length_replicate];omega
theorem am{CX:Ze}{P:q4}{w:ra}{K:W.Frag}{mg:Str->Option q3}{base:Heap}{k:Nat}{f:Addr}{name c:Str}{d:Arguments}{g:List Stmt}{a:Scope}{O kV m R j ct oc:q3}{L od:Option Addr}
  {nO:Array (Option q3)}{N ps:List Str}{sp:Sp}(lk:K.lookup f=some ⟨oc,od,.func (W.fnOf name c d g a O kV m R L j ct),nO⟩)(rZ:W.codeIn K j c=true)(S:Af N ps a)
  (B:∀vs H Q E,sp vs H Q E->vs.length=ps.length)
  (Z:∀(A:q5) (outer:List Env) (s:qU) (H:Hp) (vs:List V) (Q:VK) (E:XK),Be k (A.deeper (envOfC c a s.heap.objs.size f j))->sp vs H Q E->
   ∃t,O6 (Fd CX P w K mg base N c a f j A outer s H E) g t/\t {nx:=λ_ i=>Q .bN i,rt:=Q} (start N vs) H):
  B3 P w K mg base CX (k+1) f (W.fnOf name c d g a O kV m R L j ct) ps sp:=by
 refine⟨B,λA outer s H M us vs Q E C p hb r U=>?_⟩;have hl:=B _ _ _ _ U;have G:K.In s.heap:=p.mod.fD.keeps λb o e=>(p.bs b o e).1;have D:s.heap.NoLimit:=p.mod.nolimit.keeps λb o e=>(p.bs b o e).1
 have X:∀y∈ps.zip us,a.names.lookup y.1=some .local\/(a.names.lookup y.1=some .cell/\((cellsFrom (s.heap.objs.size+1) a.names []).lookup y.1).isSome=true):=λ⟨n,v⟩ hy=>by
  rcases S.par n (List.of_mem_zip hy).1 with q|q
  ·exact .inl q
  ·exact .inr ⟨q,W.cellsFrom_some _ _ _ (.inl q)⟩
 refine codeAny_call_function C.depth (G _ _ lk) rfl S.co S.gen rfl (W.codeRec_of G rZ) (hb _ _ _ _ ?_);refine wpAny_newFunctionEnv_cells S.kind X λY he T x=>?_;subst he;refine⟨D.keeps x.toInCall.keep,codeAny_func ?_⟩;obtain⟨t,ht,hq⟩:=Z A outer s H vs Q E (C.deeper _) U;have I:Am (Fd CX P w K mg base N c a f j A outer s H E) [] (start N vs) H T:=Y8 S C.hd p hl r x;refine iv (ht [] T (start N vs) H _ I hq) (λfl F l=>?_) λe F l=>l
 have z:∀{h:St}{i:Hp}{v:V}{u:q3},Am (Fd CX P w K mg base N c a f j A outer s H E) [] h i F->B0 v u->Q v i->CE outer P w H s Q u F:=
  λ{h i v u} J rv q=>⟨v,i,J.os,J.bare,J.base,J.aK,rv,q⟩
 cases fl with
 |ret u=>
  obtain⟨v,h,i,J,rv,q⟩:=l;exact z J rv q
 |next=>
  obtain⟨h,i,J,q⟩:=l;exact z (v:=V.bN) (u:=Value.none) J rfl q
 |brk=>
  obtain⟨_,_,_,q⟩:=l;exact False.elim q
 |cont=>
  obtain⟨_,_,_,q⟩:=l;exact False.elim q
section
variable {X:Cx}{x:Str}{p pos:Pos}{e:Expr}{es:List Expr}{t:TA}{id T:String}{r:List V->Hp->VK->Prop}
def tCB(r:List V->Hp->VK->Prop)(t:TA):TE:=λc H Q=>t c H λb a=>r b a Q
theorem Ak(g:Cu X (.builtin id) r)(i:Gl X x)(j:X.mg x=none)(m:bootBuiltins x=some (.builtin id))(f:PA X (e::es) t)(l:x≠"__name__":=by decide)(q:(x==("__debug__":Str))=false:=by decide)
  (he:starEach (e::es) X.env=(false,eval e X.env)::starEach es X.env:=by rfl)(o:(backTo pos (starEach es X.env)).any (·.1)=false:=by rfl):PE X (.Call (.Name x p) (e::es) [] pos) (tCB r t):=by
 intro a s b H Q I h;refine wpAny_Call_Name_kw (E9 I i j m ?_ l q);exact PyProof.Rows.callWith_builtin1 (Br (f pos a s b H _ I h) λw v ⟨y,c,d,u,n⟩=>g a v b c y w Q d u n) he o
theorem B5(g:Cu X (.type T) r)(i:Gl X x)(j:X.mg x=none)(m:bootBuiltins x=some (.type T))(f:PA X (e::es) t)(l:x≠"__name__":=by decide)(q:(x==("__debug__":Str))=false:=by decide)
  (he:starEach (e::es) X.env=(false,eval e X.env)::starEach es X.env:=by rfl)(o:(backTo pos (starEach es X.env)).any (·.1)=false:=by rfl):PE X (.Call (.Name x p) (e::es) [] pos) (tCB r t):=by
 intro a s b H Q I h;refine wpAny_Call_Name_kw (E9 I i j m ?_ l q);exact PyProof.Rows.callWith_type1 (Br (f pos a s b H _ I h) λw v ⟨y,c,d,u,n⟩=>g a v b c y w Q d u n) he o
end
end L2
namespace HT
local macro_rules | `(tactic| omega) => `(tactic| lia)
open PySem PyProof.Rows
section
variable {prog:Program}{w:World}{A:Around}{E:Value->Shared->Prop}{s:Shared}
theorem DC{t b:Addr}(y:IsTup s.heap t vs.toArray)(x:IsTup s.heap b ws.toArray)(p:vs≠[])
  (h1:ws=[]->Q (.ref t) s)(v:ws≠[]->Q (.ref s.heap.objs.size) {s with heap:=s.heap.push {cls:=.type "tuple",data:=.seq (vs++ws).toArray} })
  (hsz:vs.length+ws.length<=sizeLine):wpAny (model prog w) A (binaryOp .Add (.ref t) (.ref b)) Q E s:=by
 obtain⟨⟨cls,l,data,r⟩,d,m,n,o⟩:=id y;obtain⟨⟨j,h,g,i⟩,c,u,q,a⟩:=id x;simp only at m o u a;subst m o u a;have e:vs.toArray++ws.toArray=(vs++ws).toArray:=by simp
 by_cases f:ws=[]
 ·exact concat_meets ⟨_,d,rfl⟩ ⟨_,c,rfl⟩ noFill_tuple_add seq_tuple_add PySem.F.slot_tuple_add PySem.F.entry_tuple_add (PySem.F.args_tuple_add_2 _ _)
   (tuple_addW1 t b vs.toArray ws.toArray n q l h r i (by simpa using p) (by simp[f])) ⟨d,c,h1 f⟩
 ·refine concat_meets ⟨_,d,rfl⟩ ⟨_,c,rfl⟩ noFill_tuple_add seq_tuple_add PySem.F.slot_tuple_add PySem.F.entry_tuple_add (PySem.F.args_tuple_add_2 _ _)
   (tuple_addW2 t b vs.toArray ws.toArray n q l h r i (by simpa using p) (by simpa using f) (by rw[List.size_toArray,List.size_toArray];exact hsz)) ⟨d,c,?_⟩
  rw[e];exact v f
def iB(n d:Nat):Option Int->Nat
 |none=>d
 |some v=>if v<0 then(v+(n:Int)).toNat else min v.toNat n
theorem fZ(n d:Nat):iB n d none=d:=rfl
theorem pA(n d k:Nat):iB n d (some (k:Int))=min k n:=by
 show(if(k:Int)<0 then((k:Int)+(n:Int)).toNat else min (k:Int).toNat n)=min k n;rw[if_neg (by omega),Int.toNat_natCast]
end
end HT
namespace L2
local macro_rules | `(tactic| omega) => `(tactic| lia)
open PySem PySem.Spec PyProof.Rows
abbrev TO:=St->Hp->(qH->Hp->Prop)->Prop
def PO(X:Cx)(e:Option Expr)(t:TO):Prop:=
 ∀(a:List (Addr×Obj)) (s:qU) (b:St) (H:Hp) (Q:qH->Hp->Prop),Am X a b H s->t b H Q->
  wpAny (model X.prog X.w) X.A (evalPart e X.env) (λu d=>∃o c,Am X a b c d/\IsPart u o/\Q o c) X.xe s
def ny:TO:=λ_ H Q=>Q none H
def A1g(t:TE):TO:=λb H Q=>t b H λx a=>∃i,x=.int i/\Q (some i) a
theorem Fv:∀{us:List q3},Ay (ns.map V.int) us->IntsAre us ns:=by
 induction ns with
 |nil=>intro us r;rw[List.map_nil]at r;cases r;exact .nil
 |cons n ns a=>
  intro us r;rw[List.map_cons]at r;cases r with
  |cons b c=>
   obtain⟨t,e⟩:=b;subst e;exact .cons n t (a c)
section
variable {X:Cx}{e:Expr}{te:TE}{lo hi:Option Expr}{tl th:TO}{pos p2:Pos}
theorem Hl:PO X none ny:=by
 intro a s b H Q I h;rw[evalPart_none];exact a6 ⟨none,H,I,.none,h⟩
theorem Es(h:PE X e te):PO X (some e) (A1g te):=by
 intro a s l H Q I f;rw[evalPart_some];refine Br (h a s l H _ I f) λu m d=>?_;obtain⟨x,b,c,j,g⟩:=d;obtain⟨i,rfl,q⟩:=g;obtain⟨t,rfl⟩:=j;exact⟨some i,b,c,.int i t,q⟩
def SlR(X:Cx)(r:V->qH->qH->Hp->VK->Prop):Prop:=
 ∀(a:List (Addr×Obj)) (s:qU) (f:St) (H:Hp) (x:V) (v c d:q3) (lo hi:qH) (b:Addr) (Q:VK),Am X a f H s->B0 x v->s.heap.IsSliceOf b c d .none->IsPart c lo->IsPart d hi->r x lo hi H Q->
  ∃T g,typeLookup (.type T) "__getitem__"=pure (some (.builtin g))/\s.TypeIs v T/\wpAny (model X.prog X.w) X.A (getItem v (.ref b)) (EP X a f Q) X.xe s
def tSl(r:V->qH->qH->Hp->VK->Prop)(te:TE)(tl th:TO):TE:=λa H Q=>te a H λx b=>tl a b λl c=>th a c λu d=>r x l u d Q
theorem Ec{r:V->qH->qH->Hp->VK->Prop}(C:SlR X r)(he:PE X e te)(B:PO X lo tl)(E:PO X hi th):PE X (.Subscript e (.Slice lo hi none p2) pos) (tSl r te tl th):=by
 intro a s d H Q I h;refine Subscript_ (Br (he a s d H _ I h) λv N i=>?_);obtain⟨x,m,o,M,J⟩:=i;refine wpAny_Slice (Br (B a N d m _ o J) λf O ⟨l,n,p,F,K⟩=>Br (E a O d n _ p K) λg c i=>?_);obtain⟨u,j,w,G,L⟩:=i;rw[evalPart_none];refine a6 ?_;have y:Am X a d j {c with heap:=c.heap.push {cls:=.type "slice",data:=.fields #[f,g,.none] } }:=w.kept (t':=c.toks) λb R q=>cv _ q;obtain⟨T,P,z,D,A⟩:=C a {c with heap:=c.heap.push {cls:=.type "slice",data:=.fields #[f,g,.none] } } d j x v f g l u c.heap.objs.size Q y M (Heap.IsSliceOf.new ..) F G L;show wpAny (model X.prog X.w) X.A (subscriptTail e (.Slice lo hi none p2) v (.ref c.heap.objs.size)) (EP X a d Q) X.xe {c with heap:=c.heap.push {cls:=.type "slice",data:=.fields #[f,g,.none] } };exact tail_any (ops:=[.ref c.heap.objs.size,v]) D z A (by with_unfolding_all rfl)
def Qb(xs:List V)(lo hi:qH):List V:=(xs.drop (HT.iB xs.length 0 lo)).take (HT.iB xs.length xs.length hi-HT.iB xs.length 0 lo)
theorem S3(xs:List V)(lo hi:qH):(Qb xs lo hi).length<=xs.length:=by
 unfold Qb;rw[List.length_take,List.length_drop];omega
def A0k(K:W.Frag):R2:=λx y H Q=>∃a b d c,x=.ref a/\y=.ref b/\Cf K H a d/\Cf K H b c/\d≠[]/\d.length+c.length<=sizeLine/\
 (c=[]->Q (.ref a) H)/\(c≠[]->∀p,H p=none->Q (.ref p) (upd H p (.tup (d++c))))
theorem Ay.pB(r:Ay xs us):us=[]↔xs=[]:=by
 cases r with
 |nil=>simp
 |cons _ _=>simp
theorem mf:Gn X (binaryOp .Add) (A0k X.K):=by
 intro g s F H x y v u Q I p r h;obtain⟨a,b,A,B,rfl,rfl,i,j,l,f,n,o⟩:=h;cases p;cases r;obtain⟨C,d,m,_⟩:=I.tuple i;obtain⟨D,c,p2,_⟩:=I.tuple j;refine HT.DC m p2 (λz=>l (d.pB.mp z)) (λz=>⟨.ref a,H,I,rfl,n (c.pB.mp z)⟩) (λz=>?_) (by rw[<- d.length,<- c.length];exact f);refine⟨.ref s.heap.objs.size,_,I.laid (t':=s.toks) (o:=.tup (A++B)) (λb E q=>cv _ q) (dr _) ?_,rfl,o (λw=>z (c.pB.mpr w)) _ (I.aK.fresh (dr _))⟩;exact⟨⟨by rw[List.length_append];exact f,⟨_,da _ rfl,rfl⟩⟩,_,d.append c,IsTup.new _ _⟩
end
def jv(n:Nat)(i:Int):Option Nat:=if 0<=i then(if i<n then some i.toNat else none)else if-(n:Int)<=i then some (i+n).toNat else none
def Oa(xs:List a)(i:Int):Option a:=(jv xs.length i).bind λj=>xs[j]?
theorem Wi(h:jv n i=some j):seqIndex? i n=some j/\j<n/\-(n:Int)<=i/\i<n:=by
 unfold jv at h;by_cases b:0<=i
 ·rw[if_pos b]at h;by_cases a:i<n
  ·rw[if_pos a]at h;have e:i.toNat=j:=en h;exact⟨by rw[seqIndex_of b a,e],by omega,by omega,a⟩
  ·rw[if_neg a]at h;cases h
 ·rw[if_neg b]at h;by_cases a:-(n:Int)<=i
  ·rw[if_pos a]at h;have e:(i+n).toNat=j:=en h;exact⟨by rw[seqIndex_neg (by omega) a,e],by omega,a,by omega⟩
  ·rw[if_neg a]at h;cases h
theorem Q5(h:Oa xs i=some v):∃j,seqIndex? i xs.length=some j/\xs[j]?=some v/\j<xs.length/\-(xs.length:Int)<=i/\i<xs.length:=by
 unfold Oa at h;cases e:jv xs.length i with
 |none=>rw[e]at h;cases h
 |some j=>
  rw[e]at h;obtain⟨b,c,d,f⟩:=Wi e;exact⟨j,b,h,c,d,f⟩
theorem Ek{a:Type}{xs:List a}{j:Nat}{v:a}(h:xs[j]?=some v):Oa xs (j:Int)=some v:=by
 have b:j<xs.length:=(cb.mp h).1
 have e:jv xs.length (j:Int)=some j:=by
  unfold jv;rw[if_pos (by omega),if_pos (by omega)];simp
 unfold Oa;rw[e];exact h
def jx(b:Expr):Prop:=∀o i,subscripted b false o i=operate [o,i] (getItem o i)
def zj(X:Cx)(r:R2):Prop:=
 ∀(c a:Expr) (b:List (Addr×Obj)) (s:qU) (d:St) (H:Hp) (x y:V) (v u:q3) (Q:VK),Am X b d H s->B0 x v->B0 y u->r x y H Q->
  subscripted a false v u=operate [v,u] (getItem v u)->wpAny (model X.prog X.w) X.A (subscriptTail c a v u) (EP X b d Q) X.xe s
def z9(X:Cx)(id:String)(r:V->List V->Hp->VK->Prop):Prop:=
 ∀(a:List (Addr×Obj)) (s:qU) (d:St) (H:Hp) (x:V) (c:List V) (v:q3) (b:List q3) (Q:VK),Am X a d H s->B0 x v->Ay c b->r x c H Q->
  wpAny (model X.prog X.w) X.A (call (.builtin id) (v::b)) (EP X a d Q) X.xe s
section
variable {X:Cx}{a b:Expr}{ta tb:TE}{pos:Pos}
theorem Au(i:zj X r)(f:PE X a ta)(g:PE X b tb)(j:jx b):PE X (.Subscript a b pos) (tOp r ta tb):=by
 intro c s o H Q I h;exact Subscript_ (ql f g I h λv u n x y d e l m q=>i a b c n o d x y v u Q e l m q (j _ _))
def A22(K:W.Frag):R2:=λx y H Q=>∃p c i v,x=.ref p/\y=.int i/\Aq K H p c/\Oa c i=some v/\Q v H
def A25(K:W.Frag):R2:=λx y H Q=>∃p c i v,x=.ref p/\y=.int i/\Cf K H p c/\Oa c i=some v/\Q v H
def A24:R2:=λx y H Q=>∃z i c,x=.str z/\y=.int i/\z.length<=sizeLine/\Oa z.cps.toList i=some c/\Q (.str ⟨#[c]⟩) H
theorem lf:zj X (A22 X.K):=by
 intro m l c s B H x y v u Q I M N h A;obtain⟨p,T,i,z,rfl,rfl,K,G,q⟩:=h;cases M;obtain⟨t,rfl⟩:=N;obtain⟨C,r,g,S⟩:=I.list K;obtain⟨j,e,D,P,E,F⟩:=Q5 G;obtain⟨w,n,L⟩:=r.get D;have J:=r.length;have R:=Gy;have d:EP X c B Q w s:=⟨z,H,I,L,q⟩;by_cases o:0<=i
 ·have f:i.toNat=j:=by
   rw[seqIndex_of o F]at e;exact en e
  exact item_listR g.isList o (by omega) (by rw[f];simpa using n) d A
 ·have f:(i+(C.toArray.size:Int)).toNat=j:=by
   rw[seqIndex_neg (by omega) E]at e;rw[List.size_toArray,<- J];exact en e
  exact subscriptTail_builtinR (x:=w) g.isList.typeIs slot_list_getitem.lookup
   (wpAny_getItem_list_neg (Q:=λr O=>r=w/\EP X c B Q r O) g.isList (by omega) (by rw[List.size_toArray]<;>omega) (by omega) (by rw[f];simpa using n) ⟨rfl,d⟩) A
theorem rn:zj X (A25 X.K):=by
 intro f e c s l H x y v u Q I F G h D;obtain⟨p,R,i,z,rfl,rfl,C,A,q⟩:=h;cases F;obtain⟨t,rfl⟩:=G;obtain⟨K,r,g,P⟩:=I.tuple C;obtain⟨j,n,o,L,M,N⟩:=Q5 A;obtain⟨w,m,E⟩:=r.get o;have B:=r.length;have O:=Gy;have d:EP X c l Q w s:=⟨z,H,I,E,q⟩
 exact subscriptTail_builtinR (x:=w) g.typeIs slot_tuple_getitem.lookup
  (getItem_tuple (j:=j) (Q:=λr J=>r=w/\EP X c l Q r J) g (by omega) (by omega) (by rw[List.size_toArray,<- B];exact n) (by simpa using m) ⟨rfl,d⟩) D
theorem bf:zj X A24:=by
 intro e d g s J H x y v u Q I B C h A;obtain⟨z,i,c,rfl,rfl,F,r,q⟩:=h;obtain⟨t,rfl⟩:=B;obtain⟨G,rfl⟩:=C;obtain⟨j,f,n,D,o,p⟩:=Q5 r;have w:z.cps.toList.length=z.length:=by simp[Str.length]
 rw[w]at f o p;have E:=Gy
 exact tail_any (typeIs_str s z t) slot_str_getitem.lookup (getItem_str (c:=c) (by
  have l:decide (i< -(2^63:Int))=false:=mr (by omega);have m:decide (i>=2^63)=false:=mr (by omega);rw[l,m,Bool.or_false]) (by rw[f];simpa using n) ⟨.str ⟨#[c]⟩,H,I.tok _,⟨_,rfl⟩,q⟩) A
theorem Up(c:List q3)(n j:Nat)(u:q3):Obj.mapSeq (·.setIfInBounds j u) {cls:=.type "list",data:=.seq c.toArray n}={cls:=.type "list",data:=.seq (c.set j u).toArray n}:=by
 simp[Obj.mapSeq]
theorem Am.lst(I:Am X c f H s)(h:H p=some (.lst xs)):
  ∃(d:List q3) (n:Nat),Ay xs d/\s.heap.get? p=some {cls:=.type "list",data:=.seq d.toArray n}/\xs.length<=sizeLine:=by
 obtain⟨z,d,n,r,e⟩:=I.aK p _ h;exact⟨d,n,r,e,z⟩
theorem Am.KD{c:List (Addr×Obj)}{j:St}{H:Hp}{s:qU}{p:Addr}{xs ys:List V}{g its':List q3}{n d:Nat}{f:Obj->Obj}(I:Am X c j H s)(h:H p=some (.lst xs))
  (m:s.heap.get? p=some {cls:=.type "list",data:=.seq g.toArray n})(i:f {cls:=.type "list",data:=.seq g.toArray n}={cls:=.type "list",data:=.seq its'.toArray d})(r:Ay ys its')(hz:ys.length<=sizeLine)(t:Nat):
  Am X c j (upd H p (.lst ys)) {s with heap:=s.heap.update p f,toks:=t}:=by
 have e:(s.heap.update p f).get? p=some {cls:=.type "list",data:=.seq its'.toArray d}:=by
  rw[Heap.get?_update_self f m (by rw[i]<;>rfl),i]
 refine I.write (x:=p) (e:=p) (by rw[h];trivial) (.inl rfl) (λb u l q=>(eI _ _ (Ne.symm l)).trans q) ⟨_,e⟩ ?_;exact⟨hz,its',d,r,e⟩
def A0r:V->V->V->Hp->(Hp->Prop)->Prop:=λo i v H Q=>∃p c k j,o=.ref p/\i=.int k/\H p=some (.lst c)/\jv c.length k=some j/\Q (upd H p (.lst (c.set j v)))
theorem Hf:zo X A0r:=by
 intro c s F H o i v L K u Q I D C rv h;obtain⟨p,E,k,j,rfl,rfl,z,A,q⟩:=h;cases D;obtain⟨t,rfl⟩:=C;obtain⟨m,n,r,g,B⟩:=I.lst z;obtain⟨d,G,x,y⟩:=Wi A;have f:=r.length;have J:=Gy
 have l:Am X c F (upd H p (.lst (E.set j v))) {s with heap:=s.heap.update p (Obj.mapSeq (·.setIfInBounds j u)) }:=
  I.KD z g (Up m n j u) (r.set rv j) (by rw[List.length_set];exact B) s.toks
 by_cases w:0<=k
 ·have e:k.toNat=j:=by
   rw[seqIndex_of w y]at d;exact en d
  exact W.ki_setAt g w (by omega) (by rw[List.size_toArray,<- f];exact y) (by rw[e];exact⟨_,l,q⟩)
 ·have e:(k+(m.toArray.size:Int)).toNat=j:=by
   rw[seqIndex_neg (by omega) x]at d;rw[List.size_toArray,<- f];exact en d
  exact W.ki_setBack g (by omega) (by rw[List.size_toArray,<- f];exact x) (by omega) (by rw[e];exact⟨_,l,q⟩)
theorem Rf(d c:qH)(n:Nat):(sliceBounds d c none n).1=((HT.iB n 0 d:Nat):Int)/\(sliceBounds d c none n).2.1=((HT.iB n n c:Nat):Int)/\(sliceBounds d c none n).2.2=1:=by
 refine⟨?_,?_,rfl⟩
 ·cases d with
  |none=>simp[sliceBounds,HT.iB]
  |some i=>
   simp only[sliceBounds,HT.iB,Option.getD_none,show(1:Int)>0 by decide,if_true];by_cases h:i<0
   ·simp only[h,if_true]<;>omega
   ·simp only[h,if_false]<;>omega
 ·cases c with
  |none=>simp[sliceBounds,HT.iB]
  |some i=>
   simp only[sliceBounds,HT.iB,Option.getD_none,show(1:Int)>0 by decide,if_true];by_cases h:i<0
   ·simp only[h,if_true]<;>omega
   ·simp only[h,if_false]<;>omega
theorem Oi(c:List q3)(d e:qH):slicePick c.toArray d e none=((c.drop (HT.iB c.length 0 d)).take (HT.iB c.length c.length e-HT.iB c.length 0 d)).toArray:=by
 obtain⟨f,g,h⟩:=Rf d e c.toArray.size;unfold slicePick;rw[f,g,h];simp only[sliceRange_one,pick_run,List.size_toArray]<;>rfl
def A0s(K:W.Frag):V->qH->qH->Hp->VK->Prop:=λx e d H Q=>∃a c,x=.ref a/\Aq K H a c/\∀p,H p=none->Q (.ref p) (upd H p (.lst (Qb c e d)))
theorem nu:SlR X (A0s X.K):=by
 intro i s B H x v z A e f y Q I p j n o h;obtain⟨a,c,rfl,l,q⟩:=h;cases p;obtain⟨u,r,g,m⟩:=I.list l;have d:=r.length;refine⟨"list",_,slot_list_getitem.lookup,g.isList.typeIs,?_⟩;refine wpAny_getItem_list_slice g.isList j n o .none (by simp) ?_ (by rw[List.size_toArray]<;>omega);rw[Oi,<- d];refine⟨.ref s.heap.objs.size,_,I.laid (t':=s.toks) (o:=.lst (Qb c e f)) (λb w q=>cv _ q) (dr _) ?_,rfl,q _ (I.aK.fresh (dr _))⟩;exact⟨ea (S3 c e f) m,_,0,(r.drop (HT.iB c.length 0 e)).take (HT.iB c.length c.length f-HT.iB c.length 0 e),da _ rfl⟩
def Gw:V->Bool
 | .bN=>true
 | .bl _=>true
 | .int _=>true
 | .str _=>true
 |_=>false
def kn:V->V->Bool
 | .bN,.bN=>true
 | .bl a,.bl b=>a==b
 | .bl a,.int b=>(if a then 1 else 0)==b
 | .int a,.bl b=>a==(if b then 1 else 0)
 | .int a,.int b=>a==b
 | .str a,.str b=>a==b
 |_,_=>false
theorem qx(f:B0 y u)(c:B0 x v)(g:Gw y=true)(e:Gw x=true):SeqAt.EqAt A s u v (kn y x):=by
 cases y with
 |bN=>
  cases f;cases x with
  |bN=>cases c;exact SeqAt.EqAt.same _
  |bl b=>cases c;exact SeqAt.EqAt.none_bool b
  |int b=>obtain⟨t,rfl⟩:=c;exact SeqAt.EqAt.none_int b t
  |str b=>obtain⟨t,rfl⟩:=c;exact SeqAt.EqAt.none_str b t
  |_=>exact absurd (show false=true from e) fy
 |bl a=>
  cases f;cases x with
  |bN=>cases c;exact SeqAt.EqAt.bool_none a
  |bl b=>cases c;exact SeqAt.EqAt.bool_bool a b
  |int b=>obtain⟨t,rfl⟩:=c;exact SeqAt.EqAt.bool_int a b t
  |str b=>obtain⟨t,rfl⟩:=c;exact SeqAt.EqAt.bool_str a b t
  |_=>exact absurd (show false=true from e) fy
 |int a=>
  obtain⟨d,rfl⟩:=f;cases x with
  |bN=>cases c;exact SeqAt.EqAt.int_none a d
  |bl b=>cases c;exact SeqAt.EqAt.int_bool a d b
  |int b=>obtain⟨t,rfl⟩:=c;exact SeqAt.EqAt.int_int a d b t
  |str b=>obtain⟨t,rfl⟩:=c;exact SeqAt.EqAt.int_str a d b t
  |_=>exact absurd (show false=true from e) fy
 |str a=>
  obtain⟨d,rfl⟩:=f;cases x with
  |bN=>cases c;exact SeqAt.EqAt.str_none a d
  |bl b=>cases c;exact SeqAt.EqAt.str_bool a d b
  |int b=>obtain⟨t,rfl⟩:=c;exact SeqAt.EqAt.str_int a d b t
  |str b=>obtain⟨t,rfl⟩:=c;exact SeqAt.EqAt.str_str a d b t
  |_=>exact absurd (show false=true from e) fy
 |_=>exact absurd (show false=true from g) fy
def Ud(x:V)(u:q3):Bool:=match u with
 | .none=>kn .bN x
 | .bool b=>kn (.bl b) x
 | .int i _=>kn (.int i) x
 | .str z _=>kn (.str z) x
 |_=>false
theorem af(r:B0 y u)(f:Gw y=true):Ud x u=kn y x:=by
 cases y with
 |bN=>cases r;rfl
 |bl b=>cases r;rfl
 |int i=>obtain⟨t,rfl⟩:=r;rfl
 |str z=>obtain⟨t,rfl⟩:=r;rfl
 |_=>exact absurd (show false=true from f) fy
theorem Lu(h:Ay xs us)(f:xs.all Gw=true):us.any (Ud x)=xs.any λy=>kn y x:=by
 induction h with
 |nil=>rfl
 |cons r t c=>
  rw[List.all_cons,Bool.and_eq_true]at f;rw[List.any_cons,List.any_cons,af r f.1,c f.2]
theorem Jd(g:B0 x v)(d:Gw x=true)(h:Ay xs us)(f:xs.all Gw=true):∀u∈us,SeqAt.EqAt A s u v (Ud x u):=by
 induction h with
 |nil=>
  intro u c;cases c
 |cons r t e=>
  intro i c;rw[List.all_cons,Bool.and_eq_true]at f;rcases eH.mp c with rfl|c
  ·rw[af r f.1];exact qx r g f.1 d
  ·exact e f.2 i c
def Oe(x:V)(xs:List V):Bool:=xs.any λy=>kn y x
def rIn(K:W.Frag)(d:Bool):R2:=λx y H Q=>∃p c,y=.ref p/\(Aq K H p c\/Cf K H p c)/\Gw x=true/\c.all Gw=true/\Q (.bl (if d then !Oe x c else Oe x c)) H
theorem Yo:Gn X (compareOp .In) (rIn X.K false):=by
 intro i s o H x y v u Q I j m h;obtain⟨p,n,rfl,d,g,fs,q⟩:=h;cases m;rcases d with d|d
 ·obtain⟨c,r,f,l⟩:=I.list d;refine SeqAt.in_listAt (Ud x) f.isList (λw e=>Jd j g r fs w (by simpa using e)) ⟨.bl _,H,I,rfl,?_⟩;rw[show c.toArray.any (Ud x)=c.any (Ud x)by simp,Lu r fs];exact q
 ·obtain⟨c,r,f,l⟩:=I.tuple d;refine SeqAt.in_tupleAt (Ud x) f (λw e=>Jd j g r fs w (by simpa using e)) ⟨.bl _,H,I,rfl,?_⟩;rw[show c.toArray.any (Ud x)=c.any (Ud x)by simp,Lu r fs];exact q
theorem Qv:Gn X (compareOp .NotIn) (rIn X.K true):=by
 intro i s o H x y v u Q I j m h;obtain⟨p,n,rfl,d,g,fs,q⟩:=h;cases m;rcases d with d|d
 ·obtain⟨c,r,f,l⟩:=I.list d;refine SeqAt.notIn_listAt (Ud x) f.isList (λw e=>Jd j g r fs w (by simpa using e)) ⟨.bl _,H,I,rfl,?_⟩;rw[show c.toArray.any (Ud x)=c.any (Ud x)by simp,Lu r fs];exact q
 ·obtain⟨c,r,f,l⟩:=I.tuple d;refine SeqAt.notIn_tupleAt (Ud x) f (λw e=>Jd j g r fs w (by simpa using e)) ⟨.bl _,H,I,rfl,?_⟩;rw[show c.toArray.any (Ud x)=c.any (Ud x)by simp,Lu r fs];exact q
theorem Q7:Cu X (.builtin "len") (λxs H Q=>∃p ys,xs=[.ref p]/\(Aq X.K H p ys\/Cf X.K H p ys)/\Q (.int ys.length) H):=by
 intro g s o H xs n Q I r h;obtain⟨p,ys,rfl,d,q⟩:=h;obtain⟨u,rfl,l⟩:=Dg r;cases l;have m:=Gy;rcases d with d|d
 ·obtain⟨i,f,e,j⟩:=I.list d;have c:=f.length;exact Calls.call_len_list e.isList (by simp only[List.size_toArray]<;>omega) ⟨.int ys.length,H,I.tok _,⟨s.toks+1,by rw[List.size_toArray,c]⟩,q⟩
 ·obtain⟨i,f,e,j⟩:=I.tuple d;have c:=f.length;exact len_tuple e (by simp only[List.size_toArray]<;>omega) ⟨.int ys.length,H,I.tok _,⟨s.toks+1,by rw[List.size_toArray,c]⟩,q⟩
theorem Iw:Cu X (.type "list") (λxs H Q=>∃p ys,xs=[.ref p]/\(Aq X.K H p ys\/Cf X.K H p ys)/\∀l,H l=none->Q (.ref l) (upd H l (.lst ys))):=by
 intro x s E H xs F Q I r h;obtain⟨p,ys,rfl,m,q⟩:=h;obtain⟨u,rfl,D⟩:=Dg r;cases D
 have i:∀(d:List q3),Ay ys d->ys.length<=sizeLine->∀(c:Heap) (f:Nat),(∀b C,s.heap.get? b=some C->c.get? b=some C)->
   c.get? s.heap.objs.size=some {cls:=.type "list",dict:=none,data:=.seq d.toArray f,slots:=#[] }->EP X x E Q (.ref s.heap.objs.size) {s with heap:=c}:=λd g v c f w e=>
  ⟨.ref s.heap.objs.size,_,I.laid (t':=s.toks) w (dr _) (show Bl X.prog X.w _ c _ (.lst ys)from⟨v,d,f,g,e⟩),rfl,q _ (I.aK.fresh (dr _))⟩
 rcases m with m|m
 ·obtain⟨d,g,B,v⟩:=I.list m;have j:=g.length;obtain⟨o,A,y,n,z⟩:=B.isList;exact call_list_seq p (.inl rfl) A y z (λc f w e=>i d g v c f w e) (by simp only[List.size_toArray]<;>omega)
 ·obtain⟨d,g,B,v⟩:=I.tuple m;have j:=g.length;obtain⟨o,A,y,n,z⟩:=B;exact call_list_seq p (.inr rfl) A y z (λc f w e=>i d g v c f w e) (by simp only[List.size_toArray]<;>omega)
theorem Hv:Cu X (.type "tuple") (λxs H Q=>∃p ys,xs=[.ref p]/\((Aq X.K H p ys/\∀l,H l=none->Q (.ref l) (upd H l (.tup ys)))\/(Cf X.K H p ys/\Q (.ref p) H))):=by
 intro c s w H xs A Q I r h;obtain⟨p,ys,rfl,h⟩:=h;obtain⟨u,rfl,z⟩:=Dg r;cases z;rcases h with⟨g,q⟩|⟨g,q⟩
 ·obtain⟨f,j,i,v⟩:=I.list g;have n:=j.length;refine call_tuple_list i.isList (λd y=>?_) (by simp only[List.size_toArray]<;>omega);have m:Am X c w H {s with heap:=d}:=I.kept (t':=s.toks) y
  have x:Am X c w (upd H d.objs.size (.tup ys)) {s with heap:=d.push {cls:=.type "tuple",data:=.seq f.toArray} }:=
   m.laid (t':=s.toks) (λb o e=>cv _ e) (dr _) (show Bl X.prog X.w _ _ _ (.tup ys)from⟨⟨v,⟨_,da _ rfl,rfl⟩⟩,f,j,IsTup.new _ _⟩)
  exact⟨.ref d.objs.size,_,x,rfl,q _ (m.aK.fresh (dr _))⟩
 ·obtain⟨f,j,i,v⟩:=I.tuple g;exact call_tuple_same i ⟨.ref p,H,I,rfl,q⟩
def tyV(K:W.Frag)(T:String)(x:V)(H:Hp):Prop:=match x with
 | .str _=>T="str"
 | .int _=>T="int"
 | .ref p => (T = "list" /\ ∃ d, Aq K H p d) \/ (T = "tuple" /\ ((∃ o, K.lookup p = some o /\ o.cls = .type "tuple" /\ o.dict = none) \/ ∃ d, H p = some (.tup d))) \/
   (T="dict"/\((∃c,H p=some (.dK c))\/∃c,H p=some (.dT c)))\/(T="set"/\∃S n,H p=some (.set S n))
 |_=>False
theorem jq(I:Am X h G H s)(r:B0 x v)(ty:tyV X.K T x H):
  s.TypeIs v T/\∀a,v=.ref a->∃m,s.heap.get? a=some m/\m.dict=none:=by
 cases x with
 |str z=>
  obtain⟨t,rfl⟩:=r;cases(show T="str" from ty);exact⟨typeIs_str s z t,λ_ e=>nomatch e⟩
 |int i=>
  obtain⟨t,rfl⟩:=r;cases(show T="int" from ty);exact⟨typeIs_int s i t,λ_ e=>nomatch e⟩
 |ref p=>
  cases r;rcases ty with⟨rfl,K,C⟩|⟨rfl,⟨o,d,B,j⟩|⟨F,d⟩⟩|⟨rfl,d⟩|⟨rfl,S,n,d⟩
  ·obtain⟨J,_,q,_⟩:=I.list C;refine⟨q.isList.typeIs,λa e=>?_⟩;cases e;obtain⟨o,n,e,c,j,_⟩:=q;exact⟨o,e,j⟩
  ·refine⟨⟨o,I.gZ p o d,B⟩,λa e=>?_⟩;cases e;exact⟨o,I.gZ _ o d,j⟩
  ·obtain⟨⟨_,E,g,w⟩,_,_,⟨D,y,u,_⟩⟩:=(show Bl X.prog X.w H s.heap p (.tup F)from I.aK p _ d);refine⟨⟨D,y,u⟩,λa A=>?_⟩;cases A;exact⟨E,g,w⟩
  ·have z:∃o,s.heap.get? p=some o/\o.ExactDict:=by
    rcases d with⟨l,d⟩|⟨l,d⟩
    ·obtain⟨_,_,_,_,o,_,_,e,f,_⟩:=I.aK p _ d;exact⟨o,e,f⟩
    ·obtain⟨_,_,_,_,o,_,_,e,f,_⟩:=I.aK p _ d;exact⟨o,e,f⟩
   obtain⟨o,e,f⟩:=z;refine⟨⟨o,e,f.1⟩,λa g=>?_⟩;cases g;exact⟨o,e,f.2.1⟩
  ·obtain⟨o,_,_,_,e,f,_⟩:=I.aK p _ d;refine⟨⟨o,e,f.1⟩,λa g=>?_⟩;cases g;exact⟨o,e,f.2.1⟩
 |_=>exact False.elim ty
def A2a(K:W.Frag)(T:String)(r:V->List V->Hp->VK->Prop)(d:TE):TE:=λe H Q=>d e H λx c=>tyV K T x c/\r x [] c Q
def tBM(K:W.Frag)(T:String)(r:V->List V->Hp->VK->Prop)(f:TE)(t:TA):TE:=λd H Q=>f d H λx c=>tyV K T x c/\t d c λg e=>r x g e Q
variable {o e:Expr}{es:List Expr}{to:TE}{t:TA}{name:Str}{apos cN:Pos}{T id:String}{r:V->List V->Hp->VK->Prop}
theorem wa(w:PlainAttrs T)(d:Slot T name id)(f:typeOf (.builtin id)=pure (.type "method_descriptor"))(q:z9 X id r)(u:PE X o to)
  (z:attributeBase o name X.env (eval o X.env)=eval o X.env:=by rfl)(A:(apos.endLine==cN.line)=true:=by rfl):PE X (.Call (.Attribute o name apos) [] [] cN) (A2a X.K T r to):=by
 intro c s j H Q I h;refine wpAny_Call_method0_late z A (Br (u c s j H _ I h) λv B m=>?_);obtain⟨x,l,g,i,ty,y⟩:=m;obtain⟨n,p⟩:=jq g i ty;exact⟨T,id,w,d,f,n,p,Calls.callWith_builtin rfl (PySem.evalArgs_none (q c B j l x [] v [] Q g i .nil y))⟩
theorem Dr(E:PlainAttrs T)(f:Slot T name id)(g:typeOf (.builtin id)=pure (.type "method_descriptor"))(B:z9 X id r)(C:PE X o to)(A:PA X (e::es) t)
  (J:attributeBase o name X.env (eval o X.env)=eval o X.env:=by rfl)
  (d:((backTo cN (starEach (e::es) X.env)).all (λx=>!x.1)&&(backToKw cN (keywordEach [] X.env)).all (λx=>x.1.isSome)
   &&decide ((e::es).length+([]:List Keyword).length+(if([]:List Keyword).isEmpty then 0 else 1)<30))=true:=by rfl)
  (K:(apos.endLine==cN.line)=true:=by rfl)(D:starEach (e::es) X.env=(false,eval e X.env)::starEach es X.env:=by rfl)(hplain:(backTo cN (starEach es X.env)).any (·.1)=false:=by rfl):
  PE X (.Call (.Attribute o name apos) (e::es) [] cN) (tBM X.K T r to t):=by
 intro c s i H Q I h;refine wpAny_Call_method_late J d K rfl (Br (C c s i H _ I h) λv M w=>?_);obtain⟨x,p,j,n,ty,F⟩:=w;obtain⟨y,z⟩:=jq j n ty;refine⟨T,id,E,f,g,y,z,?_⟩;have l:=A cN c M i p _ j F;rw[D]at l⊢;refine Calls.callWith_builtin (by show(false||(backTo cN (starEach es X.env)).any (·.1))=false;rw[hplain]<;>rfl) (Calls.evalArgs_plain ?_);exact Br l λO N ⟨P,q,u,L,G⟩=>B c N i q x P v O Q u n L G
/-xs.append(e),list.index on a SE tuple .. are z9 facts of 06m-/
end
def MtM(X:Cx)(id:String)(r:V->List V->Hp->VK->Prop):Prop:=
 ∀(a:List (Addr×Obj)) (s:qU) (d:St) (H:Hp) (x:V) (c:List V) (v:q3) (b:List q3) (Q:VK),Am X a d H s->B0 x v->Ay c b->r x c H Q->
  wpAny (model X.prog X.w) X.A (call (.builtin id) (v::b)) (EP X a d Q) X.xe s
theorem Ay.one(h:Ay [x] us):∃u,us=[u]/\B0 x u:=by
 cases h with
 |cons r t=>
  cases t;exact⟨_,rfl,r⟩
theorem Ay.two(h:Ay [x,y] us):∃u v,us=[u,v]/\B0 x u/\B0 y v:=by
 cases h with
 |cons r t=>
  obtain⟨v,rfl,q⟩:=Ay.one t;exact⟨_,v,rfl,r,q⟩
section
variable {X:Cx}{pins:List (Addr×Obj)}{σ:St}{H:Hp}{s:qU}{l b:Addr}{xs ys zs:List V}
theorem Am.SF{a its':List q3}{n:Nat}{f:Array q3->Array q3}{t':Nat}(I:Am X pins σ H s)(c:H l=some (.lst xs))
  (e:s.heap.get? l=some {cls:=.type "list",data:=.seq a.toArray n})(g:f a.toArray=its'.toArray)(i:Ay ys its')(hz:ys.length<=sizeLine):
  Am X pins σ (upd H l (.lst ys)) {s with heap:=s.heap.update l (Obj.mapSeq f),toks:=t'}:=by
 have q:=PySem.IsL.update e f;rw[g]at q;refine I.write (x:=l) (e:=l) (by rw[c];exact trivial) (.inl rfl) (λj u d h=>(eI s.heap (Obj.mapSeq f) (Ne.symm d)).trans h) ⟨_,q⟩ ?_;exact⟨hz,its',_,i,q⟩
theorem Am.SG{t':Nat}(I:Am X pins σ H s)(c:Ay ys a)(hz:ys.length<=sizeLine):
  Am X pins σ (upd H s.heap.objs.size (.lst ys)) {s with heap:=s.heap.push {cls:=.type "list",data:=.seq a.toArray},toks:=t'}:=
 I.laid (λ_ _ q=>cv _ q) (dr _) ⟨hz,a,0,c,da _ rfl⟩
theorem Am.fresh(I:Am X pins σ H s):H s.heap.objs.size=none:=I.aK.fresh (dr _)
theorem Am.xS(I:Am X pins σ H s)(c:H l=some (.lst xs)):xs.length<=sizeLine/\∃(a:List q3) (n:Nat),Ay xs a/\xs.length=a.length/\s.heap.get? l=some {cls:=.type "list",data:=.seq a.toArray n}:=by
 obtain⟨z,a,n,r,e⟩:=I.aK l _ c;exact⟨z,a,n,r,r.length,e⟩
theorem bw(h:n<=sizeLine):Builtin.List.listTooLong n=false:=by
 unfold Builtin.List.listTooLong;exact mr (by omega)
end
section
variable {X:Cx}
def ng:V->List V->Hp->VK->Prop:=λx b H Q=>∃l a y,x=.ref l/\b=[y]/\H l=some (.lst a)/\a.length<sizeLine/\Q .bN (upd H l (.lst (a++[y])))
theorem D1:MtM X "list.append" ng:=by
 intro c s p H x m v j Q I f rv h;obtain⟨l,o,y,rfl,rfl,b,i,q⟩:=h;cases f;obtain⟨u,rfl,d⟩:=rv.one;obtain⟨z,a,n,r,g,e⟩:=I.xS b;refine call_meets F.slot_list_append ⟨_,e,rfl⟩ F.entry_list_append (F.args_list_append_2 _ _) (PySem.list_append l a.toArray n u (by rw[List.size_toArray];omega)) ⟨e,?_⟩;refine⟨.bN,_,I.SF (its':=a++[u]) b e (by simp) (r.append (.cons d .nil)) ?_,rfl,q⟩;rw[List.length_append,List.length_singleton];omega
def nh:V->List V->Hp->VK->Prop:=λx d H Q=>∃l b a c,x=.ref l/\d=[.ref b]/\H l=some (.lst a)/\H b=some (.lst c)/\a.length+c.length<=sizeLine/\Q .bN (upd H l (.lst (a++c)))
theorem Pd:MtM X "list.extend" nh:=by
 intro g s L H x E v D Q I y rv h;obtain⟨l,b,G,K,rfl,rfl,f,m,C,q⟩:=h;cases y;obtain⟨u,rfl,w⟩:=rv.one;cases w;obtain⟨z,a,n,r,B,e⟩:=I.xS f;obtain⟨J,c,o,p,A,j⟩:=I.xS m;have d:a.toArray.size+c.toArray.size<=sizeLine:=by rw[List.size_toArray,List.size_toArray];omega
 have i:¬(!a.toArray.isEmpty&&Builtin.List.listTooLong (a.toArray.size+c.toArray.size))=true:=by
  rw[bw d,Bool.and_false];exact fy
 refine call_meets F.slot_list_extend ⟨_,e,rfl⟩ F.entry_list_extend (F.args_list_extend_2 _ _)
  (AutoSeq1.list_extend_list_list_0 l a.toArray n b c.toArray o i (by rw[List.size_toArray];omega) (by omega)) ⟨e,j,?_⟩
 refine⟨.bN,_,I.SF (its':=a++c) f e (by simp) (r.append p) ?_,rfl,q⟩;rw[List.length_append];omega
def A20:R2:=λx y H Q=>∃l b a c,x=.ref l/\y=.ref b/\H l=some (.lst a)/\H b=some (.lst c)/\a.length+c.length<=sizeLine/\∀p,H p=none->Q (.ref p) (upd H p (.lst (a++c)))
theorem w6:Gn X (binaryOp .Add) A20:=by
 intro d s G H x y v u Q I o p h;obtain⟨l,b,D,F,rfl,rfl,j,i,B,q⟩:=h;cases o;cases p;obtain⟨z,a,n,r,A,e⟩:=I.xS j;obtain⟨E,c,C,m,w,f⟩:=I.xS i;refine PySem.P.add_list e f ?_ (by rw[List.size_toArray,List.size_toArray];omega);have g:a.toArray++c.toArray=(a++c).toArray:=by simp
 rw[g];exact⟨.ref _,_,I.SG (t':=s.toks) (r.append m) (by rw[List.length_append];omega),rfl,q _ I.fresh⟩
end
end L2
namespace Att
local macro_rules | `(tactic| omega) => `(tactic| lia)
open PySem PySem.W PySem.Calls PyProof.Rows
theorem Lo:∀(ns:List Int) (vs:List Value),WellAll P h vs (ns.map WData.int)->IntsAre vs ns:=by
 intro ns
 induction ns with
 |nil=>
  intro vs w;rw[List.map_nil]at w;cases w;exact .nil
 |cons n ns c=>
  intro vs w;rw[List.map_cons]at w;cases w with
  |cons a b=>
   cases a;exact .cons _ _ (c _ b)
theorem wK{l:OpenLaw}{n:Nat}(v:l.most=some n){P:Params}{args:List WData}
  (j:l.row.toRowW.claim.pre args=true)(o:WellAll P h b args):
  ∃a vs ns,b=[Value.ref a]/\args=[WData.list (ns.map WData.int)]/\h.get? a=some {cls:=.type "list",data:=.seq vs.toArray}/\IntsAre vs ns/\ns.length<=n:=by
 have i:WShape.hasAll [] args [.list .int]=true:=(pre_splitW j).1;have m:l.pre.holds [] {args:=args}=true:=(pre_splitW j).2;obtain⟨d,r,rfl,p,s⟩:=hasAllW_cons i;obtain rfl:=hasAllW_nil s;obtain⟨A,rfl,u⟩:=hasW_list p;obtain⟨ns,rfl⟩:=items_int u
 have e:ns.length<=n:=by
  unfold OpenLaw.pre at m
  have f:(WTm.not (.lt (.lit (.int (n:Int))) (.len (.arg 0)))).holds [] {args:=[.list (ns.map .int)] }=true:=by
   have f:=(holds_andW m).1;rw[v]at f;exact f
  have g:=condW_of f (w_not (w_lt w_lit (w_len_list (w_arg rfl))));rw[List.length_map]at g;refine Nat.le_of_not_lt λq=>?_;have x:(n:Int)<((ns.length:Nat):Int):=by omega
  first
   |(rw[decide_eq_true x]at g;exact absurd g (by decide))
   |(simp at g;omega)
 cases o with
 |cons y z=>
  cases z;cases y with
  |list w c=>exact⟨_,_,ns,rfl,rfl,w,Lo ns _ c,e⟩
theorem wL(l:OpenLaw)(args:List WData):l.row.toRowW.claim.post args (.bool true) args=true:=
 postW_of (r:=l.row.toRowW) (X:=(true==true))
  (show WShape.has [] (.bool true) .bool=true by first|rfl|decide|simp[WShape.has,WShape.arms,WShape.armsAll])
  (show(WTm.eq .res (.lit (.bool true))).value [] {args:=args,res:=some (.bool true),after:=args}=some (.bool (true==true))from w_eq_bool (w_res rfl) w_lit) rfl
end Att
namespace L2
local macro_rules | `(tactic| omega) => `(tactic| lia)
open PySem PySem.Spec PyProof.Rows
theorem Ho:∀{vs:List q3}{ns:qG},IntsAre vs ns->Ay (ns.map V.int) vs
 |_,_,.nil=>.nil
 |_,_,.cons n t h=>.cons ⟨t,rfl⟩ (Ho h)
def Dy(s:Stmt)(j:Nat):Stmt:=match s with
 | .ClassDef _ _ _ a _ _ _ _ _ _ _=>a.getD j (.Pass ⟨0,0,0,0⟩)
 |_=>.Pass ⟨0,0,0,0⟩
def Bv(s:Stmt):Arguments:=match s with
 | .FunctionDef _ a _ _ _ _ _ _ _ _=>a
 |_=>{posonlyargs:=[],args:=[],vararg:=none,kwonlyargs:=[],kw_defaults:=[],kwarg:=none,defaults:=[] }
def Bi(s:Stmt):List Stmt:=match s with
 | .FunctionDef _ _ b _ _ _ _ _ _ _=>b
 |_=>[]
def A6(s:Stmt):Scope:=match s with
 | .FunctionDef _ _ _ _ _ _ a _ _ _=>a
 |_=>{kind:=.function,names:=[],isGenerator:=false,isCoroutine:=false}
abbrev E0:XK:=λ_ _ _=>False
structure D4(K:W.Frag)(x qual:Str)(st:Stmt)(f:Addr)(fd:q7):Prop where
 ex:∃(oc:q3) (od:Option Addr) (kV doc pm:q3) (an:Option Addr) (bK ct:q3) (nO:Array (Option q3)),
  fd=W.fnOf x qual (Bv st) (Bi st) (A6 st) .none kV doc pm an bK ct/\K.lookup f=some ⟨oc,od,.func fd,nO⟩/\W.codeIn K bK qual=true
 kp:W.keepIn K (.ref f)=true
section
variable {P:q4}{w:ra}{K:W.Frag}{mg:Str->Option q3}{base:Heap}
theorem D4.binds{x a:Str}{st:Stmt}{f:Addr}{g:q7}{ps:List Str}(F:D4 K x a st f g)
  (h:∀(kV b e:q3) (c:Option Addr) (d ct:q3) (us:List q3),us.length=ps.length->bindArgs (W.fnOf x a (Bv st) (Bi st) (A6 st) .none kV b e c d ct) ⟨us,[]⟩=pure (ps.zip us)):Cp K g ps []:=by
 obtain⟨l,m,kV,b,e,c,d,ct,j,rfl,i,n⟩:=F.ex;exact .all (h kV b e c d ct)
theorem Qk{x a:Str}{st:Stmt}{f:Addr}{i:q3}{j e:Option Addr}{h:Array (Option q3)}{kV b g d ct:q3}(l:K.lookup f=some ⟨i,j,.func (W.fnOf x a (Bv st) (Bi st) (A6 st) .none kV b g e d ct),h⟩)
  (c:W.codeIn K d a=true)(k:W.keepIn K (.ref f)=true):D4 K x a st f (W.fnOf x a (Bv st) (Bi st) (A6 st) .none kV b g e d ct):=⟨⟨i,j,kV,b,g,e,d,ct,h,rfl,l,c⟩,k⟩
end
theorem As(h:n<=1000):n<sizeLine:=nX h (by decide)
section
variable {X:Cx}
theorem pv(i:Nat){pos:Pos}(a:X.N[i]?=some x:=by rfl)(c:zr X.env.scope x:=by first|exact Or.inl rfl|exact Or.inr (Or.inl rfl)|exact Or.inr (Or.inr rfl))(b:(x==("__debug__":Str))=false:=by decide)
  (d:(x==("__classdict__":Str))=false:=by decide):PE X (.Name x pos) (A1j i):=we a c b d
end
theorem Fw{c A B:Prop}[Decidable c](h1:c->A)(a:¬c->B):if c then A else B:=by
 by_cases h:c
 ·rw[if_pos h];exact h1 h
 ·rw[if_neg h];exact a h
def A8(H a:Hp):Prop:=∀b o,H b=some o->a b=some o
theorem A8.refl(H:Hp):A8 H H:=λ_ _ h=>h
theorem A8.trans(a:A8 H d)(b:A8 d e):A8 H e:=λc o h=>b c o (a c o h)
theorem A8.free(e:A8 H a)(h:a l=Option.none):H l=Option.none:=by
 cases q:H l with
 |none=>rfl
 |some o=>
  rw[e l o q]at h;cases h
theorem A8.seq{K:W.Frag}{H b:Hp}{a:Addr}{xs:List V}(e:A8 H b)(h:Aq K H a xs):Aq K b a xs:=by
 rcases h with(h|⟨o,h⟩)|h
 ·exact .inl (.inl (e _ _ h))
 ·exact .inl (.inr ⟨o,e _ _ h⟩)
 ·exact .inr h
def En(cells:List (Str×Addr)):List (Str×NameKind)->List (Str×Addr)->List (Str×Addr)
 |[],cs=>cs
 |(n,k)::r,cs=>if k==NameKind.free then En cells r ((n,(cells.lookup n).getD 0)::cs)else En cells r cs
theorem K2{cells:List (Str×Addr)}:∀{names:List (Str×NameKind)}{cs:List (Str×Addr)},(En cells names cs).lookup x=some c->
  cs.lookup x=some c\/((x,NameKind.free)∈names/\c=(cells.lookup x).getD 0)
 |[],cs,h=>.inl h
 |(n,k)::r,cs,h=>by
  unfold En at h;by_cases d:(k==NameKind.free)=true
  ·rw[if_pos d]at h;rcases K2 h with a|⟨a,b⟩
   ·rw[List.lookup_cons]at a;by_cases f:(x==n)=true
    ·rw[f]at a;have e:x=n:=eq_of_beq f;have g:k=NameKind.free:=eq_of_beq d;subst e g;exact .inr ⟨dm,(en a).symm⟩
    ·have i:(x==n)=false:=by simpa using f
     rw[i]at a;exact .inl a
   ·exact .inr ⟨d0 _ a,b⟩
  ·rw[if_neg d]at h;rcases K2 h with a|⟨a,b⟩
   ·exact .inl a
   ·exact .inr ⟨d0 _ a,b⟩
theorem Hz{cells:List (Str×Addr)}:∀{names:List (Str×NameKind)}{cs:List (Str×Addr)},(∃c,cs.lookup x=some c)->∃c,(En cells names cs).lookup x=some c
 |[],cs,h=>h
 |(n,k)::r,cs,h=>by
  unfold En;by_cases a:(k==NameKind.free)=true
  ·rw[if_pos a];refine Hz ?_;rw[List.lookup_cons];cases b:x==n with
   |true=>exact⟨_,rfl⟩
   |false=>exact h
  ·rw[if_neg a];exact Hz h
theorem Fb{cells:List (Str×Addr)}:∀{names:List (Str×NameKind)}{cs:List (Str×Addr)},(x,NameKind.free)∈names->∃c,(En cells names cs).lookup x=some c
 |[],cs,h=>by cases h
 |(n,k)::r,cs,h=>by
  unfold En;rcases eH.mp h with e|h
  ·have b:x=n:=congrArg Prod.fst e;have d:NameKind.free=k:=congrArg Prod.snd e;subst b d;rw[if_pos (by decide)];refine Hz ⟨(cells.lookup x).getD 0,?_⟩;rw[List.lookup_cons,beq_self_eq_true]
  ·by_cases a:(k==NameKind.free)=true
   ·rw[if_pos a];exact Fb h
   ·rw[if_neg a];exact Fb h
theorem G8{env:Env}:∀{names:List (Str×NameKind)}{x:Str}{b:NameKind},(∀y∈names,y.2≠NameKind.cell)->b≠ .local->(b=.cell\/b=.free)->
  (names.map λ(n,k)=>if(k==NameKind.free&&env.scope.kind== .function&&env.kindOf n==some .cell)then(n,NameKind.cell)else(n,k)).lookup x=some b->(x,NameKind.free)∈names
 |[],_,_,_,_,_,h=>by simp at h
 |(n,k)::r,x,b,f,m,i,h=>by
  have g:=@G8 env r x b (λy o=>f y (d0 _ o)) m i;have a:List.lookup x ((if(k==NameKind.free&&env.scope.kind== .function&&env.kindOf n==some .cell)=true then(n,NameKind.cell)else(n,k))::(r.map λ(n,k)=>if(k==NameKind.free&&env.scope.kind== .function&&env.kindOf n==some .cell)then(n,NameKind.cell)else(n,k)))=some b:=h;by_cases d:(k==NameKind.free&&env.scope.kind== .function&&env.kindOf n==some .cell)=true
  ·rw[if_pos d,List.lookup_cons]at a
   have j:k=NameKind.free:=by
    have q:=(Bool.and_eq_true_iff.mp (Bool.and_eq_true_iff.mp d).1).1;exact eq_of_beq q
   cases c:x==n with
   |true=>
    have e:x=n:=eq_of_beq c;subst e j;exact dm
   |false=>
    rw[c]at a;exact d0 _ (g a)
  ·rw[if_neg d,List.lookup_cons]at a;cases c:x==n with
   |true=>
    rw[c]at a;have e:x=n:=eq_of_beq c;have l:k=b:=en a;subst e l;rcases i with z|z
    ·exact absurd z (f _ dm)
    ·subst z;exact dm
   |false=>
    rw[c]at a;exact d0 _ (g a)
structure Bt(sc scope:Scope)(N fJ:List Str)(fr:List Nat):Prop where
 kind:scope.kind=.function
 sD:∀y∈scope.names,y.2≠NameKind.cell
 loc:∀y∈scope.names,y.2=NameKind.local->scope.names.lookup y.1=some NameKind.local
 free:∀y∈scope.names,y.2=NameKind.free->sc.names.lookup y.1=some NameKind.cell
 jR:∀j∈fr,(N[j]?.bind λx=>scope.names.lookup x)=some NameKind.free
def B9(N a:List Str)(b:List Nat):List Str:=a++b.map λj=>(N[j]?).getD ⟨#[]⟩
def Cv(a:List Nat)(b:St):St:=a.map λj=>(b[j]?).getD none
def Ez(n:Nat)(a:List Nat)(b:St):St:=List.replicate n none++Cv a b
def Ci(X:Cx)(c:List Str)(a:Scope)(C:Addr)(e:qU)(b:Hp)(d:List Addr):Cx:=
 {X with N:=c,s₀:=e,H₀:=b,env:=compEnvC a (En X.env.cells a.names []) C X.env,outer:=X.stack,ex:=d,fn:=λ_=>false,pn:=[],xe:=λ_ _=>False}
def zp(X:Cx)(b:List Expr)(t:TT):Prop:=
 ∀(a:List (Addr×Obj)) (s:qU) (d:St) (H:Hp) (Q:Bool->Hp->Prop),Am X a d H s->t d H Q->
  wpAny (model X.prog X.w) X.A (forIn b true λc r=>if r=true then do let ok <- isTrue c X.env (eval c X.env);pure (ForInStep.yield ok)else pure (ForInStep.yield r)) (TP X a d Q) X.xe s
def Ol:TT:=λ_ H Q=>Q true H
theorem Bw:zp X [] Ol:=λ_ _ _ H _ I h=>wpAny_tests_nil ⟨H,I,h⟩
theorem R4{t:TT}(h:PT X c t):zp X [c] t:=λa s d H Q I b=>wpAny_tests_one (h a s d H Q I b)
section
variable {prog:q4}{w:ra}{A:q5}{R:Result->qU->Prop}{s:qU}
theorem Q8{pos:Pos}{env:Env}(I:Nat->qU->Prop)
  (F:∀n s,I n s->wpAny (model prog w) A (pyNext it) (λr e=>match r with
   |none=>R (.ok .next) e
   | some v => wpAny (model prog w) A (letOwnedTupleGo a it v) (fun _ f => wpAny (model prog w) A (assign a env v) (fun _ o =>
     wpAny (model prog w) A (forIn B true λc r=>if r=true then do let ok <- isTrue c env (eval c env);pure (ForInStep.yield ok)else pure (ForInStep.yield r)) (λok g=>
      if ok=true then wpAny (model prog w) A (eval y env) (λx p=>
       wpAny (model prog w) A (call (.builtin "list.append") [u,x]) (λ_ q=>∃m,m<n/\I m q) (λ_ _=>False) p) (λ_ _=>False) g
      else∃m,m<n/\I m g) (λ_ _=>False) o) (λ_ _=>False) f) (λ_ _=>False) e) (λ_ _=>False) s)
  (n:Nat)(h:I n s):
  codeAny (model prog w) A (.compLoop (.ListComp y [⟨a,l,B,0⟩] d pos) 0 it u env) R s:=by
 refine codeAny_loop rfl I (λn s G=>?_) n h;show wpAny _ A ((compTurn (.ListComp y [⟨a,l,B,0⟩] d pos) 0 it u env).onRaise (λx=>do noteFrame x env;theTreesLotGoes x)) _ _ s;refine wpAny_noted ?_;rw[compTurn_list];refine aN (wpAny_standAt (aN (iv (F n s G) (λr e i=>?_) λ_ _ b=>b.elim)));cases r with
 |none=>exact a6 i
 |some v=>
  refine aN (iv i (λ_ f z=>?_) λ_ _ b=>b.elim);refine aN (iv z (λ_ o C=>aN (iv C (λok g j=>?_) λ_ _ b=>b.elim)) λ_ _ b=>b.elim);cases ok with
  |false=>exact a6 ⟨rfl,j⟩
  |true=>
   exact aN (aN (iv j (λx p D=>aN (iv D (λ_ q E=>a6 (a6 ⟨rfl,E⟩)) λ_ _ b=>b.elim)) λ_ _ b=>b.elim))
end
def Dc(n:Nat)(l:List Nat)(J:It)(g:TG)(u:TT)(s:TE)(p:St)(D:Addr)(q:Hp)(Q:Hp->Prop):Prop:=
 ∃W:Nat->Nat->List V->Hp->Prop,(∃m,W 0 m [] (upd q D (.lst [])))/\∀i m c d,W i m c d->
  (J.stop i d/\Q d)\/(J.go i d/\∀x f,J.CK i d x f->g x (Ez n l p) f λa r=>(∃o:St,o.length=n/\a=o++Cv l p)/\u a r λb h=>
   if b=true then s a h λy j=>j D=some (.lst c)/\c.length<sizeLine/\∃e,e<m/\W (i+1) e (c++[y]) (upd j D (.lst (c++[y])))
   else∃e,e<m/\W (i+1) e c h)
def A19(n:Nat)(c:List Nat)(f:TI)(g:TG)(e:TT)(d:TE):TE:=λb H Q=>f b H λJ a=>∀D,a D=none->Dc n c J g e d b D a (Q (.ref D))
def jj(n:Nat)(c:List Nat)(f:TI)(g:TG)(e:TT)(d:TE)(i:Nat):TS:=λD a H=>f a H λJ b=>∀l,b l=none->Dc n c J g e d a l b (D.nx (a.set i (some (.ref l))))
section
variable {X:Cx}{tg iter elt:Expr}{ifs:List Expr}{scope sc:Scope}{fJ:List Str}{fr:List Nat}{wi:TI}{g:TG}{tt:TT}{te:TE}{pos:Pos}
theorem Oz{I:List (Addr×Obj)}{R:St}{A:Hp}{l:qU}{it:Addr}{w:List Addr}{tn:Nat->Heap->Prop}{J:It}{RR:q3->Addr->Result->qU->Prop}{E:pQ}{Qf:Hp->Prop}
  (wM:X.env.scope=sc)(S:Bt sc scope X.N fJ fr)(hc:X.calm=true)
  (hg:∀C l A w,PG (Ci X (B9 X.N fJ fr) scope C l A w) tg g)(ht:∀C l A w,zp (Ci X (B9 X.N fJ fr) scope C l A w) ifs tt)(he:∀C l A w,PE (Ci X (B9 X.N fJ fr) scope C l A w) elt te)
  (B:Am X I R A l)(T:Pz X.prog X.w X.K tg J w it tn)(CL:tn 0 l.heap)(f2:∀b∈w,Lg X I A b)
  (run:Dc fJ.length fr J g tt te R l.heap.objs.size A Qf)
  (hRR:∀(C:Addr) (K:Hp) (Y:qU),Am X I R K Y->Lg X I K C->(∃m,Y.heap.Ns C m)->Qf K->RR (.ref l.heap.objs.size) C (.ok .next) Y):
  wpAny (model X.prog X.w) X.A (newList []) (λacc H=>wpAny (model X.prog X.w) X.A (newFunctionEnv scope X.env.globals (En X.env.cells scope.names []) [] X.env.qual none .none (some X.env)) (λSI s₄=>
   codeAny (model X.prog X.w) X.A (.compStart (.ListComp elt [⟨tg,iter,ifs,0⟩] scope pos) 0 (.ref it) acc {SI with scope:=relabel scope X.env}) (RR acc SI.locals) s₄) E H) E l:=by
 refine g6 (wpAny_newFunctionEnv S.sD (by intro y hy;simp at hy) (λG KH DE=>?_) S.kind);dsimp only at KH DE⊢;generalize SJ:l.heap.push {cls:=.type "list",dict:=none,data:=.seq ([]:List q3).toArray}=D at KH DE⊢;have hC:D.objs.size=l.heap.objs.size+1:=by rw[<- SJ,Heap.size_push]
 have hDC:l.heap.objs.size≠D.objs.size:=by rw[hC];exact ft (Nat.lt_succ_self _)
 have hle:l.heap.objs.size<=D.objs.size:=by rw[hC];exact Nat.le_succ _
 have F:∀b,b<l.heap.objs.size->b≠D.objs.size/\b≠l.heap.objs.size:=λb s=>⟨ft (fC s hle),ft s⟩;have P:∀b o,l.heap.get? b=some o->G.get? b=some o:=λb o e=>DE.extBut b o (F b (dt e)).1 (cv _ (SJ▸cv _ e));have accO:G.get? l.heap.objs.size=some {cls:=.type "list",data:=.seq ([]:List q3).toArray 0}:=DE.extBut _ _ hDC (cv _ (SJ▸da _ rfl));have KI:∀y∈scope.names,y.2=NameKind.free->∃c,X.env.cells.lookup y.1=some c:=λy hy e=>B.ok.has y.1 (.inl (by show X.env.scope.names.lookup y.1=_;rw[wM];exact S.free y hy e))
 have sE:∀x c,(En X.env.cells scope.names []).lookup x=some c->X.env.cells.lookup x=some c:=λx c e=>by
  rcases K2 e with z|⟨z1,z2⟩
  ·simp at z
  ·obtain⟨c',e'⟩:=KI _ z1 rfl;rw[z2,e'];rfl
 have KJ:∀x c,X.env.cells.lookup x=some c->c<l.heap.objs.size:=λx c e=>by
  obtain⟨v,q⟩:=B.cell x c e;exact q.lt
 have KL:∀b∈w,b<l.heap.objs.size:=λb s=>by
  obtain⟨o,e,_⟩:=T.obj 0 _ CL b s;exact dt e
 have ok3:(Ci X (B9 X.N fJ fr) scope D.objs.size l A w).Ok:=by
  refine⟨B.ok.mod,S.kind,B.ok.glob,B.ok.blt,hle,λx y c e1 e2=>B.ok.inj x y c (sE x c e1) (sE y c e2),λx M=>?_,λx c z _=>absurd z fy,B.ok.hd,B.ok.frames,.inl rfl,
   λb s=>⟨(F b (KL b s)).1,λx c e=>(f2 b s).2.2.2.2.1 x c (sE x c e)⟩,B.bs,ea B.ok.xI B.sz,λb o e s=>?_,λb s z=>?_,B.stack,B.gI⟩
  ·rcases M with M|M
   ·exact Fb (G8 (env:=X.env) S.sD (by decide) (.inl rfl) M)
   ·exact Fb (G8 (env:=X.env) S.sD (by decide) (.inr rfl) M)
  ·rcases(f2 b s).2.2.2.1 with z|z
   ·exact B.ok.rV b o e z
   ·exact absurd (fC (dt e) (ea B.ok.xI z)) (Nat.lt_irrefl _)
  ·rcases eH.mp (B.rY b z)with z|z
   ·exact(f2 b s).2.1 z
   ·exact(f2 b s).2.2.1 z
 have I3:Am (Ci X (B9 X.N fJ fr) scope D.objs.size l A w) [] (Ez fJ.length fr R) (upd A l.heap.objs.size (.lst [])) {l with heap:=G,toks:=l.toks+([]:List (Str×q3)).length}:=by
  refine⟨ok3,rfl,B.bare,Un.laid P (dr _) B.fresh,⟨_,KH,λi x v e1 e2 e3=>?_⟩,λx c e=>?_,?_,λx c e=>?_,λp hp=>absurd (show p∈([]:List (Addr×Obj))from hp) (by simp),B.aK.laid P (dr _) ⟨mu _,[],0,.nil,accO⟩,?_⟩
  ·--a name of the comprehension that has a value at the start is one of the def's cells
   have hi:fJ.length<=i:=by
    refine Nat.le_of_not_lt λbL=>?_;unfold Ez at e2;rw[List.getElem?_append_left (by simpa using bL),List.getElem?_replicate,if_pos bL]at e2;cases e2
   have Z:(Cv fr R)[i-fJ.length]?=some (some v):=by
    unfold Ez at e2;rw[List.getElem?_append_right (by simpa using hi)]at e2;simpa using e2
   have oJ:(fr.map λj=>(X.N[j]?).getD ⟨#[]⟩)[i-fJ.length]?=some x:=by
    have e1:(B9 X.N fJ fr)[i]?=some x:=e1;unfold B9 at e1;rw[List.getElem?_append_right hi]at e1;exact e1
   unfold Cv at Z;rw[List.getElem?_map]at oJ Z;cases ej:fr[i-fJ.length]? with
   |none=>rw[ej]at oJ;cases oJ
   |some j=>
    rw[ej]at oJ Z;have e1j:(X.N[j]?).getD ⟨#[]⟩=x:=en oJ;have e2j:(R[j]?).getD none=some v:=en Z;have qD:=S.jR j (cI ej);cases eN:X.N[j]? with
    |none=>rw[eN]at qD;cases qD
    |some N=>
     rw[eN]at qD e1j;have ex:N=x:=e1j;subst ex;have hfx:scope.names.lookup N=some NameKind.free:=qD
     have hσ:R[j]?=some (some v):=by
      cases eσ:R[j]? with
      |none=>rw[eσ]at e2j;cases e2j
      |some o=>rw[eσ]at e2j;exact congrArg some e2j
     have iL:=PySem.mem_of_lookup hfx;have hkc:X.env.scope.names.lookup N=some NameKind.cell:=by rw[wM];exact S.free _ iL rfl
     obtain⟨m,hn,hl⟩:=B.loc;obtain⟨u,ru,lk⟩:=hl j N v eN hσ (.inr (.inl hkc));refine⟨u,ru,.inr ⟨?_,?_⟩⟩
     ·have e3:(relabel scope X.env).names.lookup N=some NameKind.local\/(relabel scope X.env).names.lookup N=some NameKind.cell\/(relabel scope X.env).names.lookup N=some NameKind.free:=e3;rcases e3 with z|z|z
      ·exfalso
       have key:∀(names:List (Str×NameKind)),names.lookup N=some NameKind.free->(names.map λ(n,k)=>if(k==NameKind.free&&X.env.scope.kind== .function&&X.env.kindOf n==some .cell)then(n,NameKind.cell)else(n,k)).lookup N≠some NameKind.local:=by
        intro names
        induction names with
        |nil=>intro h;simp at h
        |cons p r ih=>
         obtain⟨n,k⟩:=p;intro h L;have L:List.lookup N ((if(k==NameKind.free&&X.env.scope.kind== .function&&X.env.kindOf n==some .cell)=true then(n,NameKind.cell)else(n,k))::(r.map λ(n,k)=>if(k==NameKind.free&&X.env.scope.kind== .function&&X.env.kindOf n==some .cell)then(n,NameKind.cell)else(n,k)))=some NameKind.local:=L;rw[List.lookup_cons]at h;cases M:N==n with
         |true=>
          rw[M]at h;have ek:k=NameKind.free:=en h;subst ek;split at L
          ·rw[List.lookup_cons,M]at L;cases L
          ·rw[List.lookup_cons,M]at L;cases L
         |false=>
          rw[M]at h;split at L
          ·rw[List.lookup_cons,M]at L;exact ih h L
          ·rw[List.lookup_cons,M]at L;exact ih h L
       exact key scope.names hfx z
      ·exact .inl z
      ·exact .inr z
     ·obtain⟨c,ec⟩:=Fb (cells:=X.env.cells) (cs:=[]) iL;rcases lk with⟨k1,_⟩|⟨_,c',ec',ic⟩
      ·have k1:X.env.scope.names.lookup N=some NameKind.local:=k1;rw[hkc]at k1;cases k1
      ·have q:=sE _ _ ec;rw[ec']at q;have q':c'=c:=en q;subst q';exact⟨_,ec,ic.keeps P⟩
  ·obtain⟨v,q⟩:=B.cell x c (sE x c e);exact⟨v,q.keeps P⟩
  ·show upd A l.heap.objs.size (.lst []) D.objs.size=none;rw[A9 hDC.symm];exact B.aK.fresh hle
  ·rw[A9 (Nat.ne_of_lt (KJ x c (sE x c e)))];exact B.cP x c (sE x c e)
  ·unfold Ez Cv;show _=(B9 X.N fJ fr).length;unfold B9;simp
 obtain⟨W,⟨m0,w0⟩,turn⟩:=run
 have Q:∀{U:Hp},(∀b∈w,U b=none)->∀b∈w,Lg (Ci X (B9 X.N fJ fr) scope D.objs.size l A w) [] U b:=λhn b s=>
  ⟨hn b s,(F b (KL b s)).1,ok3.rX b s,.inl s,(ok3.RQ b s).2,λp hp=>absurd (show p∈([]:List (Addr×Obj))from hp) (by simp)⟩
 have fr3:∀b∈w,upd A l.heap.objs.size (.lst []) b=none:=λb s=>by rw[A9 (F b (KL b s)).2];exact(f2 b s).1
 have RV:tn 0 G:=T.keep 0 _ _ CL λb _ o e=>P b o e
 have fin:∀{K:Hp}{Y:qU},Am (Ci X (B9 X.N fJ fr) scope D.objs.size l A w) [] (Ez fJ.length fr R) K Y->Qf K->RR (.ref l.heap.objs.size) D.objs.size (.ok .next) Y:=λ{K Y} I4 q=>by
  obtain⟨m,hn,_⟩:=id I4.loc;have ub:Un (jR X.stack) w A K l.heap Y.heap:=I4.base;refine hRR D.objs.size K Y (B.EZ (ch:=w) (s':=Y) I4.os ub I4.aK I4.bare λb s=>⟨(f2 b s).2.2.2.1,(f2 b s).2.1,(f2 b s).2.2.2.2.1,(f2 b s).2.2.2.2.2⟩) (B.qO hle I4.free) ⟨m,hn⟩ q
 have loop:∀H:qU,H={l with heap:=G,toks:=l.toks+([]:List (Str×q3)).length}->
   codeAny (model X.prog X.w) X.A (.compLoop (.ListComp elt [⟨tg,iter,ifs,0⟩] scope pos) 0 (.ref it) (.ref l.heap.objs.size) (compEnvC scope (En X.env.cells scope.names []) D.objs.size X.env)) (RR (.ref l.heap.objs.size) D.objs.size) H:=by
  rintro H rfl;refine Q8 (λn s'=>∃i ys U,Am (Ci X (B9 X.N fJ fr) scope D.objs.size l A w) [] (Ez fJ.length fr R) U s'/\tn i s'.heap/\(∀b∈w,U b=none)/\W i n ys U) ?_ m0 ⟨0,[],_,I3,RV,fr3,w0⟩;rintro n s5 ⟨i,ys,K,J3,sti,fri,w3⟩;rcases turn i n ys K w3 with⟨stop,q⟩|⟨go,step⟩
  ·refine iv (T.done (Ci X (B9 X.N fJ fr) scope D.objs.size l A w) rfl rfl rfl hc i [] s5 _ K (λ_ _=>False) J3 (Q fri) sti stop) (λr s6 ⟨hr,J4⟩=>?_) (λ_ _ f=>f);subst hr;exact fin J4 q
  ·refine iv (T.item (Ci X (B9 X.N fJ fr) scope D.objs.size l A w) rfl rfl rfl hc i [] s5 _ K (λ_ _=>False) J3 (Q fri) sti go) (λr s6 ⟨u,hr,h6⟩=>?_) (λ_ _ f=>f);subst hr;refine iv h6 (λ_ s7 ⟨x,H7,J7,r7,y7,st7,fr7⟩=>?_) (λ_ _ f=>f);have J7':=J7.pinned (Q fr7) (T.obj _ _ st7);refine iv (hg D.objs.size l A w _ s7 _ H7 x u _ J7' r7 (step x H7 y7)) (λ_ s8 ⟨σ8,H8,J8,⟨zs,hz,e8⟩,q8⟩=>?_) (λ_ _ f=>f)
   have O:∀{H9:Hp}{s9:qU}{CN:List V},Am (Ci X (B9 X.N fJ fr) scope D.objs.size l A w) ([]++Nq w s7.heap) σ8 H9 s9->(∃m',m'<n/\W (i+1) m' CN H9)->
     ∃m,m<n/\∃i ys U,Am (Ci X (B9 X.N fJ fr) scope D.objs.size l A w) [] (Ez fJ.length fr R) U s9/\tn i s9.heap/\(∀b∈w,U b=none)/\W i m ys U:=λ{H9 s9 CN} J9 ⟨m',hm,w9⟩=>by
    refine⟨m',hm,i+1,CN,H9,J9.iJ.weak ?_ ?_,T.keep _ _ _ st7 λb s o e=>(J9.pin (b,o) (gv _ (gv _ (Fx s e)))).1,λb s=>?_,w9⟩
    ·rw[e8];unfold Ez;simp[hz]
    ·intro k v ek;rw[e8];unfold Ez at ek;by_cases hk:k<fJ.length
     ·rw[List.getElem?_append_left (by simpa using hk),List.getElem?_replicate,if_pos hk]at ek;cases ek
     ·rw[List.getElem?_append_right (by simpa using hk)]at ek;rw[List.getElem?_append_right (by omega),hz];simpa using ek
    ·obtain⟨o,e,d⟩:=T.obj _ _ st7 b s;exact(J9.pin (b,o) (gv _ (gv _ (Fx s e)))).2.1
   refine iv (ht D.objs.size l A w _ s8 σ8 H8 _ J8 q8) (λok s9 ⟨H9,J9,q9⟩=>?_) (λ_ _ f=>f);cases ok with
   |false=>
    rw[if_neg Bool.false_ne_true]at q9⊢;exact O J9 q9
   |true=>
    rw[if_pos rfl]at q9⊢;refine iv (he D.objs.size l A w _ s9 σ8 H9 _ J9 q9) (λy jO ⟨v10,xM,J10,r10,hD,hlen,q10⟩=>?_) (λ_ _ f=>f);refine iv (D1 (X:=Ci X (B9 X.N fJ fr) scope D.objs.size l A w) _ jO σ8 xM (.ref l.heap.objs.size) [v10] (.ref l.heap.objs.size) [y] (λ_ KN=>KN=upd xM l.heap.objs.size (.lst (ys++[v10]))) J10 rfl (.cons r10 .nil) ⟨_,ys,v10,rfl,rfl,hD,hlen,rfl⟩) (λ_ pE ⟨_,KN,J11,_,e11⟩=>?_) (λ_ _ f=>f);subst e11;exact O J11 q10
 exact codeAny_compStart_list (loop _ rfl) (T.self _ 0 _ _ _ RV (loop _ rfl))
theorem Cc(K:PI X tg iter wi)(sc:Scope)(R:X.env.scope=sc)(S:Bt sc scope X.N fJ fr)(F:X.calm=true)(U:closureFor scope X.env=pure (En X.env.cells scope.names []))
  (G:∀C c d f,PG (Ci X (B9 X.N fJ fr) scope C c d f) tg g)(N:∀C c d f,zp (Ci X (B9 X.N fJ fr) scope C c d f) ifs tt)(he:∀C c d f,PE (Ci X (B9 X.N fJ fr) scope C c d f) elt te)
  (M:∀x,foldedSetIterable iter X.env x=pure x:=by intro _;rfl):PE X (.ListComp elt [⟨tg,iter,ifs,0⟩] scope pos) (A19 fJ.length fr wi g tt te):=by
 intro a s p H Q I h;rw[eval_ListComp];refine wpAny_comprehension_free (use:=none) rfl M U S.kind S.loc (iv (K a s p H _ I h) (λv s1 B=>iv B (λO c D=>?_) λ_ _ e=>e) λ_ _ e=>e);obtain⟨it,f,tn,J,d,e,n,T,r,z,R2⟩:=D;subst e;refine Oz (RR:=λj C=>compPost (model X.prog X.w) X.A X.xe none (EP X a p Q) j C) R S F G N he n T r z (R2 _ n.fresh) ?_;intro C u P w i ⟨m,L⟩ q;refine⟨m,L,λA y=>⟨.ref c.heap.objs.size,u,?_,rfl,q⟩⟩;obtain⟨hh,Z,Y,l,oo⟩:=P;exact w.turned (h':=A) (t':=l) (it:=C) (λb o E e=>y.extBut b o E e) i.1 i.2.1 i.2.2.2.1 i.2.2.2.2.1 i.2.2.2.2.2
theorem Ed(Z:X.N.Nodup)(w:X.N[i]?=some y)(hi:PI X tg iter wi)(sc:Scope)(wM:X.env.scope=sc)(S:Bt sc scope X.N fJ fr)(hc:X.calm=true)
  (xU:closureFor scope X.env=pure (En X.env.cells scope.names []))
  (hg:∀C f j l,PG (Ci X (B9 X.N fJ fr) scope C f j l) tg g)(ht:∀C f j l,zp (Ci X (B9 X.N fJ fr) scope C f j l) ifs tt)(he:∀C f j l,PE (Ci X (B9 X.N fJ fr) scope C f j l) elt te)
  (K:X.env.scope.names.lookup y=some NameKind.local)
  (B:swapsWith (.ListComp elt [⟨tg,iter,ifs,0⟩] scope pos) (some (.Name y n)) G.line X.env=pure true)
  (hs:∀x,foldedSetIterable iter X.env x=pure x:=by intro _;rfl):
  PS X (.Assign [.Name y n] (.ListComp elt [⟨tg,iter,ifs,0⟩] scope pos) G) (jj fJ.length fr wi g tt te i):=by
 intro c s σ H D I h;rw[exec_Assign_Name_used _ _ _ _ B];refine aN (wpAny_standAt (aN ?_));show wpAny _ X.A (do let _ <- comprehension (.ListComp elt [⟨tg,iter,ifs,0⟩] scope pos) scope X.env _ (newList []) false (eval iter X.env) (some (assign (.Name y n) X.env))) _ _ s
 refine aN (iv (wpAny_comprehension_free (use:=some (assign (.Name y n) X.env)) (Q:=λ_ p=>SP X c D .next p) rfl hs xU S.kind S.loc
  (iv (hi c s σ H _ I h) (λv s1 U=>iv U (λitv f Y=>?_) λ_ _ e=>e) λ_ _ e=>e)) (λ_ p hq=>a6 (a6 hq)) λ_ _ e=>e)
 obtain⟨it,l,tn,J,j,e,F,T,L,Q,R2⟩:=Y;subst e;refine Oz (RR:=λr C=>compPost (model X.prog X.w) X.A X.xe (some (assign (.Name y n) X.env)) (λ_ p=>SP X c D .next p) r C) wM S hc hg ht he F T L Q (R2 _ F.fresh) ?_;intro C M s4 N d ⟨m,hn⟩ q;refine wpAny_assign_Name (Pq (v:=.ref f.heap.objs.size) N Z w (.inl K) rfl (λs5 O ⟨a,A,ha⟩=>?_) (.inr K))
 have u:C≠a:=by
  rcases ha with z|z
  ·rw[z];exact d.2.1
  ·exact λz2=>d.2.2.2.2.1 y a z z2.symm
 refine⟨m,hn.sameBut A u,λR P=>⟨_,M,?_,q⟩⟩;obtain⟨hh,gg,dd,E,oo⟩:=s5;exact O.turned (h':=R) (t':=E) (it:=C) (λb o hb e=>P.extBut b o hb e) d.1 d.2.1 d.2.2.2.1 d.2.2.2.2.1 d.2.2.2.2.2
end
open PySem.Builtin.Int (intBits)
section
variable {X:Cx}
theorem D8:Gn X (binaryOp .Mult) (rI IntMulOk λi j=>.int (i*j)):=zf λ_ _ _ _ _ _ _ a q=>mul_int q a
end
theorem Pe(c:intBits a<=m)(d:intBits b<=n)(h:m+n<=134217728):IntMulOk a b:=PyProof.Rows.mulOk_of_bits c d h
theorem Dn(h1:-(2^64)<a)(c:a<2^64):IntMulOk a b:=IntMulOk.of_left (intBits_le_64 h1 c)
theorem Ov(d:0<b)(c:intBits a<=m):intBits (a/b)<=m:=by
 rw[<- Int.fdiv_eq_ediv_of_nonneg a (Int.le_of_lt d)];exact bits_fdiv c
def si(T C:String):Option Bool:=if(Value.type T==Value.type C)=true then some true else if W.kitMeta C=true then(fastBuiltinMro T).map (·.contains (Value.type C))else none
theorem bg(K:W.Frag)(T C:String):W.kitOne K (.type T) (.type C)=si T C:=rfl
section
variable {X:Cx}
def A0m(K:W.Frag):List V->Hp->VK->Prop:=λa H Q=>∃x T C b,a=[x,.ty C]/\Jy K H x (.type T)/\si T C=some b/\Q (.bl b) H
theorem Zo:Cu X (.builtin "isinstance") (A0m X.K):=by
 intro a s l H j i Q I r h;obtain⟨x,T,C,b,rfl,ty,e,q⟩:=h;obtain⟨u,f,rfl,d,c⟩:=X9 r;obtain rfl:f=Value.type C:=c;exact Y9 I d ty ((bg X.K T C).trans e) λg=>⟨.bl b,H,I.tok _,rfl,q⟩
theorem cp{pos:Pos}(b:Gl X x)(c:X.mg x=none)(e:bootBuiltins x=some (.type T))(d:x≠"__name__":=by decide)(a:(x==("__debug__":Str))=false:=by decide):PE X (.Name x pos) (tC (.ty T)):=
 mj b c e rfl d a
end
mutual
def Rp(H:Hp):rb->V->Prop
 | .none,v=>v=.bN
 | .bool b,v=>v=.bl b
 | .int i,v=>v=.int i
 | .tuple d,v=>∃a c,v=.ref a/\H a=some (.tup c)/\aL H d c
 | .list d,v=>∃a c,v=.ref a/\H a=some (.lst c)/\aL H d c
 | .str x,v=>v=.str x/\PyData.strOk x=true
 | .dict _,_=>False
def aL(H:Hp):List rb->List V->Prop
 |[],vs=>vs=[]
 |d::b,vs=>∃x a,vs=x::a/\Rp H d x/\aL H b a
end
mutual
theorem D6:∀(d:rb) (v:V),Rp H d v->d.canLay0=true
 | .none,_,_=>rfl
 | .bool _,_,_=>rfl
 | .int _,_,_=>rfl
 | .tuple b,_,h=>by
  unfold Rp at h;obtain⟨a,c,_,_,h⟩:=h;exact jS b c h
 | .list b,_,h=>by
  unfold Rp at h;obtain⟨a,c,_,_,h⟩:=h;exact jS b c h
 | .str x,v,h=>by
  unfold Rp at h;exact h.2
 | .dict _,_,h=>by unfold Rp at h;exact h.elim
theorem jS:∀(a:List rb) (vs:List V),aL H a vs->PyData.canLayAll0 a=true
 |[],_,_=>rfl
 |d::a,vs,h=>by
  unfold aL at h;obtain⟨x,e,_,b,c⟩:=h;show(d.canLay0&&PyData.canLayAll0 a)=true;rw[D6 d x b,jS a e c];rfl
end
section
variable {X:Cx}{pins:List (Addr×Obj)}{σ:St}{H:Hp}{s:qU}
mutual
theorem Cn(I:Am X pins σ H s):∀(d:rb) (v:V) (u:q3),Rp H d v->B0 v u->∃e,Reads s.heap u d e
 | .none,v,u,h,r=>by
  unfold Rp at h;subst h;cases r;exact⟨_,.none⟩
 | .bool b,v,u,h,r=>by
  unfold Rp at h;subst h;cases r;exact⟨_,.bool b⟩
 | .int i,v,u,h,r=>by
  unfold Rp at h;subst h;obtain⟨t,rfl⟩:=r;exact⟨_,.int i t⟩
 | .tuple f,v,u,h,r=>by
  unfold Rp at h;obtain⟨a,j,rfl,g,h⟩:=h;cases r;obtain⟨_,c,rv,p⟩:=I.aK a _ g;obtain⟨o,l,m,n,w⟩:=p;obtain⟨e,q⟩:=gA I f j c h rv;exact⟨_,.tuple l m w (by simpa using q)⟩
 | .list f,v,u,h,r=>by
  unfold Rp at h;obtain⟨a,j,rfl,g,h⟩:=h;cases r;obtain⟨_,c,n,rv,p⟩:=I.aK a _ g;obtain⟨e,q⟩:=gA I f j c h rv;exact⟨_,.list p rfl rfl (by simpa using q)⟩
 | .str x,v,u,h,r=>by
  unfold Rp at h;obtain⟨rfl,_⟩:=h;obtain⟨t,rfl⟩:=r;exact⟨_,.str x t⟩
 | .dict _,_,_,h,_=>by unfold Rp at h;exact h.elim
theorem gA(I:Am X pins σ H s):∀(a:List rb) (vs:List V) (us:List q3),aL H a vs->Ay vs us->∃b,ReadsAll s.heap us a b
 |[],vs,us,h,r=>by
  unfold aL at h;subst h;cases r;exact⟨_,.nil⟩
 |d::a,vs,us,h,r=>by
  unfold aL at h;obtain⟨x,l,rfl,c,e⟩:=h;cases r with
  |cons i j=>
   obtain⟨b,f⟩:=Cn I d x _ c i;obtain⟨bs,g⟩:=gA I a l _ e j;exact⟨_,.cons f g⟩
end
end
section
variable {X:Cx}{k:Nat}
def A0l(a:Bool):R2:=λx y H Q=>∃d e:rb,Rp H d x/\Rp H e y/\d.depth<=60/\Q (.bl (if a then !PyData.eqv d e else PyData.eqv d e)) H
theorem Qt(f:Be k X.A):Gn X (compareOp .Eq) (A0l false):=by
 intro c s p H x y v u Q I j l h;obtain⟨d,e,a,b,n,q⟩:=h;obtain⟨m,g⟩:=Cn I d x v a j;obtain⟨bs,i⟩:=Cn I e y u b l;have o:=f.units;exact PySem.SeqAt.compareEq_reads g i (D6 d x a) (D6 e y b) (by omega) ⟨.bl (PyData.eqv d e),H,I,rfl,q⟩
theorem Uu(f:Be k X.A):Gn X (compareOp .NotEq) (A0l true):=by
 intro c s p H x y v u Q I j l h;obtain⟨d,e,a,b,n,q⟩:=h;obtain⟨m,g⟩:=Cn I d x v a j;obtain⟨bs,i⟩:=Cn I e y u b l;have o:=f.units;exact PySem.SeqAt.compareNe_reads g i (D6 d x a) (D6 e y b) (by omega) ⟨.bl (!PyData.eqv d e),H,I,rfl,q⟩
end
theorem Wq:∀ns:qG,aL H (ns.map PyData.int) (ns.map V.int)
 |[]=>by unfold aL;rfl
 |n::ns=>by
  show aL H (PyData.int n::ns.map PyData.int) (V.int n::ns.map V.int);unfold aL;exact⟨_,_,rfl,by unfold Rp;rfl,Wq ns⟩
theorem A8.new(e:A8 H a)(h:H p=none):A8 H (upd a p o):=λb u q=>by
 rw[A9 (Aa q h)];exact e b u q
theorem A8.upd(h:H p=none):A8 H (upd H p o):=(A8.refl H).new h
section
variable {X:Cx}{tg:Expr}
def A23(K:W.Frag):R2:=λx y H Q=>∃p a i v,x=.ref p/\y=.int i/\(Aq K H p a\/Cf K H p a)/\Oa a i=some v/\Q v H
theorem Aw(K:W.Frag)(o:X.K=K:=by rfl):zj X (A23 K):=by
 subst o;intro b a c s n H x y v u Q I j l h g;obtain⟨p,m,i,z,d,e,h|h,f,q⟩:=h
 ·exact lf b a c s n H x y v u Q I j l ⟨p,m,i,z,d,e,h,f,q⟩ g
 ·exact rn b a c s n H x y v u Q I j l ⟨p,m,i,z,d,e,h,f,q⟩ g
def A26(K:W.Frag):List V->Hp->VK->Prop:=λb H Q=>∃p a,b=[.ref p]/\(Aq K H p a\/Cf K H p a)/\Q (.int a.length) H
theorem Bs(K:W.Frag)(a:X.K=K:=by rfl):Cu X (.builtin "len") (A26 K):=by
 subst a;exact Q7
theorem Oy(K:W.Frag)(a:X.K=K:=by rfl):Cu X (.builtin "isinstance") (A0m K):=by
 subst a;exact Zo
theorem Qu(K:W.Frag)(a:X.K=K:=by rfl):Gn X (compareOp .In) (rIn K false):=by
 subst a;exact Yo
theorem Yr(K:W.Frag)(a:X.K=K:=by rfl):Gn X (compareOp .NotIn) (rIn K true):=by
 subst a;exact Qv
theorem Ef(K:W.Frag)(a:X.K=K:=by rfl):SlR X (A0s K):=by
 subst a;exact nu
theorem Dz(K:W.Frag){t:ju}{pos:Pos}(c:X.calm=true)(h:za X es t)(b:X.K=K:=by rfl)
  (d:(assignEach es X.env).length=n:=by rfl)(a:(assignEach es X.env).findIdx? (·.1)=none:=by rfl):PG X (.Tuple es e pos) (r9 K n t):=by
 subst b;exact wf c h d a
def iSq(K:W.Frag)(d:TE):TI:=λe H R=>d e H λx b=>∃a,x=.ref a/\(((∃c,Aq K b a c)/\R (qf K a) b)\/((∃c,Cf K b a c)/\R (yz K a) b))
theorem Cd(w:PE X l r):PI X tg l (iSq X.K r):=by
 intro f s B H R I h;refine Br (w f s B H _ I h) λv c u=>?_;obtain⟨x,m,d,z,j⟩:=u;obtain⟨a,e,j⟩:=j;subst e;cases z;rcases j with⟨⟨A,i⟩,q⟩|⟨⟨A,i⟩,q⟩
 ·obtain⟨n,rv,p,y⟩:=d.list i;refine wpAny_pyIter_list p.isList ?_;refine⟨c.heap.objs.size,[c.heap.objs.size],_,_,m,rfl,d.kept (t':=c.toks) λb o e=>cv _ e,Z4 a _,⟨_,da _ rfl,rfl,rfl⟩,λb g=>?_,q⟩;have e:b=c.heap.objs.size:=by simpa using g
  subst e;exact d.qO (dr _) (d.aK.fresh (dr _))
 ·obtain⟨n,rv,p,y⟩:=d.tuple i;refine wpAny_pyIter_tuple (show c.heap.IsTuple a n.toArray from p) ?_;refine⟨c.heap.objs.size,[c.heap.objs.size],_,_,m,rfl,d.kept (t':=c.toks) λb o e=>cv _ e,Vs a _,⟨_,da _ rfl,rfl,rfl⟩,λb g=>?_,q⟩;have e:b=c.heap.objs.size:=by simpa using g
  subst e;exact d.qO (dr _) (d.aK.fresh (dr _))
end
theorem Ia{h:List Nat}{Q:Hp->Prop}{d:Int}{cnt:Nat}(a:Nat->List V->Hp->Prop)(o:a 0 [] (upd f D (.lst [])))
  (s:∀i ys H,i<cnt->a i ys H->∀g:VK,(∀y b,b D=some (.lst ys)->ys.length<sizeLine->a (i+1) (ys++[y]) (upd b D (.lst (ys++[y])))->g y b)->j (some (.int (d+i))::Cv h l) H g)
  (r:∀ys H,a cnt ys H->Q H):Dc 1 h (o8 d cnt) (J2 0) Ol j l D f Q:=by
 refine⟨λi m ys H=>m=cnt-i/\i<=cnt/\a i ys H,⟨cnt,by simp,mu _,o⟩,?_⟩;rintro i m ys n ⟨rfl,w,p⟩;by_cases c:i<cnt
 ·refine .inr ⟨c,λx v y=>?_⟩;obtain⟨e,y⟩:=y;subst e y;refine⟨⟨[some (.int (d+i))],rfl,rfl⟩,?_⟩;simp only[Ol,↓reduceIte];exact s i ys _ c p _ λy b q u pv=>⟨q,u,cnt-(i+1),by omega,rfl,c,pv⟩
 ·have e:i=cnt:=by omega
  subst e;exact .inl ⟨dr _,r ys n p⟩
theorem Bz{K:W.Frag}{a:Addr}{xs:List V}{j:List Nat}{l:TE}{n:St}{D:Addr}{f:Hp}{Q:Hp->Prop}(b:Nat->List V->Hp->Prop)(o:b 0 [] (upd f D (.lst [])))
  (v:∀i ys H,i<=xs.length->b i ys H->Aq K H a xs)
  (w:∀i x ys H,xs[i]?=some x->b i ys H->∀g:VK,(∀y c,c D=some (.lst ys)->ys.length<sizeLine->b (i+1) (ys++[y]) (upd c D (.lst (ys++[y])))->g y c)->l (some x::Cv j n) H g)
  (s:∀ys H,b xs.length ys H->Q H):Dc 1 j (qf K a) (J2 0) Ol l n D f Q:=by
 refine⟨λi m ys H=>m=xs.length-i/\i<=xs.length/\b i ys H,⟨xs.length,by simp,mu _,o⟩,?_⟩;rintro i m ys d ⟨rfl,u,p⟩;have q:=v i ys d u p;by_cases h:i<xs.length
 ·refine .inr ⟨⟨xs,xs[i],q,by simp[h]⟩,λx A y=>?_⟩;obtain⟨e,y⟩:=y;subst e;refine⟨⟨[some x],rfl,rfl⟩,?_⟩;simp only[Ol,↓reduceIte];exact w i x ys _ (y xs q) p _ λy c r z pv=>⟨r,z,xs.length-(i+1),by omega,rfl,h,pv⟩
 ·have e:i=xs.length:=by omega
  subst e;exact .inl ⟨⟨xs,q,dr _⟩,s ys d p⟩
theorem S1{K:W.Frag}{a:Addr}{xs:List V}{j:List Nat}{l:TE}{n:St}{D:Addr}{f:Hp}{Q:Hp->Prop}(b:Nat->List V->Hp->Prop)(o:b 0 [] (upd f D (.lst [])))
  (v:∀i ys H,i<=xs.length->b i ys H->Cf K H a xs)
  (w:∀i x ys H,xs[i]?=some x->b i ys H->∀g:VK,(∀y c,c D=some (.lst ys)->ys.length<sizeLine->b (i+1) (ys++[y]) (upd c D (.lst (ys++[y])))->g y c)->l (some x::Cv j n) H g)
  (s:∀ys H,b xs.length ys H->Q H):Dc 1 j (yz K a) (J2 0) Ol l n D f Q:=by
 refine⟨λi m ys H=>m=xs.length-i/\i<=xs.length/\b i ys H,⟨xs.length,by simp,mu _,o⟩,?_⟩;rintro i m ys d ⟨rfl,u,p⟩;have q:=v i ys d u p;by_cases h:i<xs.length
 ·refine .inr ⟨⟨xs,xs[i],q,by simp[h]⟩,λx A y=>?_⟩;obtain⟨e,y⟩:=y;subst e;refine⟨⟨[some x],rfl,rfl⟩,?_⟩;simp only[Ol,↓reduceIte];exact w i x ys _ (y xs q) p _ λy c r z pv=>⟨r,z,xs.length-(i+1),by omega,rfl,h,pv⟩
 ·have e:i=xs.length:=by omega
  subst e;exact .inl ⟨⟨xs,q,dr _⟩,s ys d p⟩
theorem Cm{c:Bool}{A B:Prop}(a:c=true)(h:A):if c=true then A else B:=by rw[if_pos a];exact h
theorem Ar{c:Bool}{A B:Prop}(a:c=false)(h:B):if c=true then A else B:=by rw[if_neg (by rw[a];exact Bool.false_ne_true)];exact h
theorem B4{xs:List V}(h:xs.length<=1000:=by simp):xs.length<=sizeLine:=nV (As h)
theorem Rg(h:n<=1000):n<=sizeLine:=nV (As h)
def dT(ws:qG):rb:=.tuple (ws.map PyData.int)
def dP(d e:rb):rb:=.tuple [d,e]
def vO:qH->V
 |none=>.bN
 |some i=>.int i
theorem V3{H:Hp}(i:Int):Rp H (.int i) (.int i):=by unfold Rp;rfl
theorem de{H:Hp}:Rp H .none .bN:=by unfold Rp;rfl
theorem A0u{H:Hp}{t:Addr}{ws:qG}(h:H t=some (.tup (ws.map V.int))):Rp H (dT ws) (.ref t):=by
 unfold dT Rp;exact⟨t,_,rfl,h,Wq ws⟩
theorem ow{H:Hp}{p:Addr}{d e:rb}{x y:V}(h:H p=some (.tup [x,y]))(a:Rp H d x)(he:Rp H e y):Rp H (dP d e) (.ref p):=by
 unfold dP Rp;refine⟨p,_,rfl,h,?_⟩;unfold aL;refine⟨x,_,rfl,a,?_⟩;unfold aL;refine⟨y,_,rfl,he,?_⟩;unfold aL;rfl
theorem Zz(d e:rb):(dP d e).depth=max d.depth e.depth+1:=by
 show max d.depth (max e.depth 0)+1=_;rw[Nat.max_zero]
theorem Gv:∀xs ys:qG,PyData.eqvAll (xs.map PyData.int) (ys.map PyData.int)=decide (xs=ys)
 |[],[]=>rfl
 |x::xs,y::ys=>by
  show(PyData.eqv (.int x) (.int y)&&PyData.eqvAll (xs.map PyData.int) (ys.map PyData.int))=_;rw[Gv xs ys];show((x==y)&&decide (xs=ys))=_;by_cases a:x=y<;>by_cases b:xs=ys<;>simp[a,b]
 |[],_::_=>rfl
 |_::_,[]=>rfl
theorem r6(xs ys:qG):PyData.eqv (dT xs) (dT ys)=decide (xs=ys):=Gv xs ys
theorem qz(a b c d:rb):PyData.eqv (dP a b) (dP c d)=(PyData.eqv a c&&PyData.eqv b d):=by
 show(PyData.eqv a c&&(PyData.eqv b d&&true))=_;rw[Bool.and_true]
section
variable {X:Cx}{pins:List (Addr×Obj)}{σ:St}{H:Hp}{s:qU}{h':Heap}
theorem Am.mY{ch:List Addr}{T:Addr}{o:HO}{t':Nat}(I:Am X pins σ H s)(g:∀b∈ch,Lg X pins H b)(k:∀b a,b∉ch->s.heap.get? b=some a->h'.get? b=some a)
  (i:s.heap.objs.size<=T)(new:Bl X.prog X.w (upd H T o) h' T o):Am X pins σ (upd H T o) {s with heap:=h',toks:=t'}:=by
 have h:H T=none:=I.aK.fresh i
 have off:∀b u,H b=some u->b∉ch:=λb u e f=>by
  have z:=(g b f).1;rw[e]at z;cases z
 refine I.call (g':=s.gens) (d':=s.drawn) (t':=t') (ch:=ch) ⟨λb a e _ _ d=>k b a d e,λb a e _ _ d=>⟨a.slots,k b a d e⟩,λb a e n d=>?_,λb a e d=>⟨a,k b a d e⟩,λb j e=>?_,λb a u e=>?_,λb l e=>⟨#[],?_⟩⟩ (λb u e=>?_) I.bare
  (λb f=>⟨(g b f).2.2.2.1,(g b f).2.1,(g b f).2.2.2.2.1,(g b f).2.2.2.2.2⟩)
 ·rw[A9 (Nat.ne_of_lt (Nat.lt_of_lt_of_le (Heap.lt_size e) i))];exact n
 ·rw[A9 (Aa e h)];exact e
 ·rw[A9 (Aa e h)];exact e
 ·rw[A9 (Aa e h),e];simp
 ·by_cases f:b=T
  ·subst f;rw[A2]at e;cases e;exact new
  ·rw[A9 f]at e;refine(I.aK b u e).gY (λc v d q=>k c v ?_ q) (λc q=>?_) λc j q=>?_
   ·rcases d with rfl|d
    ·exact off _ _ e
    ·exact off _ _ d
   ·rw[A9 (Aa q h)];exact q
   ·rw[A9 (Aa q h)];exact q
theorem Am.mZ{ch:List Addr}{t':Nat}(I:Am X pins σ H s)(g:∀b∈ch,Lg X pins H b)(k:∀b a,b∉ch->s.heap.get? b=some a->h'.get? b=some a):Am X pins σ H {s with heap:=h',toks:=t'}:=by
 have off:∀b u,H b=some u->b∉ch:=λb u e f=>by
  have z:=(g b f).1;rw[e]at z;cases z
 refine I.call (g':=s.gens) (d':=s.drawn) (t':=t') (ch:=ch) ⟨λb a e _ _ d=>k b a d e,λb a e _ _ d=>⟨a.slots,k b a d e⟩,λb a e n d=>n,λb a e d=>⟨a,k b a d e⟩,λb h e=>e,λb a u e=>e,λb i e=>⟨#[],by rw[e];simp⟩⟩ (λb u e=>?_) I.bare
  (λb f=>⟨(g b f).2.2.2.1,(g b f).2.1,(g b f).2.2.2.2.1,(g b f).2.2.2.2.2⟩)
 refine(I.aK b u e).gY (λc v d q=>k c v ?_ q) (λc q=>q) λc h q=>q;rcases d with rfl|d
 ·exact off _ _ e
 ·exact off _ _ d
end
section
variable {X:Cx}
theorem Hi(x:X.calm=true):Cu X (.builtin "min") (λxs H Q=>∃(p:Addr) (ns:qG),xs=[.ref p]/\Aq X.K H p (ns.map V.int)/\0<ns.length/\∀m:Int,m∈ns->(∀a∈ns,m<=a)->Q (.int m) H):=by
 intro n s N H M L Q I r q;obtain⟨p,ns,rfl,A,f,q⟩:=q;obtain⟨u,rfl,D⟩:=Dg r;cases D;obtain⟨E,rv,C,J⟩:=I.list A;have i:=Fv rv;obtain⟨b,g⟩:=i.allInts.items
 have d:ns=b.toList.map (·.1):=by
  have w:=i.numsOf;have e:=nums_intItems b;rw[<- g]at e;exact w.symm.trans e
 have c:0<b.size:=by
  rw[d,List.length_map,Array.length_toList]at f;exact f
 have l:=C.isList;rw[g]at l;refine min_intList (I.ok.hd x) l c λv G K B z=>?_;obtain⟨t,rfl⟩:=intItems_at B;obtain⟨F,o⟩:=argBest_lt (numAt b) (b.size-1);refine⟨.int _,H,I.kept z,⟨t,rfl⟩,q _ ?_ λa h=>?_⟩
 ·rw[d,numAt_eq];exact getD_mem (by rw[List.length_map,Array.length_toList];omega)
 ·rw[d]at h;obtain⟨j,y,rfl⟩:=mem_getD h;rw[List.length_map,Array.length_toList]at y;rw[<- numAt_eq];exact o j (by omega)
end
structure O7(K:W.Frag)(x qual:Str)(st:Stmt)(f:Addr)(fd:q7):Prop where
 ex:∃(oc:q3) (od:Option Addr) (dV kV doc pm:q3) (an:Option Addr) (bK ct:q3) (nO:Array (Option q3)),
  fd=W.fnOf x qual (Bv st) (Bi st) (A6 st) dV kV doc pm an bK ct/\K.lookup f=some ⟨oc,od,.func fd,nO⟩/\W.codeIn K bK qual=true
section
variable {X:Cx}{a b c:Expr}{rest:List Expr}{ta tb:TE}{tA CJ:TT}{t u:TS}{pos:Pos}
def A15(ta tb:TE):TE:=λg H Q=>ta g H λx e=>∃c d:Bool,x=.bl c/\(c=true->∀f:VK,f (.bl d) e->tb g e f)/\Q (.bl (c&&d)) e
def A2k(ta tb:TE):TE:=λg H Q=>ta g H λx e=>∃c d:Bool,x=.bl c/\(c=false->∀f:VK,f (.bl d) e->tb g e f)/\Q (.bl (c||d)) e
theorem Hk(m:PE X a ta)(n:PE X (.BoolOp .And (b::rest) pos) tb):PE X (.BoolOp .And (a::b::rest) pos) (A15 ta tb):=by
 intro e s j H Q I h;refine BoolOp_and (Br (m e s j H _ I h) λv q l=>?_);obtain⟨x,g,i,p,f⟩:=l;obtain⟨c,d,rfl,o,f⟩:=f;cases p;refine i0 ?_;cases c with
 |true=>exact n e q j g Q i (o rfl Q f)
 |false=>exact⟨.bl false,g,i,rfl,f⟩
theorem wc(m:PE X a ta)(n:PE X (.BoolOp .Or (b::rest) pos) tb):PE X (.BoolOp .Or (a::b::rest) pos) (A2k ta tb):=by
 intro e s j H Q I h;refine BoolOp_or (Br (m e s j H _ I h) λv q l=>?_);obtain⟨x,g,i,p,f⟩:=l;obtain⟨c,d,rfl,o,f⟩:=f;cases p;refine i0 ?_;cases c with
 |false=>exact n e q j g Q i (o rfl Q f)
 |true=>exact⟨.bl true,g,i,rfl,f⟩
def A13(t u:TT):TT:=λg H Q=>t g H λc e=>∃d:Bool,(c=true->∀f:Bool->Hp->Prop,f d e->u g e f)/\Q (c&&d) e
def A2i(t u:TT):TT:=λg H Q=>t g H λc e=>∃d:Bool,(c=false->∀f:Bool->Hp->Prop,f d e->u g e f)/\Q (c||d) e
theorem Fz(m:PT X a tA)(n:PW X (.BoolOp .And (b::rest) pos) CJ):PW X (.BoolOp .And (a::b::rest) pos) (A13 tA CJ):=by
 intro q e s j H Q I h;refine isTrue_and (Br (m e s j H _ I h) λc p l=>?_);obtain⟨f,g,d,o,i⟩:=l;cases c with
 |true=>exact n q e p j f Q g (o rfl Q i)
 |false=>exact⟨f,g,i⟩
theorem Da(m:PT X a tA)(n:PW X (.BoolOp .Or (b::rest) pos) CJ):PW X (.BoolOp .Or (a::b::rest) pos) (A2i tA CJ):=by
 intro q e s j H Q I h;refine isTrue_or (Br (m e s j H _ I h) λc p l=>?_);obtain⟨f,g,d,o,i⟩:=l;cases c with
 |true=>exact⟨f,g,i⟩
 |false=>exact n q e p j f Q g (o rfl Q i)
theorem SP.mono(h:SP X e D f s')(n:∀g H,D.nx g H->j.nx g H)(o:∀v H,D.rt v H->j.rt v H)(l:∀g H,D.bk g H->j.bk g H)(m:∀g H,D.ct g H->j.ct g H):SP X e j f s':=by
 cases f with
 |next=>obtain⟨d,i,I,q⟩:=h;exact⟨d,i,I,n _ _ q⟩
 |brk=>obtain⟨d,i,I,q⟩:=h;exact⟨d,i,I,l _ _ q⟩
 |cont=>obtain⟨d,i,I,q⟩:=h;exact⟨d,i,I,m _ _ q⟩
 |ret v=>obtain⟨x,d,i,I,r,q⟩:=h;exact⟨x,d,i,I,r,o _ _ q⟩
def A2e(c:TT)(t u:TS):TS:=λD e H=>c e H λb g=>∃N:St->Hp->Prop,(b=true->t {D with nx:=N} e g)/\(b=false->u {D with nx:=N} e g)/\∀d f,N d f->D.nx d f
theorem Di{a b:List Stmt}(v:PT X c n)(p:O6 X a t)(r:O6 X b u):PS X (.If c a b pos) (A2e n t u):=by
 intro e s g H D I h;refine wpAny_If (Br (v e s g H _ I h) λd m o=>?_);obtain⟨i,j,N,w,x,l⟩:=o;cases d with
 |true=>exact Br (p e m g i _ j (w rfl)) λf y q=>q.mono l (λ_ _ z=>z) (λ_ _ z=>z) λ_ _ z=>z
 |false=>exact Br (r e m g i _ j (x rfl)) λf y q=>q.mono l (λ_ _ z=>z) (λ_ _ z=>z) λ_ _ z=>z
end
section
variable {P:q4}{w:ra}{A:q5}{E:pQ}{s:qU}
theorem Us{k:Nat}(d:s.heap.IsTupleIter I T k)(g:s.heap.IsTuple T vs)(h:vs[k]?=some v)
  (q:∀h',h'.IsTupleIter I T (k+1)->Heap.SameBut I s.heap h'->Q v {s with heap:=h'}):wpAny (model P w) A (Builtin.SmallTypes.nextOf (.ref I)) Q E s:=by
 obtain⟨j,b,e,a⟩:=id d;obtain⟨l,f,_,i,c⟩:=g;unfold Builtin.SmallTypes.nextOf;refine aN (oe (name:=Str.ofString "__next__") d.typeIs F.slot_tuple_iterator_next (hH F.slot_tuple_iterator_next d.typeIs F.entry_tuple_iterator_next ?_ (F.args_tuple_iterator_next_1 _)));show wpAny _ _ (field (.ref I) 0>>=_) _ _ s;refine aN (wpAny_field b a (x:=.ref T) rfl ?_);show wpAny _ _ (if(Value.ref T==Value.none)=true then _ else _) _ _ s;rw[if_neg (show¬((Value.ref T==Value.none)=true)from Bool.false_ne_true)];show wpAny _ _ (field (.ref I) 1>>=_) _ _ s;refine aN (wpAny_field b a (x:=.int k 0) rfl ?_);show wpAny _ _ (seqItems? (.ref T)>>=_) _ _ s;refine aN (gd f c ?_);simp only[Int.toNat_natCast,h];refine aN (wpAny_setField b a (by simp) (a6 ⟨v,rfl,a6 (q _ ⟨_,g0 _ b (Obj.isFreed_of_fields (Obj.data_mapFields a _)),(Obj.cls_mapFields ..).trans e,?_⟩ (il ..))⟩));rw[Obj.data_mapFields a];simp[rawInt]
theorem Yl{k:Nat}(f:A.handled=none)(d:s.heap.IsTupleIter I T k)(h:s.heap.IsTuple T vs)(i:vs[k]?=none)
  (q:∀h' e,Heap.ExtBut I s.heap h'->(∃o,h'.get? e=some o/\o.cls=.type "StopIteration")->E (.ref e) {s with heap:=h'}):wpAny (model P w) A (Builtin.SmallTypes.nextOf (.ref I)) Q E s:=by
 obtain⟨m,c,j,a⟩:=id d;obtain⟨n,g,_,l,b⟩:=h;unfold Builtin.SmallTypes.nextOf;refine aN (oe (name:=Str.ofString "__next__") d.typeIs F.slot_tuple_iterator_next (hH F.slot_tuple_iterator_next d.typeIs F.entry_tuple_iterator_next ?_ (F.args_tuple_iterator_next_1 _)));show wpAny _ _ (field (.ref I) 0>>=_) _ _ s;refine aN (wpAny_field c a (x:=.ref T) rfl ?_);show wpAny _ _ (if(Value.ref T==Value.none)=true then _ else _) _ _ s;rw[if_neg (show¬((Value.ref T==Value.none)=true)from Bool.false_ne_true)];show wpAny _ _ (field (.ref I) 1>>=_) _ _ s;refine aN (wpAny_field c a (x:=.int k 0) rfl ?_);show wpAny _ _ (seqItems? (.ref T)>>=_) _ _ s;refine aN (gd g b ?_);simp only[Int.toNat_natCast,i];refine aN (nC (aN (wpAny_setField c a (by simp) ?_)));show wpAny _ _ (newExc (.type "StopIteration") []>>=λ_=>_) _ _ _;refine aN ?_;simp only[newExc,newTuple];refine aN (g6 (aN (m:=firstArgMember _ _) (wpAny_of_eq (a:=Value.none) (by first|rfl|(simp only[firstArgMember];rfl)) (g6 ?_ (by size_fits)))) (by size_fits));simp only[raiseNew];refine aN (wpAny_handled ?_)
 first|rw[show A.in1.handled=none from f]|rw[f]
 refine aN (a6 (wpAny_throw (q _ _ (((il ..).extBut.push _).push _) ⟨_,da _ rfl,rfl⟩)))
end
theorem qw(f:A.handled=none)(I T:Addr)(ne:T≠I)(vs:Array q3):Draws P w A I [I,T] vs.size (λi v=>vs[i]?=some v) (λi h=>h.IsTupleIter I T i/\h.IsTuple T vs)where
 live:=λ_ _ a=>let⟨o,e,_⟩:=a.1;⟨o,e⟩
 frame:=λ_ _ _ a k=>⟨a.1.at λo e=>k I (by simp) o e,let⟨o,e,r⟩:=a.2;⟨o,k T (by simp) o e,r⟩⟩
 item:=λi s Q E b a q=>Us a.1 a.2 (v:=vs[i]) (by simp[b]) λd g c=>q _ d s.toks (by simp[b]) ⟨g,a.2.extBut c.extBut ne⟩ c
 done:=λs Q E a q=>Yl f a.1 a.2 (by simp) q
def D5:Bool->Heap->Addr->Addr->Nat->Prop
 |true,h,I,T,i=>h.IsTupleIter I T i
 |false,h,I,T,i=>h.IsListIter I T i
def Dt:Bool->Heap->Addr->Array q3->Prop
 |true,h,T,a=>h.IsTuple T a
 |false,h,T,a=>h.IsList T a
def Uj:Bool->String
 |true=>"tuple_iterator"
 |false=>"list_iterator"
def Sq:Bool->W.Frag->Hp->Addr->List V->Prop
 |true,K,H,a,b=>Cf K H a b
 |false,K,H,a,b=>Aq K H a b
theorem E8(a:A.handled=none)(b:Bool)(I T:Addr)(ne:T≠I)(vs:Array q3):Draws P w A I [I,T] vs.size (λi v=>vs[i]?=some v) (λi h=>D5 b h I T i/\Dt b h T vs):=by
 cases b
 ·exact Draws.list a I T ne vs
 ·exact qw a I T ne vs
theorem D5.data(x:D5 b h I T i):∃o,h.get? I=some o/\o.cls=.type (Uj b)/\o.data=.fields #[.ref T,.int i 0]:=by cases b<;>exact x
theorem D5.of(x:∃o,h.get? I=some o/\o.cls=.type (Uj b)/\o.data=.fields #[.ref T,.int i 0]):D5 b h I T i:=by cases b<;>exact x
theorem D5.at'(x:D5 b h I T i)(k:∀o,h.get? I=some o->h'.get? I=some o):D5 b h' I T i:=by
 obtain⟨o,e,r⟩:=x.data;exact .of ⟨o,k _ e,r⟩
theorem Dt.at'(x:Dt b h T vs)(k:∀o,h.get? T=some o->h'.get? T=some o):Dt b h' T vs:=by
 cases b<;>exact let⟨o,e,r⟩:=x;⟨o,k _ e,r⟩
theorem Dt.lt(x:Dt b h T vs):T<h.objs.size:=by
 cases b<;>exact let⟨_,e,_⟩:=x;dt e
theorem D5.lt(x:D5 b h I T i):I<h.objs.size:=by
 obtain⟨_,e,_⟩:=x.data;exact dt e
theorem D5.ne(x:D5 b h I T i)(y:Dt c h T vs):T≠I:=by
 rintro rfl;obtain⟨o,e,k,_⟩:=x.data;cases c<;>(obtain⟨f,a,d,_⟩:=y;rw[e]at a;cases a;rw[k]at d;cases b<;>simp[Uj]at d)
theorem bc(x:Dt b s.heap T vs)
  (q:Q (.ref s.heap.objs.size) {s with heap:=s.heap.push {cls:=.type (Uj b),data:=.fields #[.ref T,.int 0 0] } }):wpAny (model P w) A (pyIter (.ref T)) Q E s:=by
 cases b
 ·exact wpAny_pyIter_list x q
 ·exact wpAny_pyIter_tuple x q
section
variable {X:Cx}{pins:List (Addr×Obj)}{σ:St}{H:Hp}{s:qU}
theorem Am.sq(I:Am X pins σ H s)(q:Sq b X.K H a xs):∃us,Ay xs us/\Dt b s.heap a us.toArray:=by
 cases b
 ·obtain⟨us,r,p,_⟩:=I.list q;exact⟨us,r,p.isList⟩
 ·obtain⟨us,r,p,_⟩:=I.tuple q;exact⟨us,r,p⟩
theorem Am.sF(I:Am X pins σ H s)(q:Sq b X.K H a xs)(r:Sq b X.K H a ys):xs=ys:=by
 cases b
 ·exact I.qN q r
 ·exact I.oH q r
end
open AutoSeq1 (wpAny_loadPart')
structure yy(z TI TO i1 i2 l1 l2:Nat):Prop where
 a:TI≠z
 b:TO≠z
 c:i1≠z
 d:i2≠z
 e:TI≠TO
 f:TI≠i1
 g:TI≠i2
 h:TO≠i1
 i:TO≠i2
 j:i1≠i2
 k1:l1≠z/\l1≠TO/\l1≠i1/\l1≠i2
 k2:l2≠z/\l2≠TO/\l2≠i1/\l2≠i2
section
variable {P:q4}{w:ra}{A:q5}{E:pQ}{s:qU}
theorem Zb{z TI TO f g j l:Addr}{b1 b2:Bool}{k:Nat}{xs ys:Array q3}{x y a b:q3}{Q:pQ}(Z:A.handled=none)(D:yy z TI TO f g j l)
  (hz:IsZip s.heap z TI TO .none)(qS:IsPair s.heap TI (.ref f) (.ref g))(rP:IsPair s.heap TO a b)(h1:D5 b1 s.heap f j k)(h2:D5 b2 s.heap g l k)(q1:Dt b1 s.heap j xs)(q2:Dt b2 s.heap l ys)(X:xs[k]?=some x)(Y:ys[k]?=some y)
  (hQ:∀h' tk,IsZip h' z TI TO (rawInt s.heap.objs.size)->IsPair h' TO x y->D5 b1 h' f j (k+1)->D5 b2 h' g l (k+1)->IsPair h' s.heap.objs.size x y->
   (∀c o,c≠z->c≠TO->c≠f->c≠g->s.heap.get? c=some o->h'.get? c=some o)->Q (.ref s.heap.objs.size) {s with heap:=h',toks:=tk}):
  wpAny (model P w) A (Builtin.«zip.__next__» ⟨[.ref z],[]⟩) (λN s'=>∃v,N=.done (.ret v)/\Q v s') E s:=by
 have SN:k<xs.size:=(me.mp X).1;have DF:k<ys.size:=(me.mp Y).1;show wpAny _ _ (field (.ref z) 2>>=λ_=>_) _ _ _;refine aN (wpAny_field hz rfl (x:=.bool false) rfl ?_);show wpAny _ _ (field (.ref z) 3>>=λ_=>_) _ _ _;refine aN (wpAny_field hz rfl (x:=.ref TI) rfl (aN (gd qS rfl ?_)));show wpAny _ _ (Builtin.SmallTypes.ownedTupleIsFree (.ref z)>>=λ_=>_) _ _ _;refine aN ?_;unfold Builtin.SmallTypes.ownedTupleIsFree;refine aN (wpAny_field hz rfl (x:=.none) rfl (a6 ?_));simp only[if_true];refine aN (nC (aN (wpAny_field hz rfl (x:=.ref TO) rfl (aN (wpAny_setField_rec hz (by simp) λm1 T i=>?_)))))
 replace T:IsZip m1 z TI TO .ellipsis:=T;refine aN ?_;simp only[List.zipIdx_cons,List.zipIdx_nil,List.forIn_cons,List.forIn_nil];refine aN (aN (wpAny_onRaise ?_));show wpAny _ _ (Builtin.SmallTypes.nextOf (.ref f)>>=λ_=>_) _ _ _;refine aN ((E8 Z b1 f j D.k1.2.2.1 xs).item k _ _ _ SN ⟨h1.at' λo e=>i.extBut _ _ D.c e,q1.at' λo e=>i.extBut _ _ D.k1.1 e⟩ λp m2 nA K ⟨g1,_⟩ m=>a6 ?_)
 have L:p=x:=by
  have z:=K.symm.trans X;exact en z
 subst L;have w2:IsPair m2 TO a b:=m.extBut _ _ D.h (i.extBut _ _ D.b rP);refine aN (gd w2 rfl (aN (wpAny_updateSeq_pair w2 λm3 S n=>?_)))
 replace S:IsPair m3 TO p b:=S;refine aN (wpAny_letGo (a6 (aN (aN (wpAny_onRaise ?_)))));show wpAny _ _ (Builtin.SmallTypes.nextOf (.ref g)>>=λ_=>_) _ _ _;refine aN ((E8 Z b2 g l D.k2.2.2.2 ys).item k _ _ _ DF ⟨h2.at' λo e=>n.extBut _ _ D.i.symm (m.extBut _ _ D.j.symm (i.extBut _ _ D.d e)),q2.at' λo e=>n.extBut _ _ D.k2.2.1 (m.extBut _ _ D.k2.2.2.1 (i.extBut _ _ D.k2.1 e))⟩ λG m4 tk4 SO ⟨g2,_⟩ q=>a6 ?_)
 have M:G=y:=by
  have z:=SO.symm.trans Y;exact en z
 subst M;have w4:IsPair m4 TO p b:=q.extBut _ _ D.i S;refine aN (gd w4 rfl (aN (wpAny_updateSeq_pair w4 λd F r=>?_)))
 replace F:IsPair d TO p G:=F;refine aN (wpAny_letGo (a6 (a6 (aN (gd F rfl (aN (wpAny_newTuple ?_)))))));have sz:d.objs.size=s.heap.objs.size:=by rw[r.1,q.1,n.1,m.1,i.1]
 have z5:IsZip d z TI TO .ellipsis:=r.extBut _ _ D.b.symm (q.extBut _ _ D.d.symm (n.extBut _ _ D.b.symm (m.extBut _ _ D.c.symm T)));have kp:∀c o,c≠z->c≠TO->c≠f->c≠g->s.heap.get? c=some o->d.get? c=some o:=λc o h B I J e=>r.extBut _ _ B (q.extBut _ _ J (n.extBut _ _ B (m.extBut _ _ I (i.extBut _ _ h e))));have O:D5 b1 d f j (k+1):=g1.at' λo e=>r.extBut _ _ D.h.symm (q.extBut _ _ D.j (n.extBut _ _ D.h.symm e));have R:D5 b2 d g l (k+1):=g2.at' λo e=>r.extBut _ _ D.i.symm e;have u:z<d.objs.size:=dt z5;show wpAny _ _ (Builtin.SmallTypes.ownedTupleHandOut (.ref z) (.ref d.objs.size)>>=λ_=>_) _ _ _;refine aN ?_;unfold Builtin.SmallTypes.ownedTupleHandOut;have z6:IsZip (d.push {cls:=.type "tuple",data:=.seq #[p,G] }) z TI TO .ellipsis:=cv _ z5;refine aN (wpAny_setField_rec z6 (by simp) λm7 U t7=>?_)
 replace U:IsZip m7 z TI TO (rawInt d.objs.size):=U;refine wpAny_setField_rec U (by simp) λC H t8=>?_
 replace H:IsZip C z TI TO (rawInt d.objs.size):=H;have up:∀c o,c≠z->d.get? c=some o->C.get? c=some o:=λc o h e=>t8.extBut _ _ h (t7.extBut _ _ h (cv _ e));have p8:IsPair C d.objs.size p G:=t8.extBut _ _ (Nat.ne_of_gt u) (t7.extBut _ _ (Nat.ne_of_gt u) (da _ rfl));rw[sz]at H p8;refine a6 ⟨_,rfl,?_⟩;show Q (.ref d.objs.size) _;rw[sz];exact hQ C _ H (up _ _ D.b F) (O.at' λo e=>up _ o D.c e) (R.at' λo e=>up _ o D.d e) p8 λc o h B I J e=>up c o h (kp c o h B I J e)
theorem js{z TI TO d m i q:Addr}{b1 b2:Bool}{k:Nat}{xs ys:Array q3}{a b:q3}{Q:Fin->qU->Prop}(C:A.handled=none)(D:yy z TI TO d m i q)
  (hz:IsZip s.heap z TI TO .none)(qS:IsPair s.heap TI (.ref d) (.ref m))(rP:IsPair s.heap TO a b)(h1:D5 b1 s.heap d i k)(X:D5 b2 s.heap m q k)(q1:Dt b1 s.heap i xs)(q2:Dt b2 s.heap q ys)(O:k=xs.size\/(k<xs.size/\k=ys.size))
  (G:∀h' tk e,(∀c o,c≠z->c≠TO->c≠d->c≠m->s.heap.get? c=some o->h'.get? c=some o)->(∃o,h'.get? e=some o/\o.cls=.type "StopIteration")->E (.ref e) {s with heap:=h',toks:=tk}):
  wpAny (model P w) A (Builtin.«zip.__next__» ⟨[.ref z],[]⟩) Q E s:=by
 show wpAny _ _ (field (.ref z) 2>>=λ_=>_) _ _ _;refine aN (wpAny_field hz rfl (x:=.bool false) rfl ?_);show wpAny _ _ (field (.ref z) 3>>=λ_=>_) _ _ _;refine aN (wpAny_field hz rfl (x:=.ref TI) rfl (aN (gd qS rfl ?_)));show wpAny _ _ (Builtin.SmallTypes.ownedTupleIsFree (.ref z)>>=λ_=>_) _ _ _;refine aN ?_;unfold Builtin.SmallTypes.ownedTupleIsFree;refine aN (wpAny_field hz rfl (x:=.none) rfl (a6 ?_));simp only[if_true];refine aN (nC (aN (wpAny_field hz rfl (x:=.ref TO) rfl (aN (wpAny_setField_rec hz (by simp) λm1 r j=>?_)))))
 replace r:IsZip m1 z TI TO .ellipsis:=r;refine aN ?_;simp only[List.zipIdx_cons,List.zipIdx_nil,List.forIn_cons,List.forIn_nil];refine aN (aN (wpAny_onRaise ?_));show wpAny _ _ (Builtin.SmallTypes.nextOf (.ref d)>>=λ_=>_) _ _ _;have v:D5 b1 m1 d i k:=h1.at' λo e=>j.extBut _ _ D.c e;have I:Dt b1 m1 i xs:=q1.at' λo e=>j.extBut _ _ D.k1.1 e;rcases O with rfl|⟨R,rfl⟩
 ·refine aN ((E8 C b1 d i D.k1.2.2.1 xs).done _ _ _ ⟨v,I⟩ λB e f y=>?_);obtain⟨F,g,n⟩:=y;have M:IsZip B z TI TO .ellipsis:=f _ _ D.c.symm r;have h:e≠z:=λx=>by subst x;rw[M]at g;cases g;simp at n
  exact wpAny_setField_rec M (by simp) λH _ l=>G H _ e (λc o p _ u _ x=>l.extBut _ _ p (f _ _ u (j.extBut _ _ p x))) ⟨F,l.extBut _ _ h g,n⟩
 ·refine aN ((E8 C b1 d i D.k1.2.2.1 xs).item _ _ _ _ R ⟨v,I⟩ λx' B nA U ⟨v,_⟩ f=>a6 ?_);have L:IsPair B TO a b:=f.extBut _ _ D.h (j.extBut _ _ D.b rP);refine aN (gd L rfl (aN (wpAny_updateSeq_pair L λH w3 l=>?_)));refine aN (wpAny_letGo (a6 (aN (aN (wpAny_onRaise ?_)))));show wpAny _ _ (Builtin.SmallTypes.nextOf (.ref m)>>=λ_=>_) _ _ _;refine aN ((E8 C b2 m q D.k2.2.2.2 ys).done _ _ _ ⟨X.at' λo e=>l.extBut _ _ D.i.symm (f.extBut _ _ D.j.symm (j.extBut _ _ D.d e)),q2.at' λo e=>l.extBut _ _ D.k2.2.1 (f.extBut _ _ D.k2.2.2.1 (j.extBut _ _ D.k2.1 e))⟩ λY e J y=>?_);obtain⟨F,g,n⟩:=y;have N:IsZip Y z TI TO .ellipsis:=J _ _ D.d.symm (l.extBut _ _ D.b.symm (f.extBut _ _ D.c.symm r));have h:e≠z:=λx=>by subst x;rw[N]at g;cases g;simp at n
  exact wpAny_setField_rec N (by simp) λZ _ K=>G Z _ e (λc o p S u T x=>K.extBut _ _ p (J _ _ T (l.extBut _ _ S (f.extBut _ _ u (j.extBut _ _ p x))))) ⟨F,K.extBut _ _ h g,n⟩
abbrev qb(b1:Bool)(h:Heap)(a:Addr):Heap:=h.push {cls:=.type (Uj b1),data:=.fields #[.ref a,.int 0 0] }
abbrev zh2(b1 b2:Bool)(h:Heap)(a b:Addr):Heap:=(qb b1 h a).push {cls:=.type (Uj b2),data:=.fields #[.ref b,.int 0 0] }
abbrev zh3(b1 b2:Bool)(h:Heap)(a b:Addr):Heap:=(zh2 b1 b2 h a b).push {cls:=.type "tuple",data:=.seq #[.ref h.objs.size,.ref (qb b1 h a).objs.size] }
abbrev zh4(b1 b2:Bool)(h:Heap)(a b:Addr):Heap:=(zh3 b1 b2 h a b).push {cls:=.type "tuple",data:=.seq #[.none,.none] }
abbrev zg(b1 b2:Bool)(h:Heap)(a b:Addr):Heap:=(zh4 b1 b2 h a b).push {cls:=.type "zip",data:=.fields #[.none,.bool false,.bool false,.ref (zh2 b1 b2 h a b).objs.size,.ref (zh3 b1 b2 h a b).objs.size] }
theorem Vw(b1 b2:Bool)(a b:Addr)(xs ys:Array q3):Meets (Builtin.«zip.__new__» ⟨[.type "zip",.ref a,.ref b],[]⟩) (λ_ R s=>Dt b1 s.heap a xs/\Dt b2 s.heap b ys/\R (.ok (.ret (.ref (zh4 b1 b2 s.heap a b).objs.size))) {s with heap:=zg b1 b2 s.heap a b}):=
 .of_wp λi w A R s h=>by
  obtain⟨c,g,d,j,f⟩:=s;obtain⟨l,m,h⟩:=h;have q:=sub_zip;have n:Dt b1 (Shared.heap ⟨c,g,d,j,f⟩) a xs:=l;have p:Dt b2 (Shared.heap ⟨c.push {cls:=.type (Uj b1),data:=.fields #[.ref a,.int 0 0] },g,d,j,f⟩) b ys:=Dt.at' m λo e=>cv _ e
  wp_walk using bc n,bc p
  exact⟨_,rfl,h⟩
theorem Za(q:Dt b1 s.heap a xs)(r:Dt b2 s.heap b ys)
  (h:∀h',IsZip h' (s.heap.objs.size+4) (s.heap.objs.size+2) (s.heap.objs.size+3) .none->IsPair h' (s.heap.objs.size+2) (.ref s.heap.objs.size) (.ref (s.heap.objs.size+1))->
   IsPair h' (s.heap.objs.size+3) .none .none->D5 b1 h' s.heap.objs.size a 0->D5 b2 h' (s.heap.objs.size+1) b 0->(∀c o,s.heap.get? c=some o->h'.get? c=some o)->Q (.ref (s.heap.objs.size+4)) {s with heap:=h'}):
  wpAny (model P w) A (call (.type "zip") [.ref a,.ref b]) Q E s:=by
 refine callType_new F.called_zip (by decide) (F.typeCall_zip_2 _ _) (F.newCall_zip_2 _ _) (λi=>F.args_object_init_3 i _ _) F.entry_zip_new (Vw b1 b2 a b xs ys) ⟨q,r,?_⟩;have e:(qb b1 s.heap a).objs.size=s.heap.objs.size+1:=Heap.size_push ..;have f:(zh2 b1 b2 s.heap a b).objs.size=s.heap.objs.size+2:=by rw[Heap.size_push,e]
 have g:(zh3 b1 b2 s.heap a b).objs.size=s.heap.objs.size+3:=by rw[Heap.size_push,f]
 have n:(zh4 b1 b2 s.heap a b).objs.size=s.heap.objs.size+4:=by rw[Heap.size_push,g]
 have d:(zg b1 b2 s.heap a b).get? (zh4 b1 b2 s.heap a b).objs.size=some _:=da _ rfl;have m:(zg b1 b2 s.heap a b).get? (zh3 b1 b2 s.heap a b).objs.size=some _:=cv _ (da _ rfl);have l:(zg b1 b2 s.heap a b).get? (zh2 b1 b2 s.heap a b).objs.size=some _:=cv _ (cv _ (da _ rfl));have j:(zg b1 b2 s.heap a b).get? (qb b1 s.heap a).objs.size=some _:=cv _ (cv _ (cv _ (da _ rfl)));have p:(zg b1 b2 s.heap a b).get? s.heap.objs.size=some _:=cv _ (cv _ (cv _ (cv _ (da _ rfl))));show _/\_;rw[f,g,n]at d;rw[e,f]at l;rw[g]at m;rw[e]at j;rw[n];exact⟨⟨_,d,rfl⟩,h _ d l m (.of ⟨_,p,rfl,rfl⟩) (.of ⟨_,j,rfl,rfl⟩) λc o x=>cv _ (cv _ (cv _ (cv _ (cv _ x))))⟩
end
open AutoSeq1 (wpAny_loadPart')
section
variable {P:q4}{w:ra}{A:q5}{E:pQ}{s:qU}
theorem Vy{z TI TO d e f g:Addr}{b1 b2:Bool}{k:Nat}{xs ys:Array q3}{x y a b:q3}{Q:Option q3->qU->Prop}(B:A.in1.handled=none)(D:yy z TI TO d e f g)
  (hz:IsZip s.heap z TI TO .none)(H:IsPair s.heap TI (.ref d) (.ref e))(I:IsPair s.heap TO a b)(h1:D5 b1 s.heap d f k)(q:D5 b2 s.heap e g k)(C:Dt b1 s.heap f xs)(G:Dt b2 s.heap g ys)(u:xs[k]?=some x)(v:ys[k]?=some y)
  (r:∀h' h,IsZip h' z TI TO (rawInt s.heap.objs.size)->IsPair h' TO x y->D5 b1 h' d f (k+1)->D5 b2 h' e g (k+1)->IsPair h' s.heap.objs.size x y->
   (∀c o,c≠z->c≠TO->c≠d->c≠e->s.heap.get? c=some o->h'.get? c=some o)->Q (some (.ref s.heap.objs.size)) {s with heap:=h',toks:=h}):
  wpAny (model P w) A (pyNext (.ref z)) Q E s:=by
 have ty:s.TypeIs (.ref z) "zip":=⟨_,hz,rfl⟩;unfold pyNext
 exact aN (ov (oe (name:=Str.ofString "__next__") ty F.slot_zip_next (hH F.slot_zip_next ty F.entry_zip_next
   (Zb B D hz H I h1 q C G u v λh' h i j l m n p=>a6 (r h' h i j l m n p)) (F.args_zip_next_1 _))))
theorem Vx{z TI TO d f g h:Addr}{b1 b2:Bool}{k:Nat}{xs ys:Array q3}{a b:q3}{Q:Option q3->qU->Prop}(r:A.in1.handled=none)(D:yy z TI TO d f g h)
  (hz:IsZip s.heap z TI TO .none)(x:IsPair s.heap TI (.ref d) (.ref f))(y:IsPair s.heap TO a b)(h1:D5 b1 s.heap d g k)(l:D5 b2 s.heap f h k)(u:Dt b1 s.heap g xs)(v:Dt b2 s.heap h ys)(j:k=xs.size\/(k<xs.size/\k=ys.size))
  (m:∀h' i,(∀c o,c≠z->c≠TO->c≠d->c≠f->s.heap.get? c=some o->h'.get? c=some o)->Q none {s with heap:=h',toks:=i}):wpAny (model P w) A (pyNext (.ref z)) Q E s:=by
 have ty:s.TypeIs (.ref z) "zip":=⟨_,hz,rfl⟩;unfold pyNext
 refine aN (ov (oe (name:=Str.ofString "__next__") ty F.slot_zip_next (hH F.slot_zip_next ty F.entry_zip_next
   (js r D hz x y h1 l u v j λh' i e k p=>?_) (F.args_zip_next_1 _))))
 obtain⟨o,q,n⟩:=p;exact aN (nB (T:="StopIteration") (b:=true) ⟨o,q,n⟩ isSubtype_stop (a6 (m _ _ k)))
end
def Xd(K:W.Frag)(b1 b2:Bool)(c d:Addr):It:=
 ⟨λi H=>∃a b x y,Sq b1 K H c a/\Sq b2 K H d b/\a[i]?=some x/\b[i]?=some y,
  λi H v e=>∃T x y,v=.ref T/\H T=none/\e=upd H T (.tup [x,y])/\(∀a,Sq b1 K H c a->a[i]?=some x)/\∀b,Sq b2 K H d b->b[i]?=some y,
  λi H=>∃a b,Sq b1 K H c a/\Sq b2 K H d b/\(a.length=i\/(i<a.length/\b.length=i))⟩
theorem Z5{P:q4}{w:ra}{K:W.Frag}{C:List Expr}{kk:Nat}{pos:Pos}{b1 b2:Bool}{z TI TO p r Z l2:Addr}(D:yy z TI TO p r Z l2):
  Pz P w K (.Tuple C kk pos) (Xd K b1 b2 Z l2) [z,TI,TO,p,r] z (λi h=>IsZip h z TI TO .none/\IsPair h TI (.ref p) (.ref r)/\(∃a b,IsPair h TO a b)/\D5 b1 h p Z i/\D5 b2 h r l2 i)where
 mem:=dm
 obj:=λi h ⟨g,j,⟨a,b,n⟩,l,m⟩ c d=>by
  obtain⟨o1,e1,B,d1⟩:=l.data;obtain⟨o2,e2,c2,d2⟩:=m.data;simp only[List.mem_cons,List.not_mem_nil,or_false]at d;rcases d with rfl|rfl|rfl|rfl|rfl
  ·exact⟨_,g,λv q=>by cases q⟩
  ·exact⟨_,j,λv q=>by cases q⟩
  ·exact⟨_,n,λv q=>by cases q⟩
  ·exact⟨_,e1,λv q=>by rw[d1]at q;cases q⟩
  ·exact⟨_,e2,λv q=>by rw[d2]at q;cases q⟩
 keep:=λi h h' ⟨g,j,⟨a,b,n⟩,l,m⟩ f=>
  ⟨f z (by simp) _ g,f TI (by simp) _ j,⟨a,b,f TO (by simp) _ n⟩,l.at' λo e=>f p (by simp) o e,m.at' λo e=>f r (by simp) o e⟩
 item:=by
  intro X U Y T d i F s σ H E I L ⟨g,j,⟨a,b,n⟩,l,m⟩ ⟨xs,ys,x,y,G,J,ex,ey⟩;subst U Y T;obtain⟨pF,r1,p1⟩:=I.sq G;obtain⟨iK,r2,p2⟩:=I.sq J;obtain⟨u1,R,DG⟩:=r1.get ex;obtain⟨u2,S,SR⟩:=r2.get ey;refine Vy (I.ok.hd d) D g j n l m p1 p2 (by simpa using R) (by simpa using S) λh' tk a1 a2 a3 a4 a5 f=>⟨_,rfl,?_⟩;refine wpAny_letOwnedTupleGo_zip a1 λSS KQ u=>?_;have xW:z<s.heap.objs.size:=dt g;have FA:IsPair SS s.heap.objs.size u1 u2:=u.extBut _ _ (Nat.ne_of_gt xW) a5;refine⟨.ref s.heap.objs.size,upd H s.heap.objs.size (.tup [x,y]),I.mY (t':=tk) (ch:=[z,TI,TO,p,r]) L (λc o d e=>?_) (dr _) ?_,rfl,⟨_,x,y,rfl,I.fresh,rfl,λxs' q=>?_,λCN q=>?_⟩,⟨KQ,?_,⟨u1,u2,?_⟩,?_,?_⟩,λc d=>?_⟩
  ·simp only[List.mem_cons,List.not_mem_nil,or_false,not_or]at d;obtain⟨B,c2,M,N,O⟩:=d;exact u.extBut _ _ B (f c o B M N O e)
  ·exact⟨⟨ea (by decide:2<=1000) (Rg (dr _)),_,FA,rfl⟩,[u1,u2],.cons DG (.cons SR .nil),⟨_,FA,rfl,0,rfl⟩⟩
  ·rw[I.sF q G];exact ex
  ·rw[I.sF q J];exact ey
  ·exact u.extBut _ _ D.a (f TI _ D.a D.e D.f D.g j)
  ·exact u.extBut _ _ D.b a2
  ·exact a3.at' λo e=>u.extBut _ _ D.c e
  ·exact a4.at' λo e=>u.extBut _ _ D.d e
  ·rw[A9]
   ·exact(L c d).1
   ·have lt:c<s.heap.objs.size:=by
     simp only[List.mem_cons,List.not_mem_nil,or_false]at d;rcases d with rfl|rfl|rfl|rfl|rfl
     ·exact xW
     ·exact dt j
     ·exact dt n
     ·exact l.lt
     ·exact m.lt
    exact ft lt
 done:=by
  intro X U Y T d i F s σ H E I L ⟨g,j,⟨a,b,n⟩,l,m⟩ ⟨xs,ys,G,J,he⟩;subst U Y T;obtain⟨pF,r1,p1⟩:=I.sq G;obtain⟨iK,r2,p2⟩:=I.sq J;have n1:=r1.length;have n2:=r2.length;refine Vx (I.ok.hd d) D g j n l m p1 p2 ?_ λh' tk f=>⟨rfl,I.mZ (t':=tk) (ch:=[z,TI,TO,p,r]) L λc o d e=>?_⟩
  ·simp only[List.size_toArray];omega
  ·simp only[List.mem_cons,List.not_mem_nil,or_false,not_or]at d;obtain⟨B,c2,M,N,O⟩:=d;exact f c o B M N O e
 self:=λA i s Q E ⟨g,_⟩ hQ=>wpAny_pyIter_zip g hQ
theorem r8(h1:a<n)(c:b<n):yy (n+4) (n+2) (n+3) n (n+1) a b:=
 ⟨by omega,by omega,by omega,by omega,by omega,by omega,by omega,by omega,by omega,by omega,⟨by omega,by omega,by omega,by omega⟩,⟨by omega,by omega,by omega,by omega⟩⟩
section
variable {X:Cx}
def A00(K:W.Frag)(f:TA):TI:=λj H R=>f j H λg c=>∃(d e:Bool) (a b:Addr),g=[.ref a,.ref b]/\(∃h,Sq d K c a h)/\(∃i,Sq e K c b i)/\R (Xd K d e a b) c
theorem Qy{i:List Expr}{Q:Nat}{T:Pos}{a b:Expr}{v:TA}{p pos:Pos}(K:Gl X "zip")(M:X.mg "zip"=none)(J:PA X [a,b] v)(N:starEach [a,b] X.env=[(false,eval a X.env),(false,eval b X.env)]:=by rfl)(w:starEach [b] X.env=[(false,eval b X.env)]:=by rfl):
  PI X (.Tuple i Q T) (.Call (.Name "zip" p) [a,b] [] pos) (A00 X.K v):=by
 intro f s x H R I h;refine Call_ (E9 I K M boot_zip (PyProof.Rows.callWith_type1 (Br (J pos f s x H _ I h) λus d ⟨vs,m,g,U,S⟩=>?_) (by rw[N,w]) (by rw[w];rfl)));obtain⟨b1,b2,l1,l2,e,⟨xs,O⟩,⟨ys,P⟩,q⟩:=S;subst e;obtain⟨u1,u2,rfl,y,A⟩:=X9 U;cases y;cases A;obtain⟨pF,Y,r⟩:=g.sq O;obtain⟨iK,Z,u⟩:=g.sq P;have B:=r.lt;have l:=u.lt;refine Za r u λG n C D E F L=>?_;refine wpAny_pyIter_zip n ?_;have z:Am X f x m {d with heap:=G}:=g.kept (t':=d.toks) L;refine⟨d.heap.objs.size+4,[d.heap.objs.size+4,d.heap.objs.size+2,d.heap.objs.size+3,d.heap.objs.size,d.heap.objs.size+1],_,_,m,rfl,z,Z5 (r8 B l),⟨n,C,⟨_,_,D⟩,E,F⟩,λc o=>?_,q⟩
 have j:d.heap.objs.size<=c:=by
  simp only[List.mem_cons,List.not_mem_nil,or_false]at o;rcases o with rfl|rfl|rfl|rfl|rfl<;>omega
 exact g.qO j (g.aK.fresh j)
end
def Xc(K:W.Frag)(b:Bool)(l:Addr):It:=
 ⟨λi H=>∃a x,Sq b K H l a/\a[i]?=some x,
  λi H v c=>∃T x,v=.ref T/\H T=none/\c=upd H T (.tup [.int i,x])/\∀a,Sq b K H l a->a[i]?=some x,
  λi H=>∃a,Sq b K H l a/\a.length=i⟩
theorem Vp{P:q4}{w:ra}{K:W.Frag}{m:List Expr}{kk:Nat}{pos:Pos}{b:Bool}{e it l:Addr}(D:e≠it)(L:e≠l):
  Pz P w K (.Tuple m kk pos) (Xc K b l) [e,it] e (λi h=>(∃d,IsEnum h e it i d)/\D5 b h it l i)where
 mem:=dm
 obj:=λi h ⟨⟨d,g⟩,f⟩ c a=>by
  obtain⟨o1,e1,c1,d1⟩:=f.data;simp only[List.mem_cons,List.not_mem_nil,or_false]at a;rcases a with rfl|rfl
  ·exact⟨_,g,λv q=>by cases q⟩
  ·exact⟨_,e1,λv q=>by rw[d1]at q;cases q⟩
 keep:=λi h U ⟨⟨d,g⟩,f⟩ j=>⟨⟨d,j e (by simp) _ g⟩,f.at' λo q=>j it (by simp) o q⟩
 item:=by
  intro X J M G a i y s σ H E I C ⟨⟨d,g⟩,f⟩ ⟨xs,x,B,T⟩;subst J M G;obtain⟨r,O,p⟩:=I.sq B;obtain⟨u1,n,Z⟩:=O.get T
  have SU:i<r.toArray.size:=by
   have:=(cb.mp n).1;simpa using this
  refine wpAny_pyNext_enum_itemD (E8 (A:=X.A.in1) (I.ok.hd a) b it l (f.ne p) r.toArray) g ⟨f,p⟩ SU D (by simp[D,L]) λu U R eu a1 a2 a3 a4 j=>⟨_,rfl,?_⟩;have e2:u=u1:=en (eu.symm.trans (by simpa using n));subst e2;refine wpAny_letOwnedTupleGo_enum a1 λSS KQ N=>?_;have Y:e<s.heap.objs.size:=dt g;have S:SS.get? s.heap.objs.size=some {cls:=.type "tuple",data:=.seq #[.int i R,u] }:=N.extBut _ _ (Nat.ne_of_gt Y) a3;refine⟨.ref s.heap.objs.size,upd H s.heap.objs.size (.tup [.int i,x]),I.mY (t':=R+1) (ch:=[e,it]) C (λc o a F=>?_) (dr _) ?_,rfl,⟨_,x,rfl,I.fresh,rfl,λxs' q=>?_⟩,⟨⟨u,?_⟩,?_⟩,λc a=>?_⟩
  ·simp only[List.mem_cons,List.not_mem_nil,or_false,not_or]at a;exact N.extBut _ _ a.1 (j c o a.1 a.2 F)
  ·exact⟨⟨ea (by decide:2<=1000) (Rg (dr _)),_,S,rfl⟩,[.int i R,u],.cons ⟨_,rfl⟩ (.cons Z .nil),⟨_,S,rfl,0,rfl⟩⟩
  ·rw[I.sF q B];exact T
  ·have z:=KQ;rw[show((i:Int)+1)=((i+1:Nat):Int)by omega]at z;exact z
  ·exact a2.1.at' λo eo=>N.extBut _ _ (Ne.symm D) eo
  ·rw[A9]
   ·exact(C c a).1
   ·simp only[List.mem_cons,List.not_mem_nil,or_false]at a;rcases a with rfl|rfl
    ·exact ft Y
    ·exact ft f.lt
 done:=by
  intro X J M G a i y s σ H E I C ⟨⟨d,g⟩,f⟩ ⟨xs,B,hl⟩;subst J M G;obtain⟨r,O,p⟩:=I.sq B;have n1:=O.length;have n2:i=r.toArray.size:=by simp only[List.size_toArray];omega
  subst n2;refine wpAny_pyNext_enum_endD (E8 (A:=X.A.in1) (I.ok.hd a) b it l (f.ne p) r.toArray) g ⟨f,p⟩ λU j=>⟨rfl,I.mZ (t':=s.toks) (ch:=[e,it]) C λc o a F=>?_⟩;simp only[List.mem_cons,List.not_mem_nil,or_false,not_or]at a;exact j c o a.2 F
 self:=λA i s Q E ⟨⟨d,g⟩,_⟩ hQ=>wpAny_pyIter_enum g hQ
theorem Sb(l:Addr)(a:Array q3)(n:Nat)(e:Option Addr)(o:Array (Option q3)):
  Meets (Builtin.«enumerate.__new__» ⟨[.type "enumerate",.ref l],[]⟩) (λ_ R s=>s.heap.get? l=some {cls:=.type "tuple",dict:=e,data:=.seq a n,slots:=o}/\
   R (.ok (.ret (.ref (qb true s.heap l).objs.size))) {s with heap:=(qb true s.heap l).push {cls:=.type "enumerate",data:=.fields #[.none,.bool false,.ref s.heap.objs.size,rawInt 0,.none,.none] } }):=
 .of_wp λi w A R s h=>by
  obtain⟨j,g,d,p,m⟩:=s;obtain⟨b,h⟩:=h;have r:=sub_enumerate;have f:Heap.IsTuple (Shared.heap ⟨j,g,d,p,m⟩) l a:=⟨_,b,rfl,n,rfl⟩
  wp_walk using wpAny_loadPart' b
  refine wpAny_stack_any λq=>a6 ?_;split
  ·rename_i c _ _ _ _ _;cases(c==Value.type "enumerate")
   ·wp_walk using wpAny_loadPart' b,wpAny_pyIter_tuple f
    exact⟨_,rfl,h⟩
   ·wp_walk using wpAny_loadPart' b,wpAny_pyIter_tuple f
    exact⟨_,rfl,h⟩
  ·wp_walk using wpAny_loadPart' b,wpAny_pyIter_tuple f
   exact⟨_,rfl,h⟩
theorem Uc(j:s.heap.IsTuple l a)
  (h:∀h',IsEnum h' (s.heap.objs.size+1) s.heap.objs.size 0 .none->h'.IsTupleIter s.heap.objs.size l 0->(∀b o,s.heap.get? b=some o->h'.get? b=some o)->Q (.ref (s.heap.objs.size+1)) {s with heap:=h'}):
  wpAny (model P w) A (call (.type "enumerate") [.ref l]) Q E s:=by
 obtain⟨⟨c,d,i,v⟩,q,m,n,p⟩:=j;have u:c=.type "tuple":=m;have r:i=.seq a n:=p;subst u r;refine callType_new F.called_enumerate (by decide) (F.typeCall_enumerate_1 _) (F.newCall_enumerate_1 _) (λf=>F.args_object_init_2 f _) F.entry_enumerate_new (Sb l a n d v) ⟨q,?_⟩;have g:(qb true s.heap l).objs.size=s.heap.objs.size+1:=Heap.size_push ..;show _/\_;rw[g];have e:=da (qb true s.heap l) (o:={cls:=.type "enumerate",data:=.fields #[.none,.bool false,.ref s.heap.objs.size,rawInt 0,.none,.none] }) rfl;rw[g]at e;exact⟨⟨_,e,rfl⟩,h _ e ⟨_,cv _ (da _ rfl),rfl,rfl⟩ λb o x=>cv _ (cv _ x)⟩
section
variable {X:Cx}
def rj(K:W.Frag)(d:TA):TI:=λg H R=>d g H λe c=>∃(b:Bool) (a:Addr),e=[.ref a]/\(∃f,Sq b K c a f)/\R (Xc K b a) c
theorem Sv{i:List Expr}{z:Nat}{A:Pos}{a:Expr}{B:TA}{p pos:Pos}(G:Gl X "enumerate")(J:X.mg "enumerate"=none)(F:PA X [a] B)(K:starEach [a] X.env=[(false,eval a X.env)]:=by rfl):
  PI X (.Tuple i z A) (.Call (.Name "enumerate" p) [a] [] pos) (rj X.K B):=by
 intro f s w H R I h;refine Call_ (E9 I G J boot_enumerate (PyProof.Rows.callWith_type1 (Br (F pos f s w H _ I h) λU d ⟨Y,x,u,O,N⟩=>?_) K rfl));obtain⟨b,M,e,⟨Z,L⟩,q⟩:=N;subst e;obtain⟨T,rfl,C⟩:=Dg O;cases C;obtain⟨S,P,v⟩:=u.sq L;have E:=v.lt
 have m:∀g,IsEnum g (d.heap.objs.size+1) d.heap.objs.size 0 .none->D5 b g d.heap.objs.size M 0->(∀b o,d.heap.get? b=some o->g.get? b=some o)->
   wpAny (model X.prog X.w) X.A (pyIter (.ref (d.heap.objs.size+1))) (PIE X f w (.Tuple i z A) R) X.xe {d with heap:=g}:=λg j l n=>by
  refine wpAny_pyIter_enum j ?_;have D:Am X f w x {d with heap:=g}:=u.kept (t':=d.toks) n;refine⟨d.heap.objs.size+1,[d.heap.objs.size+1,d.heap.objs.size],_,_,x,rfl,D,Vp (Nat.ne_of_gt (Nat.lt_succ_self _)) (Nat.ne_of_gt (Nat.lt_succ_of_lt E)),⟨⟨_,j⟩,l⟩,λc y=>?_,q⟩
  have r:d.heap.objs.size<=c:=by
   simp only[List.mem_cons,List.not_mem_nil,or_false]at y;rcases y with rfl|rfl<;>omega
  exact u.qO r (u.aK.fresh r)
 cases b with
 |false=>exact call_enumerate_list v λg j l Q n=>m g j l n
 |true=>exact Uc v λg j l n=>m g j l n
end
theorem Sd{K:PySem.W.Frag}{b1 b2:Bool}{c d:Addr}{xs ys:List V}{g:TG}{u:TS}{D:Hq}{a:St}{H:Hp}(r:xs.length=ys.length)(b:Nat->St->Hp->Prop)(C:b 0 a H)(I:∀i a H,i<=xs.length->b i a H->Sq b1 K H c xs/\Sq b2 K H d ys)
  (J:∀i x y T a H,xs[i]?=some x->ys[i]?=some y->b i a H->H T=none->g (.ref T) a (upd H T (.tup [x,y])) λj l=>u {D with nx:=b (i+1),ct:=b (i+1),bk:=D.nx} j l)(F:∀a H,b xs.length a H->D.nx a H):
  ∃W:Nat->Nat->St->Hp->Prop,(∃m,W 0 m a H)/\∀i m a H,W i m a H->
   ((Xd K b1 b2 c d).stop i H/\D.nx a H)\/((Xd K b1 b2 c d).go i H/\∃N:St->Hp->Prop,(∀h f,N h f->∃s,s<m/\W (i+1) s h f)/\∀x f,(Xd K b1 b2 c d).CK i H x f->g x a f λj l=>u {D with nx:=N,ct:=N,bk:=D.nx} j l):=by
 refine⟨λi m a H=>m=xs.length-i/\i<=xs.length/\b i a H,⟨xs.length,by simp,mu _,C⟩,?_⟩;rintro i m a H ⟨rfl,G,p⟩;obtain⟨n,o⟩:=I i a H G p;by_cases q:i<xs.length
 ·have w:i<ys.length:=by omega
  refine .inr ⟨⟨xs,ys,xs[i],ys[i],n,o,by simp[q],by simp[w]⟩,b (i+1),λh f L=>⟨xs.length-(i+1),by omega,rfl,q,L⟩,λv f y=>?_⟩;obtain⟨T,x,z,rfl,E,rfl,A,B⟩:=y;exact J i x z T a H (A xs n) (B ys o) p E
 ·have e:i=xs.length:=by omega
  subst e;exact .inl ⟨⟨xs,ys,n,o,.inl rfl⟩,F a H p⟩
theorem Y3{K:PySem.W.Frag}{b:Bool}{c:Addr}{xs:List V}{g:TG}{r:TS}{D:Hq}{a:St}{H:Hp}(d:Nat->St->Hp->Prop)(u:d 0 a H)(B:∀i a H,i<=xs.length->d i a H->Sq b K H c xs)
  (C:∀i x T a H,xs[i]?=some x->d i a H->H T=none->g (.ref T) a (upd H T (.tup [.int i,x])) λj l=>r {D with nx:=d (i+1),ct:=d (i+1),bk:=D.nx} j l)(z:∀a H,d xs.length a H->D.nx a H):
  ∃W:Nat->Nat->St->Hp->Prop,(∃m,W 0 m a H)/\∀i m a H,W i m a H->
   ((Xc K b c).stop i H/\D.nx a H)\/((Xc K b c).go i H/\∃N:St->Hp->Prop,(∀h f,N h f->∃q,q<m/\W (i+1) q h f)/\∀x f,(Xc K b c).CK i H x f->g x a f λj l=>r {D with nx:=N,ct:=N,bk:=D.nx} j l):=by
 refine⟨λi m a H=>m=xs.length-i/\i<=xs.length/\d i a H,⟨xs.length,by simp,mu _,u⟩,?_⟩;rintro i m a H ⟨rfl,A,p⟩;have n:=B i a H A p;by_cases o:i<xs.length
 ·refine .inr ⟨⟨xs,xs[i],n,by simp[o]⟩,d (i+1),λh f E=>⟨xs.length-(i+1),by omega,rfl,o,E⟩,λv f y=>?_⟩;obtain⟨T,x,rfl,w,rfl,s⟩:=y;exact C i x T a H (s xs n) p w
 ·have e:i=xs.length:=by omega
  subst e;exact .inl ⟨⟨xs,n,rfl⟩,z a H p⟩
abbrev re(K:W.Frag):TG:=r9 K 2 (ao (J2 0) (ao (J2 1) zx))
theorem Xq{K:W.Frag}{b1 b2:Bool}{c d:Addr}{xs ys:List V}{u:List Nat}{n:TT}{l:TE}{g:St}{D:Addr}{B:Hp}{Q:Hp->Prop}(C:ys.length=xs.length\/ys.length<xs.length)(h:Nat->List V->Hp->Prop)(I:h 0 [] (upd B D (.lst [])))
  (N:∀i a H,i<=ys.length->h i a H->Sq b1 K H c xs/\Sq b2 K H d ys)
  (O:∀i x y T a H,xs[i]?=some x->ys[i]?=some y->h i a H->H T=none->n (some x::some y::Cv u g) (upd H T (.tup [x,y])) λb o=>
   if b=true then l (some x::some y::Cv u g) o λv r=>r D=some (.lst a)/\a.length<sizeLine/\h (i+1) (a++[v]) (upd r D (.lst (a++[v])))else h (i+1) a o)
  (R:∀g H Q j,(∀b f,Q b f->j b f)->n g H Q->n g H j)(P:∀g H Q j,(∀v f,Q v f->j v f)->l g H Q->l g H j)
  (L:∀a H,h ys.length a H->Q H):Dc 2 u (Xd K b1 b2 c d) (re K) n l g D B Q:=by
 refine⟨λi m a H=>m=ys.length-i/\i<=ys.length/\h i a H,⟨ys.length,by simp,mu _,I⟩,?_⟩;rintro i m a f ⟨rfl,M,p⟩;obtain⟨w,A⟩:=N i a f M p;by_cases s:i<ys.length
 ·have E:i<xs.length:=by omega
  refine .inr ⟨⟨xs,ys,xs[i],ys[i],w,A,by simp[E],by simp[s]⟩,λv Y y=>?_⟩;obtain⟨T,x,z,rfl,J,rfl,F,G⟩:=y;refine⟨T,_,rfl,Cf.of A2,rfl,x,_,rfl,z,_,rfl,rfl,⟨[some x,some z],rfl,rfl⟩,?_⟩;refine R _ _ _ _ ?_ (O i x z T a f (F xs w) (G ys A) p J);intro b o q;cases b with
  |false=>exact⟨ys.length-(i+1),by omega,rfl,s,q⟩
  |true=>exact P _ _ _ _ (λv r ⟨S,U,X⟩=>⟨S,U,ys.length-(i+1),by omega,rfl,s,X⟩) q
 ·have e:i=ys.length:=by omega
  subst e;refine .inl ⟨⟨xs,ys,w,A,?_⟩,L a f p⟩;omega
theorem U3{K:W.Frag}{b1:Bool}{c:Addr}{xs:List V}{s:List Nat}{l:TT}{j:TE}{f:St}{D:Addr}{w:Hp}{Q:Hp->Prop}(g:Nat->List V->Hp->Prop)(A:g 0 [] (upd w D (.lst [])))
  (F:∀i a H,i<=xs.length->g i a H->Sq b1 K H c xs)
  (G:∀i x T a H,xs[i]?=some x->g i a H->H T=none->l (some (.int i)::some x::Cv s f) (upd H T (.tup [.int i,x])) λb n=>
   if b=true then j (some (.int i)::some x::Cv s f) n λv o=>o D=some (.lst a)/\a.length<sizeLine/\g (i+1) (a++[v]) (upd o D (.lst (a++[v])))else g (i+1) a n)
  (J:∀f H Q h,(∀b d,Q b d->h b d)->l f H Q->l f H h)(I:∀f H Q h,(∀v d,Q v d->h v d)->j f H Q->j f H h)
  (C:∀a H,g xs.length a H->Q H):Dc 2 s (Xc K b1 c) (re K) l j f D w Q:=by
 refine⟨λi m a H=>m=xs.length-i/\i<=xs.length/\g i a H,⟨xs.length,by simp,mu _,A⟩,?_⟩;rintro i m a d ⟨rfl,E,p⟩;have u:=F i a d E p;by_cases r:i<xs.length
 ·refine .inr ⟨⟨xs,xs[i],u,by simp[r]⟩,λv O y=>?_⟩;obtain⟨T,x,rfl,B,rfl,z⟩:=y;refine⟨T,_,rfl,Cf.of A2,rfl,_,_,rfl,x,_,rfl,rfl,⟨[some (.int i),some x],rfl,rfl⟩,?_⟩;refine J _ _ _ _ ?_ (G i x T a d (z xs u) p B);intro b n q;cases b with
  |false=>exact⟨xs.length-(i+1),by omega,rfl,r,q⟩
  |true=>exact I _ _ _ _ (λv o ⟨L,M,N⟩=>⟨L,M,xs.length-(i+1),by omega,rfl,r,N⟩) q
 ·have e:i=xs.length:=by omega
  subst e;exact .inl ⟨⟨xs,u,rfl⟩,C a d p⟩
section
variable {X:Cx}{a b:Expr}{rest:List Expr}{ta tb:TE}{tA CJ:TT}{pos:Pos}
def A16(ta tb:TE):TE:=λg H Q=>ta g H λx f=>∃(c:Bool) (N:Bool->Hp->Prop),x=.bl c/\(c=false->N false f)/\(c=true->tb g f λy e=>∃d:Bool,y=.bl d/\N d e)/\∀d e,N d e->Q (.bl d) e
theorem mi(r:PE X a ta)(u:PE X (.BoolOp .And (b::rest) pos) tb):PE X (.BoolOp .And (a::b::rest) pos) (A16 ta tb):=by
 intro f s o H Q I h;refine BoolOp_and (Br (r f s o H _ I h) λv B q=>?_);obtain⟨x,i,l,z,g⟩:=q;obtain⟨c,N,rfl,w,g,m⟩:=g;cases z;refine i0 ?_;cases c with
 |true=>exact Br (u f B o i _ l (g rfl)) λv C ⟨y,j,p,A,d,e,n⟩=>⟨y,j,p,A,by rw[e];exact m d j n⟩
 |false=>exact⟨.bl false,i,l,rfl,m _ _ (w rfl)⟩
def A14(t u:TT):TT:=λg H Q=>t g H λc e=>∃N:Bool->Hp->Prop,(c=false->N false e)/\(c=true->u g e N)/\∀d f,N d f->Q d f
def A2j(t u:TT):TT:=λg H Q=>t g H λc e=>∃N:Bool->Hp->Prop,(c=true->N true e)/\(c=false->u g e N)/\∀d f,N d f->Q d f
theorem mz(p:PT X a tA)(q:PW X (.BoolOp .And (b::rest) pos) CJ):PW X (.BoolOp .And (a::b::rest) pos) (A14 tA CJ):=by
 intro w e s l H Q I h;refine isTrue_and (Br (p e s l H _ I h) λc v o=>?_);obtain⟨f,i,N,r,u,j⟩:=o;cases c with
 |true=>exact Br (q w e v l f _ i (u rfl)) λd x ⟨g,m,n⟩=>⟨g,m,j d g n⟩
 |false=>exact⟨f,i,j _ _ (r rfl)⟩
theorem d4(p:PT X a tA)(q:PW X (.BoolOp .Or (b::rest) pos) CJ):PW X (.BoolOp .Or (a::b::rest) pos) (A2j tA CJ):=by
 intro w e s l H Q I h;refine isTrue_or (Br (p e s l H _ I h) λc v o=>?_);obtain⟨f,i,N,r,u,j⟩:=o;cases c with
 |true=>exact⟨f,i,j _ _ (r rfl)⟩
 |false=>exact Br (q w e v l f _ i (u rfl)) λd x ⟨g,m,n⟩=>⟨g,m,j d g n⟩
end
section
variable {X:Cx}
def zh(i j:Int):Prop:=0<j/\intBits j<=8999
theorem Dq:Gn X (binaryOp .FloorDiv) (rI zh λi j=>.int (i/j)):=zf λi j _ _ _ _ _ b q=>by
 have c:(0:Int)<j:=b.1;refine floordiv_int (by omega) (by rw[Int.fdiv_eq_ediv_of_nonneg i (by omega)];exact q) (.inl (PyProof.noPylong_of_log2 ?_));have a:=b.2;unfold PySem.Builtin.Int.intBits at a;rw[if_neg (by simp;omega)]at a;omega
theorem Xn(h:X.calm=true):Cu X (.builtin "sum") (λxs H Q=>∃(p:Addr) (ns:qG),xs=[.ref p]/\Aq X.K H p (ns.map V.int)/\Q (.int ns.sum) H):=by
 intro e s B H A z Q I r q;obtain⟨p,ns,rfl,j,q⟩:=q;obtain⟨u,rfl,m⟩:=Dg r;cases m;obtain⟨v,rv,l,x⟩:=I.list j;have c:=Fv rv;obtain⟨f,b⟩:=c.allInts.items
 have o:ns=f.toList.map (·.1):=by
  have g:=c.numsOf;have a:=nums_intItems f;rw[<- b]at a;exact g.symm.trans a
 have d:=l.isList;rw[b]at d;refine sum_intListG (I.ok.hd h) d λw y n i=>⟨.int _,H,I.kept i,⟨n,rfl⟩,?_⟩;rw[preSum_eq,List.take_of_length_le (by simp)];rw[o]at q;exact q
end
theorem Bl.here(x:Bl P w H h a o):∃d,h.get? a=some d:=by
 cases o with
 |lst g=>obtain⟨_,_,_,_,e⟩:=x;exact⟨_,e⟩
 |tup g=>obtain⟨_,_,_,o,e,_⟩:=x;exact⟨_,e⟩
 |dK b=>obtain⟨_,_,_,_,o,_,_,e,_⟩:=x;exact⟨_,e⟩
 |dT b=>obtain⟨_,_,_,_,o,_,_,e,_⟩:=x;exact⟨_,e⟩
 |set S n=>obtain⟨o,_,_,_,e,_⟩:=x;exact⟨_,e⟩
 |ins C i fs=>obtain⟨_,_,_,e,_⟩:=x;exact⟨_,e⟩
 |own y=>exact x
 |xd fs=>obtain⟨s,⟨z,l,j,e,c⟩,r⟩:=x;exact⟨_,e⟩
 |xH p m=>obtain⟨t,u,v,e⟩:=x;exact⟨_,e⟩
 |fB d u=>exact⟨_,x.1⟩
 |CH A=>exact⟨_,(show h.get? a=some _ from x)⟩
 |tab q pos=>
  rcases x with e|⟨_,_,_,e,_⟩
  ·exact⟨_,e⟩
  ·exact⟨_,e⟩
 |met f y=>exact⟨_,(show h.get? a=some _ from x)⟩
 |ext B=>exact x.2.1
theorem Gm.off(ok:Gm P w H h)(e:h.get? a=none):H a=none:=by
 cases q:H a with
 |none=>rfl
 |some u=>
  obtain⟨b,z⟩:=(ok a u q).here;rw[e]at z;cases z
def Eo(a:Addr)(cls:q3)(h:Heap):Prop:=∃o b,h.get? a=some o/\o.cls=cls/\o.data=.fields b
def A01(a:Addr)(h:Heap):Prop:=∃o b,h.get? a=some o/\o.data=.fields b
theorem Wc{cls:q3}(x:Eo a cls h):Bl P w H h a (.ext (Eo a cls)):=by
 refine⟨x,?_,?_⟩
 ·obtain⟨o,_,e,_⟩:=x;exact⟨o,e⟩
 ·rintro d f ⟨o,b,e,c⟩ k;exact⟨o,b,k o e,c⟩
def A1q(h:Heap)(a T:Addr):Prop:=∃d b c e f,h.get? a=some d/\d.data=.fields b/\b[0]?=some f/\b[1]?=some (.ref T)/\T≠a/\h.get? T=some c/\c.data=.fields e/\e[3]?=some .none
structure W3(P:q4)(w:ra)(fr:List Addr)(H:Hp)(h:Heap)(H':Hp)(h':Heap)(a T:Addr)(cls:q3):Prop where
 un:Un fr [] H H' h h'
 ok:Gm P w H' h'
 exc:H' a=some (.ext (Eo a cls))
 off:H' T=none
 new:h.get? T=none
 tr:A1q h' a T
def CX1(P:q4)(w:ra):Ze:=λb H s E e c=>∃(a T:Addr) (cls:q3) (d:Hp),e=.ref a/\c.os=s.os/\AllBare c.gens/\W3 P w (jR b) H s.heap d c.heap a T cls/\E cls none d
theorem A04{cls:q3}(u:Un i [] H d h h')(ok:Gm P w d h')(X:∀b∈i,d b=none)
  (CO:∀b∈i,∃o,h'.get? b=some o/\∀vs,o.data≠ .fields vs)(C:d a=some (.ext (Eo a cls)))(f:∀b∈j,d b=none/\h.get? b=none)
  (st:(W.hideAll h' (i++a::j)).StaysIn l)(E:h'.UpToSlots l)(K:Eo a cls l)(Z:A01 T l)(R:(W.hideAll h' (i++a::j)).get? T=none)(S:T≠a):
  Un i [] H d h l/\Gm P w d l/\d T=none/\h.get? T=none:=by
 have O:d T=none/\h.get? T=none:=by
  cases q:h'.get? T with
  |none=>
   refine⟨ok.off q,?_⟩;cases z:h.get? T with
   |none=>rfl
   |some o=>
    obtain⟨m,e⟩:=u.there T o z (by simp);rw[q]at e;cases e
  |some o=>
   by_cases s:T∈i++a::j
   ·rcases fF.mp s with z|z
    ·obtain⟨D,r,y⟩:=CO T z;obtain⟨L,g⟩:=E T D r y;obtain⟨o3,vs,B,N⟩:=Z;rw[g]at B;cases B;exact absurd N (y vs)
    ·rcases eH.mp z with z|z
     ·exact absurd z S
     ·exact f T z
   ·have:=W.hideAll_get _ q s;rw[R]at this;cases this
 have G:∀b o J,h'.get? b=some o->d b=some J->b≠a->l.get? b=some o:=λb o J e q p=>by
  refine st b o (W.hideAll_get _ e λs=>?_);rcases fF.mp s with z|z
  ·rw[X b z]at q;cases q
  ·rcases eH.mp z with z|z
   ·exact p z
   ·rw[(f b z).1]at q;cases q
 have I:∀b o m,h.get? b=some o->h'.get? b=some m->d b=none->b∉i->l.get? b=some m:=λb o m e A q n=>by
  refine st b m (W.hideAll_get _ A λs=>?_);rcases fF.mp s with z|z
  ·exact n z
  ·rcases eH.mp z with z|z
   ·rw[z,C]at q;cases q
   ·rw[(f b z).2]at e;cases e
 refine⟨⟨λb o e q n _=>I b o o e (u.keep b o e q n (by simp)) (u.free b o e q (by simp)) n,λb o e q n _=>?_,λb o e q _=>u.free b o e q (by simp),λb o e _=>?_,u.iG,u.gN,u.iH⟩,λb v q=>?_,O⟩
 ·obtain⟨Y,r⟩:=u.slot b o e q n (by simp);obtain⟨U,g,M⟩:=CO b n;rw[r]at g;cases g;obtain⟨F,B⟩:=E b _ r M;exact⟨F,B⟩
 ·obtain⟨m,A⟩:=u.there b o e (by simp);cases q:d b with
  |none=>
   by_cases n:b∈i
   ·obtain⟨D,r,y⟩:=CO b n;obtain⟨L,g⟩:=E b D r y;exact⟨_,g⟩
   ·exact⟨_,I b o m e A q n⟩
  |some v=>
   by_cases p:b=a
   ·obtain⟨U,_,g,_⟩:=K;rw[p];exact⟨_,g⟩
   ·exact⟨_,G b m v A q p⟩
 ·by_cases p:b=a
  ·subst p;rw[C]at q;cases q;exact Wc K
  ·refine(ok b v q).gY (λc x Q e=>?_) (λc e=>e) λc xs e=>e;rcases Q with z|z
   ·subst z;exact G c x v e q p
   ·refine G c x _ e z λg=>?_;rw[g,C]at z;cases z
section
variable {X:Cx}{pins:List (Addr×Obj)}{σ:St}{H:Hp}{s:qU}
theorem Am.CO(I:Am X pins σ H s):∀b∈jR X.stack,∃o,s.heap.get? b=some o/\∀vs,o.data≠ .fields vs:=λb a=>(I.stack.mem a).2
theorem Am.DH{cls:q3}{t':Nat}(I:Am X pins σ H s)(m:Heap.MadeExcOf s.heap h' e cls vs):
  A8 H (upd H e (.ext (Eo e cls)))/\Am X pins σ (upd H e (.ext (Eo e cls))) {s with heap:=h',toks:=t'}:=by
 have g:=I.aK.off m.new
 have same:A8 H (upd H e (.ext (Eo e cls))):=λb o q=>by
  rw[A9 (Aa q g)];exact q
 obtain⟨t,d,_,_⟩:=m.there;refine⟨same,I.un ⟨λb o q _ _ _=>m.keeps b o q,λb o q _ _ _=>⟨o.slots,m.keeps b o q⟩,λb o q z _=>?_,λb o q _=>⟨o,m.keeps b o q⟩,λb h q=>same _ _ q,λb o u q=>same _ _ q,λb i q=>⟨#[],by rw[same _ _ q];simp⟩⟩ λb u q=>?_⟩
 ·rw[A9 (λf=>?_)]
  ·exact z
  ·rw[f,m.new]at q;cases q
 ·by_cases a:b=e
  ·subst a;rw[A2]at q;cases q;exact Wc ⟨_,_,d,rfl,rfl⟩
  ·rw[A9 a]at q;exact(I.aK b u q).gY (λc v _ z=>m.keeps c v z) (λc z=>same _ _ z) λc h z=>same _ _ z
theorem Am.qT{cls:q3}(I:Am X pins σ H s)(e:s'.os=s.os)(c:AllBare s'.gens)(F:W3 X.prog X.w (jR X.stack) H s.heap d s'.heap a T cls):Am X pins σ d s':=
 I.EZ e F.un F.ok c λb z=>absurd z (by simp)
theorem Wg(I:Am X pins σ H s):s.heap.FunFrames (W.hideAll s.heap (jR X.stack++a::d)) X.stack:=
 W.funFrames_hide I.stack λc f b e=>fF.mpr (.inl (List.mem_filterMap.mpr ⟨c,f,e⟩))
theorem J5:(W.hideAll h (c++a::b)).get? a=none:=W.hideAll_none _ (fF.mpr (.inr (.head _)))
theorem Mx(e:b∈c):(W.hideAll h (d++a::c)).get? b=none:=W.hideAll_none _ (fF.mpr (.inr (.tail _ e)))
theorem W3.cls{P:q4}{w:ra}{c:List Addr}{H b:Hp}{h h':Heap}{a T:Addr}{cls:q3}(F:W3 P w c H h b h' a T cls):Eo a cls h':=(F.ok a _ F.exc).1
theorem W3.sH{P:q4}{w:ra}{j:List Addr}{H e:Hp}{h h' B:Heap}{a T:Addr}{cls:q3}(F:W3 P w j H h e h' a T cls)(p:B.get? T=none):∃b,h'.TracedW B a cls b:=by
 obtain⟨v,y,u,x,b,d,f,l,m,r,i,g,n⟩:=F.tr;obtain⟨o,z,q,c,_⟩:=F.cls;rw[d]at q;cases q;exact⟨b,v,y,T,u,x,d,⟨c,l⟩,f,m,p,r,i,g,n⟩
theorem W3.on{P:q4}{w:ra}{e c:List Addr}{H d:Hp}{h h' i:Heap}{a:Addr}{cls l:q3}(un:Un e [] H d h h')(ok:Gm P w d h')(f:d a=some (.ext (Eo a cls)))(F:∀b∈e,d b=none)
  (CO:∀b∈e,∃o,h'.get? b=some o/\∀vs,o.data≠ .fields vs)(g:∀b∈c,d b=none/\h.get? b=none)
  (st:(W.hideAll h' (e++a::c)).StaysIn i)(G:h'.UpToSlots i)(I:i.TracedW (W.hideAll h' (e++a::c)) a cls l):∃T,W3 P w e H h d i a T cls:=by
 obtain⟨n,vs,T,m,y,p,⟨B,C⟩,q,D,E,r,v,x,j⟩:=I;obtain⟨u,k,z,A⟩:=A04 (T:=T) un ok F CO f g st G ⟨n,vs,p,B,q⟩ ⟨m,y,v,x⟩ E r;exact⟨T,u,k,f,z,A,n,vs,m,y,l,p,q,C,D,r,v,x,j⟩
end
section
variable {P:q4}{w:ra}{K:W.Frag}{mg:Str->Option q3}{base:Heap}{N:List Str}{qual:Str}{scope:Scope}{f:Addr}{cd:q3}{A:q5}{outer:List Env}{s₀:qU}{H₀:Hp}{E:XK}
theorem ce{c:List (Addr×Obj)}{j:St}{H g:Hp}{s:qU}{s':qU}{a T:Addr}{cls:q3}(I:Am (Fd (CX1 P w) P w K mg base N qual scope f cd A outer s₀ H₀ E) c j H s)
  (i:s'.os=s.os)(b:AllBare s'.gens)(F:W3 P w (jR (Fd (CX1 P w) P w K mg base N qual scope f cd A outer s₀ H₀ E).stack) H s.heap g s'.heap a T cls)(h:E cls none g):CX1 P w outer H₀ s₀ E (.ref a) s':=by
 have d:=I.qT i b F;refine⟨a,T,cls,g,rfl,d.os,d.bare,⟨d.base,d.aK,F.exc,F.off,?_,F.tr⟩,h⟩;cases q:s₀.heap.get? T with
 |none=>rfl
 |some o=>
  obtain⟨l,e⟩:=I.base.there T o q (by intro z;cases z);rw[F.new]at e;cases e
def Rr(X:Cx)(R:St->XK->Prop):Prop:=∀(a:List (Addr×Obj)) (c:St) (H:Hp) (s:qU) (e:q3) (b:qU) (E:XK),R c E->Am X a c H s->CX1 X.prog X.w X.stack H s E e b->X.xe e b
def RD(E:XK):St->XK->Prop:=λ_ a=>∀c d H,a c d H->E c d H
theorem Ji:Rr (Fd (CX1 P w) P w K mg base N qual scope f cd A outer s₀ H₀ E) (RD E):=by
 rintro h J H s e i z p I ⟨a,T,cls,B,rfl,g,c,F,m⟩;have d:=I.qT g c F;obtain⟨D,y⟩:=F.sH (B:=W.hideAll i.heap (jR (Fd (CX1 P w) P w K mg base N qual scope f cd A outer s₀ H₀ E).stack++a::[T])) (Mx (by simp));refine wpAny_leaving_nextW (L:=s₀.heap.objs.size) (outer:=outer) I.ok.frames (Wg d) rfl y (λb o q=>W.of_hideAll _ q) J5 λl n=>?_;obtain⟨u,G,v,x⟩:=n;obtain⟨C,j⟩:=W3.on F.un F.ok F.exc d.gI d.CO (λb r=>by rw[List.mem_singleton.mp r];exact⟨F.off,F.new⟩) u x v;exact ce (s':={i with heap:=l}) I g c j (p _ _ _ m)
def Zj(X:Cx)(E:XK):Prop:=∀(a:List (Addr×Obj)) (g:St) (H:Hp) (s:qU) (c:Heap) (e:Addr) (cls:q3) (d:List q3),Am X a g H s->Heap.MadeExcOf s.heap c e cls d->
 (∀b,A8 H b->E cls none b)->X.xe (.ref e) {s with heap:=c}
theorem Hc:Zj (Fd (CX1 P w) P w K mg base N qual scope f cd A outer s₀ H₀ E) E:=by
 intro d G H s c e cls D I m l;obtain⟨same,a⟩:=I.DH (t':=s.toks) m;obtain⟨t,h,_,_⟩:=m.there
 have un:Un (jR (Fd (CX1 P w) P w K mg base N qual scope f cd A outer s₀ H₀ E).stack) [] H (upd H e (.ext (Eo e cls))) s.heap c:=
  ⟨λb o q _ _ _=>m.keeps b o q,λb o q _ _ _=>⟨o.slots,m.keeps b o q⟩,λb o q z _=>by
   rw[A9 (λi=>by rw[i,m.new]at q;cases q)];exact z,λb o q _=>⟨o,m.keeps b o q⟩,λb F q=>same _ _ q,λb o u q=>same _ _ q,λb C q=>⟨#[],by rw[same _ _ q];simp⟩⟩
 refine wpAny_leaving_firstW (base:=W.hideAll c (jR (Fd (CX1 P w) P w K mg base N qual scope f cd A outer s₀ H₀ E).stack++e::[])) (L:=s₀.heap.objs.size) (outer:=outer) I.ok.frames (Wg a) rfl h (λb o q=>W.of_hideAll _ q) J5 rfl rfl rfl λj n=>?_;obtain⟨r,B,v,x⟩:=n;obtain⟨y,g⟩:=W3.on un a.aK A2 a.gI a.CO (λb p=>absurd p (by simp)) r x v;exact ce (s':={s with heap:=j}) I rfl I.bare g (l _ same)
end
def Py(K:W.Frag)(C:Addr):Prop:=W.excIn K C [.type "ValueError",.type "Exception",.type "BaseException",.type "object"] "ValueError.__new__"=true
theorem Wb{K:W.Frag}{h:Heap}{C:Addr}{b:List q3}{a:String}(X:K.In h)(q:W.excIn K C b a=true):
  ∃(bm:List q3) (N:Addr) (nm e:Str) (bs:List q3) (d:Bool) (sn:List Str) (sub:List q3) (ab:Bool) (col:Option Bool) (dd:Option Addr) (k0 k1 k2 k3 k5:Option q3) (mN:Str->Option q3),
   h.get? C=some (excClassObj nm e C N bs bm d sn sub ab col dd k0 k1 k2 k3 k5 a)/\h.Ns N mN/\mN "__init__"=none/\OwnTail h b bm:=by
 unfold W.excIn at q;split at q
 case h_2=>exact absurd q fy
 case h_1 dd cd sl ho=>
  split at q
  case h_2=>exact absurd q fy
  case h_1 C' bm k0 k1 k2 k3 n k5 hm hs=>
   simp only[beq_iff_eq,Bool.and_eq_true,Bool.not_eq_true']at q;obtain⟨⟨⟨⟨⟨j,m⟩,f⟩,o⟩,c⟩,g⟩:=q;subst j m;obtain⟨nm,bs,r,s,e,d,sn,sub,ab,col,i⟩:=cd;dsimp only at hm f c g;subst hm f;obtain⟨l⟩:=sl;have p:l=[k0,k1,k2,k3,some (.builtin n),k5]:=hs;subst p;exact⟨bm,s,nm,e,bs,d,sn,sub,ab,col,dd,k0,k1,k2,k3,k5,_,X _ _ ho,.of_isNs (W.isNs_of_in X c),W.nsMap_none_of_in X c g,W.tail_of_in X o⟩
section
variable {X:Cx}{x:Str}{C:Addr}{p np cN pos:Pos}{e:Expr}{es:List Expr}{t:TA}{E:XK}
def yj(C:Addr)(t:TA)(E:XK):TS:=λ_ d H=>t d H λc b=>c.length<=sizeLine/\∀a,A8 b a->E (.ref C) none a
theorem Ds(A:Zj X E)(F:X.calm=true)(J:Gl X x)(L:X.mg x=some (.ref C))(O:Py X.K C)(B:PA X (e::es) t)(qL:(x==("__debug__":Str))=false:=by decide)
  (he:starEach (e::es) X.env=(false,eval e X.env)::starEach es X.env:=by rfl)(qC:(backTo cN (starEach es X.env)).any (·.1)=false:=by rfl):
  PS X (.Raise (some (.Call (.Name x np) (e::es) [] cN)) none pos) (yj C t E):=by
 intro b s j H D I h;obtain⟨o,N,Z,qn,bs,G,sn,i,n,f,q,P,Q,R,S,U,Y,v,y,g,T⟩:=Wb I.ok.mod.fD O
 have c:(backTo cN (starEach (e::es) X.env)).any (·.1)=false:=by
  rw[he];show(false||(backTo cN (starEach es X.env)).any (·.1))=false;rw[qC];rfl
 refine wpAny_Raise_call_subT (bm:=o) (N:=N) (nm:=Z) (q:=qn) (bs:=bs) (hdct:=G) (sn:=sn) (sub:=i) (ab:=n) (col:=f) (dd:=q) (k0:=P) (k1:=Q) (k2:=R) (k3:=S) (k5:=U) (mN:=Y) (C:=C)
  PySem.F.excBase_ValueError (T.hasType rfl) (I.ok.hd F) c g (Ja I J L ⟨rfl,?_⟩ qL)
 have w:=B cN b s j H _ I h;rw[he]at w⊢;refine Calls.evalArgs_plain (Br w λus s2 z=>?_);obtain⟨vs,l,d,r,K,M⟩:=z;exact⟨rfl,by rw[<- r.length];exact K,d.bk _ _ v,y.keeps d.bk,T.keeps d.bk,λu a m=>A b j l s2 u a _ us d m M⟩
variable {k:Nat}{f:Addr}{fd:q7}{ps:List Str}{sp:Sp}{gJ:List V}{ds:List q3}{R:St->XK->Prop}
def yb(sp:Sp)(gJ:List V)(R:St->XK->Prop)(t:TA):TE:=λa H Q=>t a H λc b=>∃E,R a E/\sp (c++gJ) b Q E
theorem Wt(F:B3 X.prog X.w X.K X.mg X.base (CX1 X.prog X.w) k f fd ps sp)(o:Be k X.A)(l:Cp X.K fd ps ds)(m:Ay gJ ds)(q:Rr X R)
  (I:Am X b c H s)(r:Ay vs us)(j:R c E)(h:sp (vs++gJ) H Q E):wpAny (model X.prog X.w) X.A (call (.ref f) us) (EP X b c Q) X.xe s:=by
 have i:=r.append m;have n:(us++ds).length=ps.length:=i.length.symm.trans (F.len _ _ _ _ h);have g:=F.run X.A X.stack s H ⟨us,[]⟩ (us++ds) (vs++gJ) Q E o I.JY (l s us I.gZ n) i h;refine wpAny_call (codeAny_mono g λd v a=>?_)
 match d,a with
 | .error e,a=>exact q b c H s e v E j I a
 | .ok (.ret u),a=>exact I.after a
 | .ok .next,a=>exact a.elim
 | .ok .brk,a=>exact a.elim
 | .ok .cont,a=>exact a.elim
theorem Eb(F:B3 X.prog X.w X.K X.mg X.base (CX1 X.prog X.w) k f fd ps sp)(n:Be k X.A)(j:Gl X x)(m:X.mg x=some (.ref f))(l:W.keepIn X.K (.ref f)=true)(g:Cp X.K fd ps ds)(i:Ay gJ ds)(o:Rr X R)(d:PA X (e::es) t)
  (v:(x==("__debug__":Str))=false:=by decide)(he:starEach (e::es) X.env=(false,eval e X.env)::starEach es X.env:=by rfl)(u:(backTo pos (starEach es X.env)).any (·.1)=false:=by rfl):
  PE X (.Call (.Name x p) (e::es) [] pos) (yb sp gJ R t):=by
 intro a s y H Q I h;have w:=d pos a s y H _ I h;refine wpAny_Call_Name_kw (Ja I j m ?_ v);refine W.callWith_K (h₀:=X.base) I.ok.mod.fD l (Br w λD B z=>?_) he u;obtain⟨G,A,b,r,E,c,q⟩:=z;exact⟨b.gZ,Wt F n g i o b r c q⟩
theorem Ap:Hx (CX1 P w) X E0:=λ_ _ _ _ _ _ _ ⟨_,_,_,_,_,_,_,_,z⟩=>z.elim
end
section
variable {P:q4}{w:ra}{K:W.Frag}{mg:Str->Option q3}{base:Heap}{x qual:Str}{st:Stmt}{f:Addr}{fd:q7}{N ps:List Str}{k:Nat}{sp:Sp}
theorem D4.uN(F:D4 K x qual st f fd)(S:Af N ps (A6 st))(b:∀vs H Q E,sp vs H Q E->vs.length=ps.length)
  (e:∀(a:q3) (A:q5) (outer:List Env) (s:qU) (H:Hp) (vs:List V) (Q:VK) (E:XK),Be k (A.deeper (envOfC qual (A6 st) s.heap.objs.size f a))->sp vs H Q E->
   ∃t,O6 (Fd (CX1 P w) P w K mg base N qual (A6 st) f a A outer s H E) (Bi st) t/\t {nx:=λ_ c=>Q .bN c,rt:=Q} (start N vs) H):B3 P w K mg base (CX1 P w) (k+1) f fd ps sp:=by
 obtain⟨m,n,kV,d,o,i,a,j,l,rfl,g,h⟩:=F.ex;exact am g h S b (e a)
theorem O7.uN(F:O7 K x qual st f fd)(S:Af N ps (A6 st))(b:∀vs H Q E,sp vs H Q E->vs.length=ps.length)
  (e:∀(a:q3) (A:q5) (outer:List Env) (s:qU) (H:Hp) (vs:List V) (Q:VK) (E:XK),Be k (A.deeper (envOfC qual (A6 st) s.heap.objs.size f a))->sp vs H Q E->
   ∃t,O6 (Fd (CX1 P w) P w K mg base N qual (A6 st) f a A outer s H E) (Bi st) t/\t {nx:=λ_ c=>Q .bN c,rt:=Q} (start N vs) H):B3 P w K mg base (CX1 P w) (k+1) f fd ps sp:=by
 obtain⟨n,o,l,kV,d,p,i,a,j,m,rfl,g,h⟩:=F.ex;exact am g h S b (e a)
theorem D4.okN(F:D4 K x qual st f fd)(S:Af N ps (A6 st))(b:∀vs H Q E,sp vs H Q E->vs.length=ps.length)
  (d:∀(a:q3) (A:q5) (outer:List Env) (s:qU) (H:Hp) (vs:List V) (Q:VK) (E:XK),Be k (A.deeper (envOfC qual (A6 st) s.heap.objs.size f a))->sp vs H Q E->
   ∃t,O6 (Fd (CX1 P w) P w K mg base N qual (A6 st) f a A outer s H E).QP (Bi st) t/\t {nx:=λ_ c=>Q .bN c,rt:=Q} (start N vs) H):B3 P w K mg base (CX1 P w) (k+1) f fd ps sp:=
 F.uN S b λa A outer s H vs Q E e g=>let⟨t,h,q⟩:=d a A outer s H vs Q E e g;⟨t,h.QP,q⟩
theorem O7.okN(F:O7 K x qual st f fd)(S:Af N ps (A6 st))(b:∀vs H Q E,sp vs H Q E->vs.length=ps.length)
  (d:∀(a:q3) (A:q5) (outer:List Env) (s:qU) (H:Hp) (vs:List V) (Q:VK) (E:XK),Be k (A.deeper (envOfC qual (A6 st) s.heap.objs.size f a))->sp vs H Q E->
   ∃t,O6 (Fd (CX1 P w) P w K mg base N qual (A6 st) f a A outer s H E).QP (Bi st) t/\t {nx:=λ_ c=>Q .bN c,rt:=Q} (start N vs) H):B3 P w K mg base (CX1 P w) (k+1) f fd ps sp:=
 F.uN S b λa A outer s H vs Q E e g=>let⟨t,h,q⟩:=d a A outer s H vs Q E e g;⟨t,h.QP,q⟩
theorem Ys{qual:Str}{outer:List Env}:
  PassesOwn (model P w) (Fd (CX1 P w) P w K mg base N qual a f b A outer s H E).A (Fd (CX1 P w) P w K mg base N qual a f b A outer s H E).env (Fd (CX1 P w) P w K mg base N qual a f b A outer s H E).xe:=PassesOwn.leaving
end
open PySem.W (Looks)
section
variable {X:Cx}{pins:List (Addr×Obj)}{σ:St}{H:Hp}{s:qU}{C:Addr}
theorem az{M:Model}{K:W.Frag}{h:Heap}{c:Addr}{b:q3}{r:Bool}(d:K.In h)(e:W.subIn K (.ref c) b=some r):Looks M h (isType (.ref c)) true:=by
 obtain⟨l,a,_⟩:=Option.bind_eq_some_iff.mp (show W.mroIn K c b=some r from e);unfold W.clsIn at a;split at a
 ·rename_i f;intro g j i m k q;unfold isType loadHead;refine aN (wpAny_loadPart (k _ _ (d _ _ f)) ?_);exact a6 q
 ·cases a
theorem rm{M:Model}{K:W.Frag}{h:Heap}{c:Addr}(a:K.In h)(e:W.subIn K (.ref c) (.type "BaseException")=some true):Looks M h (isExcClass (.ref c)) true:=by
 unfold isExcClass;refine(az a e).andThen ?_;rw[if_pos rfl];exact W.looks_subIn a e
theorem l8{prog:q4}{w:ra}{A:q5}{E:pQ}{K:W.Frag}{v t c:q3}{Q:pQ}(f:K.In s.heap)(b:∀M,Looks M s.heap (typeOf v) t)(e:W.kitOne K t c=some true)
  (l:v≠ .builtin "__main__.__loader__#opaque")(h:Q (.bool true) s):wpAny (model prog w) A (call (.builtin "isinstance") [v,c]) Q E s:=by
 refine call_isinstance (S:=λ_ R s=>(K.In s.heap/\∀M,Looks M s.heap (typeOf v) t)/\R (.ok (.ret (.bool true))) s) (λprog w A R s j=>isinstance_outer ?_ l) ⟨⟨f,b⟩,h⟩;obtain⟨⟨f,b⟩,a⟩:=j;obtain⟨i,g,d,u,r⟩:=s;unfold Builtin.«isinstance.nested»;refine aN ((b _).at ?_);unfold W.kitOne at e;by_cases q:(t==c)=true
 ·rw[if_pos q]
  first
   |exact aN (nC a)
   |exact aN (nC (a6 a))
 ·rw[if_neg q]at e⊢;obtain⟨m,n,o⟩:=W.kit_cls (M:=model prog w) f e;have p:Looks (model prog w) i (isInstance v c) true:=(b _).andThen o;refine aN (m.at ?_);rw[if_pos (by decide)]
  k_delta "plainIsInstance";refine aN (aN (n.at ?_));simp only[Bool.not_true,if_false,Bool.false_eq_true];refine aN (p.at ?_)
  first
   |exact a6 (a6 a)
   |(simp only[if_true];exact a6 (a6 a))
   |(simp only[if_true];exact a6 a)
   |trace_state
theorem kj{pos:Pos}(I:Am X pins σ H s)(S:X.N.Nodup)(U:X.N[i]?=some n)(Y:X.env.scope.names.lookup n=some .local)
  (h:∀s',Am X pins (σ.set i none) H s'->Q () s'):wpAny M A (do bindName X.env n .none;unbindBehindTheSuite X.env n pos) Q E s:=by
 obtain⟨m,hn,Z⟩:=id I.loc;refine wpAny_nameGoes_keeps Y hn (by rw[I.ok.kind];rfl) λR v F hs=>h _ ?_;have a:∀b o,b≠X.env.locals->s.heap.get? b=some o->R.get? b=some o:=λb o T e=>(hs.2 b T).trans e;have D:∀b o,X.s₀.heap.get? b=some o->b≠X.env.locals:=λb o e=>ft (fC (dt e) I.ok.above)
 have y:∀b u,H b=some u->b≠X.env.locals:=λb u e z=>by
  rw[z,I.free]at e;cases e
 refine⟨I.ok,I.os,I.bare,⟨λb o e G J B=>a b o (D b o e) (I.base.keep b o e G J B),λb o e G J B=>?_,I.base.free,λb o e B=>?_,I.base.iG,I.base.gN,I.base.iH⟩,⟨_,F,λj x w N d P=>?_⟩,λx c e=>?_,I.free,I.cP,λp hp=>?_,λb u e=>?_,?_⟩
 ·obtain⟨sl,z⟩:=I.base.slot b o e G J B;exact⟨sl,a b _ (D b o e) z⟩
 ·obtain⟨o',z⟩:=I.base.there b o e B;exact⟨o',a b _ (D b o e) z⟩
 ·have L:i≠j:=λz=>by
   subst z;rw[List.getElem?_set]at d;rw[if_pos rfl]at d;split at d<;>cases d
  rw[List.getElem?_set_ne L]at d;obtain⟨u,ru,lu⟩:=Z j x w N d P;have O:x≠n:=λz=>L (Ni S U (by rw[<- z];exact N));refine⟨u,ru,?_⟩;rcases lu with⟨q,f⟩|⟨q,c,f,o,g,r⟩
  ·exact .inl ⟨q,by show(if x=n then v else m x)=some u;rw[if_neg O];exact f⟩
  ·exact .inr ⟨q,c,f,o,a c o (I.DB x c f) g,r⟩
 ·obtain⟨K,o,g,r⟩:=I.cell x c e;exact⟨K,o,a c o (I.DB x c e) g,r⟩
 ·obtain⟨q,f,g,r,k5⟩:=I.pin p hp;exact⟨a _ _ g q,f,g,r,k5⟩
 ·refine(I.aK b u e).gY (λc K l z=>a c K ?_ z) (λ_ z=>z) λ_ _ z=>z;rcases l with l|l
  ·rw[l];exact y b u e
  ·exact y c _ l
 ·rw[List.length_set];exact I.len
end
abbrev Cx.at(X:Cx)(A:q5):Cx:={X with A:=A,calm:=false,xe:=λ_ _=>False}
abbrev Cx.KS(X:Cx)(pn:List (Addr×Obj))(W:pQ):Cx:={X with pn:=pn,xe:=W}
section
variable {X:Cx}{pins:List (Addr×Obj)}{σ:St}{H:Hp}{s:qU}
theorem Am.at(I:Am X pins σ H s)(a:A.frames=X.A.frames):Am (X.at A) pins σ H s:=
 ⟨⟨I.ok.mod,I.ok.kind,I.ok.glob,I.ok.blt,I.ok.above,I.ok.inj,I.ok.has,I.ok.JV,λz=>(nomatch z),a.trans I.ok.frames,I.ok.QN,I.ok.RQ,I.ok.bs,I.ok.xI,I.ok.rV,I.ok.rX,I.ok.iI,I.ok.DA⟩,I.os,I.bare,I.base,I.loc,I.cell,I.free,I.cP,I.pin,I.aK,I.len⟩
theorem Am.back(ok:X.Ok)(I:Am (X.at A) pins σ H s):Am X pins σ H s:=⟨ok,I.os,I.bare,I.base,I.loc,I.cell,I.free,I.cP,I.pin,I.aK,I.len⟩
theorem Am.KS(I:Am X pins σ H s):Am (X.KS (X.pn++pins) W) [] σ H s:=
 ⟨⟨I.ok.mod,I.ok.kind,I.ok.glob,I.ok.blt,I.ok.above,I.ok.inj,I.ok.has,I.ok.JV,I.ok.hd,I.ok.frames,I.ok.QN,I.ok.RQ,I.ok.bs,I.ok.xI,I.ok.rV,I.ok.rX,I.ok.iI,I.ok.DA⟩,I.os,I.bare,I.base,I.loc,I.cell,I.free,I.cP,
  λp a=>I.pin p (by rwa[List.append_nil]at a),I.aK,I.len⟩
theorem Am.out(ok:X.Ok)(I:Am (X.KS (X.pn++pins) W) b σ H s):Am X pins σ H s:=
 ⟨ok,I.os,I.bare,I.base,I.loc,I.cell,I.free,I.cP,λp a=>I.pin p (gy _ a),I.aK,I.len⟩
theorem SP.out(ok:X.Ok)(h:SP (X.KS (X.pn++pins) W) [] D f s'):SP X pins D f s':=by
 cases f with
 |next=>obtain⟨a,b,I,q⟩:=h;exact⟨a,b,I.out ok,q⟩
 |brk=>obtain⟨a,b,I,q⟩:=h;exact⟨a,b,I.out ok,q⟩
 |cont=>obtain⟨a,b,I,q⟩:=h;exact⟨a,b,I.out ok,q⟩
 |ret u=>obtain⟨v,a,b,I,r,q⟩:=h;exact⟨v,a,b,I.out ok,r,q⟩
end
theorem Xy(a v:q3):argsOk "max" ⟨[a],[(Str.ofString "default",v)]⟩:=by
 unfold argsOk
 kernel_rfl
def Hu(val:Nat->Int)(j:Nat)(m:Int):Prop:=(∃i,i<=j/\m=val i)/\∀i,i<=j->val i<=m
theorem Hu.up{val:Nat->Int}(h:Hu val j m)(b:m<val (j+1)):Hu val (j+1) (val (j+1)):=by
 refine⟨⟨j+1,dr _,rfl⟩,λi a=>?_⟩;rcases i3 j i with z|z
 ·have e:i=j+1:=by omega
  rw[e];omega
 ·have:=h.2 i z;omega
theorem Hu.same{val:Nat->Int}(h:Hu val j m)(b:¬m<val (j+1)):Hu val (j+1) m:=by
 obtain⟨⟨d,g,a⟩,c⟩:=h;refine⟨⟨d,by omega,a⟩,λi f=>?_⟩;rcases i3 j i with z|z
 ·have e:i=j+1:=by omega
  rw[e];omega
 ·exact c i z
section
variable {prog:q4}{w:ra}{A:q5}{R:Result->qU->Prop}{I S:Addr}{fp wr:List Addr}{n:Nat}{P:Nat->q3->Prop}{St:Nat->Heap->Prop}{val:Nat->Int}
theorem Qi(h:wpAny (model prog w) A.in1 (Builtin.«max.loop» a) (λb s'=>match b with
   | .done f=>R (.ok f) s'
   | .again c=>c.quiet=true/\codeAny (model prog w) A c R s') (λe s'=>R (.error e) s') s):codeAny (model prog w) A (.builtin "max.loop" a) R s:=by
 refine codeAny_builtin F.entry_max_loop ?_;rw[Around.under_plainId F.plain_max_loop _];exact h
theorem kh(W:Walks prog w A.in1 I fp wr n P St)(J:∀i v,P i v->∃t,v=.int (val i) t)(N:S∉fp)(kw:List (Str×q3)):
  ∀(k j:Nat) (s:qU) (m:Int) (t:Tok) (c:Nat),n=j+1+k->St (j+1) s.heap->Hu val j m->
  s.heap.get? S=some {cls:=.type "list",dict:=none,data:=.seq #[.int m t,.int m t] c,slots:=#[] }->
  (∀L t' H tk,Hu val (n-1) L->(∀b o,b∉wr->b≠S->s.heap.get? b=some o->H.get? b=some o)->R (.ok (.ret (.int L t'))) {s with heap:=H,toks:=tk})->
  codeAny (model prog w) A (.builtin "max.loop" ⟨[.ref I,.none,.ref S],kw⟩) R s:=by
 have T:S∉wr:=λz=>N (W.sub _ z);have M:(toString "max"++toString ".loop":String)="max.loop":=by decide
 have SW:CmpOf prog w A.in1 .Gt P (λi j=>decide (val i>val j)):=CmpOf.ints_gt val J;intro k
 induction k with
 |zero=>
  intro j s m t c hk x r h p;refine Qi ?_;refine aN ( gd h rfl ?_);show wpAny (model prog w) A.in1 (tryCatch (pyNext (.ref I)) _>>=_) _ _ s;have X:j+1=n:=by omega
  refine aN (wpAny_tryCatch (W.done s _ _ (X▸x) λY Q f=>?_));have l:=f S _ T h;show wpAny (model prog w) A.in1 (updateSeq S (λ_=>#[])>>=_) _ _ _;refine aN ?_;refine wpAny_updateSeq l rfl (aN (wpAny_letGo (a6 ?_)));have U:n-1=j:=by omega
  exact p m t _ Q (U▸r) λb o d g e=>(eI _ _ (Ne.symm g)).trans (f b o d e)
 |succ k K=>
  intro j s m t c hk x r h p;refine Qi ?_;refine aN ( gd h rfl ?_);show wpAny (model prog w) A.in1 (tryCatch (pyNext (.ref I)) _>>=_) _ _ s;refine aN (wpAny_tryCatch (W.item (j+1) s _ _ (by omega) x λv Y Q Z O f=>?_));have l:=f S _ T h;obtain⟨t1,rfl⟩:=J _ _ Z;refine aN (a6 ?_);refine aN (wpAny_tryCatch (fY (aN ?_)));refine richCompare_gives (op:=.Gt) (typeIs_int _ _ _) (typeIs_int _ _ _) F.slot_int_gt F.entry_int_gt (F.args_int_gt_2 _ _) (gives_int_gt _ _ _ _) (λz=>nomatch z) ?_;refine aN (fY (i0 ?_));refine aN (wpAny_letGo (a6 ?_));by_cases q:m<val (j+1)
  ·have u:decide (val (j+1)>m)=true:=decide_eq_true q;simp only[u,if_true];refine aN ?_;refine wpAny_updateSeq l rfl (aN (wpAny_letGo ?_));rw[M];refine a6 ⟨nP F.plain_max_loop _,K (j+1) _ (val (j+1)) _ _ (by omega) (W.frame _ _ _ O λb z o e=>?_) (r.up q) (g0 _ l rfl) λD G B E a C=>?_⟩
   ·exact(eI _ _ (λy:S=b=>N (by rw[y];exact z))).trans e
   ·exact p D G B E a λb o d g e=>C b o d g ((eI _ _ (Ne.symm g)).trans (f b o d e))
  ·have u:decide (val (j+1)>m)=false:=mr q;simp only[u,Bool.false_eq_true,if_false];refine aN (wpAny_letGo ?_);rw[M];refine a6 ⟨nP F.plain_max_loop _,K (j+1) _ m t c (by omega) O (r.same q) l λD G B E a C=>?_⟩;exact p D G B E a λb o d g e=>C b o d g (f b o d e)
theorem Ub(W:Walks prog w A.in1 I fp wr n P St)(q:∀i v,P i v->∃t,v=.int (val i) t)(h:S∉fp){dn:Str}{d:q3}{s:qU}{c:Nat}(l:St 0 s.heap)
  (p:s.heap.get? S=some {cls:=.type "list",dict:=none,data:=.seq #[] c,slots:=#[] })
  (D:n=0->∀h' j,(∀b o,b∉wr->b≠S->s.heap.get? b=some o->h'.get? b=some o)->R (.ok (.ret d)) {s with heap:=h',toks:=j})
  (H:0<n->∀u t' h' j,Hu val (n-1) u->(∀b o,b∉wr->b≠S->s.heap.get? b=some o->h'.get? b=some o)->R (.ok (.ret (.int u t'))) {s with heap:=h',toks:=j}):
  codeAny (model prog w) A (.builtin "max.loop" ⟨[.ref I,.none,.ref S],[(dn,d)]⟩) R s:=by
 have Q:S∉wr:=λz=>h (W.sub _ z);have M:(toString "max"++toString ".loop":String)="max.loop":=by decide
 refine Qi ?_;refine aN ( gd p rfl ?_);show wpAny (model prog w) A.in1 (tryCatch (pyNext (.ref I)) _>>=_) _ _ s;rcases Nat.eq_zero_or_pos n with z|z
 ·subst z;refine aN (wpAny_tryCatch (W.done s _ _ l λm x f=>?_));refine aN (nC (a6 ?_));exact D rfl m x λb o g _ e=>f b o g e
 ·refine aN (wpAny_tryCatch (W.item 0 s _ _ z l λv m x G N f=>?_));have r:=f S _ Q p;obtain⟨B,rfl⟩:=q _ _ G;show wpAny (model prog w) A.in1 (updateSeq S (λ_=>#[.int (val 0) B,.int (val 0) B])>>=_) _ _ _;refine aN ?_;refine wpAny_updateSeq r rfl ?_;rw[M];refine a6 ⟨nP F.plain_max_loop _,kh W q h _ (n-1) 0 _ (val 0) _ _ (by omega) (W.frame _ _ _ N λb z o e=>?_) ⟨⟨0,dr _,rfl⟩,λi T=>?_⟩ (g0 _ r rfl) λK O E L a J=>?_⟩
  ·exact(eI _ _ (λy:S=b=>h (by rw[y];exact z))).trans e
  ·have e:i=0:=by omega
   rw[e];exact Int.le_refl _
  ·exact H z K O E L a λb o g C e=>J b o g C ((eI _ _ (Ne.symm C)).trans (f b o g e))
end
section
variable {prog:q4}{w:ra}{A:q5}{E:pQ}{s:qU}{l:Addr}
theorem Kc{id:String}{b:Builtin}{args:Args}{Q:pQ}(m:builtinKind id=none)(n:plainId id=true)(j:entryFor table id=some b)(i:argsOk id args)
  (d:wpAny (model prog w) A.in1 (b args) (λa s'=>match a with
   | .done f=>(match(Except.ok f:Result)with| .ok (.ret v)=>Q v s'| .ok _=>False| .error e=>E e s')
   | .again c=>c.quiet=true/\codeAny (model prog w) A c (λr s'=>match r with| .ok (.ret v)=>Q v s'| .ok _=>False| .error e=>E e s') s') E s):
  wpAny (model prog w) A (call (.builtin id) args.pos args.kw) Q E s:=by
 refine wpAny_call (codeAny_call_builtin n j ?_);simp only[checkBuiltinCall,m];cases o:Manifest.signature? id with
 |none=>exact a6 d
 |some p=>
  have g:Bind.checkArgs id p args=pure ():=by simpa only[argsOk,o]using i
  have h:(⟨args.pos,args.kw⟩:Args)=args:=rfl;simp only[h,g];exact a6 d
theorem Xz(i:A.handled=none)(j:s.heap.IsList l (intItems xs))
  (h:xs.size=0->∀h' a,(∀b o,s.heap.get? b=some o->h'.get? b=some o)->Q d {s with heap:=h',toks:=a})
  (h1:0<xs.size->∀m t h' a,Hu (numAt xs) (xs.size-1) m->(∀b o,s.heap.get? b=some o->h'.get? b=some o)->Q (.int m t) {s with heap:=h',toks:=a}):
  wpAny (model prog w) A (call (.builtin "max") [.ref l] [(Str.ofString "default",d)]) Q E s:=by
 have p:(toString "max"++toString ".loop":String)="max.loop":=by decide
 refine Kc (args:=⟨[.ref l],[(Str.ofString "default",d)]⟩) F.kind_max F.plain_max F.entry_max (Xy _ _) ?_;show wpAny (model prog w) A.in1 (Builtin.Builtins.bindParams "max" ["key","default"] 0 ⟨[],[(Str.ofString "default",d)]⟩>>=_) _ _ s;refine aN (wpAny_of_eq (show Builtin.Builtins.bindParams "max" ["key","default"] 0 ⟨[],[(Str.ofString "default",d)]⟩=pure [none,some d]from ?_) ?_)
 ·kernel_rfl
 refine aN (a6 ?_);refine aN (iter_intList j λu e q r c=>?_);subst e;refine aN (g6 ?_);rw[p];have f:(intItems xs).size=xs.size:=by simp[intItems]
 refine a6 ⟨nP F.plain_max_loop _,?_⟩;have W:=Walks.list (prog:=prog) (w:=w) (A:=A.in1) i _ l c (intItems xs);refine Ub (val:=numAt xs) W (λ_ _=>intItems_at) (λn=>Nat.lt_irrefl _ (r _ n)) (W.frame _ _ _ q λb _ o e=>cv _ e) (da _ rfl) (λz h' a k=>?_) λz m t h' a top k=>?_
 ·exact h (f▸z) h' a (old_kept λb o g e=>k b o g (ft (dt e)) (cv _ e))
 ·exact h1 (f▸z) m t h' a (f▸top) (old_kept λb o g e=>k b o g (ft (dt e)) (cv _ e))
end
open PySem PySem.Spec PyProof.Rows PySem.SeqAt
def qg(A:q5)(s:qU)(x y:q3)(b:Bool):Prop:=∀(a:q4) (w:ra) (E:pQ) (Q:pQ),Q (.bool b) s->wpAny (model a w) A (richCompare .Lt x y) Q E s
theorem ym(l b:Addr)(xs ys:Array q3)(n S:Nat)(dd F:Option Addr)(U G:Array (Option q3))(e:Nat->Bool)(r:Bool):
  Meets (Builtin.«tuple.__lt__» ⟨[.ref l,.ref b],[]⟩)
   (λA R s=>s.heap.get? l=some {cls:=.type "tuple",dict:=dd,data:=.seq xs n,slots:=U}/\s.heap.get? b=some {cls:=.type "tuple",dict:=F,data:=.seq ys S,slots:=G}/\
    (∀j (m:j<xs.size) (o:j<ys.size),EqAt A.in1 s xs[j] ys[j] (e j))/\(∀j (m:j<xs.size) (o:j<ys.size),(∀i,i<j->e i=true)->e j=false->qg A.in1 s xs[j] ys[j] r)/\
    ((∀j,j<min xs.size ys.size->e j=true)->r=decide (xs.size<ys.size))/\R (.ok (.ret (.bool r))) s):=
 .of_wp λa w A R s h=>by
  obtain⟨N,g,d,X,T⟩:=s;obtain⟨M,I,J,K,Q,h⟩:=h;have f2:=AutoSeq1.sub_tuple_tuple;have hZ:(xs.toList.zip ys.toList).length=min xs.size ys.size:=by simp
  wp_walk using wpAny_loadPart' M,wpAny_loadPart' I,wpAny_forIn_list _ (λc b B=>b.1=none/\B=⟨N,g,d,X,T⟩/\∃i,c=(xs.toList.zip ys.toList).drop i/\∀k,k<i->k<min xs.size ys.size->e k=true) _
  case turn=>
   rintro⟨y,x⟩ c b B ⟨v,rfl,i,f,p⟩
   have H:i<(xs.toList.zip ys.toList).length:=by
    apply Classical.byContradiction;intro z;rw[List.drop_of_length_le (by omega)]at f;cases f
   have m:i<xs.size:=by omega
   have o:i<ys.size:=by omega
   rw[List.drop_eq_getElem_cons H]at f;injection f with C Y;have u:y=xs[i]:=by simpa using congrArg Prod.fst C
   have P:x=ys[i]:=by simpa using congrArg Prod.snd C
   subst u P;refine aN (J i m o a w _ _ ?_);cases u:e i with
   |true=>
    wp_walk
    refine⟨rfl,rfl,i+1,Y,λk q E=>?_⟩;by_cases z:k=i
    ·rw[z];exact u
    ·exact p k (by omega) E
   |false=>
    have D:=K i m o (λk q=>p k q (by omega)) u a w
    wp_walk using D _ _
    exact⟨_,rfl,h⟩
  case fin=>
   rintro⟨b1,b2⟩ B ⟨v,rfl,i,f,p⟩;simp only at v;subst v
   have Z:min xs.size ys.size<=i:=by
    apply Classical.byContradiction;intro z;rw[List.drop_eq_getElem_cons (by omega)]at f;cases f
   have O:=Q λj L=>p j (by omega) L
   wp_walk
   refine⟨_,rfl,?_⟩;rw[O]at h;simpa[Builtin.Tuple.tupleCompareSizes]using h
  case h=>
   exact⟨rfl,rfl,0,rfl,λk q=>absurd q (nU k)⟩
mutual
def Tu:rb->rb->Bool
 | .int a,.int b=>decide (a<b)
 | .tuple c,.tuple d=>bJ c d
 |_,_=>false
def bJ:List rb->List rb->Bool
 |[],[]=>false
 |[],_::_=>true
 |_::_,[]=>false
 |x::a,y::b=>if PyData.eqv x y then bJ a b else Tu x y
end
mutual
def Jx:rb->rb->Prop
 | .int _,.int _=>True
 | .tuple a,.tuple b=>iM a b
 |_,_=>False
def iM:List rb->List rb->Prop
 |x::a,y::b=>Jx x y/\iM a b
 |_,_=>True
end
theorem Pc:∀(xs ys:List rb),(∀j,j<min xs.length ys.length->pairEq xs ys j=true)->bJ xs ys=decide (xs.length<ys.length)
 |[],[],_=>rfl
 |[],y::ys,_=>by simp[bJ]
 |x::xs,[],_=>by simp[bJ]
 |x::xs,y::ys,h=>by
  have a:PyData.eqv x y=true:=h 0 (by simp only[List.length_cons];omega);have b:=Pc xs ys λj c=>h (j+1) (by simp only[List.length_cons];omega);rw[bJ,if_pos a,b];simp
mutual
theorem N4:∀(i d:rb) (A:q5) (s:qU) (a b:q3) (Y bs:List Addr),Reads s.heap a i Y->Reads s.heap b d bs->i.canLay0=true->d.canLay0=true->Jx i d->
  A.units+min i.depth d.depth<cLine->qg A s a b (Tu i d)
 | .int x,d,A,s,_,_,_,_,J,K,_,_,c,q=>by
  cases d with
  |int y=>
   cases J with
   |int _ t=>
    cases K with
    |int _ u=>
     intro m w E Q h;exact richCompare_gives (op:=.Lt) (typeIs_int s _ t) (typeIs_int s _ u) F.slot_int_lt F.entry_int_lt (F.args_int_lt_2 _ _) (gives_int_lt _ _ t u) (λz=>nomatch z) h
  |none=>exact c.elim
  |bool _=>exact c.elim
  |str _=>exact c.elim
  |list _=>exact c.elim
  |tuple _=>exact c.elim
  |dict _=>exact c.elim
 | .tuple e,d,A,s,_,_,_,_,J,K,O,P,c,q=>by
  cases d with
  |tuple g=>
   cases J with
   |@tuple l o r n _ v L M N C=>
    cases K with
    |@tuple l' o' p n' _ B R S T H=>
     obtain⟨oc,od,odt,nO⟩:=o;obtain⟨oc',I,U,X⟩:=o';simp only at M N S T;subst M N S T;have n1:r.size=e.length:=by simpa using ReadsAll.length _ _ _ C
     have n2:p.size=g.length:=by simpa using ReadsAll.length _ _ _ H
     intro m w E Q h;refine richCompare_meets_room (op:=.Lt) ⟨_,L,rfl⟩ ⟨_,R,rfl⟩ F.slot_tuple_lt F.entry_tuple_lt (F.args_tuple_lt_2 _ _) (ym l l' r p n n' od I nO X (pairEq e g) (bJ e g)) ⟨L,R,λj D G=>?_,λj D G Z f2=>?_,λf=>?_,(λz=>nomatch z),h⟩ (room_here q)
     ·have:=eqAt_readsAll e g A.in1 s r.toList p.toList _ _ C H O P (room_in q) j (by simpa using D) (by simpa using G);simpa using this
     ·have:=kN e g A.in1 s r.toList p.toList _ _ C H O P c (room_in q) j (by simpa using D) (by simpa using G) Z f2;simpa using this
     ·rw[n1,n2]at f⊢;exact Pc e g f
  |none=>exact c.elim
  |bool _=>exact c.elim
  |str _=>exact c.elim
  |list _=>exact c.elim
  |int _=>exact c.elim
  |dict _=>exact c.elim
 | .none,_,_,_,_,_,_,_,_,_,_,_,c,_=>c.elim
 | .bool _,_,_,_,_,_,_,_,_,_,_,_,c,_=>c.elim
 | .str _,_,_,_,_,_,_,_,_,_,_,_,c,_=>c.elim
 | .list _,_,_,_,_,_,_,_,_,_,_,_,c,_=>c.elim
 | .dict _,_,_,_,_,_,_,_,_,_,_,_,c,_=>c.elim
theorem kN:∀(xs ys:List rb) (A:q5) (s:qU) (vs ws:List q3) (o bs:List Addr),ReadsAll s.heap vs xs o->ReadsAll s.heap ws ys bs->PyData.canLayAll0 xs=true->PyData.canLayAll0 ys=true->iM xs ys->
  A.units+min (PyData.depthAll xs) (PyData.depthAll ys)<cLine->∀j (h1:j<vs.length) (a:j<ws.length),(∀i,i<j->pairEq xs ys i=true)->pairEq xs ys j=false->qg A s vs[j] ws[j] (bJ xs ys)
 |[],_,_,_,_,_,_,_,c,_,_,_,_,_,j,h1,_,_,_=>by cases c;exact absurd h1 (nU _)
 |_::_,[],_,_,_,_,_,_,_,d,_,_,_,_,j,_,a,_,_=>by cases d;exact absurd a (nU _)
 |x::xs,y::ys,A,s,_,_,_,_,c,d,p,q,m,u,j,h1,a,h,l=>by
  cases c with
  |cons z B=>
   cases d with
   |cons v w=>
    have f:x.canLay0=true/\PyData.canLayAll0 xs=true:=by simpa[PyData.canLayAll0]using p
    have g:y.canLay0=true/\PyData.canLayAll0 ys=true:=by simpa[PyData.canLayAll0]using q
    have n:A.units+min x.depth y.depth<cLine/\A.units+min (PyData.depthAll xs) (PyData.depthAll ys)<cLine:=by
     simp only[PyData.depthAll]at u;omega
    cases j with
    |zero=>
     have e:bJ (x::xs) (y::ys)=Tu x y:=by
      have b:PyData.eqv x y=false:=l;rw[bJ,b];rfl
     rw[e];exact N4 x y A s _ _ _ _ z v f.1 g.1 m.1 n.1
    |succ j=>
     have e:bJ (x::xs) (y::ys)=bJ xs ys:=by
      have b:PyData.eqv x y=true:=h 0 (Nat.succ_pos _);rw[bJ,b];rfl
     rw[e];exact kN xs ys A s _ _ _ _ B w f.2 g.2 m.2 n.2 j (Nat.lt_of_succ_lt_succ h1) (Nat.lt_of_succ_lt_succ a) (λi r=>h (i+1) (Nat.succ_lt_succ r)) l
end
section
variable {X:Cx}{k:Nat}
def A27:R2:=λx y H Q=>∃d e:rb,Rp H d x/\Rp H e y/\Jx d e/\d.depth<=60/\Q (.bl (Tu d e)) H
theorem w8(i:Be k X.A):Gn X (compareOp .Lt) A27:=by
 intro c s r H x y v u Q I m n h;obtain⟨d,e,a,b,g,o,q⟩:=h;obtain⟨f,j⟩:=Cn I d x v a m;obtain⟨bs,l⟩:=Cn I e y u b n;have p:=i.units;exact N4 d e X.A s v u f bs j l (D6 d x a) (D6 e y b) g (by omega) _ _ _ _ ⟨.bl (Tu d e),H,I,rfl,q⟩
end
section
variable {X:Cx}
def A0j(K:W.Frag):R2:=λx y H Q=>∃a b e c,x=.ref a/\y=.ref b/\Cf K H a e/\H b=some (.tup c)/\c≠[]/\e.length+c.length<=sizeLine/\
 ∀p d,A8 H d->d p=some (.tup (e++c))->Q (.ref p) d
theorem ma(K:W.Frag)(D:X.K=K:=by rfl):Gn X (binaryOp .Add) (A0j K):=by
 subst D;intro d s S H x y v u Q I r w h;obtain⟨a,b,A,R,rfl,rfl,i,f,F,G,q⟩:=h;by_cases o:A=[]
 ·subst o;cases r;cases w;obtain⟨T,P,N,_⟩:=I.tuple i;obtain⟨Z,r2,O,_⟩:=I.tuple (Cf.of f);cases P;obtain⟨⟨U,B,t1,J⟩,m,j,n,l⟩:=N;obtain⟨⟨Y,C,t2,L⟩,g,z,M,c⟩:=O;simp only at j l z c;subst j l z c;exact concat_meets ⟨_,m,rfl⟩ ⟨_,g,rfl⟩ noFill_tuple_add seq_tuple_add PySem.F.slot_tuple_add PySem.F.entry_tuple_add (PySem.F.args_tuple_add_2 _ _) (tuple_addW0 a b _ _ n M B C J L rfl) ⟨m,g,.ref b,H,I,rfl,q b H (A8.refl H) f⟩
 ·exact mf d s S H _ _ v u Q I r w ⟨a,b,A,R,rfl,rfl,i,Cf.of f,o,G,λe=>absurd e F,λ_ p E=>q p _ (A8.upd E) A2⟩
end
theorem Mc:∀{bs:List Bool}{us:List q3},Ay (bs.map V.bl) us->LSm.BoolsAre us bs
 |[],_,.nil=>.nil
 |b::bs,_,.cons r a=>by
  cases r;exact .cons b (Mc a)
section
variable {X:Cx}
theorem Ow(l:X.calm=true):Cu X (.builtin "any") (λxs H Q=>∃(p:Addr) (bs:List Bool),xs=[.ref p]/\Aq X.K H p (bs.map V.bl)/\Q (.bl (bs.any id)) H):=by
 intro g s F H E D Q I r q;obtain⟨p,bs,rfl,n,q⟩:=q;obtain⟨u,rfl,w⟩:=Dg r;cases w;obtain⟨c,rv,o,A⟩:=I.list n;have f:=Mc rv;have a:=o.isList
 have h:p<s.heap.objs.size:=by
  obtain⟨_,e,_⟩:=a;exact dt e
 refine call_any_walk (wpAny_pyIter_list a ⟨s.heap.objs.size,[s.heap.objs.size,p],[s.heap.objs.size],c.toArray.size,_,_,λi=>(bs[i]?).getD false,rfl,Walks.list (prog:=X.prog) (w:=X.w) (A:=X.A.in1) (I.ok.hd l) _ p (ft h) c.toArray,⟨⟨_,da _ rfl,rfl,rfl⟩,a.push _⟩,λi v B y x j d=>?_,λz C m=>?_⟩)
 ·obtain⟨b,e,rfl⟩:=f.get i v (by simpa using j);simp only[e,Option.getD_some]at d;exact i0 d
 ·refine⟨.bl _,H,I.kept (LSm.kept_iter m),?_,q⟩;rw[<- LSm.range_any bs,<- f.length];simp;rfl
theorem Jz(l:X.calm=true):Cu X (.builtin "all") (λxs H Q=>∃(p:Addr) (bs:List Bool),xs=[.ref p]/\Aq X.K H p (bs.map V.bl)/\Q (.bl (bs.all id)) H):=by
 intro g s F H E D Q I r q;obtain⟨p,bs,rfl,n,q⟩:=q;obtain⟨u,rfl,w⟩:=Dg r;cases w;obtain⟨c,rv,o,A⟩:=I.list n;have f:=Mc rv;have a:=o.isList
 have h:p<s.heap.objs.size:=by
  obtain⟨_,e,_⟩:=a;exact dt e
 refine call_all_walk (wpAny_pyIter_list a ⟨s.heap.objs.size,[s.heap.objs.size,p],[s.heap.objs.size],c.toArray.size,_,_,λi=>(bs[i]?).getD true,rfl,Walks.list (prog:=X.prog) (w:=X.w) (A:=X.A.in1) (I.ok.hd l) _ p (ft h) c.toArray,⟨⟨_,da _ rfl,rfl,rfl⟩,a.push _⟩,λi v B y x j d=>?_,λz C m=>?_⟩)
 ·obtain⟨b,e,rfl⟩:=f.get i v (by simpa using j);simp only[e,Option.getD_some]at d;exact i0 d
 ·refine⟨.bl _,H,I.kept (LSm.kept_iter m),?_,q⟩;rw[<- LSm.range_all bs,<- f.length];simp;rfl
end
section
variable {prog:q4}{w:ra}{A:q5}{E:pQ}{I:Addr}{fp wr:List Addr}{St:Nat->Heap->Prop}{items:Array q3}
theorem P1(W:Walks prog w A I fp wr items.size (λi v=>items[i]?=some v) St):∀(n i:Nat) (s:qU) (Q:List q3->qU->Prop),St i s.heap->i+n=items.size->
  (∀h' x,St (i+n) h'->(∀b o,b∉wr->s.heap.get? b=some o->h'.get? b=some o)->Q (items.toList.drop i) {s with heap:=h',toks:=x})->wpAny (model prog w) A (draw (.ref I) n) Q E s
 |0,i,s,Q,c,l,a=>by
  have e:items.toList.drop i=[]:=List.drop_eq_nil_of_le (by simp;omega);have q:=a s.heap s.toks c λ_ _ _ z=>z;rw[e]at q;exact a6 q
 |n+1,i,s,Q,c,l,a=>by
  have d:i<items.size:=by omega
  show wpAny _ _ (pyNext (.ref I)>>=_) Q E s;refine aN (W.item i s _ _ d c λv y B j u m=>?_);refine aN (fY (P1 W n (i+1) _ _ u (by omega) λh r f p=>a6 ?_))
  have e:items.toList.drop i=v::items.toList.drop (i+1):=by
   have g:items.toList[i]?=some v:=by simpa using j
   rw[List.drop_eq_getElem_cons (by simpa using d)];congr 1;exact en ((d3 _).symm.trans g)
  have q:=a h r (by rw[show i+(n+1)=i+1+n by omega];exact f) λb o z e=>p b o z (m b o z e);rw[e]at q;exact q
end
section
variable {X:Cx}{pos:Pos}
def A1v(K:W.Frag)(n:Nat)(t:ju):TG:=λv c H Q=>∃a b,v=.ref a/\Aq K H a b/\b.length=n/\t b c H Q
theorem Wl(K:PySem.W.Frag){es:List Expr}{k:Nat}{t:ju}{n:Nat}(A:X.calm=true)(h:za X es t)(y:X.K=K:=by rfl)
  (C:(assignEach es X.env).length=n:=by rfl)(w:(assignEach es X.env).findIdx? (·.1)=none:=by rfl):PG X (.Tuple es k pos) (A1v K n t):=by
 subst y;intro c s j H v u Q I r i;obtain⟨a,M,q,D,B,i⟩:=i;subst q;cases r;obtain⟨g,rv,L,O⟩:=I.list D;have f:=L.isList
 have p:a<s.heap.objs.size:=by
  obtain⟨_,e,_⟩:=f;exact dt e
 have d:g.toArray.size=n:=by
  rw[List.size_toArray,<- B,rv.length]
 have l:g.length=n:=by simpa using d
 rw[assign_Tuple];refine aN (wpAny_standAt ?_);unfold unpack;rw[C,w];refine aN (fY ?_);unfold unpackItems notIterableAtAll;refine aN (aN (wpAny_specialOf f.typeIs slot_list_iter.lookup (a6 ?_)));simp only[Bool.false_eq_true,if_false];refine aN (fY (wpAny_pyIter_list f ?_));have W:=Walks.list (prog:=X.prog) (w:=X.w) (A:=X.A) (I.ok.hd A) s.heap.objs.size a (ft p) g.toArray;refine aN (fY (P1 W n 0 _ _ ⟨⟨_,da _ rfl,rfl,rfl⟩,f.push _⟩ (by omega) λN P J E=>?_));rw[if_neg (by rw[List.drop_zero,List.toList_toArray,l];exact Nat.lt_irrefl _)];refine aN (fY (W.done _ _ _ (by rw[d];simpa using J) λx G F=>?_));simp only[Option.isSome_none,Bool.false_eq_true,if_false];refine a6 ?_
 have m:Am X c j H {s with heap:=x,toks:=G}:=I.kept λb o e=>F b o (by
   intro z;rw[List.mem_singleton.mp z]at e;exact Nat.lt_irrefl _ (dt e)) (LSm.kept_iter E b o e)
 exact h c _ j H M _ Q m (by simpa using rv) i
end
open PySem.W (Looks)
theorem On:Looks M h (isSubtype (.type "type") (.type "tuple")) false:=by
 have e:isSubtype (.type "type") (.type "tuple")=pure false:=by first|exact tc_notTuple|rfl|decide
 rw[e];exact W.Looks.now
theorem Z9{M:Model}{K:W.Frag}{h:Heap}{a C Y:Addr}{d:Obj}(b:K.In h)(he:h.get? a=some d)(j:d.cls=.ref C)(g:Py K Y)
  (i:W.subIn K (.ref Y) (.type "BaseException")=some true)(l:W.subIn K (.ref C) (.ref Y)=some true):Looks M h (excMatches (.ref a) (.ref Y)) true:=by
 obtain⟨r,N,w,x,e,u,y,o,q,f,s,A,B,D,E,F,v,c,_,_,_⟩:=Wb b g;have p:Looks M h (typeOf (.ref Y)) (.type "type"):=(W.Looks.ld c).andThen .now;have m:Looks M h (isInstance (.ref Y) (.type "tuple")) false:=p.andThen On
 have n:Looks M h (typeOf (.ref a)) (.ref C):=by
  have z:Looks M h (typeOf (.ref a)) d.cls:=(W.Looks.ld he).andThen .now;rw[j]at z;exact z
 unfold excMatches;refine m.andThen ?_;rw[if_neg Bool.false_ne_true];refine W.Looks.now.andThen ?_;simp only[List.forIn_cons,List.forIn_nil];refine Looks.andThen (a:=PUnit.unit) (Looks.andThen (a:=ForInStep.yield PUnit.unit) ((rm b i).andThen ?_) .now) (n.andThen (Looks.andThen (a:=(some true,())) (Looks.andThen (a:=ForInStep.done (some true,())) ((W.looks_subIn b l).andThen ?_) .now) .now))
 ·rw[if_neg (by decide)];exact .now
 ·rw[if_pos rfl];exact .now
section
variable {prog:q4}{w:ra}{A:q5}{E:pQ}{K:W.Frag}{x C:Addr}{h:Heap}{g:Array GenState}{d:Drawn}{t:Nat}{os:OsState}
structure Tx(K:W.Frag)(C:Addr):Prop where
 ga:W.findIn K (.ref C) "__getattribute__"=some (some (.builtin "BaseException.__getattribute__"))
 gt:W.findIn K (.ref C) "__getattr__"=some none
 cl:W.findIn K (.ref C) "__class__"=some (some (.builtin "object.__class__"))
 gs:W.specialIn K (.builtin "object.__class__") "__get__"=some (some (.builtin "getset_descriptor.__get__"))
 tk:W.takesIn K (.builtin "object.__class__")=some true
 ob:W.mroIn K C (.type "object")=some true
 be:W.subIn K (.ref C) (.type "BaseException")=some true
theorem ak{M:Model}(a:K.In h)(F:Tx K C):Looks M h (Builtin.ObjectAttr.find (.ref x) (.ref C) "__class__") (.bind (.builtin "getset_descriptor.__get__") (.builtin "object.__class__")):=by
 unfold Builtin.ObjectAttr.find;refine(W.looks_findIn a F.cl).andThen ((W.looks_specialIn a F.gs).andThen ?_);refine Looks.andThen (a:=some (.builtin "getset_descriptor.__get__",.builtin "object.__class__")) ?_ (W.Looks.tag .now);show Looks M h (Builtin.ObjectAttr.takesStores _>>=_) _;refine(W.looks_takesIn a F.tk).andThen ?_;rw[if_pos rfl];exact .now
theorem aj{R:Result->qU->Prop}{c:q3}(a:K.In h)(b:∀M,Looks M h (typeOf (.ref x)) (.ref C))(F:Tx K C)(q:R (.ok (.ret (.ref C))) ⟨h,g,d,t,os⟩):
  codeAny (model prog w) A (.call (.builtin "getset_descriptor.__get__") ⟨[.builtin "object.__class__",.ref x,c],[]⟩) R ⟨h,g,d,t,os⟩:=by
 have e:=b (model prog w);have f:=W.looks_mroIn (M:=model prog w) a F.ob;refine codeAny_call_builtin W.KF.slot_gs.plain W.KF.entry_gs (W.KF.slot_gs.check _ _ _ _ _ _ _ _ W.KF.type_class (W.KF.args_gs _ _ _) ?_);unfold Builtin.«getset_descriptor.__get__» Builtin.Getset_descriptor.descrGet;rw[W.dga_obj];refine aN (a6 ?_);unfold Builtin.Getset_descriptor.descrGetter Builtin.Getset_descriptor.descrCheckInstance Builtin.Getset_descriptor.descrNameAndClass isInstance;simp only[W.KF.owner_class];repeat lk
 refine⟨Code.quiet_builtin _ (by decide+kernel),codeAny_builtin W.KF.entry_class ?_⟩;unfold Builtin.«object.__class__» shownTypeOf;repeat lk
 exact q
theorem Y2{Q:Fin->qU->Prop}{c:Tok}(a:K.In h)(b:∀M,Looks M h (typeOf (.ref x)) (.ref C))(F:Tx K C)(q:Q (.done (.ret (.ref C))) ⟨h,g,d,t,os⟩):
  wpAny (model prog w) A (Builtin.«object.__getattribute__» ⟨[.ref x,.str "__class__" c],[]⟩) Q E ⟨h,g,d,t,os⟩:=by
 have e:=b (model prog w);have f:=ak (M:=model prog w) (x:=x) a F
 repeat (any_goals (first|assumption|with_reducible refine Looks.at (by assumption) ?_|wp_step))
 refine aj a b F ?_
 repeat (any_goals (first|assumption|wp_step))
theorem Y1{R:Result->qU->Prop}{c:Tok}(a:K.In h)(b:∀M,Looks M h (typeOf (.ref x)) (.ref C))(F:Tx K C)(q:R (.ok (.ret (.ref C))) ⟨h,g,d,t,os⟩):
  codeAny (model prog w) A (.call (.builtin "BaseException.__getattribute__") ⟨[.ref x,.str "__class__" c],[]⟩) R ⟨h,g,d,t,os⟩:=by
 have i:=b (model prog w);have j:=W.looks_subIn (M:=model prog w) a F.be;have e:builtinKind "BaseException.__getattribute__"=some .slot:=by decide+kernel
 have f:splitId "BaseException.__getattribute__"=some ("BaseException","__getattribute__"):=by decide+kernel
 have l:=PySem.F.args_bexc_ga (.ref x) (.str "__class__" c);refine codeAny_call_builtin PySem.F.attr_ValueError.ga.plain PySem.F.entry_bexc_ga ?_;simp only[checkBuiltinCall,e,f];unfold isInstance
 repeat (any_goals (first|assumption|with_reducible refine Y2 a b F ?_|with_reducible refine Looks.at (by assumption) ?_|wp_step))
theorem ai{Q:Option q3->qU->Prop}(a:K.In h)(b:∀M,Looks M h (typeOf (.ref x)) (.ref C))(F:Tx K C)(q:Q (some (.ref C)) ⟨h,g,d,t+1,os⟩):
  wpAny (model prog w) A (getAttr? (.ref x) "__class__") Q E ⟨h,g,d,t,os⟩:=by
 have e:=b (model prog w);have f:=W.looks_findIn (M:=model prog w) a F.ga;have i:=W.looks_findIn (M:=model prog w) a F.gt;have j:=PySem.F.attr_ValueError.ga.bind (.ref x);have c:(Value.builtin "BaseException.__getattribute__"==Value.builtin "object.__getattribute__")=false:=by decide+kernel
 have l:(onTheHeap (Value.ref C)&&Value.builtin "BaseException.__getattribute__"==Value.builtin "object.__getattribute__")=false:=by rw[c];rfl
 unfold getAttr? getAttrBy?
 repeat (any_goals (first|assumption|with_reducible refine Looks.at (by assumption) ?_|wp_step))
 refine Y1 a b F ?_
 repeat (any_goals (first|assumption|wp_step))
theorem b9{s:qU}{c:q3}{b:Bool}{Q:pQ}(a:K.In s.heap)(f:∀M,Looks M s.heap (typeOf (.ref x)) (.ref C))(F:Tx K C)(e:W.kitOne K (.ref C) c=some b)
  (q:∀i,Q (.bool b) {s with toks:=i}):wpAny (model prog w) A (call (.builtin "isinstance") [.ref x,c]) Q E s:=by
 cases b with
 |true=>exact l8 a f e (λz=>nomatch z) (q s.toks)
 |false=>
  refine call_isinstance (S:=λ_ R s=>(K.In s.heap/\∀M,Looks M s.heap (typeOf (.ref x)) (.ref C))/\∀i,R (.ok (.ret (.bool false))) {s with toks:=i}) (λprog w A R s n=>isinstance_outer ?_ (λz=>nomatch z)) ⟨⟨a,f⟩,q⟩;obtain⟨⟨a,f⟩,j⟩:=n;obtain⟨m,g,d,v,os⟩:=s;unfold Builtin.«isinstance.nested»;refine aN ((f _).at ?_);unfold W.kitOne at e;by_cases z:(Value.ref C==c)=true
  ·rw[if_pos z]at e;cases e
  rw[if_neg z]at e⊢;obtain⟨o,p,l⟩:=W.kit_cls (M:=model prog w) a e;have r:Looks (model prog w) m (isInstance (.ref x) c) false:=(f _).andThen l;have u:=az (M:=model prog w) a F.be;refine aN (o.at ?_);rw[if_pos (by decide)]
  k_delta "plainIsInstance";refine aN (aN (p.at ?_));simp only[Bool.not_true,if_false,Bool.false_eq_true];refine aN (r.at ?_);simp only[if_false,Bool.false_eq_true];refine aN (ai a f F ?_);refine aN (u.at ?_);simp only[if_false,Bool.false_eq_true,Bool.not_true];refine aN (nC (l.at ?_))
  first
   |exact a6 (j _)
   |exact a6 (a6 (j _))
end
section
variable {X:Cx}
def A0n(K:W.Frag):List V->Hp->VK->Prop:=λd H Q=>∃(a C:Addr) (c:q3) (v:V) (b:Bool),d=[.ref a,v]/\H a=some (.ext (Eo a (.ref C)))/\(∀u,B0 v u->u=c)/\Tx K C/\W.kitOne K (.ref C) c=some b/\Q (.bl b) H
theorem Ca(K:W.Frag)(i:X.K=K:=by rfl):Cu X (.builtin "isinstance") (A0n K):=by
 subst i;intro d s B H A x Q I r h;obtain⟨a,C,c,v,b,rfl,j,l,F,e,q⟩:=h;obtain⟨w,p,rfl,m,n⟩:=Ay.two r;cases m;rw[l p n];obtain⟨o,y,f,g,_⟩:=(I.aK a _ j).1;refine b9 (s:=s) I.gZ (λM=>?_) F e λu=>⟨.bl b,H,I.kept λ_ _ z=>z,rfl,q⟩;have z:Looks M s.heap (typeOf (.ref a)) o.cls:=(W.Looks.ld f).andThen .now;rw[g]at z;exact z
end
open PySem.W (Looks)
section
variable {X:Cx}
def RT1(K:W.Frag)(f:TS)(Y:Addr)(i:Nat)(D:Hq):St->XK->Prop:=λd E=>∀cls b,E cls none b->∃C,cls=.ref C/\W.subIn K (.ref C) (.ref Y)=some true/\∀a,b a=some (.ext (Eo a (.ref C)))->
 f {nx:=λc e=>D.nx (c.set i none) e,rt:=λ_ _=>False} (d.set i (some (.ref a))) b
def A1i(K:W.Frag)(a:(St->XK->Prop)->TS)(b:TS)(Y:Addr)(i:Nat):TS:=λD c H=>a (RT1 K b Y i D) D c H
theorem mw(K:PySem.W.Frag){p2 pos np:Pos}
  (U:X.stack=X.env::X.outer)(hf:X.env.frame=some X.env.locals)
  (y:∀(W:pQ) (pn:List (Addr×Obj)) (R:St->XK->Prop),Rr (X.KS pn W) R->O6 (X.KS pn W) j (tb R))
  (hg:Gl X x)(hm:X.mg x=some (.ref Y))(hY:Py K Y)(hB:PySem.W.subIn K (.ref Y) (.type "BaseException")=some true)(hN:X.N.Nodup)(hi:X.N[i]?=some n)(Q:X.env.scope.names.lookup n=some .local)
  (hu:∀A:q5,O6 (X.at A) (l::ss) tu)(hK:X.K=K:=by rfl)(qL:(x==("__debug__":Str))=false:=by decide):
  PS X (.Try j [.ExceptHandler (some (.Name x np)) (some n) (l::ss) p2] [] [] pos) (A1i K tb tu Y i):=by
 subst hK;intro c s σ H D I h;refine wpAny_Try_except ?_;have ok:=I.ok;refine iv (y _ (X.pn++c) _ ?_ [] s σ H D I.KS h) (λf L q=>?_) λe L z=>z
 ·rintro qM m H1 L e r E hR I1 ⟨a,T,cls,G,rfl,S,d,F,hE⟩;obtain⟨C,rfl,wN,hs⟩:=hR _ _ hE;have M:Am X c m H1 L:=I1.out ok;have F:W3 X.prog X.w (jR X.stack) H1 L.heap G r.heap a T (.ref C):=F;have N:=M.qT S d F;obtain⟨a0,tr⟩:=F.sH (B:=PySem.W.hideAll r.heap (jR X.stack++a::[T])) (Mx (k8.mpr rfl));have hA:X.A.frames=some (X.env::X.outer):=by rw[<- U];exact ok.frames
  have hF:r.heap.FunFrames (PySem.W.hideAll r.heap (jR X.stack++a::[T])) (X.env::X.outer):=by rw[<- U];exact Wg N
  refine wpAny_looks_onW hA hf ⟨λb o q=>PySem.W.of_hideAll _ q,J5,hF,tr⟩ λh3 B Z=>?_;refine wpAny_landsW B λw O sm4=>?_;obtain⟨k1,_,_,k4⟩:=O;obtain⟨T2,g⟩:=W3.on F.un F.ok F.exc N.gI N.CO (λb y=>by rw[List.mem_singleton.mp y];exact⟨F.off,F.new⟩) k1 (Z.trans sm4) k4;have p:Am X c m G {r with heap:=w}:=M.qT S d g;obtain⟨o5,vs5,e5,c5,d5⟩:=g.cls;refine wpAny_handleBy_cons (codeAny_handlers_test (Calls.Name_function_global ok.kind hg (Calls.loadGlobal_global (by rw[ok.glob];exact p.mod.glob.keeps p.bk) hm ?_) qL)) (by intro q;cases q);refine(Z9 p.gZ e5 c5 hY hB wN).at ?_;show codeAny _ _ (.handlers _ [_] _) _ _;refine codeAny_handlers_suite_as ?_;obtain⟨a5,tr5⟩:=g.sH (B:=PySem.W.hideAll w (jR X.stack++a::[T2])) (Mx (k8.mpr rfl));have P:w.FunFrames (PySem.W.hideAll w (jR X.stack++a::[T2])) (X.env::X.outer):=by rw[<- U];exact Wg p
  refine lands_againW (show Heap.FlyingW _ (X.env::X.outer) a (.ref C) a5 w from⟨λb o q=>PySem.W.of_hideAll _ q,J5,P,tr5⟩) λh6 v sm6=>?_;obtain⟨k6,_,_,k7⟩:=v;obtain⟨T3,F6⟩:=W3.on g.un g.ok g.exc p.gI p.CO (λb y=>by rw[List.mem_singleton.mp y];exact⟨g.off,g.new⟩) k6 sm6 k7;have I6:Am X c m G {r with heap:=h6}:=M.qT S d F6;refine Jq (v:=.ref a) I6 hN hi (.inl Q) rfl (λs7 I7=>?_) (.inr Q);refine iv (hu _ c s7 _ G _ (I7.at rfl) (hs a F.exc)) (λf s8 J=>?_) λ_ _ z=>z.elim;cases f with
  |next=>
   obtain⟨σ',H4,I8,q9⟩:=J;exact kj (I8.back ok) hN hi Q λs9 I9=>⟨_,_,I9,q9⟩
  |brk=>
   obtain⟨_,_,_,z⟩:=J;exact z.elim
  |cont=>
   obtain⟨_,_,_,z⟩:=J;exact z.elim
  |ret u=>
   obtain⟨_,_,_,_,_,z⟩:=J;exact z.elim
 ·cases f with
  |next=>exact wpAny_execs_nil (SP.out ok q)
  |brk=>exact SP.out ok q
  |cont=>exact SP.out ok q
  |ret u=>exact SP.out ok q
end
section
variable {X:Cx}
theorem Yj:z9 X "int.bit_length" (λx xs H Q=>∃i:Int,x=.int i/\xs=[]/\Q (.int ((intBits i:Nat):Int)) H):=by
 intro a s d H x xs v c Q I b rv h;obtain⟨i,rfl,rfl,q⟩:=h;obtain⟨t,rfl⟩:=b;cases rv;exact call_gives PySem.F.slot_int_bit_length (typeIs_int _ _ _) PySem.F.entry_int_bit_length (PySem.F.args_int_bit_length_1 _) (PySem.AutoIntG2.int_bit_length_int_0 i t) ⟨.int _,H,I.tok _,⟨_,rfl⟩,q⟩
def A1o(i j:Int):Prop:=0<=j/\((intBits i:Nat):Int)+j<=2^27
theorem mh:Gn X (binaryOp .LShift) (rI A1o λi j=>.int (i*2^j.toNat)):=zf λ_ _ _ _ _ _ _ a q=>lshift_int a.1 a.2 q
end
theorem U5{K:W.Frag}{a:Addr}{xs:List V}{r:List Nat}{j:TT}{h:TE}{c:St}{D:Addr}{u:Hp}{Q:Hp->Prop}(f:Nat->List V->Hp->Prop)(w:f 0 [] (upd u D (.lst [])))
  (B:∀i ys H,i<=xs.length->f i ys H->Aq K H a xs)
  (C:∀i x ys H,xs[i]?=some x->f i ys H->j (some x::Cv r c) H λb l=>
   if b=true then h (some x::Cv r c) l λv n=>n D=some (.lst ys)/\ys.length<sizeLine/\f (i+1) (ys++[v]) (upd n D (.lst (ys++[v])))else f (i+1) ys l)
  (F:∀c H Q g,(∀b d,Q b d->g b d)->j c H Q->j c H g)(E:∀c H Q g,(∀v d,Q v d->g v d)->h c H Q->h c H g)
  (z:∀ys H,f xs.length ys H->Q H):Dc 1 r (qf K a) (J2 0) j h c D u Q:=by
 refine⟨λi m ys H=>m=xs.length-i/\i<=xs.length/\f i ys H,⟨xs.length,by simp,mu _,w⟩,?_⟩;rintro i m ys d ⟨rfl,A,p⟩;have s:=B i ys d A p;by_cases o:i<xs.length
 ·refine .inr ⟨⟨xs,xs[i],s,by simp[o]⟩,λx L y=>?_⟩;obtain⟨e,y⟩:=y;subst e;refine⟨⟨[some x],rfl,rfl⟩,?_⟩;refine F _ _ _ _ ?_ (C i x ys _ (y xs s) p);intro b l q;cases b with
  |false=>exact⟨xs.length-(i+1),by omega,rfl,o,q⟩
  |true=>exact E _ _ _ _ (λv n ⟨G,I,J⟩=>⟨G,I,xs.length-(i+1),by omega,rfl,o,J⟩) q
 ·have e:i=xs.length:=by omega
  subst e;exact .inl ⟨⟨xs,s,dr _⟩,z ys d p⟩
section
variable {κ:Type} [DecidableEq κ]
def Av(kvs:List (κ×V))(k:κ):Option V:=(kvs.find? λa=>decide (a.1=k)).map (·.2)
def Cg(kvs:List (κ×V))(k:κ)(v:V):List (κ×V):=
 if(kvs.any λa=>decide (a.1=k))=true then kvs.map (λa=>if a.1=k then(a.1,v)else a)else kvs++[(k,v)]
def Bx(kvs:List (κ×V))(k:κ):List (κ×V):=kvs.filter λa=>decide (a.1≠k)
theorem C4{p:κ×V}{r:List (κ×V)}{k:κ}(e:p.1=k):Av (p::r) k=some p.2:=by simp[Av,List.find?_cons,e]
theorem C3{p:κ×V}{r:List (κ×V)}{k:κ}(e:¬p.1=k):Av (p::r) k=Av r k:=by simp[Av,List.find?_cons,e]
theorem Eh(k:κ):∀kvs:List (κ×V),(kvs.any λa=>decide (a.1=k))=(Av kvs k).isSome
 |[]=>rfl
 |p::r=>by
  rw[List.any_cons];by_cases e:p.1=k
  ·simp only[C4 e,decide_eq_true e,Bool.true_or,Option.isSome_some]
  ·rw[C3 e,decide_eq_false e,Bool.false_or];exact Eh k r
theorem Tr(k j:κ)(y:V):∀kvs:List (κ×V),Av (kvs.map λa=>if a.1=k then(a.1,y)else a) j=(Av kvs j).map λx=>if j=k then y else x
 |[]=>rfl
 |p::r=>by
  have b:=Tr k j y r;rw[List.map_cons];by_cases h:p.1=k
  ·rw[if_pos h];by_cases e:p.1=j
   ·rw[C4 (p:=(p.1,y)) e,C4 e,Option.map_some,if_pos (e.symm.trans h)]
   ·rw[C3 (p:=(p.1,y)) e,C3 e,b]
  ·rw[if_neg h];by_cases e:p.1=j
   ·rw[C4 (p:=p) e,C4 e,Option.map_some,if_neg (λz=>h (e.trans z))]
   ·rw[C3 (p:=p) e,C3 e,b]
theorem Pu(k j:κ)(y:V):∀kvs:List (κ×V),Av kvs k=none->Av (kvs++[(k,y)]) j=if j=k then some y else Av kvs j
 |[],_=>by
  by_cases e:k=j
  ·rw[if_pos e.symm];exact C4 (p:=(k,y)) e
  ·rw[if_neg (λz=>e z.symm)];exact C3 (p:=(k,y)) e
 |p::r,a=>by
  rw[List.cons_append];have b:¬p.1=k:=λz=>by rw[C4 z]at a;cases a
  rw[C3 b]at a;have c:=Pu k j y r a;by_cases e:p.1=j
  ·rw[C4 e,C4 e,if_neg (λz=>b (e.trans z))]
  ·rw[C3 e,C3 e,c]
theorem Js(kvs:List (κ×V))(k j:κ)(y:V):Av (Cg kvs k y) j=if j=k then some y else Av kvs j:=by
 unfold Cg;by_cases a:(kvs.any λc=>decide (c.1=k))=true
 ·rw[if_pos a,Tr];rw[Eh]at a;by_cases e:j=k
  ·obtain⟨x,b⟩:=Option.isSome_iff_exists.mp a;rw[if_pos e,e,b,Option.map_some,if_pos rfl]
  ·rw[if_neg e];cases Av kvs j with
   |none=>rfl
   |some x=>rw[Option.map_some,if_neg e]
 ·rw[if_neg a];refine Pu k j y kvs ?_;rw[Eh]at a;cases q:Av kvs k with
  |none=>rfl
  |some x=>rw[q]at a;exact(a rfl).elim
theorem Dp(kvs:List (κ×V))(k:κ)(v:V):(Cg kvs k v).length<=kvs.length+1:=by
 unfold Cg;split
 ·rw[List.length_map];omega
 ·rw[List.length_append,List.length_cons,List.length_nil];omega
theorem Jl{kvs:List (κ×V)}{k:κ}(v:V)(h:Av kvs k=none):Cg kvs k v=kvs++[(k,v)]:=by
 unfold Cg;rw[Eh,h];exact if_neg (by decide)
theorem Ft.jT(r:Ft o u):o.isSome=u.isSome:=by
 cases o with
 |none=>cases u with
  |none=>rfl
  |some _=>exact(show False from r).elim
 |some _=>cases u with
  |none=>exact(show False from r).elim
  |some _=>rfl
theorem Ft.getD(r:Ft o u)(a:B0 d d'):B0 (o.getD d) (u.getD d'):=by
 cases o with
 |none=>cases u with
  |none=>exact a
  |some _=>exact(show False from r).elim
 |some _=>cases u with
  |none=>exact(show False from r).elim
  |some _=>exact r
theorem KV.val{kvs:List (κ×V)}{vs:List (κ×q3)}(r:KV kvs vs)(k:κ):Ft (Av kvs k) (valueAt vs k):=by
 unfold KV at r
 induction r with
 |nil=>exact True.intro
 |@cons p q i c h t g=>
  obtain⟨d,f⟩:=h;by_cases e:p.1=k
  ·have a:q.1=k:=d.symm.trans e;have b:valueAt (q::c) k=some q.2:=by simp[valueAt,List.find?_cons,a]
   rw[C4 e,b];exact f
  ·have a:¬q.1=k:=λz=>e (d.trans z);have b:valueAt (q::c) k=valueAt c k:=by simp[valueAt,List.find?_cons,a]
   rw[C3 e,b];exact g
theorem KV.any(r:KV kvs vs)(k:κ):(kvs.any λa=>decide (a.1=k))=vs.any λa=>decide (a.1=k):=by
 unfold KV at r
 induction r with
 |nil=>rfl
 |cons h t b=>rw[List.any_cons,List.any_cons,b,h.1]
theorem KV.KW(r:KV kvs vs)(k:κ)(f:B0 y u):
  KV (kvs.map λa=>if a.1=k then(a.1,y)else a) (vs.map λa=>if a.1=k then(a.1,u)else a):=by
 unfold KV at r⊢
 induction r with
 |nil=>exact .nil
 |@cons p q g i h t d=>
  rw[List.map_cons,List.map_cons];refine .cons ?_ d;obtain⟨b,c⟩:=h;by_cases e:p.1=k
  ·rw[if_pos e,if_pos (b.symm.trans e)];exact⟨b,f⟩
  ·rw[if_neg e,if_neg (λz=>e (b.trans z))];exact⟨b,c⟩
theorem KV.put(r:KV kvs vs)(k:κ)(a:B0 y u):KV (Cg kvs k y) (stored vs k u):=by
 unfold Cg stored;rw[r.any k];by_cases e:(vs.any λb=>decide (b.1=k))=true
 ·rw[if_pos e,if_pos e];exact r.KW k a
 ·rw[if_neg e,if_neg e];exact Paired.snoc r ⟨rfl,a⟩
theorem KV.drop(r:KV kvs vs)(k:κ):KV (Bx kvs k) (without vs k):=by
 unfold KV at r⊢;unfold Bx without
 induction r with
 |nil=>exact .nil
 |@cons p q i j h t d=>
  obtain⟨c,g⟩:=h;rw[List.filter_cons,List.filter_cons];by_cases e:p.1=k
  ·have a:¬decide (p.1≠k)=true:=by simp[e]
   have b:¬decide (q.1≠k)=true:=by simp[c.symm.trans e]
   rw[if_neg a,if_neg b];exact d
  ·have f:¬q.1=k:=λz=>e (c.trans z);have a:decide (p.1≠k)=true:=by simp[e]
   have b:decide (q.1≠k)=true:=by simp[f]
   rw[if_pos a,if_pos b];exact .cons ⟨c,g⟩ d
theorem KV.length(r:KV kvs vs):kvs.length=vs.length:=Paired.length r
theorem S9(kvs:List (κ×V))(k:κ):(Bx kvs k).length<=kvs.length:=List.length_filter_le _ _
end
theorem Sh{k:E3}(r:B0 (kV k) u):(De P w).is k u=true:=by
 cases k with
 |inl i=>obtain⟨t,e⟩:=(show∃t,u=Value.int i t from r);subst e;exact Sm P w i t
 |inr x=>obtain⟨t,e⟩:=(show∃t,u=Value.str x t from r);subst e;exact Sn P w x t
abbrev KT(H:Hp):pR->List ((qG×Int)×Addr×q3)->Prop:=Paired λp q=>p.1=q.1/\Iu H q.2.1 p.1/\B0 p.2 q.2.2
theorem KT.val{kvs:pR}{xs:List ((qG×Int)×Addr×q3)}(r:KT H kvs xs)(k:(qG×Int)):Ft (Av kvs k) ((atKey xs k).map (·.2)):=by
 induction r with
 |nil=>exact True.intro
 |@cons p q i c h t g=>
  obtain⟨d,_,f⟩:=h;by_cases e:p.1=k
  ·have a:q.1=k:=d.symm.trans e;have b:atKey (q::c) k=some q.2:=by simp[atKey,List.find?_cons,a]
   rw[C4 e,b];exact f
  ·have a:¬q.1=k:=λz=>e (d.trans z);have b:atKey (q::c) k=atKey c k:=by simp[atKey,List.find?_cons,a]
   rw[C3 e,b];exact g
theorem KT.KW(r:KT H kvs xs)(k:(qG×Int))(g:B0 y u):
  KT H (kvs.map λb=>if b.1=k then(b.1,y)else b) (xs.map (putAt k u)):=by
 induction r with
 |nil=>exact .nil
 |@cons p q i j h t f=>
  rw[List.map_cons,List.map_cons];refine .cons ?_ f;obtain⟨a,c,d⟩:=h;unfold putAt;by_cases e:p.1=k
  ·rw[if_pos e,if_pos (a.symm.trans e)];exact⟨a,c,g⟩
  ·rw[if_neg e,if_neg (λz=>e (a.trans z))];exact⟨a,c,d⟩
theorem KT.put(r:KT H kvs xs)(k:(qG×Int))(c:Iu H b k)(a:B0 y u):
  KT H (Cg kvs k y) (storedH xs k b u):=by
 have e:(kvs.any λd=>decide (d.1=k))=(atKey xs k).isSome:=by
  rw[Eh,(r.val k).jT,Option.isSome_map]
 unfold Cg storedH;rw[e];by_cases q:(atKey xs k).isSome=true
 ·rw[if_pos q,if_pos q];exact r.KW k a
 ·rw[if_neg q,if_neg q];exact Paired.snoc r ⟨rfl,c,a⟩
theorem KT.keeps(r:KT H kvs xs)(c:∀b ys,H b=some (.tup ys)->a b=some (.tup ys)):KT a kvs xs:=
 Paired.RN r λ_ _ z=>⟨z.1,z.2.1.up c,z.2.2⟩
section
variable {P:q4}{w:ra}{H:Hp}{h:Heap}{a:Addr}
theorem ou(ok:Gm P w H h)(e:Rd H a u):Bl P w H h a u:=e.ok ok
theorem Mt(ok:Gm P w H h)(e:Rd H a (.dK kvs)):kvs.length<=sizeLine/\(a==sysModules)=false/\∃vs,KV kvs vs/\h.DictOf (De P w) a vs:=
 show Bl P w H h a (.dK kvs)from ou ok e
theorem oi(ok:Gm P w H h)(e:H a=some (.dK kvs)):kvs.length<=sizeLine/\(a==sysModules)=false/\∃vs,KV kvs vs/\h.DictOf (De P w) a vs:=Mt ok (.inl e)
theorem Sg:∀{b:qG}{us:List q3},Ay (b.map V.int) us->ItemsAre (intKind P w) b us
 |[],us,r=>by
  cases r;exact .nil
 |k::b,us,r=>by
  cases r with
  |cons h t=>
   obtain⟨c,rfl⟩:=h;exact .cons (by simp[intKind,Value.isInt]) (Sg t)
theorem Eg{P:q4}{w:ra}{A:q5}(b:A.units+20<cLine):(D3 P w).room A.in1:=by
 first|(show A.units+1+8<cLine;omega)|(show A.units+8<cLine;omega)
theorem Kg(ok:Gm P w H h)(e:Iu H a b):(D3 P w).is h b a:=by
 obtain⟨u,d,f⟩:=e;obtain⟨_,A,r,o,l,p,n,q⟩:=(show Bl P w H h a (.tup [.ref u,.int b.2])from ok a _ d);obtain⟨_,s,y,v,g,i,m,j⟩:=(show Bl P w H h u (.tup (b.1.map V.int))from ok u _ f);cases r with
 |cons x c=>
  cases c with
  |cons z c=>
   cases c;cases(show _=Value.ref u from x);obtain⟨t,rfl⟩:=z;exact⟨o,n,u,t,l,p,q,v,s.toArray,m,g,i,j,by simpa using Sg y⟩
theorem P2(ok:Gm P w H h)(e:Rd H a (.dT kvs)):kvs.length<=sizeLine/\(a==sysModules)=false/\
  ∃xs,KT H kvs xs/\h.DictOfH (D3 P w) a xs:=by
 obtain⟨z,y,xs,r,o,f,d,g,i,j,n,s⟩:=(show Bl P w H h a (.dT kvs)from ou ok e);refine⟨z,y,xs,r,o,f,d,g,i,j,n,λx b=>?_,s⟩
 have all:∀{l:pR}{m:List ((qG×Int)×Addr×q3)},KT H l m->∀x∈m,(D3 P w).is h x.1 x.2.1:=by
  intro l m q
  induction q with
  |nil=>intro x b;exact nomatch b
  |@cons p q v A c t u=>
   intro x b;rcases eH.mp b with e|b
   ·subst e;exact Kg ok (by rw[<- c.1];exact c.2.1)
   ·exact u x b
 exact all r x b
theorem oj(ok:Gm P w H h)(e:H a=some (.dT kvs)):kvs.length<=sizeLine/\(a==sysModules)=false/\
  ∃xs,KT H kvs xs/\h.DictOfH (D3 P w) a xs:=P2 ok (.inl e)
end
def E5(H:Hp)(a:Addr)(y:V)(r:Option V):Prop:=
 (∃c k,Rd H a (.dK c)/\y=kV k/\r=Av c k)\/∃c k b,Rd H a (.dT c)/\y=.ref b/\Iu H b k/\r=Av c k
def Xa(H:Hp)(a:Addr)(y v:V)(d:Hp):Prop:=
 (∃c k,H a=some (.dK c)/\y=kV k/\c.length<sizeLine/\d=upd H a (.dK (Cg c k v)))\/
 ∃c k b,H a=some (.dT c)/\y=.ref b/\Iu H b k/\c.length<sizeLine/\d=upd H a (.dT (Cg c k v))
theorem E5.k{kvs:List (E3×V)}{k:E3}(e:H a=some (.dK kvs)):E5 H a (kV k) (Av kvs k):=.inl ⟨kvs,k,.inl e,rfl,rfl⟩
theorem E5.t{kvs:pR}{k:(qG×Int)}(e:H a=some (.dT kvs))(c:Iu H b k):E5 H a (.ref b) (Av kvs k):=.inr ⟨kvs,k,b,.inl e,rfl,c,rfl⟩
theorem Xa.t{kvs:pR}{k:(qG×Int)}(e:H a=some (.dT kvs))(c:Iu H b k)(d:kvs.length<sizeLine):
  Xa H a (.ref b) v (upd H a (.dT (Cg kvs k v))):=.inr ⟨kvs,k,b,e,rfl,c,d,rfl⟩
section
variable {X:Cx}{pins:List (Addr×Obj)}{σ:St}{H:Hp}{s:qU}{a:Addr}{y v:V}{u r:q3}{o:Option V}{A:q5}{E:pQ}
theorem Am.big(I:Am X pins σ H s):sysModules<s.heap.objs.size:=by
 have h:mainGlobals<s.heap.objs.size:=(I.mod.glob.keeps I.bk).lt;exact Nat.lt_trans (by decide) h
theorem Xs(D:A.units+20<cLine)(I:Am X pins σ H s)(g:E5 H a y (some v))(q:B0 y u)(h:∀d s',Am X pins σ H s'->B0 v d->Q d s'):
  wpAny (model X.prog X.w) A (getItem (.ref a) u) Q E s:=by
 rcases g with⟨m,k,e,i,l⟩|⟨m,k,b,e,i,x,l⟩
 ·subst i;obtain⟨z,B,F,c,f⟩:=Mt I.aK e;obtain⟨d,j,n⟩:=Ft.some_of (v:=v) (o:=valueAt F k) (by rw[l];exact c.val k);exact wpAny_getItem_of (Sh q) f.mapOf j (h d _ (I.tok _) n)
 ·subst i;cases(show u=Value.ref b from q);obtain⟨z,B,G,c,f⟩:=P2 I.aK e;obtain⟨d,j,n⟩:=Ft.some_of (v:=v) (o:=(atKey G k).map (·.2)) (by rw[l];exact c.val k);obtain⟨p,C,w⟩:=dI.mp j;refine wpAny_getItem_heap (Eg D) (Kg I.aK x) f C ?_;rw[w];exact h d _ (I.tok _) n
theorem A1u(p:A.units+20<cLine)(I:Am X pins σ H s)(g:E5 H a y o)(m:B0 y u)(h:∀s',Am X pins σ H s'->Q (.bool o.isSome) s'):
  wpAny (model X.prog X.w) A (compareOp .In u (.ref a)) Q E s:=by
 rcases g with⟨j,k,e,f,l⟩|⟨j,k,b,e,f,n,l⟩
 ·subst f;obtain⟨z,i,w,c,d⟩:=Mt I.aK e;refine wpAny_in_of (Sh m) i d.mapOf ?_;rw[<- (c.val k).jT,<- l];exact h _ (I.tok _)
 ·subst f;cases(show u=Value.ref b from m);obtain⟨z,i,x,c,d⟩:=P2 I.aK e;refine wpAny_in_heap (Eg p) (Kg I.aK n) i d ?_;have q:=(c.val k).jT;rw[Option.isSome_map]at q;rw[<- q,<- l];exact h _ (I.tok _)
theorem Lx{t':Nat}(I:Am X pins σ H s)(f:zl (H a))(e:Heap.SameBut a s.heap h')(he:∃q,h'.get? a=some q)(new:Bl X.prog X.w (upd H a c) h' a c):
  Am X pins σ (upd H a c) {s with heap:=h',toks:=t'}:=
 I.write (x:=a) (e:=a) f (.inl rfl) (λb q d z=>(e.2 b d).trans z) he new
theorem aa(z:kvs.length<=sizeLine)(d:(a==sysModules)=false)(b:KV kvs vs)(dd:h'.DictOf (De P w) a vs):
  Bl P w c h' a (.dK kvs):=⟨z,d,vs,b,dd⟩
theorem Xt(T:A.units+20<cLine)(I:Am X pins σ H s)(g:Xa H a y v D)(K:B0 y u)(rv:B0 v r)(h:∀s',Am X pins σ D s'->Q () s'):
  wpAny (model X.prog X.w) A (setItem (.ref a) u r) Q E s:=by
 rcases g with⟨d,k,e,p,l,n⟩|⟨d,k,b,e,p,F,l,n⟩
 ·subst p n;obtain⟨z,w,U,f,m⟩:=oi I.aK e;have C:U.length<=sizeLine:=by rw[<- f.length];exact z
  have x:(Cg d k v).length<=sizeLine:=by have:=Dp d k v;omega
  refine wpAny_setItem_pairs (hsz:=C) (Sh K) m λJ i B=>h _ ?_;have S:∃q,J.get? a=some q:=let⟨q,_,_,j,_⟩:=i;⟨q,j⟩;exact Lx I (by rw[e];exact True.intro) B S (aa x w (f.put k rv) i)
 ·subst p n;cases(show u=Value.ref b from K);obtain⟨z,w,Y,f,m⟩:=oj I.aK e;have C:Y.length<=sizeLine:=by rw[<- Paired.length f];exact z
  have x:(Cg d k v).length<=sizeLine:=by have:=Dp d k v;omega
  refine wpAny_setItem_heap (hsz:=C) (Eg T) (Kg I.aK F) m λJ i B=>h _ ?_;obtain⟨q,M,L,j,N,O,P,_,R⟩:=i;refine Lx I (by rw[e];exact True.intro) B ⟨q,j⟩ ⟨x,w,_,(f.put k F rv).keeps λc Z G=>?_,q,M,L,j,N,O,P,R⟩;rw[A9 (Bf G e (λz=>nomatch z))];exact G
end
section
variable {X:Cx}{pins:List (Addr×Obj)}{σ:St}{H:Hp}{s:qU}{a:Addr}{kvs:List (E3×V)}{k:E3}{u:q3}{A:q5}{E:pQ}
theorem zu{more:List q3}(I:Am X pins σ H s)(e:H a=some (.dK kvs))(d:B0 (kV k) u)(l:Av kvs k=some v)(j:more=[]\/∃x,more=[x])
  (h:∀c s',Am X pins σ (upd H a (.dK (Bx kvs k))) s'->B0 v c->Q c s'):wpAny (model X.prog X.w) A (call (.builtin "dict.pop") (.ref a::u::more)) Q E s:=by
 obtain⟨z,p,m,b,g⟩:=oi I.aK e;obtain⟨c,C,D⟩:=Ft.some_of (v:=v) (o:=valueAt m k) (by rw[<- l];exact b.val k)
 have w:(keyPart u).isSome=true:=by
  cases k with
  |inl i=>obtain⟨t,q⟩:=(show∃t,u=Value.int i t from d);subst q;rfl
  |inr x=>obtain⟨t,q⟩:=(show∃t,u=Value.str x t from d);subst q;rfl
 have o:argsOk "dict.pop" ⟨.ref a::u::more,[]⟩:=by
  rcases j with q|⟨x,q⟩
  ·subst q;exact PySem.F.args_dict_pop_2 _ _
  ·subst q;exact PySem.F.args_dict_pop_3 _ _ _
 refine call_meetsIn PySem.F.slot_dict_pop g.typeIs PySem.F.entry_dict_pop o (meets_dict_pop_there (De X.prog X.w) a (Sh d) more j w)
  ⟨m,c,g,by rw[<- b.length];exact z,C,λn f B=>h c _ ?_ D⟩
 have r:∃q,n.get? a=some q:=let⟨q,_,_,y,_⟩:=f;⟨q,y⟩;exact Lx I (by rw[e];exact True.intro) B r (aa (ea (S9 kvs k) z) p (b.drop k) f)
end
def zm(i:Expr):Prop:=∀b a,subscripted i false b a=operate [b,a] (getItem b a)
theorem nw{prog:q4}{w:ra}{A:q5}{E:pQ}{s:qU}{env:Env}{pos:Pos}{T id:String}{Q:pQ}
  (n:typeLookup (.type T) "__getitem__"=pure (some (.builtin id)))(p:zm a)
  (h:wpAny (model prog w) A (eval b env) (λo e=>wpAny (model prog w) A (eval a env) (λi c=>c.TypeIs o T/\wpAny (model prog w) A (getItem o i) Q E c) E e) E s):
  wpAny (model prog w) A (eval (.Subscript b a pos) env) Q E s:=by
 refine Subscript_ (iv h (λo e j=>iv j (λi c d=>?_) λ_ _ x=>x) λ_ _ x=>x);obtain⟨m,d⟩:=d;unfold subscriptTail;refine aN ?_;rw[getitemInPython_of_ne m.not_modules];refine aN (wpAny_specialOf m n ?_)
 have g:wpAny (model prog w) A (subscripted a false o i) (λr f=>wpAny (model prog w) A (letTemporaryGo b o r>>=λ_=>pure r) Q E f) E c:=by
  rw[p o i];exact wpAny_operating (iv d (λr f l=>aN (wpAny_letTemporaryGo (a6 l))) λ_ _ x=>x)
 first
  |exact a6 (aN g)
  |exact aN (a6 (aN g))
  |exact aN g
theorem S6(I:Am X c h H s)(g:E5 H a y o):s.TypeIs (.ref a) "dict":=by
 rcases g with⟨f,k,e,_,_⟩|⟨f,k,b,e,_,_,_⟩
 ·obtain⟨_,_,i,_,d⟩:=Mt I.aK e;exact d.typeIs
 ·obtain⟨_,_,j,_,d⟩:=P2 I.aK e;exact d.typeIs
def A1a(e ty:TE):TE:=λc H Q=>e c H λx d=>ty c d λy b=>∃a v,x=.ref a/\E5 b a y (some v)/\Q v b
def A2b(ty e:TE):TE:=λc H Q=>ty c H λy d=>e c d λx b=>∃a o,x=.ref a/\E5 b a y o/\Q (.bl o.isSome) b
def A0v(g ty h:TE):TS:=λD b H=>h b H λv d=>g b d λx e=>ty b e λy f=>∃a c,x=.ref a/\Xa f a y v c/\D.nx b c
section
variable {X:Cx}{o i e value:Expr}{pos pos' qP:Pos}{td ty tv:TE}
theorem M4(z:X.A.units+20<cLine)(r:PE X o td)(q:PE X i ty)(w:zm i):PE X (.Subscript o i pos) (A1a td ty):=by
 intro b s d H Q I h;refine nw PySem.F.slot_dict_getitem.lookup w (Br (r b s d H _ I h) λu F ⟨x,f,l,D,B⟩=>Br (q b F d f _ l B) λG J n=>?_);obtain⟨y,j,c,E,a,v,p,g,C⟩:=n;subst p;obtain rfl:u=Value.ref a:=D;exact⟨S6 c g,Xs z c g E λL K m A=>⟨v,j,m,A,C⟩⟩
theorem Qx(v:X.A.units+20<cLine)(q:PE X i ty)(r:PE X o td):PC X .In i o (A2b ty td):=by
 intro b s c H Q I h;refine Br (q b s c H _ I h) λE D ⟨y,d,j,C,z⟩=>Br (r b D c d _ j z) λu F n=>?_;obtain⟨x,f,l,B,a,w,p,g,A⟩:=n;subst p;obtain rfl:u=Value.ref a:=B;exact A1u v l g C λG m=>⟨.bl w.isSome,f,m,rfl,A⟩
theorem R0(B:X.A.units+20<cLine)(z:PE X o td)(w:PE X i ty)(C:PE X value tv)(A:swapsWith value (some (.Subscript o i pos')) pos.line X.env=pure false):
  PS X (.Assign [.Subscript o i pos'] value pos) (A0v td ty tv):=by
 intro b s c H D I h;refine wpAny_Assign_Subscript (Br (C b s c H _ I h) λr L ⟨v,d,l,rv,E⟩=>Br (z b L c d _ l E) λu M ⟨x,f,m,J,F⟩=>Br (w b M c f _ m F) λO P ⟨y,N,n,K,a,j,q,g,G⟩=>?_) A;subst q;obtain rfl:u=Value.ref a:=J;exact Xt B n g K rv λQ p=>⟨c,j,p,G⟩
end
theorem a9(h:Heap)(a:sysModules<h.objs.size):Bl P w H (h.push {cls:=.type "dict",data:=.dict #[] }) h.objs.size (.dK []):=
 ⟨mu _,beq_eq_false_iff_ne.mpr (Ne.symm (ft a)),[],.nil,Heap.DictOf.new h⟩
theorem ac(h:Heap)(a:sysModules<h.objs.size):Bl P w H (h.push {cls:=.type "dict",data:=.dict #[] }) h.objs.size (.dT []):=
 ⟨mu _,beq_eq_false_iff_ne.mpr (Ne.symm (ft a)),[],.nil,_,#[],0,da _ rfl,⟨rfl,rfl,rfl⟩,rfl,rfl,List.nodup_nil⟩
def yd:TE:=λ_ H Q=>∀p,H p=none->Q (.ref p) (upd H p (.dK []))
def ye:TE:=λ_ H Q=>∀p,H p=none->Q (.ref p) (upd H p (.dT []))
section
variable {X:Cx}{pos:Pos}
theorem ci:PE X (.Dict [] [] pos) yd:=λa s b H Q I h=>
 wpAny_Dict_empty ⟨.ref s.heap.objs.size,_,I.laid (a:=s.heap.objs.size) (o:=.dK []) (t':=s.toks) (λ_ _ q=>cv _ q) (dr _) (a9 s.heap I.big),rfl,h _ (I.aK.fresh (dr _))⟩
theorem Nl:PE X (.Dict [] [] pos) ye:=λa s b H Q I h=>
 wpAny_Dict_empty ⟨.ref s.heap.objs.size,_,I.laid (a:=s.heap.objs.size) (o:=.dT []) (t':=s.toks) (λ_ _ q=>cv _ q) (dr _) (ac s.heap I.big),rfl,h _ (I.aK.fresh (dr _))⟩
end
structure M1(X:Cx)(o:Expr)(m:Str)(apos:Pos)(e:Expr)(cN:Pos):Prop where
 base:attributeBase o m X.env (eval o X.env)=eval o X.env
 qV:((backTo cN (starEach [e] X.env)).all (λx=>!x.1)&&(backToKw cN (keywordEach [] X.env)).all (λx=>x.1.isSome)
  &&decide (([e]:List Expr).length+([]:List Keyword).length+(if([]:List Keyword).isEmpty then 0 else 1)<30))=true
 line:(apos.endLine==cN.line)=true
 trees:backTo cN (starEach [e] X.env)=[(false,eval e X.env)]
structure M2(X:Cx)(o:Expr)(m:Str)(apos:Pos)(e f:Expr)(cN:Pos):Prop where
 base:attributeBase o m X.env (eval o X.env)=eval o X.env
 qV:((backTo cN (starEach [e,f] X.env)).all (λx=>!x.1)&&(backToKw cN (keywordEach [] X.env)).all (λx=>x.1.isSome)
  &&decide (([e,f]:List Expr).length+([]:List Keyword).length+(if([]:List Keyword).isEmpty then 0 else 1)<30))=true
 line:(apos.endLine==cN.line)=true
 trees:backTo cN (starEach [e,f] X.env)=[(false,eval e X.env),(false,eval f X.env)]
def IsD(H:Hp)(a:Addr):Prop:=(∃b,Rd H a (.dK b))\/∃b,Rd H a (.dT b)
theorem Ug(I:Am X g m H s)(d:IsD H a):
  s.TypeIs (.ref a) "dict"/\(∀b,Value.ref a=.ref b->∃c,s.heap.get? b=some c/\c.dict=none)/\(a==sysModules)=false:=by
 rcases d with⟨l,e⟩|⟨l,e⟩
 ·obtain⟨_,j,n,_,f⟩:=Mt I.aK e;refine⟨f.typeIs,λb q=>?_,j⟩;cases q;obtain⟨c,_,_,h,i,_⟩:=f;exact⟨c,h,i.2.1⟩
 ·obtain⟨_,j,o,_,f⟩:=P2 I.aK e;refine⟨f.typeIs,λb q=>?_,j⟩;cases q;obtain⟨c,_,_,h,i,_⟩:=f;exact⟨c,h,i.2.1⟩
section
variable {X:Cx}{pins:List (Addr×Obj)}{σ:St}{H:Hp}{s:qU}{a:Addr}{y d:V}{u r:q3}{o:Option V}{A:q5}{E:pQ}
theorem qt(w:A.units+20<cLine)(I:Am X pins σ H s)(g:E5 H a y o)(p:B0 y u)(n:B0 d r)(h:∀q s',Am X pins σ H s'->B0 (o.getD d) q->Q q s'):
  wpAny (model X.prog X.w) A (call (.builtin "dict.get") [.ref a,u,r]) Q E s:=by
 rcases g with⟨m,k,e,i,l⟩|⟨m,k,b,e,i,v,l⟩
 ·subst i;obtain⟨z,j,B,c,f⟩:=Mt I.aK e;refine call_meetsIn PySem.F.slot_dict_get f.typeIs PySem.F.entry_dict_get (PySem.F.args_dict_get_3 _ _ _) (meets_dict_get_default (De X.prog X.w) a (Sh p) j r) ⟨_,f.mapOf,h _ _ (I.tok _) ?_⟩;rw[l];exact(c.val k).getD n
 ·subst i;cases(show u=Value.ref b from p);obtain⟨z,j,x,c,f⟩:=P2 I.aK e;refine call_meetsIn PySem.F.slot_dict_get f.typeIs PySem.F.entry_dict_get (PySem.F.args_dict_get_3 _ _ _) (meetsH_dict_get_default (D3 X.prog X.w) a b j r) ⟨Eg w,k,x,Kg I.aK v,f,h _ _ (I.tok _) ?_⟩;rw[l];exact(c.val k).getD n
end
def yc(f ty g:TE):TE:=λb H Q=>f b H λx c=>∃a,x=.ref a/\IsD c a/\ty b c λy e=>g b e λz d=>∃o,E5 d a y o/\Q (o.getD z) d
def yg(f ty:TE):TE:=λe H Q=>f e H λx c=>∃a,x=.ref a/\IsD c a/\ty e c λy d=>∃b k v,d a=some (.dK b)/\y=kV k/\Av b k=some v/\Q v (upd d a (.dK (Bx b k)))
section
variable {X:Cx}{o e f:Expr}{apos cN:Pos}{td ty tx:TE}
theorem cg(C:X.A.units+20<cLine)(B:PE X o td)(he:PE X e ty)(A:PE X f tx)(m:M2 X o "get" apos e f cN):PE X (.Call (.Attribute o "get" apos) [e,f] [] cN) (yc td ty tx):=by
 intro b s c H Q I h;refine wpAny_Call_method m.base m.qV m.line PySem.F.plainAttrs_dict PySem.F.slot_dict_get PySem.F.type_dict_get (Br (B b s c H _ I h) λu M v=>?_);obtain⟨x,j,i,J,a,w,d,E⟩:=v;subst w;obtain rfl:u=Value.ref a:=J;obtain⟨O,P,_⟩:=Ug i d;refine⟨O,P,?_⟩;rw[m.trees]
 refine Calls.callWith_builtin rfl (Calls.evalArgs_plain (Calls.spliced_cons (Br (he b M c j _ i E) λS N ⟨y,l,p,K,F⟩=>
  Calls.spliced_cons (Br (A b N c l _ p F) λR U ⟨z,n,q,L,T,g,G⟩=>Calls.spliced_nil ?_))))
 exact qt C q g K L λZ Y r D=>⟨_,n,r,D,G⟩
theorem cj(z:PE X o td)(he:PE X e ty)(m:M1 X o "pop" apos e cN):PE X (.Call (.Attribute o "pop" apos) [e] [] cN) (yg td ty):=by
 intro b s g H Q I h;refine wpAny_Call_method m.base m.qV m.line PySem.F.plainAttrs_dict PySem.F.slot_dict_pop PySem.F.type_dict_pop (Br (z b s g H _ I h) λu G p=>?_);obtain⟨x,i,c,E,a,r,d,C⟩:=p;subst r;obtain rfl:u=Value.ref a:=E;obtain⟨J,K,_⟩:=Ug c d;refine⟨J,K,?_⟩;rw[m.trees];refine Calls.callWith_builtin rfl (Calls.evalArgs_plain (Calls.spliced_cons (Br (he b G g i _ c C) λM N ⟨y,L,j,F,A,k,v,q,w,l,D⟩=>Calls.spliced_nil ?_)));subst w;exact zu j q F l (.inl rfl) λP O n B=>⟨v,_,n,B,D⟩
end
section
variable {κ:Type} [DecidableEq κ]
theorem Ts{kvs:List (κ×V)}{k:κ}(h:Av kvs k=none):¬k∈kvs.map (·.1):=by
 intro m;obtain⟨p,a,e⟩:=fx.mp m;have q:(kvs.any λb=>decide (b.1=k))=true:=List.any_eq_true.mpr ⟨p,a,decide_eq_true e⟩;rw[Eh,h]at q;exact absurd q (by simp)
theorem Y0{p:κ×V}{r:List (κ×V)}{k:κ}(e:p.1=k):Bx (p::r) k=Bx r k:=by
 unfold Bx;rw[List.filter_cons,if_neg (by simp[e])]
end
section
variable {P:q4}{w:ra}{A:q5}{E:pQ}{s:qU}
theorem cf{ok g a val:q3}(f:IsItemIter s.heap it d i n ep ok g)
  (K:∀h',IsItemIterOut h' it d i n ep a val s.heap.objs.size->h'.get? s.heap.objs.size=some {cls:=.type "tuple",data:=.seq #[a,val] }->(∀b o,b≠it->s.heap.get? b=some o->h'.get? b=some o)->Q (.ref s.heap.objs.size) {s with heap:=h'}):
  wpAny (model P w) A (Builtin.Dict_items.pairFromOwner (.ref it) 6 a val) Q E s:=by
 unfold Builtin.Dict_items.pairFromOwner;refine aN (wpAny_newTuple ?_);have y:it<s.heap.objs.size:=dt f;have e:IsItemIter (s.heap.push {cls:=.type "tuple",data:=.seq #[a,val] }) it d i n ep ok g:=cv _ f;have m:(s.heap.push {cls:=.type "tuple",data:=.seq #[a,val] }).get? s.heap.objs.size=some {cls:=.type "tuple",data:=.seq #[a,val] }:=da _ rfl;have p:∀b o,s.heap.get? b=some o->(s.heap.push {cls:=.type "tuple",data:=.seq #[a,val] }).get? b=some o:=λb o z=>cv _ z;show wpAny (model P w) A (Builtin.Dict_items.ownedTupleIsFree (.ref it)>>=_) Q E {s with heap:=s.heap.push {cls:=.type "tuple",data:=.seq #[a,val] } };generalize s.heap.push {cls:=.type "tuple",data:=.seq #[a,val] }=G at e m p⊢;unfold Builtin.Dict_items.ownedTupleIsFree;refine aN (aN (wpAny_field e rfl (x:=.none) rfl (a6 ?_)));simp only[if_true];refine aN (wpAny_field e rfl (x:=ok) rfl (aN (wpAny_field e rfl (x:=g) rfl ?_)));refine aN (wpAny_setField_rec e (by simp) λH r B=>aN ?_);have h:IsItemIter H it d i n ep a g:=r;refine wpAny_setField_rec h (by simp) λI u C=>aN ?_;have j:IsItemIter I it d i n ep a val:=u;refine wpAny_setField_rec j (by simp) λJ v D=>aN ?_;have l:IsItemIterOut J it d i n ep a val s.heap.objs.size:=v;refine wpAny_setField_rec l (by simp) λq x F=>aN (wpAny_letGo (a6 ?_));have up:∀b o,b≠it->G.get? b=some o->q.get? b=some o:=λb o c z=>F.extBut b o c (D.extBut b o c (C.extBut b o c (B.extBut b o c z)));exact K q x (up _ _ (Nat.ne_of_gt y) m) λb o c z=>up b o c (p b o z)
theorem a8{ok u:q3}(a:IsItemIter s.heap it d i es.size ep ok u)(m:s.heap.get? d=some o)(v:o.data=.dict es ep)
  (he:es[i]?=some c)
  (C:∀h',IsItemIterOut h' it d (i+1) es.size ep c.key c.val s.heap.objs.size->h'.get? s.heap.objs.size=some {cls:=.type "tuple",data:=.seq #[c.key,c.val] }->(∀b o,b≠it->s.heap.get? b=some o->h'.get? b=some o)->Q (some (.ref s.heap.objs.size)) {s with heap:=h'}):
  wpAny (model P w) A (pyNext (.ref it)) Q E s:=by
 have g:s.TypeIs (.ref it) "dict_itemiterator":=⟨_,a,rfl⟩;have j:Builtin.Dict_items.ownsTuple "dict_itemiterator"=true:=by decide
 unfold pyNext;refine aN (ov (oe (name:=Str.ofString "__next__") g F.slot_dict_itemiterator_next (hH F.slot_dict_itemiterator_next g F.entry_dict_itemiterator_next ?_ (F.args_dict_itemiterator_next_1 _))));refine aN (a6 (aN (aN (aN (wpAny_typeNameOfWhole_itemiter g (a6 (aN (wpAny_fieldsOf a rfl ?_))))))));simp only[j,if_true];show wpAny _ _ (if(Value.ref d==Value.none)=true then _ else _) _ _ s;rw[if_neg (show¬(Value.ref d==Value.none)=true from Bool.false_ne_true)];refine aN (a6 (aN (wpAny_dictEntries m v ?_)));rw[if_neg (show¬((es.size:Int) != (es.size:Int))=true by simp)];refine aN (a6 (aN (wpAny_dictEpoch m v ?_)));rw[if_neg (show¬((ep:Int) != (ep:Int))=true by simp)];refine a6 ?_;simp only[show¬((i:Int)<0)by omega,if_false,Int.toNat_natCast,he];refine aN (aN (wpAny_typeNameOfWhole_itemiter g (a6 (aN (wpAny_isOneOf_itemiter g ?_)))));show wpAny _ _ (setField (.ref it) 3 (rawInt ((i:Int)+1))>>=_) _ _ s;refine aN (wpAny_setField_rec a (by simp) λf x n=>?_)
 have l:IsItemIter f it d (i+1) es.size ep ok u:=by
  have e:((i+1:Nat):Int)=(i:Int)+1:=by omega
  unfold IsItemIter;rw[e];simpa[rawInt]using x
 have h:Shared.TypeIs {s with heap:=f} (.ref it) "dict_itemiterator":=⟨_,l,rfl⟩;refine aN (fY (aN (wpAny_isOneOf_itemiter h (aN (wpAny_isOneOf_itemiter h ?_)))));have D:f.objs.size=s.heap.objs.size:=n.1;refine cf (s:={s with heap:=f}) l λB p q y=>?_;rw[show(Shared.heap {s with heap:=f}).objs.size=s.heap.objs.size from D]at p q⊢;exact a6 ⟨_,rfl,a6 (C B p q λb o r z=>y b o r (n.extBut b o r z))⟩
end
theorem Mz:si "str" "str"=some true:=by decide+kernel
theorem nv{a:List Str}{us:List q3}(h:Ay (a.map V.str) us):∃l:List (Str×Tok),l.map (·.1)=a/\strValues l=us:=by
 induction a generalizing us with
 |nil=>
  cases h;exact⟨[],rfl,rfl⟩
 |cons z a d=>
  cases h with
  |cons r t=>
   obtain⟨e,rfl⟩:=r;obtain⟨l,b,c⟩:=d t;exact⟨(z,e)::l,by simp[b],by simp[strValues,<- c]⟩
theorem lh{a:Str}{b:List Str}(d:b.length<=500)(hz:∀z∈b,z.length<=30000)(e:a.length<=500):JoinOk a b=true:=by
 refine joinOk_of ?_;have c:=sumLen_le_of_bound (λz:Str=>z) 30000 b hz;have f:b.length*a.length<=500*500:=Nat.mul_le_mul d e;rw[List.map_id']at c;omega
section
variable {X:Cx}
def A0o(K:W.Frag):V->List V->Hp->VK->Prop:=λx d H Q=>∃(b:Str) (a:Addr) (c:List Str),x=.str b/\d=[.ref a]/\Aq K H a (c.map V.str)/\c.length<=500/\(∀z∈c,z.length<=30000)/\b.length<=500/\Q (.str (Txt.join b c)) H
theorem Qq(K:W.Frag)(j:X.K=K:=by rfl):z9 X "str.join" (A0o K):=by
 subst j;intro f s G H x D v C Q I z rv h;obtain⟨c,a,E,rfl,rfl,n,m,p,o,q⟩:=h;obtain⟨t,rfl⟩:=z;obtain⟨u,rfl,y⟩:=rv.one;cases y;obtain⟨A,r,w,_⟩:=I.list n;obtain⟨l,g,i⟩:=nv r;have d:=lh m p o;rw[<- g]at d q;have b:=d;unfold JoinOk at b;rw[Bool.not_eq_true']at b;have e:=w.isList;rw[<- i]at e;exact call_meets F.slot_str_join (typeIs_str _ _ _) F.entry_str_join (F.args_str_join_2 _ _) (meets_str_join_list c t a l b) ⟨e,post_join l ⟨joinFit_length b,λB k=>⟨.str _,H,I.tok _,⟨_,rfl⟩,q⟩⟩⟩
end
section
variable {X:Cx}{pins:List (Addr×Obj)}{σ:St}{H:Hp}{s:qU}{k:Nat}
theorem Hm(I:Am X pins σ H s){d:rb}{v:V}{u:q3}(h:Rp H d v)(r:B0 v u):∃a,Reads s.heap u d a:=Cn I d v u h r
noncomputable def Jc(h:Heap)(d:rb)(w:q3):Bool:=open Classical in if z:∃e a,Reads h w e a/\e.canLay0=true then PyData.eqv z.choose d else false
theorem N3{h:Heap}{d e:rb}{w:q3}{a:List Addr}(r:Reads h w e a)(b:e.canLay0=true):Jc h d w=PyData.eqv e d:=by
 have z:∃e a,Reads h w e a/\e.canLay0=true:=⟨e,a,r,b⟩;unfold Jc;rw[dif_pos z];obtain⟨bs,c,f⟩:=z.choose_spec;rw[(PySem.SeqAt.Reads.unique e _ w a bs b r c)]
theorem Ru(I:Am X pins σ H s){d:rb}:∀{a:List rb}{vs:List V}{us:List q3},aL H a vs->Ay vs us->us.any (Jc s.heap d)=a.any λe=>PyData.eqv e d
 |[],vs,us,h,r=>by
  unfold aL at h;subst h;cases r;rfl
 |e::a,vs,us,h,r=>by
  unfold aL at h;obtain⟨x,j,rfl,b,c⟩:=h;cases r with
  |cons f g=>
   obtain⟨i,q⟩:=Hm I b f;rw[List.any_cons,List.any_cons,N3 q (D6 e x b),Ru I c g]
theorem N5(I:Am X pins σ H s){A:q5}{d:rb}{x:V}{v:q3}(c:Rp H d x)(g:B0 x v)(j:A.units+d.depth<cLine):∀{f:List rb}{vs:List V}{us:List q3},aL H f vs->Ay vs us->∀w∈us,SeqAt.EqAt A s w v (Jc s.heap d w)
 |[],vs,us,h,r,w,b=>by
  unfold aL at h;subst h;cases r;cases b
 |e::f,vs,us,h,r,w,b=>by
  unfold aL at h;obtain⟨y,p,rfl,a,i⟩:=h;cases r with
  |cons m n=>
   rcases eH.mp b with z|z
   ·subst z;obtain⟨o,q⟩:=Hm I a m;obtain⟨bs,l⟩:=Hm I c g;rw[N3 q (D6 e y a)];exact PySem.SeqAt.eqAt_reads e d A s _ _ _ _ q l (D6 e y a) (D6 d x c) (by omega)
   ·exact N5 I c g j i n w z
end
section
variable {X:Cx}{k:Nat}
def A21(K:W.Frag)(b:Bool):R2:=λx y H Q=>∃(p:Addr) (c:List V) (d:rb) (a:List rb),y=.ref p/\Aq K H p c/\Rp H d x/\aL H a c/\d.depth<=50/\Q (.bl (if b then !(a.any λe=>PyData.eqv e d)else a.any λe=>PyData.eqv e d)) H
theorem Yq(K:W.Frag)(g:Be k X.A)(e:X.K=K:=by rfl):Gn X (compareOp .NotIn) (A21 K true):=by
 subst e;intro c s D H x y v u Q I m n h;obtain⟨p,C,d,o,rfl,f,j,a,z,q⟩:=h;cases n;obtain⟨b,r,l,B⟩:=I.list f;have A:=g.units;refine SeqAt.notIn_listAt (Jc s.heap d) l.isList (λw i=>N5 I j m (by show X.A.units+1+d.depth<cLine;omega) a r w (by simpa using i)) ⟨.bl _,H,I,rfl,?_⟩;rw[show b.toArray.any (Jc s.heap d)=b.any (Jc s.heap d)by simp,Ru I a r];exact q
end
theorem Kf{k:Nat}{A:q5}(a:Be k A):A.units+20<cLine:=by have:=a.units;omega
section
variable {X:Cx}
theorem Yu{e:Expr}{t:TE}(h:PE X e t):PE X e (λb H Q=>∃N:VK,t b H N/\∀v c,N v c->Q v c):=by
 intro a s b H Q I z;obtain⟨N,z,m⟩:=z;refine Br (h a s b H N I z) λv l j=>?_;obtain⟨x,d,f,i,g⟩:=j;exact⟨x,d,f,i,m _ _ g⟩
end
def P9:HO->Prop
 | .dK _=>True
 | .dT _=>True
 |_=>False
section
variable {X:Cx}{pins:List (Addr×Obj)}{σ:St}{H:Hp}{s:qU}{d:Addr}
theorem Am.swap(I:Am X pins σ H s)(e:H d=some v)(l:∀xs,v≠ .tup xs)(r:∀ps,v≠ .CH ps)(w:∀y,v≠ .own y)(A:∀o u,X.H₀ d≠some (.fB o u))(ok:Bl X.prog X.w (upd H d u) s.heap d u):Am X pins σ (upd H d u) s:=by
 have h:∀b xs,H b=some (.tup xs)->(upd H d u) b=some (.tup xs):=λb xs z=>by
  rw[A9 (λy=>by rw[y,e]at z;exact l _ (Option.some.inj z))];exact z
 have g:∀b,H b=none->(upd H d u) b=none:=λb z=>by
  rw[A9 (λy=>by rw[y,e]at z;cases z)];exact z
 refine⟨I.ok,I.os,I.bare,⟨I.base.keep,I.base.slot,λb o q n j=>g b (I.base.free b o q n j),I.base.there,λb xs q=>h b xs (I.base.iG b xs q),λb o x q=>?_,λb ps q=>?_⟩,I.loc,I.cell,g _ I.free,λx c z=>g c (I.cP x c z),λp i=>?_,λb o q=>?_,I.len⟩
 ·have f:b≠d:=λy=>by
   rw[y]at q;exact A o x q
  rw[A9 f];exact I.base.gN b o x q
 ·obtain⟨m,z⟩:=I.base.iH b ps q;refine⟨m,?_⟩;rw[A9 (λy=>by rw[y,e]at z;exact r _ (Option.some.inj z))];exact z
 ·obtain⟨a,b,c⟩:=I.pin p i;exact⟨a,g _ b,c⟩
 ·by_cases f:b=d
  ·subst f;rw[A2]at q;cases q;exact ok
  ·rw[A9 f]at q;refine(I.aK b o q).gY (λ_ _ _ z=>z) (λc z=>?_) h;rw[A9 (λy=>by rw[y,e]at z;exact w _ (Option.some.inj z))];exact z
theorem Am.TJ(I:Am X pins σ H s)(e:H d=some v)(a:P9 v):∀o u,X.H₀ d≠some (.fB o u):=λo u z=>by
 have y:=I.base.gN d o u z;rw[e]at y;cases y;exact a
theorem Am.fB(I:Am X pins σ H s)(e:H d=some v)(a:P9 v):∃o,s.heap.get? d=some o/\Am X pins σ (upd H d (.fB o v)) s:=by
 have f:=I.aK d v e
 obtain⟨o,i⟩:∃o,s.heap.get? d=some o:=by
  cases v with
  |dK g=>obtain⟨_,_,_,_,o,_,_,z,_⟩:=f;exact⟨o,z⟩
  |dT g=>obtain⟨_,_,_,_,o,_,_,z,_⟩:=f;exact⟨o,z⟩
  |_=>exact a.elim
 have j:∀h,v≠ .tup h:=λh z=>by rw[z]at a;exact a
 have n:∀m,v≠ .CH m:=λm z=>by rw[z]at a;exact a
 have l:∀y,v≠ .own y:=λy z=>by rw[z]at a;exact a
 refine⟨o,i,I.swap e j n l (I.TJ e a) ⟨i,f.gY (λ_ _ _ z=>z) (λc z=>?_) (λb h z=>?_)⟩⟩
 ·rw[A9 (λy=>by rw[y,e]at z;exact l _ (Option.some.inj z))];exact z
 ·rw[A9 (λy=>by rw[y,e]at z;exact j _ (Option.some.inj z))];exact z
theorem Am.thaw(I:Am X pins σ H s)(e:H d=some (.fB o v))(a:∀o u,X.H₀ d≠some (.fB o u)):Am X pins σ (upd H d v) s:=by
 refine I.swap e (λ_ z=>nomatch z) (λ_ z=>nomatch z) (λ_ z=>nomatch z) a ((I.aK d _ e).2.gY (λ_ _ _ z=>z) (λc z=>?_) (λb f z=>?_))
 ·rw[A9 (λy=>by rw[y,e]at z;cases z)];exact z
 ·rw[A9 (λy=>by rw[y,e]at z;cases z)];exact z
end
def A0w(t:TS):TS:=λD c H=>∃d u,P9 u/\H d=some u/\t {D with nx:=λa b=>∃o,b d=some (.fB o u)/\D.nx a (upd b d u) } c H
section
variable {X:Cx}
theorem R1{st:Stmt}{t:TS}(h:PS X st t):PS X st (A0w t):=by
 intro a s m H D I z;obtain⟨d,u,i,e,z⟩:=z;have j:=I.TJ e i;refine Br (h a s m H _ I z) λf p q=>?_;cases f with
 |next=>
  obtain⟨b,n,c,o,g,l⟩:=q;exact⟨b,_,c.thaw g j,l⟩
 |brk=>exact q
 |cont=>exact q
 |ret v=>exact q
end
section
variable {P:q4}{w:ra}{A:q5}{E:pQ}{s:qU}
theorem a7(c:(d==sysModules)=false)(b:s.heap.get? d=some o)(e:o.ExactDict)
  (h:Q (.ref s.heap.objs.size) {s with heap:=s.heap.push {cls:=.type "dict_items",data:=.fields #[.ref d] } }):wpAny (model P w) A (call (.builtin "dict.items") [.ref d]) Q E s:=by
 have a:s.TypeIs (.ref d) "dict":=⟨o,b,e.1⟩;refine hH F.slot_dict_items a F.entry_dict_items ?_ (F.args_dict_items_1 _);unfold Builtin.«dict.items» Builtin.Dict.noArgs;refine aN (aN (wpAny_notOrdered_dict a ?_));refine aN (wpAny_of_eq (a:=()) rfl ?_);refine aN (wpAny_of_eq (a:=Value.ref d) rfl ?_);refine wpAny_of_eq (a:=d) rfl ?_;refine aN ?_;unfold Builtin.Dict.showsAll;rw[c,if_neg Bool.false_ne_true];refine a6 ?_;refine aN ?_;unfold newFields;exact g6 (a6 ⟨_,rfl,h⟩)
theorem kg(i:s.heap.IsItemsView v d)(c:s.heap.get? d=some o)(e:o.data=.dict es ep)
  (h:Q (.ref s.heap.objs.size) {s with heap:=s.heap.push {cls:=.type "dict_itemiterator",data:=.fields #[.none,.bool false,.ref d,.int 0 0,.int es.size 0,.int ep 0,.none,.none] } }):wpAny (model P w) A (pyIter (.ref v)) Q E s:=by
 obtain⟨j,a,f,g⟩:=i;have b:s.TypeIs (.ref v) "dict_items":=⟨j,a,f⟩;refine wpAny_pyIter_slot b F.slot_dict_items_iter (hH F.slot_dict_items_iter b F.entry_dict_items_iter ?_ (F.args_dict_items_iter_1 _));unfold Builtin.«dict_items.__iter__» Builtin.Dict_items.slot0 Builtin.Dict_items.dictOf Builtin.Dict_items.newIterator;refine aN (aN (wpAny_of_eq (a:=(Value.ref v,[])) rfl (a6 ?_)));refine aN (aN (wpAny_field a g (x:=.ref d) rfl (wpAny_of_eq (a:=d) rfl ?_)));refine aN (aN (wpAny_dictEntries c e (aN (wpAny_dictEpoch c e ?_))));show wpAny (model P w) _ (newObj (.type "dict_itemiterator") (.fields #[.none,.bool false,.ref d,.int 0 0,.int es.size 0,.int ep 0,.none,.none]) none) _ _ _;refine g6 (a6 ⟨_,rfl,"dict_itemiterator",_,⟨_,da _ rfl,rfl⟩,F.slot_dict_itemiterator_next.lookup,h⟩)
theorem qu{ok r:q3}(j:A.handled=none)(a:IsItemIter s.heap it d i es.size ep ok r)(g:s.heap.get? d=some o)(l:o.data=.dict es ep)
  (he:es[i]?=none)(n:∀h',Heap.ExtBut it s.heap h'->Q none {s with heap:=h'}):wpAny (model P w) A (pyNext (.ref it)) Q E s:=by
 have c:s.TypeIs (.ref it) "dict_itemiterator":=⟨_,a,rfl⟩;have f:Builtin.Dict_items.ownsTuple "dict_itemiterator"=true:=by decide
 unfold pyNext;refine aN (ov (oe (name:=Str.ofString "__next__") c F.slot_dict_itemiterator_next (hH F.slot_dict_itemiterator_next c F.entry_dict_itemiterator_next ?_ (F.args_dict_itemiterator_next_1 _))));refine aN (a6 (aN (aN (aN (wpAny_typeNameOfWhole_itemiter c (a6 (aN (wpAny_fieldsOf a rfl ?_))))))));simp only[f,if_true];show wpAny _ _ (if(Value.ref d==Value.none)=true then _ else _) _ _ s;rw[if_neg (show¬(Value.ref d==Value.none)=true from Bool.false_ne_true)];refine aN (a6 (aN (wpAny_dictEntries g l ?_)));rw[if_neg (show¬((es.size:Int) != (es.size:Int))=true by simp)];refine aN (a6 (aN (wpAny_dictEpoch g l ?_)));rw[if_neg (show¬((ep:Int) != (ep:Int))=true by simp)];refine a6 ?_;simp only[show¬((i:Int)<0)by omega,if_false,Int.toNat_natCast,he];refine aN (aN (wpAny_typeNameOfWhole_itemiter c (a6 ?_)));show wpAny _ _ (setField (.ref it) 2 Value.none>>=_) _ _ s;refine aN (wpAny_setField a rfl (by simp) ?_);generalize q:Heap.update s.heap it (Obj.mapFields (·.setIfInBounds 2 Value.none))=h
 have m:Heap.ExtBut it s.heap h:=by
  rw[<- q];exact λb u p e=>(eI _ _ (Ne.symm p)).trans e
 show wpAny (model P w) _ (newExc (.type "StopIteration") []>>=_) _ _ {s with heap:=h};refine aN ?_;simp only[newExc,newTuple];refine aN (g6 (T:="tuple") ?_ (by size_fits));refine aN (m:=firstArgMember _ _) (wpAny_of_eq (a:=Value.none) (by first|rfl|simp only[firstArgMember]) ?_);refine g6 (T:="StopIteration") ?_ (by size_fits);simp only[raiseNew];refine aN (wpAny_handled ?_)
 first|rw[show A.in1.handled=Option.none from j]|rw[j]
 refine aN (a6 (wpAny_throw ?_));refine aN (nB (T:="StopIteration") (b:=true) ⟨_,da _ rfl,rfl⟩ isSubtype_stop ?_);exact a6 (n _ ((m.push _).push _))
end
theorem Xw:entryFor table "dict_itemiterator.__iter__"=some Builtin.«dict_keyiterator.__iter__»:=
 entryFor_alias (id':="dict_keyiterator.__iter__") (by kernel_rfl) (by first|rfl|decide+kernel|(unfold String.splitOn;simp+decide [String.splitOnAux])) (by decide+kernel) (by kernel_rfl)
def itD:HO->Hp->Nat->V->V->Prop
 | .dT a,H,i,x,y=>∃k b,a[i]?=some (k,y)/\x=.ref b/\Iu H b k
 | .dK a,_,i,x,y=>∃k,a[i]?=some (k,y)/\x=kV k
 |_,_,_,_,_=>False
def Dd:HO->Nat
 | .dT a=>a.length
 | .dK a=>a.length
 |_=>0
def qe(d:Addr)(o:Obj)(u:HO):It:=
 ⟨λi H=>H d=some (.fB o u)/\i<Dd u,λi H v a=>∃T x y,v=.ref T/\H T=none/\a=upd H T (.tup [x,y])/\itD u H i x y,λi H=>H d=some (.fB o u)/\Dd u<=i⟩
theorem ln{k:E3}(h:(De P w).is k u=true):B0 (kV k) u:=by
 have a:J6 k u=true:=h;cases k with
 |inl i=>
  cases u<;>simp[J6,Value.isInt]at a
  subst a;exact⟨_,rfl⟩
 |inr x=>
  cases u<;>simp[J6,Value.isStrOf]at a
  subst a;exact⟨_,rfl⟩
theorem Ie:∀{xs:List a}{ys:List b}{i:Nat},Paired F xs ys->i<xs.length->∃x y,xs[i]?=some x/\ys[i]?=some y/\F x y
 |_,_,i,.nil,h=>absurd h (by simp)
 |_,_,0,.cons r _,_=>⟨_,_,rfl,rfl,r⟩
 |_,_,i+1,.cons _ t,h=>by
  obtain⟨x,y,c,d,e⟩:=Ie (i:=i) t (by simpa using h);exact⟨x,y,by simpa using c,by simpa using d,e⟩
theorem Uv(h:Paired F xs ys):xs.length=ys.length:=by
 induction h with
 |nil=>rfl
 |cons r t c=>rw[List.length_cons,List.length_cons,c]
theorem Ph{P:q4}{w:ra}{K:Type}[DecidableEq K]{knd:PySem.KeyKind P w K}:∀{es:List DictEntry}{vs:List (K×q3)}{i:Nat}{a:K×q3},Pairs knd es vs->vs[i]?=some a->∃e,es[i]?=some e/\knd.is a.1 e.key=true/\e.val=a.2
 |_,_,i,a,.nil,h=>by simp at h
 |_,_,0,a,.cons d f _,h=>by
  cases(show some _=some _ from h);exact⟨_,rfl,d,f⟩
 |_,_,i+1,a,.cons _ _ t,h=>by
  obtain⟨e,b,c⟩:=Ph t (i:=i) (by simpa using h);exact⟨e,by simpa using b,c⟩
theorem Yt{P:q4}{w:ra}{K:Type}[DecidableEq K]{knd:PySem.KeyKind P w K}{es:List DictEntry}{vs:List (K×q3)}(h:Pairs knd es vs):es.length=vs.length:=by
 induction h with
 |nil=>rfl
 |cons r q t a=>rw[List.length_cons,List.length_cons,a]
theorem ae(ok:Bl P w H h d u)(I:P9 u)(z:h.get? d=some o)(v:o.data=.dict es ep):
  es.size=Dd u/\∀i,i<Dd u->∃e x y,es[i]?=some e/\B0 x e.key/\B0 y e.val/\itD u H i x y:=by
 cases u with
 |dT a=>
  obtain⟨_,_,N,r,J,A,L,b,G,c,l,m⟩:=ok;rw[z]at b;cases b;rw[v]at c;cases c;have s:=Uv r;refine⟨?_,λi n=>?_⟩
  ·show es.size=a.length;rw[<- Array.length_toList,l,List.length_map,s]
  ·obtain⟨p,q,f,g,j,B,C⟩:=Ie r n;refine⟨entryOfKey (D3 P w) q,.ref q.2.1,p.2,?_,rfl,C,p.1,q.2.1,f,rfl,B⟩;rw[<- Array.getElem?_toList,l,List.getElem?_map,g];rfl
 |dK a=>
  obtain⟨_,_,K,r,J,A,L,b,G,c,l,m,M⟩:=ok;rw[z]at b;cases b;rw[v]at c;cases c;have s:a.length=K.length:=r.length;refine⟨?_,λi n=>?_⟩
  ·show es.size=a.length;rw[<- Array.length_toList,Yt m,s]
  ·obtain⟨p,q,f,g,j⟩:=Ie r n;obtain⟨e,D,E,F⟩:=Ph m g;refine⟨e,kV p.1,p.2,by rw[<- Array.getElem?_toList];exact D,?_,?_,p.1,f,rfl⟩
   ·rw[j.1];exact ln E
   ·rw[F];exact j.2
 |_=>exact I.elim
theorem Vq{P:q4}{w:ra}{K:W.Frag}{l:List Expr}{kk:Nat}{pos:Pos}{it d:Addr}{o:Obj}{u:HO}{es:Array DictEntry}{ep:Nat}(U:P9 u)(q:o.data=.dict es ep)(eJ:d≠it):
  Pz P w K (.Tuple l kk pos) (qe d o u) [it] it (λi h=>∃ok g,IsItemIter h it d i es.size ep ok g)where
 mem:=by simp
 obj:=λi h ⟨ok,g,a⟩ b hb=>by
  have e:b=it:=by simpa using hb
  subst e;exact⟨_,a,λv z=>by cases z⟩
 keep:=λi h C ⟨ok,g,a⟩ k=>⟨ok,g,k it (by simp) _ a⟩
 item:=by
  intro X G M D f i p s σ H E I r ⟨ok,g,a⟩ ⟨O,m⟩;subst G M D;obtain⟨n,B⟩:=I.aK d _ O;obtain⟨L,Y⟩:=ae B U n q;obtain⟨e,x,y,e1,rx,ry,hi⟩:=Y i m;have T:it<s.heap.objs.size:=dt a;refine a8 a n q e1 λC a1 a2 a3=>⟨_,rfl,?_⟩;refine wpAny_letOwnedTupleGo_items (s:={s with heap:=C}) a1 λZ b1 S=>?_;have R:Z.get? s.heap.objs.size=some {cls:=.type "tuple",data:=.seq #[e.key,e.val] }:=S.extBut _ _ (Nat.ne_of_gt T) a2;refine⟨.ref s.heap.objs.size,upd H s.heap.objs.size (.tup [x,y]),I.mY (t':=s.toks) (ch:=[it]) r (λc N f e=>?_) (dr _) ?_,rfl,⟨_,x,y,rfl,I.fresh,rfl,hi⟩,⟨_,_,b1⟩,λc f=>?_⟩
  ·have j:c≠it:=by simpa using f
   exact S.extBut _ _ j (a3 c N j e)
  ·exact⟨⟨ea (by decide:2<=1000) (Rg (dr _)),_,R,rfl⟩,[e.key,e.val],.cons rx (.cons ry .nil),⟨_,R,rfl,0,rfl⟩⟩
  ·have j:c=it:=by simpa using f
   subst j;rw[A9 (Nat.ne_of_lt T)];exact(r c f).1
 done:=by
  intro X G M D f i p s σ H E I r ⟨ok,g,a⟩ ⟨O,m⟩;subst G M D;obtain⟨n,B⟩:=I.aK d _ O;obtain⟨L,Y⟩:=ae B U n q;refine qu (I.ok.hd f) a n q (Array.getElem?_eq_none (by omega)) λC eb=>⟨rfl,I.mZ (t':=s.toks) (ch:=[it]) r λc N f e=>?_⟩;have j:c≠it:=by simpa using f
  exact eb c N j e
 self:=λA i s Q E ⟨ok,g,a⟩ hQ=>by
  have J:s.TypeIs (.ref it) "dict_itemiterator":=⟨_,a,rfl⟩;refine wpAny_pyIter_slot J F.slot_dict_itemiterator_iter (hH F.slot_dict_itemiterator_iter J Xw ?_ (F.args_dict_itemiterator_iter_1 _));exact a6 ⟨_,rfl,"dict_itemiterator",_,J,F.slot_dict_itemiterator_next.lookup,hQ⟩
section
variable {X:Cx}
def rk(b:TE):TI:=λc H R=>b c H λx a=>∃d u,x=.ref d/\P9 u/\a d=some u/\∀o,R (qe d o u) (upd a d (.fB o u))
theorem Np{j:List Expr}{kk:Nat}{qP g pos:Pos}{e:Expr}{S:TE}(he:PE X e S)(qQ:attributeBase e "items" X.env (eval e X.env)=eval e X.env:=by rfl)(qR:(g.endLine==pos.line)=true:=by rfl):
  PI X (.Tuple j kk qP) (.Call (.Attribute e "items" g) [] [] pos) (rk S):=by
 intro w s σ H R I h;refine wpAny_Call_method0_late qQ qR (Br (he w s σ H _ I h) λv f Z=>?_);obtain⟨x,U,O,r1,d,u,ex,J,Q,q⟩:=Z;subst ex;obtain rfl:v=Value.ref d:=r1;obtain⟨o,i,D⟩:=O.fB Q J
 obtain⟨B,A,K,T,n⟩:∃B A,o.ExactDict/\o.data=.dict B A/\(d==sysModules)=false:=by
  have P:=O.aK d u Q;cases u with
  |dT L=>
   obtain⟨_,y,xs,r,o',C,N,l,E,F,_⟩:=P;rw[i]at l;cases l;exact⟨C,N,E,F,y⟩
  |dK L=>
   obtain⟨_,y,vs,r,o',C,N,l,E,F,_⟩:=P;rw[i]at l;cases l;exact⟨C,N,E,F,y⟩
  |_=>exact J.elim
 have hT:f.TypeIs (.ref d) "dict":=⟨o,i,K.1⟩;refine⟨"dict","dict.items",PySem.F.plainAttrs_dict,PySem.F.slot_dict_items,PySem.F.type_dict_items,hT,?_,Calls.callWith_builtin rfl (PySem.evalArgs_none (a7 n i K ?_))⟩
 ·intro a z;cases z;exact⟨o,i,K.2.1⟩
 have G:(f.heap.push {cls:=.type "dict_items",data:=.fields #[.ref d] }).get? d=some o:=cv _ i;refine kg (s:={f with heap:=f.heap.push {cls:=.type "dict_items",data:=.fields #[.ref d] } }) ⟨_,da _ rfl,rfl,rfl⟩ G T ?_;have hk:∀b M,f.heap.get? b=some M->((f.heap.push {cls:=.type "dict_items",data:=.fields #[.ref d] }).push {cls:=.type "dict_itemiterator",data:=.fields #[.none,.bool false,.ref d,.int 0 0,.int B.size 0,.int A 0,.none,.none] }).get? b=some M:=λb M z=>cv _ (cv _ z);have p:(f.heap.push {cls:=.type "dict_items",data:=.fields #[.ref d] }).objs.size=f.heap.objs.size+1:=by simp[Heap.push]
 have Y:d<f.heap.objs.size:=dt i;refine⟨_,[_],_,qe d o u,upd U d (.fB o u),rfl,D.kept (t':=f.toks) hk,Vq (es:=B) (ep:=A) J T ?_,⟨.none,.none,da _ rfl⟩,λc hc=>?_,q o⟩
 ·rw[p];exact ft (Nat.lt_succ_of_lt Y)
 ·have m:f.heap.objs.size<=c:=by
   have:c=(f.heap.push {cls:=.type "dict_items",data:=.fields #[.ref d] }).objs.size:=by simpa using hc
   rw[this,p];omega
  exact D.qO m (D.aK.fresh m)
end
theorem P5{o:Obj}{u:HO}{d:Addr}{g:TG}{r:TS}{D:Hq}{a:St}{H:Hp}(b:Nat->St->Hp->Prop)(w:b 0 a H)(E:∀i a H,i<=Dd u->b i a H->H d=some (.fB o u))
  (F:∀i x y T a H,i<Dd u->itD u H i x y->b i a H->H T=none->g (.ref T) a (upd H T (.tup [x,y])) λh j=>r {D with nx:=b (i+1),ct:=b (i+1),bk:=D.nx} h j)(B:∀a H,b (Dd u) a H->D.nx a H):
  ∃W:Nat->Nat->St->Hp->Prop,(∃m,W 0 m a H)/\∀i m a H,W i m a H->
   ((qe d o u).stop i H/\D.nx a H)\/((qe d o u).go i H/\∃N:St->Hp->Prop,(∀f c,N f c->∃n,n<m/\W (i+1) n f c)/\∀x c,(qe d o u).CK i H x c->g x a c λh j=>r {D with nx:=N,ct:=N,bk:=D.nx} h j):=by
 refine⟨λi m a H=>m=Dd u-i/\i<=Dd u/\b i a H,⟨Dd u,by simp,mu _,w⟩,?_⟩;rintro i m a H ⟨rfl,C,p⟩;have q:=E i a H C p;by_cases l:i<Dd u
 ·refine .inr ⟨⟨q,l⟩,b (i+1),λf c G=>⟨Dd u-(i+1),by omega,rfl,l,G⟩,λv c y=>?_⟩;obtain⟨T,x,z,rfl,A,rfl,s⟩:=y;exact F i x z T a H l s p A
 ·have e:i=Dd u:=by omega
  subst e;exact .inl ⟨⟨q,dr _⟩,B a H p⟩
theorem U4{K:W.Frag}{o:Obj}{u:HO}{d:Addr}{w:List Nat}{n:TT}{l:TE}{f:St}{D:Addr}{A:Hp}{Q:Hp->Prop}(g:Nat->List V->Hp->Prop)(E:g 0 [] (upd A D (.lst [])))
  (J:∀i a H,i<=Dd u->g i a H->H d=some (.fB o u))
  (L:∀i x y T a H,i<Dd u->itD u H i x y->g i a H->H T=none->n (some x::some y::Cv w f) (upd H T (.tup [x,y])) λb r=>
   if b=true then l (some x::some y::Cv w f) r λv s=>s D=some (.lst a)/\a.length<sizeLine/\g (i+1) (a++[v]) (upd s D (.lst (a++[v])))else g (i+1) a r)
  (N:∀f H Q h,(∀b c,Q b c->h b c)->n f H Q->n f H h)(M:∀f H Q h,(∀v c,Q v c->h v c)->l f H Q->l f H h)
  (G:∀a H,g (Dd u) a H->Q H):Dc 2 w (qe d o u) (re K) n l f D A Q:=by
 refine⟨λi m a H=>m=Dd u-i/\i<=Dd u/\g i a H,⟨Dd u,by simp,mu _,E⟩,?_⟩;rintro i m a c ⟨rfl,I,p⟩;have B:=J i a c I p;by_cases j:i<Dd u
 ·refine .inr ⟨⟨B,j⟩,λv S y=>?_⟩;obtain⟨T,x,z,rfl,F,rfl,C⟩:=y;refine⟨T,_,rfl,Cf.of A2,rfl,x,_,rfl,z,_,rfl,rfl,⟨[some x,some z],rfl,rfl⟩,?_⟩;refine N _ _ _ _ ?_ (L i x z T a c j C p F);intro b r q;cases b with
  |false=>exact⟨Dd u-(i+1),by omega,rfl,j,q⟩
  |true=>exact M _ _ _ _ (λv s ⟨O,P,R⟩=>⟨O,P,Dd u-(i+1),by omega,rfl,j,R⟩) q
 ·have e:i=Dd u:=by omega
  subst e;exact .inl ⟨⟨B,dr _⟩,G a c p⟩
section
variable {prog:q4}{w:ra}{K:Type} [DecidableEq K] {knd:HeapKind prog w K}{A:q5}{E:pQ}{s:qU}{d a:Addr}{k:K}{xs:List (K×Addr×q3)}
theorem Yc{v:q3}(c:(xs.map (·.1)).Nodup)(b:k∉xs.map (·.1)):((xs++[(k,a,v)]).map (·.1)).Nodup:=by
 rw[List.map_append,List.nodup_append];refine⟨c,by simp,λx f y g=>?_⟩;have e:y=k:=by simpa using g
 rw[e];exact λe=>b (e▸f)
theorem gw{b:q3}{Q:pQ}(r:knd.room A)(n:knd.is s.heap k a)(D:s.heap.DictOfH knd d xs)(hsz:xs.length<=sizeLine)
  (h1:∀p,atKey xs k=some p->Q p.2 {s with toks:=s.toks+knd.draws k})
  (B:atKey xs k=none->∀h',h'.DictOfH knd d (xs++[(k,a,b)])->Heap.SameBut d s.heap h'->Q b {s with heap:=h',toks:=s.toks+knd.draws k}):
  wpAny (model prog w) A (dictSetDefault d (.ref a) b) Q E s:=by
 obtain⟨o,z,y,f,C,c,i,g,l⟩:=D;unfold dictSetDefault
 try with_reducible refine fY ?_
 refine aN (knd.pyHash r n ?_);refine aN (wpAny_dictFind_heap (s:={s with toks:=s.toks+knd.draws k}) r n f c i g l ?_ ?_)
 ·intro u;have v:k∉xs.map (·.1):=not_mem_keys_of_get u;have m:=atKey_none_of_get u
  have F:z.size<=sizeLine:=by
   have e:=size_of_entries i;omega
  refine aN (nC (aN (wpAny_updateDictKeys (hz:=F) (s:={s with toks:=s.toks+knd.draws k}) f c (a6 (B m _
   ⟨_,_,y+1,g0 _ f (Obj.isFreed_of_dict (Obj.data_mapDictKeys c _)),C.mapDictKeys _,Obj.data_mapDictKeys c _,?_,?_,Yc l v⟩ (il ..))))))
  ·simp[i,entryOfKey]
  ·intro x h;rcases fF.mp h with h|h
   ·exact knd.keeps (g x h) f c (il ..)
   ·cases k8.mp h;exact knd.keeps n f c (il ..)
 ·intro j p q;have m:=atKey_of_get l q;refine aN (wpAny_dictEntries (s:={s with toks:=s.toks+knd.draws k}) f c ?_);rw[entry_at i j,q];exact aN (nC (a6 (h1 p m)))
theorem Uq(i:(d==sysModules)=false)(b:q3):
  MeetsIn prog w (Builtin.«dict.setdefault» ⟨[.ref d,.ref a,b],[]⟩) (λA R s=>knd.room A.in1/\∃k xs,knd.is s.heap k a/\s.heap.DictOfH knd d xs/\xs.length<=sizeLine/\
   (∀p,atKey xs k=some p->R (.ok (.ret p.2)) {s with toks:=s.toks+knd.draws k})/\
   (atKey xs k=none->∀c,c.DictOfH knd d (xs++[(k,a,b)])->Heap.SameBut d s.heap c->R (.ok (.ret b)) {s with heap:=c,toks:=s.toks+knd.draws k})):=
 .of_wp λA R s ⟨m,k,xs,q,e,n,g,h⟩=>by
  unfold Builtin.«dict.setdefault» Builtin.Dict.keyAndDefault;refine aN (aN (wpAny_notOrdered_dict e.typeIs ?_));show wpAny _ _ (pure (d,Value.ref a,some b)) _ _ s;refine a6 ?_;show wpAny _ _ (if(d==sysModules)=true then _ else(dictSetDefault d (.ref a) b>>=_)) _ _ s;rw[if_neg (by rw[i];exact Bool.false_ne_true)];exact aN (gw m q e n (λp l=>a6 ⟨p.2,rfl,g p l⟩) λj c o f=>a6 ⟨b,rfl,h j c o f⟩)
end
section
variable {X:Cx}{pins:List (Addr×Obj)}{σ:St}{H:Hp}{s:qU}{a b:Addr}{kvs:pR}{k:qG×Int}{z:V}{r:q3}{A:q5}{E:pQ}
theorem zw(L:A.units+20<cLine)(I:Am X pins σ H s)(e:H a=some (.dT kvs))(j:Iu H b k)(R:kvs.length<sizeLine)(N:B0 z r)
  (h1:∀v o s',Av kvs k=some v->Am X pins σ H s'->B0 v o->Q o s')(G:Av kvs k=none->∀s',Am X pins σ (upd H a (.dT (Cg kvs k z))) s'->Q r s'):
  wpAny (model X.prog X.w) A (call (.builtin "dict.setdefault") [.ref a,.ref b,r]) Q E s:=by
 obtain⟨O,m,u,g,i⟩:=oj I.aK e;have M:u.length<=sizeLine:=by rw[<- Paired.length g];exact O
 have d:=g.val k;refine call_meetsIn PySem.F.slot_dict_setdefault i.typeIs PySem.F.entry_dict_setdefault (PySem.F.args_dict_setdefault_3 _ _ _) (Uq (knd:=D3 X.prog X.w) m r) ⟨Eg L,k,u,Kg I.aK j,i,M,λp h=>?_,λJ P w K=>?_⟩
 ·rw[h]at d;cases f:Av kvs k with
  |none=>rw[f]at d;exact d.elim
  |some v=>
   rw[f]at d;exact h1 v p.2 _ f (I.tok _) d
 ·rw[J]at d;cases f:Av kvs k with
  |some v=>rw[f]at d;exact d.elim
  |none=>
   have h:Cg kvs k z=kvs++[(k,z)]:=Jl z f;refine G f _ ?_;rw[h];obtain⟨q,y,x,n,B,C,D,_,F⟩:=w;refine Lx I (by rw[e];exact True.intro) K ⟨q,n⟩ ⟨by rw[List.length_append,List.length_singleton];omega,m,_,KT.keeps (Paired.snoc g ⟨rfl,j,N⟩) (λc S l=>?_),q,y,x,n,B,C,D,F⟩;rw[A9 (Bf l e (λz=>nomatch z))];exact l
end
def A1b(h ty i:TE):TE:=λe H Q=>h e H λx f=>∃a,x=.ref a/\IsD f a/\ty e f λy g=>i e g λz d=>∃c k b,y=.ref b/\Iu d b k/\d a=some (.dT c)/\c.length<sizeLine/\
 (∀v,Av c k=some v->Q v d)/\(Av c k=none->Q z (upd d a (.dT (Cg c k z))))
section
variable {X:Cx}{o e f:Expr}{apos cN:Pos}{td ty tx:TE}
theorem mm(L:X.A.units+20<cLine)(K:PE X o td)(he:PE X e ty)(F:PE X f tx)(m:M2 X o "setdefault" apos e f cN):PE X (.Call (.Attribute o "setdefault" apos) [e,f] [] cN) (A1b td ty tx):=by
 intro c s i H Q I h;refine wpAny_Call_method m.base m.qV m.line PySem.F.plainAttrs_dict PySem.F.slot_dict_setdefault PySem.F.type_dict_setdefault (Br (K c s i H _ I h) λu s1 A=>?_);obtain⟨x,n,j,Y,a,D,d,R⟩:=A;subst D;obtain rfl:u=Value.ref a:=Y;obtain⟨t1,t2,_⟩:=Ug j d;refine⟨t1,t2,?_⟩;rw[m.trees]
 refine Calls.callWith_builtin rfl (Calls.evalArgs_plain (Calls.spliced_cons (Br (he c s1 i n _ j R) λN s2 ⟨y,p,r,Z,S⟩=>
  Calls.spliced_cons (Br (F c s2 i p _ r S) λfv s3 ⟨z,q,w,l,O,k,b,E,C,B,G,T,U⟩=>Calls.spliced_nil ?_))))
 subst E;obtain rfl:N=Value.ref b:=Z;exact zw L w B C G l (λv w' s4 M g P=>⟨v,q,g,P,T v M⟩) λJ s4 g=>⟨z,_,g,l,U J⟩
theorem Wn(w:PE X a n)(he:∀b,isTrue a X.env b=(do let v <- b;standAt a.pos;holding [v] (truthy v)):=by intro _;rfl):
  PT X a (λj H Q=>n j H λx l=>∃d kvs,x=.ref d/\Rd l d (.dK kvs)/\Q (!kvs.isEmpty) l):=by
 intro c s j H Q I h;refine isTrue_plain (Br (w c s j H _ I h) λv E ⟨x,p,m,D,d,kvs,r,y,C⟩=>?_) (he _);subst r;obtain rfl:v=Value.ref d:=D;obtain⟨z,B,i,g,q⟩:=Mt m.aK y;have A:kvs.length=i.length:=g.length;have u:sizeLine<2^30:=by decide
 refine wpAny_truthy_dict B q (by omega) ⟨p,m.tok _,?_⟩
 have e:kvs.isEmpty=i.isEmpty:=by
  cases kvs<;>cases i<;>simp at A<;>rfl
 rw[<- e];exact C
end
open PySem PySem.Spec PyProof.Rows PySem.SeqAt
def qd(A:q5)(s:qU)(x y:q3)(b:Bool):Prop:=∀(a:q4) (w:ra) (E:pQ) (Q:pQ),Q (.bool b) s->wpAny (model a w) A (richCompare .Gt x y) Q E s
theorem yl(l b:Addr)(xs ys:Array q3)(n S:Nat)(dd F:Option Addr)(U G:Array (Option q3))(e:Nat->Bool)(r:Bool):
  Meets (Builtin.«tuple.__gt__» ⟨[.ref l,.ref b],[]⟩)
   (λA R s=>s.heap.get? l=some {cls:=.type "tuple",dict:=dd,data:=.seq xs n,slots:=U}/\s.heap.get? b=some {cls:=.type "tuple",dict:=F,data:=.seq ys S,slots:=G}/\
    (∀j (m:j<xs.size) (o:j<ys.size),EqAt A.in1 s xs[j] ys[j] (e j))/\(∀j (m:j<xs.size) (o:j<ys.size),(∀i,i<j->e i=true)->e j=false->qd A.in1 s xs[j] ys[j] r)/\
    ((∀j,j<min xs.size ys.size->e j=true)->r=decide (xs.size>ys.size))/\R (.ok (.ret (.bool r))) s):=
 .of_wp λa w A R s h=>by
  obtain⟨N,g,d,X,T⟩:=s;obtain⟨M,I,J,K,Q,h⟩:=h;have f2:=AutoSeq1.sub_tuple_tuple;have hZ:(xs.toList.zip ys.toList).length=min xs.size ys.size:=by simp
  wp_walk using wpAny_loadPart' M,wpAny_loadPart' I,wpAny_forIn_list _ (λc b B=>b.1=none/\B=⟨N,g,d,X,T⟩/\∃i,c=(xs.toList.zip ys.toList).drop i/\∀k,k<i->k<min xs.size ys.size->e k=true) _
  case turn=>
   rintro⟨y,x⟩ c b B ⟨v,rfl,i,f,p⟩
   have H:i<(xs.toList.zip ys.toList).length:=by
    apply Classical.byContradiction;intro z;rw[List.drop_of_length_le (by omega)]at f;cases f
   have m:i<xs.size:=by omega
   have o:i<ys.size:=by omega
   rw[List.drop_eq_getElem_cons H]at f;injection f with C Y;have u:y=xs[i]:=by simpa using congrArg Prod.fst C
   have P:x=ys[i]:=by simpa using congrArg Prod.snd C
   subst u P;refine aN (J i m o a w _ _ ?_);cases u:e i with
   |true=>
    wp_walk
    refine⟨rfl,rfl,i+1,Y,λk q E=>?_⟩;by_cases z:k=i
    ·rw[z];exact u
    ·exact p k (by omega) E
   |false=>
    have D:=K i m o (λk q=>p k q (by omega)) u a w
    wp_walk using D _ _
    exact⟨_,rfl,h⟩
  case fin=>
   rintro⟨b1,b2⟩ B ⟨v,rfl,i,f,p⟩;simp only at v;subst v
   have Z:min xs.size ys.size<=i:=by
    apply Classical.byContradiction;intro z;rw[List.drop_eq_getElem_cons (by omega)]at f;cases f
   have O:=Q λj L=>p j (by omega) L
   wp_walk
   refine⟨_,rfl,?_⟩;rw[O]at h;simpa[Builtin.Tuple.tupleCompareSizes]using h
  case h=>
   exact⟨rfl,rfl,0,rfl,λk q=>absurd q (nU k)⟩
mutual
def Zd:rb->rb->Bool
 | .int a,.int b=>decide (a>b)
 | .tuple c,.tuple d=>cQ c d
 |_,_=>false
def cQ:List rb->List rb->Bool
 |[],[]=>false
 |[],_::_=>false
 |_::_,[]=>true
 |x::a,y::b=>if PyData.eqv x y then cQ a b else Zd x y
end
theorem P7:∀(xs ys:List rb),(∀j,j<min xs.length ys.length->pairEq xs ys j=true)->cQ xs ys=decide (xs.length>ys.length)
 |[],[],_=>rfl
 |[],y::ys,_=>by simp[cQ]
 |x::xs,[],_=>by simp[cQ]
 |x::xs,y::ys,h=>by
  have a:PyData.eqv x y=true:=h 0 (by simp only[List.length_cons];omega);have b:=P7 xs ys λj c=>h (j+1) (by simp only[List.length_cons];omega);rw[cQ,if_pos a,b];simp
mutual
theorem Se:∀(i d:rb) (A:q5) (s:qU) (a b:q3) (Y bs:List Addr),Reads s.heap a i Y->Reads s.heap b d bs->i.canLay0=true->d.canLay0=true->Jx i d->
  A.units+min i.depth d.depth<cLine->qd A s a b (Zd i d)
 | .int x,d,A,s,_,_,_,_,J,K,_,_,c,q=>by
  cases d with
  |int y=>
   cases J with
   |int _ t=>
    cases K with
    |int _ u=>
     intro m w E Q h;exact richCompare_gives (op:=.Gt) (typeIs_int s _ t) (typeIs_int s _ u) F.slot_int_gt F.entry_int_gt (F.args_int_gt_2 _ _) (gives_int_gt _ _ t u) (λz=>nomatch z) h
  |none=>exact c.elim
  |bool _=>exact c.elim
  |str _=>exact c.elim
  |list _=>exact c.elim
  |tuple _=>exact c.elim
  |dict _=>exact c.elim
 | .tuple e,d,A,s,_,_,_,_,J,K,O,P,c,q=>by
  cases d with
  |tuple g=>
   cases J with
   |@tuple l o r n _ v L M N C=>
    cases K with
    |@tuple l' o' p n' _ B R S T H=>
     obtain⟨oc,od,odt,nO⟩:=o;obtain⟨oc',I,U,X⟩:=o';simp only at M N S T;subst M N S T;have n1:r.size=e.length:=by simpa using ReadsAll.length _ _ _ C
     have n2:p.size=g.length:=by simpa using ReadsAll.length _ _ _ H
     intro m w E Q h;refine richCompare_meets_room (op:=.Gt) ⟨_,L,rfl⟩ ⟨_,R,rfl⟩ F.slot_tuple_gt F.entry_tuple_gt (F.args_tuple_gt_2 _ _) (yl l l' r p n n' od I nO X (pairEq e g) (cQ e g)) ⟨L,R,λj D G=>?_,λj D G Z f2=>?_,λf=>?_,(λz=>nomatch z),h⟩ (room_here q)
     ·have:=eqAt_readsAll e g A.in1 s r.toList p.toList _ _ C H O P (room_in q) j (by simpa using D) (by simpa using G);simpa using this
     ·have:=kP e g A.in1 s r.toList p.toList _ _ C H O P c (room_in q) j (by simpa using D) (by simpa using G) Z f2;simpa using this
     ·rw[n1,n2]at f⊢;exact P7 e g f
  |none=>exact c.elim
  |bool _=>exact c.elim
  |str _=>exact c.elim
  |list _=>exact c.elim
  |int _=>exact c.elim
  |dict _=>exact c.elim
 | .none,_,_,_,_,_,_,_,_,_,_,_,c,_=>c.elim
 | .bool _,_,_,_,_,_,_,_,_,_,_,_,c,_=>c.elim
 | .str _,_,_,_,_,_,_,_,_,_,_,_,c,_=>c.elim
 | .list _,_,_,_,_,_,_,_,_,_,_,_,c,_=>c.elim
 | .dict _,_,_,_,_,_,_,_,_,_,_,_,c,_=>c.elim
theorem kP:∀(xs ys:List rb) (A:q5) (s:qU) (vs ws:List q3) (o bs:List Addr),ReadsAll s.heap vs xs o->ReadsAll s.heap ws ys bs->PyData.canLayAll0 xs=true->PyData.canLayAll0 ys=true->iM xs ys->
  A.units+min (PyData.depthAll xs) (PyData.depthAll ys)<cLine->∀j (h1:j<vs.length) (a:j<ws.length),(∀i,i<j->pairEq xs ys i=true)->pairEq xs ys j=false->qd A s vs[j] ws[j] (cQ xs ys)
 |[],_,_,_,_,_,_,_,c,_,_,_,_,_,j,h1,_,_,_=>by cases c;exact absurd h1 (nU _)
 |_::_,[],_,_,_,_,_,_,_,d,_,_,_,_,j,_,a,_,_=>by cases d;exact absurd a (nU _)
 |x::xs,y::ys,A,s,_,_,_,_,c,d,p,q,m,u,j,h1,a,h,l=>by
  cases c with
  |cons z B=>
   cases d with
   |cons v w=>
    have f:x.canLay0=true/\PyData.canLayAll0 xs=true:=by simpa[PyData.canLayAll0]using p
    have g:y.canLay0=true/\PyData.canLayAll0 ys=true:=by simpa[PyData.canLayAll0]using q
    have n:A.units+min x.depth y.depth<cLine/\A.units+min (PyData.depthAll xs) (PyData.depthAll ys)<cLine:=by
     simp only[PyData.depthAll]at u;omega
    cases j with
    |zero=>
     have e:cQ (x::xs) (y::ys)=Zd x y:=by
      have b:PyData.eqv x y=false:=l;rw[cQ,b];rfl
     rw[e];exact Se x y A s _ _ _ _ z v f.1 g.1 m.1 n.1
    |succ j=>
     have e:cQ (x::xs) (y::ys)=cQ xs ys:=by
      have b:PyData.eqv x y=true:=h 0 (Nat.succ_pos _);rw[cQ,b];rfl
     rw[e];exact kP xs ys A s _ _ _ _ B w f.2 g.2 m.2 n.2 j (Nat.lt_of_succ_lt_succ h1) (Nat.lt_of_succ_lt_succ a) (λi r=>h (i+1) (Nat.succ_lt_succ r)) l
end
section
variable {X:Cx}{k:Nat}
def A2o:R2:=λx y H Q=>∃d e:rb,Rp H d x/\Rp H e y/\Jx d e/\d.depth<=60/\Q (.bl (Zd d e)) H
end
open PySem PySem.Spec PyProof.Rows PySem.SeqAt
theorem E4(bt:Nat->Nat->Bool)(j:Nat):argBest bt (j+1)=if bt (j+1) (argBest bt j)=true then j+1 else argBest bt j:=by
 first
  |rfl
  |(show(if bt (j+1) (argBest bt j)then j+1 else argBest bt j)=_;rfl)
section
variable {prog:q4}{w:ra}{A:q5}{R:Result->qU->Prop}{I S:Addr}{fp wr:List Addr}{St:Nat->Heap->Prop}{aH:Array q3}{bt:Nat->Nat->Bool}{Good:Heap->Prop}
theorem R6(h:wpAny (model prog w) A.in1 (Builtin.«min.loop» a) (λb s'=>match b with
   | .done f=>R (.ok f) s'
   | .again c=>c.quiet=true/\codeAny (model prog w) A c R s') (λe s'=>R (.error e) s') s):codeAny (model prog w) A (.builtin "min.loop" a) R s:=by
 refine codeAny_builtin F.entry_min_loop ?_;rw[Around.under_plainId F.plain_min_loop _];exact h
theorem n9(W:Walks prog w A.in1 I fp wr aH.size (λi v=>aH[i]?=some v) St)(K:∀h h',Good h->(∀b o,b∉wr->b≠S->h.get? b=some o->h'.get? b=some o)->Good h')
  (hc:∀i j Y Z (s:qU),Good s.heap->aH[i]?=some Y->aH[j]?=some Z->∀E Q,Q (.bool (bt i j)) s->wpAny (model prog w) A.in1 (richCompare .Lt Y Z) Q E s)(T:S∉fp):
  ∀(k j:Nat) (s:qU) (f:q3) (c:Nat),aH.size=j+1+k->St (j+1) s.heap->Good s.heap->aH[argBest bt j]?=some f->
  s.heap.get? S=some {cls:=.type "list",dict:=none,data:=.seq #[f,f] c,slots:=#[] }->
  (∀v h' tk,aH[argBest bt (aH.size-1)]?=some v->(∀b o,b∉wr->b≠S->s.heap.get? b=some o->h'.get? b=some o)->R (.ok (.ret v)) {s with heap:=h',toks:=tk})->
  codeAny (model prog w) A (.builtin "min.loop" ⟨[.ref I,.none,.ref S],[]⟩) R s:=by
 have X:S∉wr:=λz=>T (W.sub _ z);have P:(toString "min"++toString ".loop":String)="min.loop":=by decide
 intro k
 induction k with
 |zero=>
  intro j s f c hk u N r m q;refine R6 ?_;refine aN ( gd m rfl ?_);show wpAny (model prog w) A.in1 (tryCatch (pyNext (.ref I)) _>>=_) _ _ s;have ej:j+1=aH.size:=by omega
  refine aN (wpAny_tryCatch (W.done s _ _ (ej▸u) λx G l=>?_));have n:=l S _ X m;show wpAny (model prog w) A.in1 (updateSeq S (λ_=>#[])>>=_) _ _ _;refine aN ?_;refine wpAny_updateSeq n rfl (aN (wpAny_letGo (a6 ?_)));have e2:aH.size-1=j:=by omega
  exact q f _ G (by rw[e2];exact r) λb o d g e=>(eI _ _ (Ne.symm g)).trans (l b o d e)
 |succ k O=>
  intro j s f c hk u N r m q;refine R6 ?_;refine aN ( gd m rfl ?_);show wpAny (model prog w) A.in1 (tryCatch (pyNext (.ref I)) _>>=_) _ _ s;refine aN (wpAny_tryCatch (W.item (j+1) s _ _ (by omega) u λv x G L U l=>?_));have n:=l S _ X m;have H:Good x:=K _ _ N λb o d _ e=>l b o d e;refine aN (a6 ?_);refine aN (wpAny_tryCatch (fY (aN ?_)));refine hc (j+1) (argBest bt j) v f {s with heap:=x,toks:=G} H L r _ _ ?_;refine aN (fY (i0 ?_));refine aN (wpAny_letGo (a6 ?_));have p:=E4 bt j;cases M:bt (j+1) (argBest bt j)with
  |true=>
   rw[M,if_pos rfl]at p;simp only[if_true];refine aN ?_;refine wpAny_updateSeq n rfl (aN (wpAny_letGo ?_));rw[P];refine a6 ⟨nP F.plain_min_loop _,O (j+1) _ v _ (by omega) (W.frame _ _ _ U λb z o e=>?_) (K _ _ H λb o d g e=>(eI _ _ (Ne.symm g)).trans e) (by rw[p];exact L) (g0 _ n rfl) λJ B D a C=>?_⟩
   ·exact(eI _ _ (λy:S=b=>T (by rw[y];exact z))).trans e
   ·exact q J B D a λb o d g e=>C b o d g ((eI _ _ (Ne.symm g)).trans (l b o d e))
  |false=>
   rw[M,if_neg Bool.false_ne_true]at p;simp only[Bool.false_eq_true,if_false];refine aN (wpAny_letGo ?_);rw[P];refine a6 ⟨nP F.plain_min_loop _,O (j+1) _ f c (by omega) U H (by rw[p];exact r) n λJ B D a C=>?_⟩;exact q J B D a λb o d g e=>C b o d g (l b o d e)
theorem V1(W:Walks prog w A.in1 I fp wr aH.size (λi v=>aH[i]?=some v) St)(g:∀h h',Good h->(∀b o,b∉wr->b≠S->h.get? b=some o->h'.get? b=some o)->Good h')
  (G:∀i j q r (s:qU),Good s.heap->aH[i]?=some q->aH[j]?=some r->∀E Q,Q (.bool (bt i j)) s->wpAny (model prog w) A.in1 (richCompare .Lt q r) Q E s)(m:S∉fp){s:qU}{c:Nat}(u:St 0 s.heap)(H:Good s.heap)
  (n:s.heap.get? S=some {cls:=.type "list",dict:=none,data:=.seq #[] c,slots:=#[] })(J:0<aH.size)
  (D:∀v h' P,aH[argBest bt (aH.size-1)]?=some v->(∀b o,b∉wr->b≠S->s.heap.get? b=some o->h'.get? b=some o)->R (.ok (.ret v)) {s with heap:=h',toks:=P}):
  codeAny (model prog w) A (.builtin "min.loop" ⟨[.ref I,.none,.ref S],[]⟩) R s:=by
 have T:S∉wr:=λz=>m (W.sub _ z);have M:(toString "min"++toString ".loop":String)="min.loop":=by decide
 refine R6 ?_;refine aN ( gd n rfl ?_);show wpAny (model prog w) A.in1 (tryCatch (pyNext (.ref I)) _>>=_) _ _ s;refine aN (wpAny_tryCatch (W.item 0 s _ _ J u λv x X C N l=>?_));have p:=l S _ T n;have O:Good x:=g _ _ H λb o d _ e=>l b o d e;show wpAny (model prog w) A.in1 (updateSeq S (λ_=>#[v,v])>>=_) _ _ _;refine aN ?_;refine wpAny_updateSeq p rfl ?_;rw[M];refine a6 ⟨nP F.plain_min_loop _,n9 W g G m (aH.size-1) 0 _ v _ (by omega) (W.frame _ _ _ N λb z o e=>?_) (g _ _ O λb o d f e=>(eI _ _ (Ne.symm f)).trans e) C (g0 _ p rfl) λU B L a K=>?_⟩
 ·exact(eI _ _ (λy:S=b=>m (by rw[y];exact z))).trans e
 ·exact D U B L a λb o d f e=>K b o d f ((eI _ _ (Ne.symm f)).trans (l b o d e))
end
section
variable {prog:q4}{w:ra}{A:q5}{R:Result->qU->Prop}{I S:Addr}{fp wr:List Addr}{St:Nat->Heap->Prop}{aH:Array q3}{bt:Nat->Nat->Bool}{Good:Heap->Prop}
theorem R5(h:wpAny (model prog w) A.in1 (Builtin.«max.loop» a) (λb s'=>match b with
   | .done f=>R (.ok f) s'
   | .again c=>c.quiet=true/\codeAny (model prog w) A c R s') (λe s'=>R (.error e) s') s):codeAny (model prog w) A (.builtin "max.loop" a) R s:=by
 refine codeAny_builtin F.entry_max_loop ?_;rw[Around.under_plainId F.plain_max_loop _];exact h
theorem n8(W:Walks prog w A.in1 I fp wr aH.size (λi v=>aH[i]?=some v) St)(K:∀h h',Good h->(∀b o,b∉wr->b≠S->h.get? b=some o->h'.get? b=some o)->Good h')
  (hc:∀i j Y Z (s:qU),Good s.heap->aH[i]?=some Y->aH[j]?=some Z->∀E Q,Q (.bool (bt i j)) s->wpAny (model prog w) A.in1 (richCompare .Gt Y Z) Q E s)(T:S∉fp):
  ∀(k j:Nat) (s:qU) (f:q3) (c:Nat),aH.size=j+1+k->St (j+1) s.heap->Good s.heap->aH[argBest bt j]?=some f->
  s.heap.get? S=some {cls:=.type "list",dict:=none,data:=.seq #[f,f] c,slots:=#[] }->
  (∀v h' tk,aH[argBest bt (aH.size-1)]?=some v->(∀b o,b∉wr->b≠S->s.heap.get? b=some o->h'.get? b=some o)->R (.ok (.ret v)) {s with heap:=h',toks:=tk})->
  codeAny (model prog w) A (.builtin "max.loop" ⟨[.ref I,.none,.ref S],[]⟩) R s:=by
 have X:S∉wr:=λz=>T (W.sub _ z);have P:(toString "max"++toString ".loop":String)="max.loop":=by decide
 intro k
 induction k with
 |zero=>
  intro j s f c hk u N r m q;refine R5 ?_;refine aN ( gd m rfl ?_);show wpAny (model prog w) A.in1 (tryCatch (pyNext (.ref I)) _>>=_) _ _ s;have ej:j+1=aH.size:=by omega
  refine aN (wpAny_tryCatch (W.done s _ _ (ej▸u) λx G l=>?_));have n:=l S _ X m;show wpAny (model prog w) A.in1 (updateSeq S (λ_=>#[])>>=_) _ _ _;refine aN ?_;refine wpAny_updateSeq n rfl (aN (wpAny_letGo (a6 ?_)));have e2:aH.size-1=j:=by omega
  exact q f _ G (by rw[e2];exact r) λb o d g e=>(eI _ _ (Ne.symm g)).trans (l b o d e)
 |succ k O=>
  intro j s f c hk u N r m q;refine R5 ?_;refine aN ( gd m rfl ?_);show wpAny (model prog w) A.in1 (tryCatch (pyNext (.ref I)) _>>=_) _ _ s;refine aN (wpAny_tryCatch (W.item (j+1) s _ _ (by omega) u λv x G L U l=>?_));have n:=l S _ X m;have H:Good x:=K _ _ N λb o d _ e=>l b o d e;refine aN (a6 ?_);refine aN (wpAny_tryCatch (fY (aN ?_)));refine hc (j+1) (argBest bt j) v f {s with heap:=x,toks:=G} H L r _ _ ?_;refine aN (fY (i0 ?_));refine aN (wpAny_letGo (a6 ?_));have p:=E4 bt j;cases M:bt (j+1) (argBest bt j)with
  |true=>
   rw[M,if_pos rfl]at p;simp only[if_true];refine aN ?_;refine wpAny_updateSeq n rfl (aN (wpAny_letGo ?_));rw[P];refine a6 ⟨nP F.plain_max_loop _,O (j+1) _ v _ (by omega) (W.frame _ _ _ U λb z o e=>?_) (K _ _ H λb o d g e=>(eI _ _ (Ne.symm g)).trans e) (by rw[p];exact L) (g0 _ n rfl) λJ B D a C=>?_⟩
   ·exact(eI _ _ (λy:S=b=>T (by rw[y];exact z))).trans e
   ·exact q J B D a λb o d g e=>C b o d g ((eI _ _ (Ne.symm g)).trans (l b o d e))
  |false=>
   rw[M,if_neg Bool.false_ne_true]at p;simp only[Bool.false_eq_true,if_false];refine aN (wpAny_letGo ?_);rw[P];refine a6 ⟨nP F.plain_max_loop _,O (j+1) _ f c (by omega) U H (by rw[p];exact r) n λJ B D a C=>?_⟩;exact q J B D a λb o d g e=>C b o d g (l b o d e)
theorem V0(W:Walks prog w A.in1 I fp wr aH.size (λi v=>aH[i]?=some v) St)(g:∀h h',Good h->(∀b o,b∉wr->b≠S->h.get? b=some o->h'.get? b=some o)->Good h')
  (G:∀i j q r (s:qU),Good s.heap->aH[i]?=some q->aH[j]?=some r->∀E Q,Q (.bool (bt i j)) s->wpAny (model prog w) A.in1 (richCompare .Gt q r) Q E s)(m:S∉fp){s:qU}{c:Nat}(u:St 0 s.heap)(H:Good s.heap)
  (n:s.heap.get? S=some {cls:=.type "list",dict:=none,data:=.seq #[] c,slots:=#[] })(J:0<aH.size)
  (D:∀v h' P,aH[argBest bt (aH.size-1)]?=some v->(∀b o,b∉wr->b≠S->s.heap.get? b=some o->h'.get? b=some o)->R (.ok (.ret v)) {s with heap:=h',toks:=P}):
  codeAny (model prog w) A (.builtin "max.loop" ⟨[.ref I,.none,.ref S],[]⟩) R s:=by
 have T:S∉wr:=λz=>m (W.sub _ z);have M:(toString "max"++toString ".loop":String)="max.loop":=by decide
 refine R5 ?_;refine aN ( gd n rfl ?_);show wpAny (model prog w) A.in1 (tryCatch (pyNext (.ref I)) _>>=_) _ _ s;refine aN (wpAny_tryCatch (W.item 0 s _ _ J u λv x X C N l=>?_));have p:=l S _ T n;have O:Good x:=g _ _ H λb o d _ e=>l b o d e;show wpAny (model prog w) A.in1 (updateSeq S (λ_=>#[v,v])>>=_) _ _ _;refine aN ?_;refine wpAny_updateSeq p rfl ?_;rw[M];refine a6 ⟨nP F.plain_max_loop _,n8 W g G m (aH.size-1) 0 _ v _ (by omega) (W.frame _ _ _ N λb z o e=>?_) (g _ _ O λb o d f e=>(eI _ _ (Ne.symm f)).trans e) C (g0 _ p rfl) λU B L a K=>?_⟩
 ·exact(eI _ _ (λy:S=b=>m (by rw[y];exact z))).trans e
 ·exact D U B L a λb o d f e=>K b o d f ((eI _ _ (Ne.symm f)).trans (l b o d e))
end
open PySem PySem.Spec PyProof.Rows PySem.SeqAt
theorem Kn:∀{a:List rb}{us:List V}{i:Nat}{d:rb},aL H a us->a[i]?=some d->∃u,us[i]?=some u/\Rp H d u
 |[],_,i,d,_,e=>by simp at e
 |x::a,us,0,d,h,e=>by
  unfold aL at h;obtain⟨u,b,rfl,g,_⟩:=h;cases e;exact⟨u,rfl,g⟩
 |x::a,us,i+1,d,h,e=>by
  unfold aL at h;obtain⟨u,b,rfl,_,j⟩:=h;obtain⟨l,c,f⟩:=Kn (i:=i) j (by simpa using e);exact⟨l,by simpa using c,f⟩
theorem Fk:∀{a:List rb}{us:List V},aL H a us->us.length=a.length
 |[],us,h=>by
  unfold aL at h;rw[h];rfl
 |x::a,us,h=>by
  unfold aL at h;obtain⟨u,c,rfl,_,b⟩:=h;rw[List.length_cons,List.length_cons,Fk b]
theorem Ju{us:List q3}{i:Nat}{u:q3}(r:Ay xs us)(h:us[i]?=some u):∃x,xs[i]?=some x/\B0 x u:=by
 have c:=(cb.mp h).1;have d:=r.length;obtain⟨e,a,b⟩:=r.get (d3 (show i<xs.length by omega));rw[h]at a;cases a;exact⟨_,d3 (by omega),b⟩
section
variable {X:Cx}{k:Nat}
theorem Yi(a:q3):argsOk "min" ⟨[a],[]⟩:=by
 unfold argsOk
 kernel_rfl
def Lw(a:List rb):Nat:=argBest (λi j=>Tu (a.getD i .none) (a.getD j .none)) (a.length-1)
theorem qo{c:List (Addr×Obj)}{s:qU}{l:List q3}{a:List rb}(N:Be k X.A)(I:Am X c C H s)(rv:Ay us l)(w:aL H a us)(U:∀d∈a,∀e∈a,Jx d e)(D:∀d∈a,d.depth<=50)(i j:Nat)(f g:q3)(s':qU)
  (L:∀b o,s.heap.get? b=some o->s'.heap.get? b=some o)(h1:l.toArray[i]?=some f)(K:l.toArray[j]?=some g)(E Q:pQ)(q:Q (.bool (Tu (a.getD i .none) (a.getD j .none))) s'):wpAny (model X.prog X.w) X.A.in1 (richCompare .Lt f g) Q E s':=by
 have Z:=Fk w
 have get:∀(m:Nat) (n:q3),l.toArray[m]?=some n->∃x,B0 x n/\Rp H (a.getD m .none) x/\a.getD m .none∈a:=λm n h=>by
  obtain⟨x,r,G⟩:=Ju rv (by simpa using h)
  have M:m<a.length:=by
   have:=(cb.mp r).1;omega
  have u:a[m]?=some (a.getD m .none):=by
   rw[List.getD_eq_getElem?_getD,List.getElem?_eq_getElem M];rfl
  obtain⟨x2,v,J⟩:=Kn w u;rw[r]at v;cases v;exact⟨x,G,J,cI u⟩
 obtain⟨x,S,A,z⟩:=get i f h1;obtain⟨y,T,B,O⟩:=get j g K;have p:Am X c C H {s with heap:=s'.heap,toks:=s'.toks}:=I.kept (t':=s'.toks) L;obtain⟨F,P⟩:=Cn p _ x f A S;obtain⟨bs,R⟩:=Cn p _ y g B T;have hu:=N.units;have Y:=D _ z;exact N4 _ _ X.A.in1 s' f g F bs P R (D6 _ x A) (D6 _ y B) (U _ z _ O) (by show X.A.units+1+_<_;omega) _ _ _ _ q
def A0q(K:W.Frag):List V->Hp->VK->Prop:=λc H Q=>∃(p:Addr) (b:List V) (a:List rb),c=[.ref p]/\Aq K H p b/\aL H a b/\0<b.length/\(∀d∈a,∀e∈a,Jx d e)/\(∀d∈a,d.depth<=50)/\∀v,b[Lw a]?=some v->Q v H
theorem Xm(K:PySem.W.Frag)(U:Be k X.A)(P:X.calm=true)(O:X.K=K:=by rfl):Cu X (.builtin "min") (A0q K):=by
 subst O;intro A s σ H xs us0 Q I r h;obtain⟨p,us,d,rfl,T,w,eJ,wO,C,q⟩:=h;obtain⟨u,rfl,rx⟩:=Dg r;cases rx;obtain⟨n,rv,m,hz⟩:=I.list T;have hl:=Fk w;have R:=rv.length;have Y:(toString "min"++toString ".loop":String)="min.loop":=by decide
 refine Kc (args:=⟨[.ref p],[]⟩) F.kind_min F.plain_min F.entry_min (Yi _) ?_;show wpAny (model X.prog X.w) X.A.in1 (Builtin.Builtins.bindParams "min" ["key","default"] 0 ⟨[],[]⟩>>=_) _ _ s;refine aN (wpAny_of_eq (show Builtin.Builtins.bindParams "min" ["key","default"] 0 ⟨[],[]⟩=pure [none,none]from ?_) ?_)
 ·kernel_rfl
 refine aN (a6 ?_);refine aN (wpAny_pyIter_list m.isList ?_);refine aN (g6 ?_);rw[Y];refine a6 ⟨nP F.plain_min_loop _,?_⟩;have B:p<s.heap.objs.size:=m.lt;have W:=Walks.list (prog:=X.prog) (w:=X.w) (A:=X.A.in1) (I.ok.hd P) s.heap.objs.size p (ft B) n.toArray;have a:(s.heap.push {cls:=.type "list_iterator",data:=.fields #[.ref p,.int 0 0] }).objs.size=s.heap.objs.size+1:=by simp[Heap.push]
 refine V1 (S:=(s.heap.push {cls:=.type "list_iterator",data:=.fields #[.ref p,.int 0 0] }).objs.size) (bt:=λi j=>Tu (d.getD i .none) (d.getD j .none)) (Good:=λh=>∀b o,s.heap.get? b=some o->h.get? b=some o) W (λh L g l b o e=>l b o ?_ ?_ (g b o e)) (λi j vi vj s' g M N E D Z=>qo U I rv w wO C i j vi vj s' g M N E D Z) ?_ ⟨⟨_,cv _ (da _ rfl),rfl,rfl⟩,?_⟩ (λb o e=>cv _ (cv _ e)) (da _ rfl) (by simp;omega) (λv L tk e l=>?_)
 ·exact λz=>ft (dt e) (by simpa using z)
 ·rw[a];exact ft (Nat.lt_succ_of_lt (dt e))
 ·rw[a];intro z;have c:s.heap.objs.size+1=s.heap.objs.size\/s.heap.objs.size+1=p:=by simpa using z
  rcases c with c|c
  ·exact Nat.succ_ne_self _ c
  ·exact Nat.lt_irrefl _ (Nat.lt_trans (Nat.lt_succ_self _) (c.symm▸B:s.heap.objs.size+1<s.heap.objs.size))
 ·obtain⟨o,S,r1⟩:=m.isList;exact⟨o,cv _ (cv _ S),r1⟩
 ·have f:n.toArray.size-1=d.length-1:=by
   simp;omega
  rw[f]at e;obtain⟨x,G,J⟩:=Ju rv (by simpa using e);refine⟨x,H,I.kept (t':=tk) (λb o z=>l b o ?_ ?_ (cv _ (cv _ z))),J,q x G⟩
  ·exact λy=>ft (dt z) (by simpa using y)
  ·rw[a];exact ft (Nat.lt_succ_of_lt (dt z))
end
section
variable {X:Cx}{k:Nat}
theorem Yh(a:q3):argsOk "max" ⟨[a],[]⟩:=by
 unfold argsOk
 kernel_rfl
def Dm(a:List rb):Nat:=argBest (λi j=>Zd (a.getD i .none) (a.getD j .none)) (a.length-1)
theorem qm{c:List (Addr×Obj)}{s:qU}{l:List q3}{a:List rb}(N:Be k X.A)(I:Am X c C H s)(rv:Ay us l)(w:aL H a us)(U:∀d∈a,∀e∈a,Jx d e)(D:∀d∈a,d.depth<=50)(i j:Nat)(f g:q3)(s':qU)
  (L:∀b o,s.heap.get? b=some o->s'.heap.get? b=some o)(h1:l.toArray[i]?=some f)(K:l.toArray[j]?=some g)(E Q:pQ)(q:Q (.bool (Zd (a.getD i .none) (a.getD j .none))) s'):wpAny (model X.prog X.w) X.A.in1 (richCompare .Gt f g) Q E s':=by
 have Z:=Fk w
 have get:∀(m:Nat) (n:q3),l.toArray[m]?=some n->∃x,B0 x n/\Rp H (a.getD m .none) x/\a.getD m .none∈a:=λm n h=>by
  obtain⟨x,r,G⟩:=Ju rv (by simpa using h)
  have M:m<a.length:=by
   have:=(cb.mp r).1;omega
  have u:a[m]?=some (a.getD m .none):=by
   rw[List.getD_eq_getElem?_getD,List.getElem?_eq_getElem M];rfl
  obtain⟨x2,v,J⟩:=Kn w u;rw[r]at v;cases v;exact⟨x,G,J,cI u⟩
 obtain⟨x,S,A,z⟩:=get i f h1;obtain⟨y,T,B,O⟩:=get j g K;have p:Am X c C H {s with heap:=s'.heap,toks:=s'.toks}:=I.kept (t':=s'.toks) L;obtain⟨F,P⟩:=Cn p _ x f A S;obtain⟨bs,R⟩:=Cn p _ y g B T;have hu:=N.units;have Y:=D _ z;exact Se _ _ X.A.in1 s' f g F bs P R (D6 _ x A) (D6 _ y B) (U _ z _ O) (by show X.A.units+1+_<_;omega) _ _ _ _ q
def A0p(K:W.Frag):List V->Hp->VK->Prop:=λc H Q=>∃(p:Addr) (b:List V) (a:List rb),c=[.ref p]/\Aq K H p b/\aL H a b/\0<b.length/\(∀d∈a,∀e∈a,Jx d e)/\(∀d∈a,d.depth<=50)/\∀v,b[Dm a]?=some v->Q v H
theorem Xk(K:PySem.W.Frag)(U:Be k X.A)(P:X.calm=true)(O:X.K=K:=by rfl):Cu X (.builtin "max") (A0p K):=by
 subst O;intro A s σ H xs us0 Q I r h;obtain⟨p,us,d,rfl,T,w,eJ,wO,C,q⟩:=h;obtain⟨u,rfl,rx⟩:=Dg r;cases rx;obtain⟨n,rv,m,hz⟩:=I.list T;have hl:=Fk w;have R:=rv.length;have Y:(toString "max"++toString ".loop":String)="max.loop":=by decide
 refine Kc (args:=⟨[.ref p],[]⟩) F.kind_max F.plain_max F.entry_max (Yh _) ?_;show wpAny (model X.prog X.w) X.A.in1 (Builtin.Builtins.bindParams "max" ["key","default"] 0 ⟨[],[]⟩>>=_) _ _ s;refine aN (wpAny_of_eq (show Builtin.Builtins.bindParams "max" ["key","default"] 0 ⟨[],[]⟩=pure [none,none]from ?_) ?_)
 ·kernel_rfl
 refine aN (a6 ?_);refine aN (wpAny_pyIter_list m.isList ?_);refine aN (g6 ?_);rw[Y];refine a6 ⟨nP F.plain_max_loop _,?_⟩;have B:p<s.heap.objs.size:=m.lt;have W:=Walks.list (prog:=X.prog) (w:=X.w) (A:=X.A.in1) (I.ok.hd P) s.heap.objs.size p (ft B) n.toArray;have a:(s.heap.push {cls:=.type "list_iterator",data:=.fields #[.ref p,.int 0 0] }).objs.size=s.heap.objs.size+1:=by simp[Heap.push]
 refine V0 (S:=(s.heap.push {cls:=.type "list_iterator",data:=.fields #[.ref p,.int 0 0] }).objs.size) (bt:=λi j=>Zd (d.getD i .none) (d.getD j .none)) (Good:=λh=>∀b o,s.heap.get? b=some o->h.get? b=some o) W (λh L g l b o e=>l b o ?_ ?_ (g b o e)) (λi j vi vj s' g M N E D Z=>qm U I rv w wO C i j vi vj s' g M N E D Z) ?_ ⟨⟨_,cv _ (da _ rfl),rfl,rfl⟩,?_⟩ (λb o e=>cv _ (cv _ e)) (da _ rfl) (by simp;omega) (λv L tk e l=>?_)
 ·exact λz=>ft (dt e) (by simpa using z)
 ·rw[a];exact ft (Nat.lt_succ_of_lt (dt e))
 ·rw[a];intro z;have c:s.heap.objs.size+1=s.heap.objs.size\/s.heap.objs.size+1=p:=by simpa using z
  rcases c with c|c
  ·exact Nat.succ_ne_self _ c
  ·exact Nat.lt_irrefl _ (Nat.lt_trans (Nat.lt_succ_self _) (c.symm▸B:s.heap.objs.size+1<s.heap.objs.size))
 ·obtain⟨o,S,r1⟩:=m.isList;exact⟨o,cv _ (cv _ S),r1⟩
 ·have f:n.toArray.size-1=d.length-1:=by
   simp;omega
  rw[f]at e;obtain⟨x,G,J⟩:=Ju rv (by simpa using e);refine⟨x,H,I.kept (t':=tk) (λb o z=>l b o ?_ ?_ (cv _ (cv _ z))),J,q x G⟩
  ·exact λy=>ft (dt z) (by simpa using y)
  ·rw[a];exact ft (Nat.lt_succ_of_lt (dt z))
end
section
variable {X:Cx}{pins:List (Addr×Obj)}{σ:St}{H:Hp}{s:qU}{k:Nat}
theorem Si(I:Am X pins σ H s):∀{a:List rb}{vs:List V}{us:List q3},aL H a vs->Ay vs us->a.length=us.length/\∀(m:Nat) (w:q3) (e:rb),us[m]?=some w->a[m]?=some e->Jc s.heap d w=PyData.eqv e d
 |[],vs,us,h,r=>by
  unfold aL at h;subst h;cases r;exact⟨rfl,λm w e z=>by simp at z⟩
 |e::a,vs,us,h,r=>by
  unfold aL at h;obtain⟨x,u,rfl,f,i⟩:=h;cases r with
  |cons n o=>
   obtain⟨p,q⟩:=Hm I f n;obtain⟨l,j⟩:=Si I i o;refine⟨by rw[List.length_cons,List.length_cons,l],λm w g b c=>?_⟩;cases m with
   |zero=>
    rw[List.getElem?_cons_zero]at b c;cases b;cases c;exact N3 q (D6 e x f)
   |succ m=>
    rw[List.getElem?_cons_succ]at b c;exact j m w g b c
def ni(K:W.Frag):V->List V->Hp->VK->Prop:=λx c H Q=>∃(l:Addr) (b:List V) (y:V) (d:rb) (a:List rb) (j:Nat),x=.ref l/\c=[y]/\Aq K H l b/\Rp H d y/\aL H a b/\d.depth<=50/\(∃e,a[j]?=some e/\PyData.eqv e d=true)/\(∀m e,m<j->a[m]?=some e->PyData.eqv e d=false)/\Q (.int (j:Nat)) H
theorem Yk(N:Be k X.A):MtM X "list.index" (ni X.K):=by
 intro pins s σ H x vs v us Q I rx rv h;obtain⟨l,ys,y,d,w,j,rfl,rfl,M,P,b,A,⟨G,B,f⟩,U,q⟩:=h;cases rx;obtain⟨u,rfl,Z⟩:=rv.one;obtain⟨a,r,Y,hz⟩:=I.list M;obtain⟨⟨S,T,p,R⟩,n,e,K,hd,O⟩:=Y;obtain rfl:S=.type "list":=K;obtain rfl:p=.seq a.toArray n:=O;have C:=r.length;have hu:=N.units;obtain⟨CM,E⟩:=Si (d:=d) I b r;have L:j<w.length:=(cb.mp B).1;have J:=Gy;refine call_meets F.slot_list_index ⟨_,e,rfl⟩ F.entry_list_index (F.args_list_index_2 _ _) (PySem.SeqAt.list_indexAt l a.toArray n T R u (Jc s.heap d) j (by rw[List.size_toArray];omega) ?_ ?_ ?_) ⟨e,λz o=>?_,?_⟩
 ·omega
 ·have g:j<a.length:=by omega
  have c:a.toArray[j]'(by rw[List.size_toArray];omega)=a[j]:=by simp
  rw[c,E j a[j] G (List.getElem?_eq_getElem g) B];exact f
 ·intro m D i;rw[List.size_toArray]at D;have c:a.toArray[m]'(by rw[List.size_toArray];omega)=a[m]:=by simp
  rw[c,E m a[m] w[m] (List.getElem?_eq_getElem D) (List.getElem?_eq_getElem (by omega))];exact U m _ i (d3 (by omega))
 ·exact N5 I P Z (by show X.A.units+1+d.depth<cLine;omega) b r z (by simpa using o)
 ·exact⟨.int (j:Nat),H,I.tok _,⟨_,rfl⟩,q⟩
end
section
variable {P:q4}{w:ra}{A:q5}{E:pQ}{s:qU}{κ:Type} [DecidableEq κ] {knd:KeyKind P w κ}
abbrev F2(led:Bool):Obj:={cls:=.type "set",dict:=none,data:=.set #[] 0 (.fresh 0 0 led) }
end
open PySem.Builtin.Str (strSliceIndices)
section
variable {X:Cx}
theorem K1:Cu X (.builtin "len") (λxs H Q=>∃z:Str,xs=[.str z]/\(z.length:Int)<2^63/\Q (.int (z.length:Nat)) H):=by
 intro a s d H xs c Q I r h;obtain⟨z,rfl,b,q⟩:=h;obtain⟨u,rfl,t,rfl⟩:=Dg r;exact P.len_str (by omega) ⟨.int _,H,I.tok _,⟨_,rfl⟩,q⟩
end
open PySem PySem.Spec PySem.SeqAt PyProof.Rows
section
variable {prog:q4}{w:ra}{E:pQ}
theorem Tj(j:IntsAre vs ns)(g:vs.length<64)(p:∀R:List q3->qU->Prop,R vs {s with heap:=h1,toks:=t1}->wpAny (model prog w) A.in1 (collect r) R E s)
  (h:∀(out:Array q3) (a:qG) (h':Heap) (c:Nat),IntsAre out.toList a->a.Perm ns->a.Pairwise (·<=·)->(∀b o,h1.get? b=some o->h'.get? b=some o)->h'.get? h1.objs.size=some (seqObj "list" out c)->Q (.ref h1.objs.size) {s with heap:=h',toks:=t1}):
  wpAny (model prog w) A (call (.builtin "sorted") [r]) Q E s:=by
 have d:vs.length<=sizeLine:=by rw[sizeLine_eq];omega
 refine Calls.call_function_entry kind_sorted plain_sorted entry_sorted (args_sorted1 _) ?_;unfold Builtin.«sorted»;refine aN (m:=checkCount "sorted" 1 1 _) (a6 ?_);refine aN (p _ (aN (wpAny_newList ?_ d)));have f:(h1.push (seqObj "list" vs.toArray 0)).get? h1.objs.size=some (seqObj "list" vs.toArray 0):=da _ rfl;show wpAny _ _ _ _ _ {s with heap:=h1.push (seqObj "list" vs.toArray 0),toks:=t1};refine aN (fY (hH slot_list_sort ⟨_,f,rfl⟩ entry_list_sort (list_sort_tree (s:={s with heap:=h1.push (seqObj "list" vs.toArray 0),toks:=t1}) f j g λout a l m n=>⟨_,rfl,?_⟩) (args_list_sort _)));obtain⟨c,i⟩:∃c,(sortedHeap (h1.push (seqObj "list" vs.toArray 0)) h1.objs.size vs out).get? h1.objs.size=some (seqObj "list" out c):=sortedHeap_at f;refine a6 ⟨_,rfl,h out a _ c l m n (λb o e=>?_) i⟩;rw[sortedHeap_old (Nat.ne_of_lt (Heap.lt_size e)) (by rw[size_push'];exact Nat.lt_succ_of_lt (Heap.lt_size e))];exact cv _ e
end
section
variable {X:Cx}
def d6(K:W.Frag):List V->Hp->VK->Prop:=λc H Q=>∃(l:Addr) (a:qG),c=[.ref l]/\Aq K H l (a.map V.int)/\a.length<64/\∀(p:Addr) (b:qG),H p=none->b.Perm a->b.Pairwise (·<=·)->Q (.ref p) (upd H p (.lst (b.map V.int)))
theorem Ix(K:W.Frag)(n:X.K=K:=by rfl):Cu X (.builtin "sorted") (d6 K):=by
 subst n;intro j s L H J G Q I r h;obtain⟨l,y,rfl,v,E,q⟩:=h;obtain⟨u,rfl,C⟩:=r.one;cases C;obtain⟨a,rv,B,F⟩:=I.list v;have d:=Fv rv;have f:a.length=y.length:=d.length;have x:∀b o,s.heap.get? b=some o->((s.heap.push (seqObj "list" #[] 0)).update s.heap.objs.size (Obj.mapSeq (·++a.toArray))).get? b=some o:=λb o e=>(eI _ _ (Ne.symm (ft (dt e)))).trans (cv _ e);refine Tj (h1:=(s.heap.push (seqObj "list" #[] 0)).update s.heap.objs.size (Obj.mapSeq (·++a.toArray))) (t1:=s.toks) d (by omega) (λR p=>collect_list B.isList p (by rw[sizeLine_eq];omega)) λout i D c z g A w m=>?_;refine⟨.ref _,upd H _ (.lst (i.map V.int)),I.laid (t':=s.toks) (λb o e=>w b o (x b o e)) ?_ ?_,rfl,q _ i (I.aK.fresh ?_) g A⟩
 ·rw[Heap.size_update,size_push'];exact Nat.le_succ _
 ·refine⟨?_,out.toList,c,Ho z,m⟩;rw[List.length_map,g.length_eq,sizeLine_eq];omega
 ·rw[Heap.size_update,size_push'];exact Nat.le_succ _
end
open PySem PySem.Spec PySem.SeqAt PyProof.Rows
section
variable {prog:q4}{w:ra}
structure Lam(params:Arguments)(body:Expr)(scope:Scope)(x y:Str):Prop where
 bod:∃p1 p2 p3,body=.Subscript (.Name y p1) (.Name x p2) p3
 bind:∀(name qual:Str) (cl:List (Str×Addr)) (pm cd ct u:q3),bindArgs (W.kla_fn name qual params body scope cl pm cd ct) ⟨[u],[]⟩=pure [(x,u)]
 kind:scope.kind=.function
 lx:scope.names.lookup x=some .local
 ly:scope.names.lookup y=some .free
 nc:∀z∈scope.names,z.2≠ .cell
 co:scope.isCoroutine=false
 ge:scope.isGenerator=false
 dx:(x==("__debug__":Str))=false
 dy:(y==("__debug__":Str))=false
 cy:(y==("__classdict__":Str))=false
theorem bj{A:q5}{s:qU}{a:Arguments}{d:Expr}{c:Scope}{x y name g:Str}{f u l D:Addr}{M C:q3}{j:List q3}{i:Nat}{t:Tok}{v:q3}{R:Result->qU->Prop}
  (L:Lam a d c x y)(E:A.depth<recursionLimit)(H:s.heap.get? f=some (W.kla_obj name g a d c [(y,l)] M u C))(N:s.heap.CodeRec (.ref u) g)(J:s.heap.IsCell l (some (.ref D)))
  (G:s.heap.IsList D j.toArray)(I:s.heap.NoLimit)(B:j[i]?=some v)(hz:j.length<=sizeLine)
  (h:∀h' O,(∀b o,s.heap.get? b=some o->h'.get? b=some o)->R (.ok (.ret v)) {s with heap:=h',toks:=O}):
  codeAny (model prog w) A (.call (.ref f) ⟨[.int (i:Int) t],[]⟩) R s:=by
 obtain⟨S,T,U,rfl⟩:=L.bod;refine W.kla_callFunE E H rfl L.co L.ge rfl N ?_;rw[L.bind];refine a6 (wpAny_newFunctionEnv L.nc (λz q=>by rw[List.mem_singleton.mp q];exact L.lx) (λn P p=>?_) L.kind);have m:∀b o,s.heap.get? b=some o->n.get? b=some o:=λb o e=>p.extBut b o (ft (dt e)) (cv _ e);refine⟨I.keeps m,W.kla_codeExpr ?_⟩;have Q:i<j.length:=(cb.mp B).1;have F:=Gy;refine Subscript_ (wpAny_Name (wpAny_loadName_free L.kind L.ly ?_ (J.keeps m) ?_ L.cy) L.dy)
 ·show List.lookup y [(y,l)]=some l;simp
 refine wpAny_Name (wpAny_loadName_local (v:=.int (i:Int) t) L.kind L.lx P ?_ ?_) L.dx
 ·show List.lookup x [(x,Value.int (i:Int) t)].reverse=some (.int (i:Int) t);simp
 have K:n.IsList D j.toArray:=let⟨o,e,r⟩:=G;⟨o,m _ _ e,r⟩;exact item_listR (s:={s with heap:=n,toks:=s.toks+1}) K (by omega) (by omega) (by simpa using B) (h _ _ m) rfl
theorem S0{A:q5}{E:pQ}{s:qU}{a b c:Int}{t u v:Tok}{n:Nat}{Q:List q3->qU->Prop}(H:A.handled=none)(J:IsRange s.heap r a b c t u v)(C:Builtin.Range.small a b c=true)(I:Builtin.Range.rangeSize a b c=n)(y:n<=2^24)
  (B:∀h' g d,(∀b o,s.heap.get? b=some o->h'.get? b=some o)->ItemsOf (λi v=>∃t,v=.int (a+i*c) t) d n->Q d.toList {s with heap:=h',toks:=g}):wpAny (model prog w) A (collect (.ref r)) Q E s:=by
 unfold collect;refine aN (wpAny_runValue (codeAny_builtin F.entry_proto_collect ?_));rw[Around.under_plainId F.plain_proto_collect _];show wpAny _ A.in1 (newList []>>=λl=>again (.builtin "list.__iadd__" ⟨[l,.ref r],[]⟩)) _ _ s;refine aN (g6 ?_);refine a6 ⟨nP F.plain_list_iadd _,codeAny_builtin F.entry_list_iadd ?_⟩;rw[Around.under_plainId F.plain_list_iadd _];show wpAny _ A.in1 (Builtin.List.listExtendWith (.ref s.heap.objs.size) (.ref r) (.ref s.heap.objs.size)) _ _ _
 have m:∀(q:Result->qU->Prop),(∀h' g d h,(∀b o,s.heap.get? b=some o->h'.get? b=some o)->h'.get? s.heap.objs.size=some {cls:=.type "list",dict:=none,data:=.seq d h,slots:=#[] }->ItemsOf (λi v=>∃t,v=.int (a+i*c) t) d n->q (.ok (.ret (.ref s.heap.objs.size))) {s with heap:=h',toks:=g})->
   wpAny (model prog w) A.in1 (Builtin.List.listExtendWith (.ref s.heap.objs.size) (.ref r) (.ref s.heap.objs.size)) (λm j=>match m with| .done f=>q (.ok f) j| .again h=>h.quiet=true/\codeAny (model prog w) A h q j) (λe j=>q (.error e) j) {s with heap:=s.heap.push {cls:=.type "list",data:=.seq #[] } }:=λq D=>
  wpAny_extend_range (s:={s with heap:=s.heap.push {cls:=.type "list",data:=.seq #[] } }) H (cv _ J) C I y s.heap.objs.size _ 0 (da _ rfl) λh' g d h k e p=>D h' g d h (λb o e=>k b o (ft (dt e)) (cv _ e)) e p
 refine iv (m (λr j=>∃h' g d h,r=.ok (.ret (.ref s.heap.objs.size))/\j={s with heap:=h',toks:=g}/\(∀b o,s.heap.get? b=some o->h'.get? b=some o)/\h'.get? s.heap.objs.size=some {cls:=.type "list",dict:=none,data:=.seq d h,slots:=#[] }/\ItemsOf (λi v=>∃t,v=.int (a+i*c) t) d n) λh' g d h k e p=>⟨h',g,d,h,rfl,rfl,k,e,p⟩) (λf j x=>?_) (λe j G=>?_)
 ·cases f with
  |done f=>
   obtain⟨h',g,d,h,z,rfl,k,e,p⟩:=x;cases z;show wpAny _ A (load s.heap.objs.size>>=_) _ _ _;exact aN (wpAny_load e (a6 (B h' g d k p)))
  |again K=>
   refine⟨x.1,codeAny_mono x.2 λr j x=>?_⟩;obtain⟨h',g,d,h,rfl,rfl,k,e,p⟩:=x;show wpAny _ A (load s.heap.objs.size>>=_) _ _ _;exact aN (wpAny_load e (a6 (B h' g d k p)))
 ·obtain⟨_,_,_,_,z,_⟩:=G;cases z
theorem Vb{A:q5}{E:pQ}{s:qU}{m:Str->Option q3}{a:List (Addr×Obj)}{kz:qG}{f r:q3}{Q:pQ}{C:List q3->Prop}(F:Fr h₀ L s.heap m)(N:News h₀ L s.heap a)(O:f=.ref q)(Z:kz.length<64)
  (Y:∀R:List q3->qU->Prop,(∀vs h1 t1,C vs->(∀b o,s.heap.get? b=some o->h1.get? b=some o)->R vs {s with heap:=h1,toks:=t1})->wpAny (model prog w) A.in1 (collect r) R E s)
  (M:∀vs,C vs->kz.length=vs.length)
  (l:∀vs,C vs->∀(i:Nat) (v:q3) (k:Int),vs[i]?=some v->kz[i]?=some k->∀(h:Heap) (g:Nat) (d:List (Addr×Obj)),Fr h₀ L h m->News h₀ L h (a++d)->
   wpAny (model prog w) A.in1.in1 (call f [v]) (KskEnd h₀ L m (a++d) k {s with heap:=h,toks:=g}) (λ_ _=>False) {s with heap:=h,toks:=g})
  (done:∀vs D h' g out c,C vs->Fr h₀ L h' m->News h₀ L h' ((D,seqObj "list" out c)::a)->(∀q∈a,q.1<D)->L<D->h₀.get? D=none->KskOut false kz vs out.toList->Q (.ref D) {s with heap:=h',toks:=g}):
  wpAny (model prog w) A (call (.builtin "sorted") [r] [(Str.ofString "key",f)]) Q E s:=by
 subst O;refine call_function_entry_kw kind_sorted plain_sorted entry_sorted (ksk_s1 _ _) ?_;unfold Builtin.«sorted»;refine aN (m:=checkCount "sorted" 1 1 _) (a6 ?_);refine aN (Y _ λvs h1 t1 B H=>?_);have j:=M vs B;have G:vs.length<=sizeLine:=by rw[sizeLine_eq];omega
 refine aN (wpAny_newList ?_ G);have u:Fr h₀ L h1 m:=F.kept H;have y:News h₀ L h1 a:=N.grown H;have z:L<h1.objs.size:=u.ns.lt;have K:(h1.push (seqObj "list" vs.toArray 0)).get? h1.objs.size=some (seqObj "list" vs.toArray 0):=da _ rfl;have I:∀b o,h1.get? b=some o->(h1.push (seqObj "list" vs.toArray 0)).get? b=some o:=λb o e=>cv _ e;have J:h₀.get? h1.objs.size=none:=Heap.get?_none_of_le (ea u.above (nV z));show wpAny _ _ _ _ _ {s with heap:=h1.push (seqObj "list" vs.toArray 0),toks:=t1};refine aN (fY (wpAny_call_entry_kw slot_list_sort ⟨_,K,rfl⟩ entry_list_sort ?body (ksk_l1 _ _)))
 case body=>
  show wpAny (model prog w) A.in1.in1 (Builtin.«list.sort» ⟨[.ref h1.objs.size],[(Str.ofString "key",.ref q)]⟩) _ _ _;rw[ksk_t1];refine ksk_sort (s:={s with heap:=h1.push (seqObj "list" vs.toArray 0),toks:=t1}) (u.kept I) (y.grown I) K (Nat.ne_of_gt z) J (λp S=>ft (dt (y p S).1)) j (by omega) (λi v k U P h g d n x=>l vs B i v k U P h g d n x) λh' g out c n x X=>⟨_,rfl,?_⟩;exact a6 ⟨_,rfl,done vs _ h' g out c B n x (λq T=>dt (y q T).1) z J X⟩
end
open PySem PySem.Spec PySem.SeqAt PyProof.Rows
section
variable {X:Cx}{pins:List (Addr×Obj)}{σ:St}{H:Hp}{s:qU}{h':Heap}
theorem Am.LD{pos:Pos}{t':Nat}(I:Am X pins σ H s)(h:H P=some (.tab q pos))(k:∀b u,b≠P->s.heap.get? b=some u->h'.get? b=some u)(j:s.heap.objs.size<=c)(B:∃o,h'.get? c=some o)
  (g:h'.get? P=some (W.tabObj #[rawInt pos.line,rawInt pos.col,.ref c]))(r:h'.CodeRec (.ref c) q):Am X pins σ (upd H c (.own P)) {s with heap:=h',toks:=t'}:=by
 have f:H c=none:=I.aK.fresh j;have i:c≠P:=λz=>by rw[z,h]at f;cases f
 have l:∀b,H b=none->b≠P:=λb e z=>by rw[z,h]at e;cases e
 have w:∀b o,s.heap.get? b=some o->b≠c:=λb o e z=>absurd (fC (dt e) (z▸j)) (Nat.lt_irrefl _);refine I.un ⟨λb o e n _ _=>k b o (l b n) e,λb o e n _ _=>⟨o.slots,k b o (l b n) e⟩,λb o e n _=>(A9 (w b o e)).trans n,λb o e _=>?_,λb x e=>(A9 (Aa e f)).trans e,λb o u e=>(A9 (Aa e f)).trans e,λb C e=>⟨#[],by rw[A9 (Aa e f),e];simp⟩⟩ λb u e=>?_
 ·by_cases z:b=P
  ·exact⟨_,z▸g⟩
  ·exact⟨o,k b o z e⟩
 ·by_cases p:b=c
  ·subst p;rw[A2]at e;cases e;exact B
  ·rw[A9 p]at e;by_cases m:b=P
   ·subst m;rw[h]at e;cases e;exact .inr ⟨c,A2,i,g,r⟩
   ·refine(I.aK b u e).gY (λd o a v=>k d o ?_ v) (λd a=>(A9 (Aa a f)).trans a) λd x a=>(A9 (Aa a f)).trans a;rcases a with y|y
    ·rw[y];exact m
    ·intro A;rw[A,h]at y;cases y
def Tv(base:Heap)(mg:Str->Option q3):Prop:=∃a o,mg "__builtins__"=some (.ref a)/\a≠builtinsNs/\a≠mainGlobals/\base.get? a=some o/\o.cls=.type "module"/\o.dict=some builtinsNs/\o.data=.plain
theorem bh{x y q:Str}(I:Am X pins σ H s)(LG:defaultsOf a X.env=([],[]))(rQ:closureFor n X.env=pure [(y,B)])(uQ:X.env.code=.ref c)(hK:W.codeHdIn X.K c P=true)(hq:X.env.qual++"<lambda>"=q)(D:H P=some (.tab q lpos))(hB:Tv X.base X.mg)
  (h:∀(f g:Addr) (j pm:q3) (s':qU) (G:Hp),Am X pins σ G s'->A8 H G->s'.heap.get? f=some (W.kla_obj "<lambda>" q a d n [(y,B)] pm g j)->s'.heap.CodeRec (.ref g) q->(∀b o,b≠P->s.heap.get? b=some o->s'.heap.get? b=some o)->s.heap.objs.size<=f->G f=none->Q (.ref f) s'):
  wpAny (model X.prog X.w) X.A (eval (.Lambda a d n lpos) X.env) Q X.xe s:=by
 refine W.kla_eval LG ?_;rw[hq];have Z:s.heap.Ns mainGlobals X.mg:=I.ok.mod.glob.keeps I.bk;have C:=W.codeHd_of_K I.gZ hK;obtain⟨M,ob,b1,b2,b3,Y,b5,b6,b7⟩:=hB;have wQ:=I.bk _ _ Y
 have O:M≠P:=λz=>by
  have:=(I.bs M ob Y).2;rw[z,D]at this;cases this
 have p:s.heap.BuiltinsAt X.mg P:=⟨M,ob,b1,b2,b3,O,wQ,b5,b6,b7⟩
 have R:mainGlobals≠P:=λz=>by
  obtain⟨o,es,ep,e,_⟩:=I.ok.mod.glob;have:=(I.bs mainGlobals o e).2;rw[z,D]at this;cases this
 rcases(show Bl X.prog X.w H s.heap P (.tab q lpos)from I.aK P _ D)with N|⟨g,hown,ne,N,LF⟩
 ·refine W.kla_makeFunction (mg:=X.mg) rQ I.ok.glob Z uQ C N trivial rfl R p λg j h' E hx L bL K S=>?_;have k1:∀b o,b≠P->s.heap.get? b=some o->h'.get? b=some o:=λb o T e=>hx b o T e
  have DL:∃o,h'.get? g=some o:=by
   obtain⟨A,v,F,t,m,w,_⟩:=K;cases m;exact⟨v,w⟩
  have u:h'.get? P=some (W.tabObj #[rawInt lpos.line,rawInt lpos.col,.ref g]):=by simpa using S
  have U:=I.LD (t':=E) D k1 L DL u K;have l:∀b o,h'.get? b=some o->(h'.push (W.kla_obj "<lambda>" q a d n [(y,B)] ((X.mg "__name__").getD .none) g j)).get? b=some o:=λb o e=>cv _ e;have J:=U.kept (t':=E) l;have i:s.heap.objs.size<=h'.objs.size:=nV (nX L bL);exact h _ g j _ _ _ J (A8.upd (I.aK.fresh L)) (da _ rfl) (by obtain⟨A,v,F,t,m,w,r⟩:=K;exact⟨A,v,F,t,m,l _ _ w,r⟩) (λb o T e=>l _ _ (k1 b o T e)) i (U.aK.fresh (dr _))
 ·have LI:codeAmong lpos [rawInt lpos.line,rawInt lpos.col,.ref g]=some (.ref g):=codeAmong_snoc [] trivial rfl;refine W.kla_makeFunctionHit (mg:=X.mg) rQ I.ok.glob Z uQ C N trivial LI p λj h' E hk i=>?_;have l:∀b o,s.heap.get? b=some o->(h'.push (W.kla_obj "<lambda>" q a d n [(y,B)] ((X.mg "__name__").getD .none) g j)).get? b=some o:=λb o e=>cv _ (hk b o e);have J:=I.kept (t':=E) l;exact h _ g j _ _ _ J (A8.refl _) (da _ rfl) (by obtain⟨A,v,F,t,m,w,r⟩:=LF;exact⟨A,v,F,t,m,l _ _ w,r⟩) (λb o _ e=>l _ _ e) i (I.aK.fresh i)
end
open PySem PySem.Spec PySem.SeqAt PyProof.Rows
section
variable {X:Cx}
theorem Zp:Cu X (.type "range") (λxs H Q=>∃j:Int,xs=[.int j]/\∀p,H p=none->Q (.ref p) (upd H p (.xH 0 j))):=by
 intro a s d H xs c Q I r h;obtain⟨j,rfl,q⟩:=h;obtain⟨u,rfl,t,rfl⟩:=Dg r;refine call_range_1 ⟨.ref _,upd H _ (.xH 0 j),I.laid (t':=_) (λb o e=>cv _ e) (dr _) ⟨_,_,_,da _ rfl⟩,rfl,q _ (I.aK.fresh (dr _))⟩
theorem A05{h:Heap}{a:Addr}{m g:Str->Option q3}(h1:h.Ns a m)(j:h.Ns a g):m=g:=by
 obtain⟨o,p,n,e,d,_,f⟩:=h1;obtain⟨q,l,r,c,b,_,i⟩:=j;rw[e]at c;cases c;rw[d]at b;cases b;funext x;rw[<- f,<- i]
theorem Uk{vs out:List q3}(F:vs.length=ns.length)(s:∀(i:Nat) (v:q3),vs[i]?=some v->∃t:Tok,v=Value.int ((i:Nat):Int) t)(h:KskOut false ns vs out):
  ∃ord:List Nat,Ay (ord.map λ(k:Nat)=>V.int ((k:Nat):Int)) out/\ord.Perm (List.range ns.length)/\ord.Pairwise (λa b=>ns.getD a 0<=ns.getD b 0):=by
 obtain⟨f,m,u,w⟩:=h
 have d:∀p∈f,∃(k:Nat) (t:Tok),k<ns.length/\p=(ns.getD k 0,Value.int ((k:Nat):Int) t):=λp n=>by
  have o:=m.mem_iff.mp n;obtain⟨i,l⟩:=List.getElem?_of_mem o;obtain⟨r,z⟩:=List.getElem?_zip_eq_some.mp l;obtain⟨t,g⟩:=s i p.2 z;have B:=(cb.mp r).1;refine⟨i,t,B,?_⟩;rw[List.getD_eq_getElem?_getD,r];show p=(p.1,_);rw[<- g]
 refine⟨f.map λp=>(numOf p.2).toNat,?_,?_,?_⟩
 ·rw[u];clear m u w
  induction f with
  |nil=>exact .nil
  |cons p f D=>
   obtain⟨k,t,_,e⟩:=d p dm;refine .cons ?_ (D λx C=>d x (d0 _ C));rw[e];exact⟨t,rfl⟩
 ·have j:=m.map (λp:Int×q3=>(numOf p.2).toNat);refine j.trans (List.Perm.of_eq ?_);apply List.ext_getElem?;intro i;rw[List.getElem?_map];by_cases q:i<ns.length
  ·have o:(ns.zip vs)[i]?=some (ns[i],vs[i]'(by omega)):=List.getElem?_zip_eq_some.mpr ⟨d3 q,d3 (by omega)⟩;obtain⟨t,g⟩:=s i (vs[i]'(by omega)) (d3 (by omega));rw[o,List.getElem?_range q];show some (numOf (vs[i]'(by omega))).toNat=some i;rw[g];rfl
  ·rw[List.getElem?_eq_none (by rw[List.length_zip];omega),List.getElem?_eq_none (by rw[List.length_range];omega)];rfl
 ·rw[List.pairwise_map];refine w.imp_of_mem λ{p E} j A c=>?_;obtain⟨k,t,_,e⟩:=d p j;obtain⟨G,H,_,y⟩:=d E A;rw[e,y]at c⊢;exact c
variable {k:Nat}{params:Arguments}{body:Expr}{fE:Scope}{x y q:Str}{lpos kpos p pos:Pos}{c P:Addr}{j:Nat}{e:Expr}{tr:TA}
def jm(K:W.Frag)(P:Addr)(q:Str)(lpos:Pos)(j:Nat)(tr:TA):TE:=λi H Q=>tr i H λl g=>∃(r D:Addr) (f:qG),l=[.ref r]/\g r=some (.xH 0 ((f.length:Nat):Int))/\i[j]?=some (some (.ref D))/\Aq K g D (f.map V.int)/\f.length<64/\g P=some (.tab q lpos)/\
 ∀(p:Addr) (d:List Nat) (h:Hp),A8 g h->g p=none->h p=some (.lst (d.map λ(k:Nat)=>V.int ((k:Nat):Int)))->d.Perm (List.range f.length)->d.Pairwise (λa b=>f.getD a 0<=f.getD b 0)->Q (.ref p) h
theorem Uw(hr:Be k X.A)(L:Lam params body fE x y)(rQ:∀l,X.env.cells.lookup y=some l->closureFor fE X.env=pure [(y,l)])(hky:X.env.kindOf y=some .cell)(hN:X.N[j]?=some y)(hv:zr X.env.scope y)(LG:defaultsOf params X.env=([],[]))(uQ:X.env.code=.ref c)(hK:W.codeHdIn X.K c P=true)(hq:X.env.qual++"<lambda>"=q)(hB:Tv X.base X.mg)
  (hg:Gl X "sorted")(hm:X.mg "sorted"=none)(ha:PA X [e] tr)(he:starEach [e] X.env=[(false,eval e X.env)]:=by rfl):PE X (.Call (.Name "sorted" p) [e] [⟨some "key",.Lambda params body fE lpos,kpos⟩] pos) (jm X.K P q lpos j tr):=by
 intro J s σ H Q I h;refine wpAny_Call_Name_kw (E9 I hg hm boot_sorted ?_ (by decide) (by decide));refine callWith_kw (he:=by rw[he];rfl) (hplain:=by rw[he];rfl) (Br (ha pos J s σ H _ I h) λus s1 bQ=>?_);obtain⟨Y,H1,I1,r1,q1⟩:=bQ;obtain⟨r,D,O,rfl,hrng,hσ,hD,DK,hP,q2⟩:=q1;obtain⟨u,rfl,ru⟩:=Dg r1;cases ru;obtain⟨m0,uP,hl0⟩:=I1.loc;obtain⟨u0,ru0,lk⟩:=hl0 j y (.ref D) hN hσ hv;cases ru0
 obtain⟨l,JW,kM⟩:∃l,X.env.cells.lookup y=some l/\s1.heap.IsCell l (some (.ref D)):=by
  rcases lk with⟨z,_⟩|⟨_,l,z1,z2⟩
  ·rw[hky]at z;cases z
  ·exact⟨l,z1,z2⟩
 show wpAny _ _ (evalAll [(do let v <- eval (.Lambda params body fE lpos) X.env;standAt pos;pure v)]) _ _ s1;refine wpAny_evalAll_cons (aN (bh (x:=x) I1 LG (rQ l JW) uQ hK hq hP hB λf c' CQ pm a H' g sm ef LF kk hfz hfn=>?_));refine aN (wpAny_standAt (a6 (wpAny_evalAll_nil ?_)));show wpAny _ _ (call (.builtin "sorted") [.ref r] [(Str.ofString "key",.ref f)]) _ _ a;obtain⟨m,hn,_⟩:=g.loc;have F:Fr X.base X.env.locals a.heap m:=⟨hn,g.bk,ea g.ok.xI g.ok.above⟩;have N:News X.base X.env.locals a.heap (Hh X.base a.heap X.env.locals):=bu;obtain⟨aH,rv,pl,hz⟩:=g.list (sm.seq hD);have hil:aH.length=O.length:=by rw[<- rv.length,List.length_map]
 have uR:∀(b:Addr) (o:Obj),a.heap.get? b=some o->(∀es ep,o.data≠ .dict es ep)->b≠X.env.locals:=λb o e w z=>by
  obtain⟨o',es,ep,e',d',_⟩:=hn;rw[z,e']at e;cases e;exact w _ _ d'
 obtain⟨t1,t2,t3,erng⟩:=(show Bl X.prog X.w H' a.heap r (.xH 0 ((O.length:Nat):Int))from g.aK r _ (sm _ _ hrng))
 have LJ:l≠P:=λz=>by
  have:=I1.cP y l JW;rw[z,hP]at this;cases this
 have LK:a.heap.IsCell l (some (.ref D)):=by
  obtain⟨o,B,G⟩:=kM;exact⟨o,kk _ _ LJ B,G⟩
 have kept:∀{h:Heap}{S:List (Addr×Obj)},Fr X.base X.env.locals h m->News X.base X.env.locals h (Hh X.base a.heap X.env.locals++S)->∀b o,b≠X.env.locals->a.heap.get? b=some o->h.get? b=some o:=λ{h S} A M b o nb e=>by
  cases qq:X.base.get? b with
  |some o'=>
   have:=g.bk b o' qq;rw[e]at this;cases this;exact A.keep b _ qq
  |none=>exact(M (b,o) (gy _ (L5 nb qq e))).1
 refine Vb (h₀:=X.base) (L:=X.env.locals) (m:=m) (kz:=O) (C:=λY=>Y.length=O.length/\∀(i:Nat) (v:q3),Y[i]?=some v->∃t:Tok,v=Value.int ((i:Nat):Int) t) F N rfl DK (λR hR=>?_) (λY U=>U.1.symm) (λY U i v kk' hvi hki h tk S A M=>?_) λY K C tk out c2 U A M bL hL hD0 ko=>?_
 ·refine S0 (A:=X.A.in1) hr.hd erng (small_one (by omega) (by omega) (by omega) (by omega)) (n:=O.length) (by rw[rangeSize_one];split<;>omega) (by omega) λh1 tk acc k1 hI=>hR _ h1 tk ⟨by rw[Array.length_toList];exact hI.1,λi v hv=>?_⟩ k1;obtain⟨t,e⟩:=hI.2 i v (by rw[<- Array.getElem?_toList];exact hv);exact⟨t,by rw[e];congr 1;omega⟩
 ·obtain⟨t,rfl⟩:=U.2 i v hvi;have hi:i<O.length:=(cb.mp hki).1;obtain⟨w',ew,pC⟩:=rv.get (show(O.map V.int)[i]?=some (.int kk')by rw[List.getElem?_map,hki];rfl);obtain⟨t',rfl⟩:=pC;have E:=kept A M;have hfD:f≠X.env.locals:=uR f _ ef λ_ _ z=>by cases z
  have hcr':h.CodeRec (.ref c') q:=by
   obtain⟨c3,oc,vs3,t4,G,xQ,w,hv3⟩:=LF;cases G;exact⟨_,oc,vs3,t4,rfl,E _ _ (uR _ _ xQ λ_ _ z=>by rw[w]at z;cases z) xQ,w,hv3⟩
  have LL:h.IsCell l (some (.ref D)):=by
   obtain⟨o,B,G⟩:=LK;exact⟨o,E _ _ (uR _ _ B λ_ _ z=>by rw[G]at z;cases z) B,G⟩
  have TL:h.IsList D aH.toArray:=by
   obtain⟨o,B,G,n2,e3⟩:=pl.isList;exact⟨o,E _ _ (uR _ _ B λ_ _ z=>by rw[e3]at z;cases z) B,G,n2,e3⟩
  refine wpAny_call (codeAny_mono (bj (s:={a with heap:=h,toks:=tk}) L hr.depth (E _ _ hfD ef) hcr' LL TL (g.ok.mod.nolimit.keeps A.keep) ew (by rw[hil,sizeLine_eq];omega) (R:=λres s3=>∃C Z,res=.ok (.ret (.int kk' t'))/\s3={a with heap:=C,toks:=Z}/\∀b o,h.get? b=some o->C.get? b=some o) λC Z k'=>⟨C,Z,rfl,rfl,k'⟩) λres s3 JZ=>?_);obtain⟨C,Z,rfl,rfl,k'⟩:=JZ;exact⟨C,Z,t',rfl,rfl,A.kept k',M.grown k'⟩
 ·obtain⟨ord,TM,bO,DN⟩:=Uk U.1 U.2 ko
  have hDs:a.heap.get? K=none:=by
   cases qq:a.heap.get? K with
   |none=>rfl
   |some o=>exact absurd (bL _ (L5 (Nat.ne_of_gt hL) hD0 qq)) (Nat.lt_irrefl _)
  have T:H' K=none:=g.aK.off hDs;have N2:News X.base X.env.locals C (Hh X.base a.heap X.env.locals++[]):=λp hp=>M p (d0 _ (by simpa using hp));have E:=kept A N2;have B:=(M _ dm).1
  have I2:Am X J σ (upd H' K (.lst (ord.map λ(k:Nat)=>V.int ((k:Nat):Int)))) {a with heap:=C,gens:=a.gens,drawn:=a.drawn,toks:=tk}:=by
   refine g.step (ch:=[]) (λ_ z=>nomatch z) (λb o hb _ _ e _=>E b o hb e) (λb o hb _ _ e _=>⟨o.slots,E b o hb e⟩) (λb o _ e n=>(A9 λz=>by rw[z,hDs]at e;cases e).trans n) (λb o _ e=>?_) (λb xs e=>(A9 (Aa e T)).trans e) (λb o u e=>(A9 (Aa e T)).trans e) (λb ps e=>⟨#[],by rw[A9 (Aa e T),e];simp⟩) (λm1 h1=>?_) (λb u e=>?_) g.bare
   ·by_cases z:b=X.env.locals
    ·obtain⟨o',es,ep,e',_⟩:=A.ns;exact⟨o',z▸e'⟩
    ·exact⟨o,E b o z e⟩
   ·rw[A05 h1 hn];exact A.ns
   ·by_cases z:b=K
    ·subst z;rw[A2]at e;cases e;refine⟨?_,out.toList,c2,TM,by simpa using B⟩;rw[List.length_map,bO.length_eq,List.length_range,sizeLine_eq];omega
    ·rw[A9 z]at e;refine(g.aK b u e).gY (λd o w ho=>E d o ?_ ho) (λd w=>(A9 (Aa w T)).trans w) λd xs w=>(A9 (Aa w T)).trans w;intro y;have mX:=g.free;rcases w with w1|w1
     ·rw[<- y,w1,e]at mX;cases mX
     ·rw[<- y,w1]at mX;cases mX
  exact⟨.ref K,_,I2,rfl,q2 K ord _ (sm.trans (A8.upd T)) (sm.free T) A2 bO DN⟩
end
theorem Yd{P:q4}{w:ra}{K:W.Frag}{mg mb:Str->Option q3}{CX:Ze}{k:Nat}{T a pt:Addr}{q:Str}{pos:Pos}{fd:q7}{x:Str}{sp:Sp}{c:qU}{vs:List q3}{ns:qG}
  (KX:K.In c.heap)(uM:c.heap.Ns mainGlobals mg)(A:c.heap.Ns builtinsNs mb)(hbb:∀x:Str,x≠"__name__"->mb x=bootBuiltins x)(M:c.heap.NoLimit)(hg:c.gens=#[])
  (D:c.heap.get? pt=some (W.tabObj #[]))(Z:K.lookup pt=none)(hct:isCodeTable c.heap pt)
  (C:c.heap.get? a=some {cls:=.type "list",data:=.seq vs.toArray})(hi:IntsAre vs ns)(hl:ns.length<=sizeLine)(hr:Be k callerA)
  (hB:c.heap.BuiltinsAt mg pt)(F:∀base:Heap,K.In base->base.Ns mainGlobals mg->Tv base mg->B3 P w K mg base CX k T fd [x] sp)(TN:∀(s:qU) (u:q3),BindsTo s fd ⟨[u],[]⟩ [(x,u)])
  (wJ:∀H:Hp,H pt=some (.tab q pos)->Aq K H a (ns.map V.int)->sp [.ref a] H (λv Q=>v=.bl true/\Q pt=some (.tab q pos)) λ_ _ _=>False)
  (Y:∀H e s',CX [] H c (λ_ _ _=>False) e s'->False):
  codeAny (model P w) callerA (.call (.ref T) ⟨[.ref a],[]⟩) (λr s'=>r=.ok (.ret (.bool true))/\OldK c.heap s'.heap/\s'.os=c.os/\AllBare s'.gens) c:=by
 have rv:=Ho hi;have N:=hi.length
 have O:pt≠a:=λz=>by
  rw[z,C]at D;cases D
 have y:∀H:Hp,(∀b,b≠pt->H b=none\/∃o xs,H b=some (.fB o (.lst xs)))->H pt=some (.tab q pos)->Aq K H a (ns.map V.int)->Gm P w H c.heap->(∀b,H b≠none->b=a\/b=pt)->(H a≠none->K.lookup a=none)->
   codeAny (model P w) callerA (.call (.ref T) ⟨[.ref a],[]⟩) (λr s'=>r=.ok (.ret (.bool true))/\OldK c.heap s'.heap/\s'.os=c.os/\AllBare s'.gens) c:=by
  intro H hO hPt hS aK U hK;have pJ:∀{b:Addr}{o:Obj},c.heap.get? b=some o->H b=none->(Od c.heap H).get? b=some o:=λe n=>av e n
  have SA:∀{b:Addr}{o:Obj}{I:Array DictEntry}{G:Nat},c.heap.get? b=some o->o.data=.dict I G->H b=none:=λ{b o I G} e d=>by
   cases l:H b with
   |none=>rfl
   |some u=>
    rcases U b (by rw[l];simp)with g|g
    ·subst g;rw[C]at e;cases e;have d':Data.seq vs.toArray _=Data.dict I G:=d;cases d'
    ·subst g;rw[D]at e;cases e;cases d
  have j:∀{b:Addr}{m:Str->Option q3},c.heap.Ns b m->(Od c.heap H).Ns b m:=λ{b m} ⟨o,I,G,e,d,r⟩=>⟨o,I,G,pJ e (SA e d),d,r⟩
  have J:K.In (Od c.heap H):=λb o e=>pJ (KX b o e) (by
   cases l:H b with
   |none=>rfl
   |some u=>
    rcases U b (by rw[l];simp)with g|g
    ·subst g;rw[hK (by rw[l];simp)]at e;cases e
    ·subst g;rw[Z]at e;cases e)
  have hM:Mod K mg (Od c.heap H):=⟨J,j uM,⟨mb,j A,hbb⟩,let⟨mc,h1,h2⟩:=M;⟨mc,j h1,h2⟩⟩
  have X:Tv (Od c.heap H) mg:=by
   obtain⟨S,o,b1,b2,b3,b4,R,b6,b7,b8⟩:=hB;refine⟨S,o,b1,b2,b3,pJ R ?_,b6,b7,b8⟩;cases l:H S with
   |none=>rfl
   |some u=>
    rcases U S (by rw[l];simp)with g|g
    ·rw[g,C]at R;cases R;cases b8
    ·exact absurd g b4
  have e0:Tw P w K mg (Od c.heap H) callerA [] c H:=⟨rfl,hM,λb o e=>lz e,Nat.le_of_eq (Y7 _ _),trivial,λb A=>absurd (show b∈([]:List Addr)from A) (by simp),aK,.of_eq hg⟩;refine codeAny_mono ((F _ J (j uM) X).run callerA [] c H ⟨[.ref a],[]⟩ [.ref a] [.ref a] _ _ hr e0 (TN c (.ref a)) (.cons rfl .nil) (wJ H hPt hS)) λr s' h=>?_;cases r with
  |error e=>exact(Y H e s' h).elim
  |ok fl=>
   cases fl with
   |next=>exact False.elim h
   |brk=>exact False.elim h
   |cont=>exact False.elim h
   |ret u=>
    obtain⟨v,Q,os,E,un,sI,r',q1,q2⟩:=h;subst q1;obtain rfl:u=Value.bool true:=r';refine⟨rfl,⟨λb o e=>?_,λb o e=>un.there b o e (by simp)⟩,os,E⟩;by_cases L:b=pt
    ·subst L;rw[D]at e;cases e;rcases(show Bl P w Q s'.heap b (.tab q pos)from sI b _ q2)with B|⟨c',_,_,B,_⟩
     ·exact .inl B
     ·exact .inr (.inl ⟨hct,rfl,#[],_,rfl,by simpa using B⟩)
    ·refine .inl ?_;cases l:H b with
     |none=>exact un.keep b o e l (by intro z;exact absurd (show b∈([]:List Addr)from z) (by simp)) (by simp)
     |some u=>
      rcases hO b L with z|⟨ob,xs,z⟩
      ·rw[l]at z;cases z
      ·have z2:=un.gN b ob _ z;obtain⟨B,_⟩:=aK b _ z;obtain⟨e2,_⟩:=sI b _ z2;rw[e]at B;cases B;exact e2
 have FH:∀H:Hp,Bl P w H c.heap pt (.tab q pos):=λH=>.inl D;cases hk:K.lookup a with
 |some o=>
  have e:=KX a o hk;rw[C]at e;cases e;refine y (λb=>if b=pt then some (.tab q pos)else none) (λb A=>.inl (if_neg A)) (if_pos rfl) (.inr ⟨_,vs.toArray,_,hk,rfl,rfl,rfl,by rw[List.size_toArray,N];exact hl,by simpa using rv⟩) (λb u z=>?_) (λb z=>?_) λz=>absurd (if_neg O.symm) z
  ·by_cases f:b=pt
   ·have p:=(if_pos f).symm.trans z;cases p;subst f;exact FH _
   ·have p:=(if_neg f).symm.trans z;cases p
  ·by_cases f:b=pt
   ·exact .inr f
   ·exact absurd (if_neg f) z
 |none=>
  refine y (λb=>if b=pt then some (.tab q pos)else if b=a then some (.fB {cls:=.type "list",data:=.seq vs.toArray} (.lst (ns.map V.int)))else none) (λb A=>?_) (if_pos rfl) (.inl (.inr ⟨{cls:=.type "list",data:=.seq vs.toArray},(if_neg O.symm).trans (if_pos rfl)⟩)) (λb u z=>?_) (λb z=>?_) λ_=>hk
  ·by_cases i:b=a
   ·exact .inr ⟨_,_,(if_neg A).trans (if_pos i)⟩
   ·exact .inl ((if_neg A).trans (if_neg i))
  ·by_cases f:b=pt
   ·have p:=(if_pos f).symm.trans z;cases p;subst f;exact FH _
   ·have z1:=(if_neg f).symm.trans z;by_cases i:b=a
    ·have p:=(if_pos i).symm.trans z1;cases p;subst i;exact⟨C,by rw[List.length_map];exact hl,vs,_,rv,C⟩
    ·have p:=(if_neg i).symm.trans z1;cases p
  ·by_cases f:b=pt
   ·exact .inr f
   ·by_cases i:b=a
    ·exact .inl i
    ·exact absurd ((if_neg f).trans (if_neg i)) z
theorem walk_ofT{l:W.OpenLaw}{n k:Nat}{q:q4}{j:List Str}{XP:(Str->Option q3)->Heap->Prop}{C:ra->Heap->Prop}{d:DefRec}{K:Params->W.Frag}{CX:ra->Ze}{sp:ra->Sp}{x:Str}{pt:Addr}{lq:Str}{lpos:Pos}
  (hn:l.most=some n)(QQ:n<=sizeLine)(P:d.params.defaults=[])(hr:Be k callerA)
  (hY:∀(w:ra) (h:Heap),C w h->(K w.params).In h)(X:∀(w:ra) (h:Heap),C w h->h.get? pt=some (W.tabObj #[]))
  (F:∀(w:ra) (mg:Str->Option q3) (A:Addr) (h:Heap),(K w.params).In h->h.Ns mainGlobals mg->mg d.name=some (.ref A)->
   ((K w.params).lookup pt=none/\∃c,W.codeHdIn (K w.params) c pt=true)/\∃E:q7,(∀(s:qU) (u:q3),BindsTo s E ⟨[u],[]⟩ [(x,u)])/\
    ∀base:Heap,(K w.params).In base->base.Ns mainGlobals mg->Tv base mg->B3 l.prog w (K w.params) mg base (CX w) k A E [x] (sp w))
  (wJ:∀(w:ra) (H:Hp) (a:Addr) (ns:qG),ns.length<=n->(∀z∈ns,PySem.Builtin.Int.intBits z<=2^20)->H pt=some (.tab lq lpos)->Aq (K w.params) H a (ns.map V.int)->sp w [.ref a] H (λv H'=>v=.bl true/\H' pt=some (.tab lq lpos)) λ_ _ _=>False)
  (L:∀(w:ra) (H:Hp) (s:qU) (e:q3) (s':qU),CX w [] H s (λ_ _ _=>False) e s'->False):
  W.WalkO q j XP C l.row.toRowW d [] (λf vs=>PySem.call f vs):=by
 intro w Z b mg mb G Y A o pm cd doc dV kV ho hd rZ U Q hg R vals as DD p hrd QT hlo;obtain rfl:dV=.none:=W.Dflts.none U P;obtain rfl:kV=.none:=W.Dflts.noKw U;obtain⟨a,vs,ns,rfl,rfl,y,i,g⟩:=Att.wK hn DD QT
 have big:∀z∈ns,PySem.Builtin.Int.intBits z<=2^20:=λz hz=>by
  have l1:=(W.layW_cons p).1;have l2:=W.layableW_item l1 (.int z) (fx.mpr ⟨z,hz,rfl⟩);have l3:=(W.layableW_iff.mp l2).2.2;simpa only[W.WData.weight,Builtin.Int.intBits]using l3
 have B:=hY w _ Y;obtain⟨⟨M,c,N⟩,E,hb,hF⟩:=F w mg A _ B G.T.g Q
 have O:isCodeTable b.heap pt:=by
  obtain⟨o,vs,T,tf,I,tg,inF,text,tt,e1,e2,e3,e4,_⟩:=W.codeHd_of_K B N;exact⟨c,o,vs,e1,e2,e3,e4⟩
 have J:b.heap.BuiltinsAt mg pt:=by
  obtain⟨bm,ob,b1,b2,m,S,b5,D⟩:=G.T.bmain;refine⟨bm,ob,b1,b2,λz=>?_,λz=>?_,m,S,b5,D⟩
  ·obtain⟨o',es,ep,e,jN,_⟩:=G.T.g;rw[z,e]at m;cases m;rw[jN]at D;cases D
  ·have:=X w _ Y;rw[z,this]at m;cases m;cases S
 refine W.enter_call (codeAny_mono (Yd (q:=lq) (pos:=lpos) B G.T.g G.T.b G.T.builtins G.T.nolimit hg (X w _ Y) M O y i (ea g QQ) hr J hF hb (λH hP hS=>wJ w H a ns g big hP hS) λH e s'=>L w H b e s') λr s' hq=>?_);obtain⟨rfl,h2,h3,h4⟩:=hq;exact⟨.inl ⟨.bool true,.bool true,[],rfl,λ_=>rfl,.bool true,Att.wL l _,λ_=>⟨List.Pairwise.nil,λ_ hm=>(nomatch hm)⟩⟩,h2,h3,h4⟩
structure jw(K:W.Frag)(x qual:Str)(st:Stmt)(f:Addr)(fd:q7)(c pt:Addr):Prop where
 fn:D4 K x qual st f fd
 code:fd.code=.ref c
 tab:W.codeHdIn K c pt=true
theorem jw.uN{P:q4}{w:ra}{K:W.Frag}{mg:Str->Option q3}{base:Heap}{x a:Str}{st:Stmt}{f:Addr}{d:q7}{c pt:Addr}{N ps:List Str}{k:Nat}{sp:Sp}(F:jw K x a st f d c pt)(S:Af N ps (A6 st))(b:∀vs H Q E,sp vs H Q E->vs.length=ps.length)
  (i:∀(A:q5) (outer:List Env) (s:qU) (H:Hp) (vs:List V) (Q:VK) (E:XK),Be k (A.deeper (envOfC a (A6 st) s.heap.objs.size f (.ref c)))->sp vs H Q E->
   ∃t,O6 (Fd (CX1 P w) P w K mg base N a (A6 st) f (.ref c) A outer s H E) (Bi st) t/\t {nx:=λ_ e=>Q .bN e,rt:=Q} (start N vs) H):B3 P w K mg base (CX1 P w) (k+1) f d ps sp:=by
 obtain⟨p,q,kV,h,r,m,g,n,o,rfl,j,l⟩:=F.fn.ex;obtain rfl:g=.ref c:=F.code;exact am j l S b i
theorem Rz{env:Env}(c:b.names=[(x,.local),(y,.free)])(h:env.cells.lookup y=some a):closureFor b env=pure [(y,a)]:=by
 unfold closureFor;rw[c];simp[cellOf,h]
def Ma(xs:Array Nat):Prop:=xs.toList.Pairwise (·<·)
theorem U1(u:Ma xs):∀(fuel lo d:Nat),d-lo<=fuel->lo<=d->d<=xs.size->(∀i a,i<lo->xs[i]?=some a->a<j)->(∀i a,d<=i->xs[i]?=some a->j<=a)->
  SetTable.below.go xs j fuel lo d<=xs.size/\(∀i a,i<SetTable.below.go xs j fuel lo d->xs[i]?=some a->a<j)/\∀i a,SetTable.below.go xs j fuel lo d<=i->xs[i]?=some a->j<=a
 |0,lo,d,A,s,o,m,n=>by
  unfold SetTable.below.go;have e:lo=d:=by omega
  subst e;exact⟨o,m,n⟩
 |fuel+1,lo,d,A,s,o,m,n=>by
  unfold SetTable.below.go;by_cases v:lo<d
  ·rw[if_pos v];have l:(lo+d)/2<xs.size:=by omega
   have h:xs[(lo+d)/2]?=some (xs[(lo+d)/2]'l):=Array.getElem?_eq_getElem l;have y:xs.getD ((lo+d)/2) j=xs[(lo+d)/2]'l:=by simp[Array.getD,l]
   dsimp only;rw[y];generalize xs[(lo+d)/2]'l=b at h
   have up:∀i k a c,i<k->xs[i]?=some a->xs[k]?=some c->a<c:=λi k a c r f x=>by
    have g:=me.mp f;have w:=me.mp x;have:=List.pairwise_iff_getElem.mp u i k (by simpa using g.1) (by simpa using w.1) r;simp only[Array.getElem_toList]at this;rw[g.2,w.2]at this;exact this
   by_cases p:b<j
   ·rw[if_pos p];refine U1 u fuel _ _ (by omega) (by omega) o (λi a q f=>?_) n;rcases i3 i ((lo+d)/2)with z|z
    ·have:=up i _ a b z f h;omega
    ·rw[show i=(lo+d)/2 by omega,h]at f;cases f;exact p
   ·rw[if_neg p];refine U1 u fuel _ _ (by omega) (by omega) (by omega) m (λi a q f=>?_);rcases i3 ((lo+d)/2) i with z|z
    ·have:=up _ i b a z h f;omega
    ·rw[show i=(lo+d)/2 by omega,h]at f;cases f;omega
  ·rw[if_neg v];have e:lo=d:=by omega
   subst e;exact⟨o,m,n⟩
theorem bel(j:Nat)(b:Ma xs):SetTable.below xs j<=xs.size/\(∀i a,i<SetTable.below xs j->xs[i]?=some a->a<j)/\∀i a,SetTable.below xs j<=i->xs[i]?=some a->j<=a:=
 U1 b xs.size 0 xs.size (by omega) (mu _) (dr _) (λi a h=>absurd h (nU _)) λi a h e=>by
  have:=(me.mp e).1;omega
theorem qj(f:Ma xs)(h:xs[i]?=some a):SetTable.below xs (a+1)=i+1:=by
 obtain⟨g,b,c⟩:=bel (a+1) f;have e:=me.mp h;generalize SetTable.below xs (a+1)=p at g b c;rcases Nat.lt_trichotomy p (i+1)with z|z|z
 ·have:=c i a (by omega) h;omega
 ·exact z
 ·have j:xs[i+1]?=some (xs[i+1]'(by omega)):=Array.getElem?_eq_getElem (by omega);have:=b (i+1) _ z j;have d:=List.pairwise_iff_getElem.mp f i (i+1) (by simpa using e.1) (by simp;omega) (by omega);simp only[Array.getElem_toList]at d;rw[e.2]at d;omega
theorem Zm(e:Ma xs):SetTable.below xs 0=0:=by
 obtain⟨b,a,c⟩:=bel 0 e;generalize SetTable.below xs 0=p at b a c;cases p with
 |zero=>rfl
 |succ p=>
  have d:xs[0]?=some (xs[0]'(by omega)):=Array.getElem?_eq_getElem (by omega);exact absurd (a 0 _ (by omega) d) (nU _)
theorem V2(g:Ma xs)(q:j∉xs.toList):Ma (SetTable.insertAt xs (SetTable.below xs j) j):=by
 obtain⟨o,h,l⟩:=bel j g;generalize SetTable.below xs j=p at o h l⊢;unfold Ma;rw[SetTable.toList_insertAt]
 have n:∀a∈xs.toList.take p,a<j:=λa f=>by
  obtain⟨i,c⟩:=gP.mp f;rw[List.getElem?_take]at c;split at c
  ·exact h i a (by assumption) (by simpa using c)
  ·cases c
 have m:∀b∈xs.toList.drop p,j<b:=λb d=>by
  obtain⟨i,c⟩:=gP.mp d;rw[List.getElem?_drop]at c;have:=l (p+i) b (by omega) (by simpa using c);have r:j≠b:=λe=>q (e▸List.mem_of_mem_drop d);omega
 refine List.pairwise_append.mpr ⟨List.Pairwise.sublist (List.take_sublist ..) g,List.pairwise_cons.mpr ⟨m,List.Pairwise.sublist (List.drop_sublist ..) g⟩,λa f b d=>?_⟩;rcases eH.mp d with e|d
 ·rw[e];exact n a f
 ·exact Nat.lt_trans (n a f) (m b d)
theorem Yy(n:Nat):Ma (Array.range n):=by
 unfold Ma;rw[Array.toList_range];exact List.pairwise_lt_range
structure Bu(t:SetTable)(led:Bool):Prop where
 CS:Ma t.place
 dum:t.dummies=#[]
 led:t.led=led
theorem Bu.fresh(a b:Nat)(led:Bool):Bu (.fresh a b led) led:=⟨List.Pairwise.nil,rfl,rfl⟩
theorem Bu.standIn{t:SetTable}{led:Bool}(h:Bu t led)(n:Nat):Bu (t.standIn n) led:=⟨Yy n,rfl,h.led⟩
theorem Bu.off{t:SetTable}{led:Bool}(h:Bu t led):Bu {t with plain:=false} led:=⟨h.CS,h.dum,h.led⟩
theorem Wk(j:Nat):SetTable.has #[] j=false:=by
 unfold SetTable.has;simp
theorem Bu.probe{t:SetTable}{led:Bool}(g:Bu t led)(f:Nat->Int)(h:Int):∀(fuel:Nat) (p:SetTable.Probe) (j:Nat) (d:Option Nat),SetTable.probe.go t f h fuel p=some (.empty j d)->d=p.dummy/\t.slot j=.empty
 |0,p,j,d,e=>by
  unfold SetTable.probe.go at e;cases e
 |fuel+1,p,j,d,e=>by
  unfold SetTable.probe.go at e;split at e
  ·rename_i a;cases e;exact⟨rfl,a⟩
  ·rename_i a;unfold SetTable.slot at a;simp only[g.dum,Wk]at a;split at a
   ·cases a
   ·cases a
  ·split at e
   ·cases e
   ·have:=Bu.probe g f h fuel _ j d e;refine⟨this.1.trans ?_,this.2⟩;unfold SetTable.advance;split<;>rfl
theorem Bu.free{t:SetTable}{led:Bool}(g:Bu t led){h:Int}{j:Nat}{b:Bool}(e:t.freeSlot h=some (j,b)):j∉t.place.toList:=by
 unfold SetTable.freeSlot at e;split at e
 ·rename_i a d v;obtain⟨r,c⟩:=g.probe _ _ _ _ _ _ v;have w:d=none:=r;subst w;cases e;intro u;obtain⟨i,s⟩:=gP.mp u;obtain⟨x,o,p⟩:=bel a g.CS;have f:t.place[i]?=some a:=by simpa using s
  have l:i=SetTable.below t.place a:=by
   rcases Nat.lt_trichotomy i (SetTable.below t.place a)with z|z|z
   ·have:=o i a z f;omega
   ·exact z
   ·have n:=(me.mp f).1;have q:t.place[SetTable.below t.place a]?=some (t.place[SetTable.below t.place a]'(by omega)):=Array.getElem?_eq_getElem (by omega);have y:=p _ _ (dr _) q;have m:=List.pairwise_iff_getElem.mp g.CS _ i (by simp;omega) (by simpa using n) z;simp only[Array.getElem_toList]at m;rw[(Array.getElem?_eq_some_iff.mp f).2]at m;omega
  unfold SetTable.slot at c;dsimp only at c;rw[<- l,f]at c;simp at c
 ·cases e
theorem Bu.put{t:SetTable}{led:Bool}(g:Bu t led){j:Nat}(h:j∉t.place.toList):Bu (t.put j).1 led:=by
 refine⟨V2 g.CS h,?_,g.led⟩;show(if SetTable.has t.dummies j then _ else t.dummies)=_;rw[g.dum,Wk];rfl
theorem Bu.orStandIn{t:SetTable}{led:Bool}(g:Bu t led)(n:Nat):Bu (t.orStandIn n) led:=by
 unfold SetTable.orStandIn;split
 ·exact g
 ·exact g.standIn n
theorem Bu.layNew{t:SetTable}{led:Bool}(g:Bu t led)(es:Array (Int×q3))(h:Int)(x:q3):Bu (layNew t es h x).2.1 led:=by
 unfold PySem.layNew;split
 ·rename_i a b e;exact(g.put (g.free e)).orStandIn _
 ·exact g.standIn _
theorem Bu.laid{g a b:Nat}{led h:Bool}{q:Array Int}{t:SetTable}{o:Array Nat}(e:SetTable.laid g a b led h q=some (t,o)):Bu t led:=by
 unfold SetTable.laid at e;cases p:SetTable.layClean g q with
 |none=>rw[p]at e;cases e
 |some f=>
  rw[p]at e;cases e;refine⟨?_,rfl,rfl⟩;show List.Pairwise _ _;simp only[List.toList_toArray];rw[List.map_filterMap];refine List.Pairwise.filterMap _ (R:=(·<·)) (λi k r a j b l=>?_) List.pairwise_lt_range;cases m:f.getD i none with
  |none=>simp[m]at j
  |some c=>
   cases n:f.getD k none with
   |none=>simp[n]at l
   |some d=>
    simp[m]at j;simp[n]at l;omega
theorem Bu.TQ{t:SetTable}{led:Bool}(g:Bu t led)(es:Array (Int×q3))(n:Nat):Bu (relayAll t es n).2.1 led:=by
 unfold relayAll;split
 ·rename_i b a e;dsimp only;split
  ·have:=Bu.laid e;rw[g.led]at this;exact this
  ·exact g.standIn _
 ·exact g.standIn _
section
variable {P:q4}{w:ra}{A:q5}{E:pQ}{s:qU}{κ:Type} [DecidableEq κ]
def Mb(knd:KeyKind P w κ)(h:Heap)(a:Addr)(led:Bool)(d:List κ)(n:Nat):Prop:=
 ∃(o:Obj) (b:Array (Int×q3)) (c:Nat) (t:SetTable),h.get? a=some o/\o.ExactSet/\o.data=.set b c t/\ElemsOf knd b.toList/\(∀k,k∈d↔∃e∈b.toList,knd.is k e.2=true)/\b.size<=n/\t.fits b.size=true/\Bu t led
variable {knd:KeyKind P w κ}
theorem Mb.at{led:Bool}{c:List κ}{n:Nat}(g:Mb knd h a led c n)(keep:∀o,h.get? a=some o->h'.get? a=some o):Mb knd h' a led c n:=by
 obtain⟨o,e,d,t,f,b⟩:=g;exact⟨o,e,d,t,keep _ f,b⟩
theorem stored{h:Heap}{a:Addr}{o:Obj}{b es:Array (Int×q3)}{ep:Nat}{t0:SetTable}(t:SetTable)(d:h.get? a=some o)(c:o.data=.set b ep t0):
  (h.update a (Obj.putSet es t)).get? a=some {o with data:=.set es (ep+1) t}:=by
 have e:=g0 (Obj.putSet es t) d (by rw[putSet_of es t c];rfl);rw[putSet_of es t c]at e;exact e
theorem qa{B:Bool->Sem Unit}(r:∀(b:Bool) (z:qU) (R:Unit->qU->Prop),R () z->wpAny (model P w) A (B b) R E z){a:Addr}{o:Obj}{i es:Array (Int×q3)}{ep n:Nat}{t0 t:SetTable}{led:Bool}{F:List κ}(D:s.heap.get? a=some o)(ex:o.ExactSet)(C:o.data=.set i ep t0)
  (x:ElemsOf knd es.toList)(g:∀k,k∈F↔∃e∈es.toList,knd.is k e.2=true)(le:es.size<=n)(I:n<scanBound)(j:t.fits es.size=true)(c:Bu t led){H:Bool}{R:Option Bool->qU->Prop}
  (q:∀h',Heap.SameBut a s.heap h'->Mb knd h' a led F n->R (some true) {s with heap:=h'}):
  wpAny (model P w) A (do
    storeSet a es t
    if(!H&&t.tooFull)=true then do
      B (relayAll t es (SetTable.grown es.size)).2.2
      storeSet a (relayAll t es (SetTable.grown es.size)).1 (relayAll t es (SetTable.grown es.size)).2.1
      pure (some true)
     else pure (some true)) R E s:=by
 have h:es.size<=sizeLine:=fits_of_scanBound (by omega);refine aN (wpAny_storeSet_of D C ?_ h);have u:=stored (es:=es) t D C;have v:=il s.heap a (Obj.putSet es t);split
 ·have d:=relayAll_perm t es (SetTable.grown es.size);have l:=relayAll_fits t es (SetTable.grown es.size);have m:=c.TQ es (SetTable.grown es.size);generalize relayAll t es (SetTable.grown es.size)=all at d l m⊢;obtain⟨f,G,y⟩:=all;dsimp only at d l m⊢
  have sz:f.size=es.size:=by
   have:=d.length_eq;simpa using this
  refine aN (r _ _ _ ?_);refine aN (wpAny_storeSet_of u rfl ?_ (by omega));refine a6 (q _ (v.trans (il _ a _)) ⟨_,f,_,G,stored G u rfl,ex,rfl,x.perm d,λk=>(g k).trans ⟨λ⟨e,p,z⟩=>⟨e,d.mem_iff.mpr p,z⟩,λ⟨e,p,z⟩=>⟨e,d.mem_iff.mp p,z⟩⟩,by omega,l,m⟩)
 ·exact a6 (q _ v ⟨_,es,_,t,u,ex,rfl,x,g,le,j,c⟩)
theorem A1t{a:Addr}{led:Bool}{G:List κ}{n:Nat}{k:κ}{x:q3}{Q:Bool->qU->Prop}(D:knd.is k x=true)(H:x.scannable=true)(g:Mb knd s.heap a led G n)(S:n+1<scanBound)
  (q:∀b h',Heap.SameBut a s.heap h'->Mb knd h' a led (k::G) (n+1)->Q b {s with heap:=h'}):wpAny (model P w) A (setAddHashed a x (knd.hash k)) Q E s:=by
 obtain⟨o,d,T,t,F,I,C,u,p,Z,m,f⟩:=g;unfold setAddHashed setAddHashedIn;refine fY (aN (wpAny_setState_of F C m ?_));dsimp only;rw[byScan_of H (by omega) u];simp only[↓reduceIte];unfold setAddByScan;refine aN ?_;refine aN (nC ?_);refine aN (wpAny_setScan_of D F C m u ?_);cases L:List.findIdx? (λe=>knd.is k e.2) d.toList with
 |some j=>
  dsimp only;obtain⟨U,X,_⟩:=List.findIdx?_eq_some_iff_getElem.mp L;have r:k∈G:=(p k).mpr ⟨d.toList[j],oa U,X⟩;refine a6 (a6 ?_);have e:s={s with heap:=s.heap}:=by cases s;rfl
  rw[e];refine q _ s.heap (Heap.SameBut.refl a s.heap) ⟨o,d,T,t,F,I,C,u,λl=>?_,by omega,m,f⟩;rw[List.mem_cons,<- p l];exact⟨λz=>z.elim (λe=>e▸r) id,.inr⟩
 |none=>
  dsimp only;have c:=layNew_perm t d (knd.hash k) x;have y:=layNew_fits t d (knd.hash k) x;have B:=f.layNew d (knd.hash k) x;generalize layNew t d (knd.hash k) x=all at c y B⊢;obtain⟨v,t1,Y,O⟩:=all;dsimp only at c y B⊢;rw[Array.toList_push]at c
  have sz:v.size=d.size+1:=by
   have:=c.length_eq;simpa using this
  have N:∀l,l∈k::G↔∃e∈v.toList,knd.is l e.2=true:=λl=>by
   rw[List.mem_cons,p l];constructor
   ·rintro(rfl|⟨e,i,z⟩)
    ·exact⟨(knd.hash l,x),c.mem_iff.mpr (gv _ (k8.mpr rfl)),D⟩
    ·exact⟨e,c.mem_iff.mpr (gy _ i),z⟩
   ·rintro⟨e,i,z⟩;rcases fF.mp (c.mem_iff.mp i)with i|i
    ·exact .inr ⟨e,i,z⟩
    ·rw[List.mem_singleton]at i;subst i;exact .inl (knd.inj x l k z D)
  have K:∀(b:Bool) {z:qU}{R:Unit->qU->Prop},R () z->wpAny (model P w) A (match b with|true=>rule "set.scan.the-table-gave-way"|false=>pure ()) R E z:=λb z R h=>by
   cases b
   ·exact a6 h
   ·exact nC h
  refine aN (K _ ?_);split
  ·refine aN ?_;rw[hashByValue_scannable 8 H];refine a6 ?_;refine qa (led:=led) (λb z R h=>?_) F I C ((u.push D H).perm c) N (n:=n+1) (by omega) S ?_ ?_ λh' M J=>?_
   ·exact K b h
   ·split
    ·exact y
    ·exact SetTable.fits_plain_off y
   ·split
    ·exact B
    ·exact B.off
   ·exact a6 (q _ h' M J)
  ·refine aN (a6 ?_);simp only[↓reduceIte];refine qa (led:=led) (λb z R h=>?_) F I C ((u.push D H).perm c) N (n:=n+1) (by omega) S y B λh' M J=>?_
   ·exact K b h
   ·exact a6 (q _ h' M J)
end
section
variable {P:q4}{w:ra}{A:q5}{R:Result->qU->Prop}{κ:Type} [DecidableEq κ] {knd:KeyKind P w κ}
theorem A02{led:Bool}{x j:List Addr}{G:Array GenState->Array GenState->Prop}{n:Nat}{Pr:Nat->q3->Prop}{St:Nat->qU->Prop}(W:WalksS P w A.in1 I x j G n Pr St)(out:S∉x){f:Nat->κ}(U:∀i v,Pr i v->knd.is (f i) v=true/\v.scannable=true)(qV:n+1<scanBound):
  ∀(m i:Nat) (s:qU),n=i+m->St i s->Mb knd s.heap S led ((List.range i).map f) i->
   (∀z,Moved (S::j) G s z->Mb knd z.heap S led ((List.range n).map f) n->R (.ok (.ret .none)) z)->codeAny (model P w) A (.builtin "set.update.loop" ⟨[.ref S,.ref I],[]⟩) R s:=by
 have u:S∉j:=λz=>out (W.sub _ z);have a:∀b∈j,b∈S::j:=λb z=>d0 _ z;intro m
 induction m with
 |zero=>
  intro i s e r g q;obtain rfl:n=i:=by omega
  refine codeAny_builtin PyProof.Rows.F.entry_set_update_loop ?_;rw[Around.under_plainId PyProof.Rows.F.plain_set_update_loop _];show wpAny _ A.in1 (pyNext (.ref I)>>=_) _ _ s;refine aN (W.done s _ _ r λz h=>?_);show wpAny _ A.in1 (ret Value.none) _ _ z;exact a6 (q z (h.mono a) (g.at λo c=>h.heap S o u c))
 |succ m X=>
  intro i s e r g q;refine codeAny_builtin PyProof.Rows.F.entry_set_update_loop ?_;rw[Around.under_plainId PyProof.Rows.F.plain_set_update_loop _];show wpAny _ A.in1 (pyNext (.ref I)>>=_) _ _ s;refine aN (W.item i s _ _ (by omega) r λv z pr Z h=>?_);obtain⟨B,wM⟩:=U i v pr;have M:=g.at λo c=>h.heap S o u c;show wpAny _ A.in1 (holding [v] (setAdd S v)>>=_) _ _ z;refine aN (fY ?_);unfold setAdd;refine fY (aN (knd.pyHash B ?_));refine A1t (s:={z with toks:=z.toks+1}) B wM M (by omega) λb T C N=>?_
  have O:Mb knd T S led ((List.range (i+1)).map f) (i+1):=by
   obtain⟨o,L,K,t,D,E,F,H,J,d⟩:=N;refine⟨o,L,K,t,D,E,F,H,λk=>?_,d⟩;rw[<- J k,List.range_succ,List.map_append,List.mem_append,List.mem_cons];simp only[List.map_cons,List.map_nil,List.mem_singleton];exact⟨λz=>z.elim .inr .inl,λz=>z.elim .inr .inl⟩
  refine a6 ⟨nP PyProof.Rows.F.plain_set_update_loop _,X (i+1) _ (by omega) (W.frame _ z _ _ Z (Nat.le_succ _) λb p o c=>?_) O λy Y Q=>?_⟩
  ·rw[C.2 b (λl:b=S=>out (by rw[<- l];exact p))];exact c
  ·refine q y (Moved.trans W.gtrans ((h.mono a).then_heap (Nat.le_succ _) λb o p c=>?_) Y) Q;rw[C.2 b (λl:b=S=>p (by rw[l];exact List.mem_cons_self))];exact c
end
section
variable {P:q4}{w:ra}{A:q5}{E:pQ}{s:qU}{κ:Type} [DecidableEq κ] {knd:KeyKind P w κ}
abbrev Pa(w:ra):Bool:= !w.params.followText "set-order"
theorem Xp(a:q3)(q:Q (.ref s.heap.objs.size) {s with heap:=s.heap.push (F2 (Pa w)) }):
  codeAny (model P w) A (.call (.builtin "set.__new__") ⟨[.type "set",a],[]⟩) (wants Q E) s:=by
 refine codeAny_of_tree ?_;show wpAny _ A.in1 (checkBuiltinCall "set.__new__" ⟨[.type "set",a],[]⟩>>=λ_=>again (.builtin "set.__new__" ⟨[.type "set",a],[]⟩)) _ _ s;refine aN (wpAny_of_eq (PySem.F.newCall_set_1 a) (a6 ⟨nP PySem.F.plain_set_new _,codeAny_builtin PySem.F.entry_set_new ?_⟩));rw[Around.under_plainId PySem.F.plain_set_new _];unfold Builtin.«set.__new__» Builtin.Frozenset.newClass;have b:=sub_set_self;obtain⟨c,g,d,f,e⟩:=s;dsimp only
 wp_walk
 refine wpAny_askSetting (a6 ?_);dsimp only;simp only[newObj];refine aN (wpAny_alloc (a6 ?_));exact a6 q
theorem zt{a:Array q3}{f:Nat->κ}{Q:pQ}(no:A.handled=none)(Z:s.heap.IsList l a)(X:∀i v,a[i]?=some v->knd.is (f i) v=true/\v.scannable=true)(qV:a.size+1<scanBound)
  (q:∀(d:Heap) (h:Nat),Mb knd d s.heap.objs.size (Pa w) ((List.range a.size).map f) a.size->(∀b o,b<s.heap.objs.size->s.heap.get? b=some o->d.get? b=some o)->Q (.ref s.heap.objs.size) {s with heap:=d,toks:=h}):
  wpAny (model P w) A (call (.type "set") [.ref l]) Q E s:=by
 have L:=PySem.F.called_set.mro;obtain⟨cc,tl,L⟩:=L;have md:=PySem.F.called_set.made;have sb:=PySem.F.called_set.sub;refine wpAny_call (codeAny_of_tree ?_);show wpAny _ _ (callAny (.type "set") _) _ _ _;refine a6 (And.intro (Code.quiet_builtin _ (by decide+kernel)) (codeAny_builtin PySem.F.entry_type_call ?_));rw[Around.under_plain (weight_type_call_type "set" [.ref l] []) rfl];have nt:=PySem.F.called_set.notType;have cn:=PySem.F.called_set.canCreate;have tc:=PySem.F.typeCall_set_1 (.ref l)
 repeat (any_goals (first|wp_step|assumption))
 refine codeAny_mono (Xp (.ref l) (E:=E) (Q:=λx z=>x=.ref s.heap.objs.size/\z={s with heap:=s.heap.push (F2 (Pa w)) }) ⟨rfl,rfl⟩) λr z n=>?_;cases r with
 |error e=>exact n
 |ok T=>
  cases T with
  |ret x=>
   obtain⟨rfl,rfl⟩:=n;generalize G:Pa w=c at*;have ne:(s.heap.push (F2 c)).get? s.heap.objs.size=some (F2 c):=da _ rfl;have ty:Shared.TypeIs {s with heap:=s.heap.push (F2 c) } (.ref s.heap.objs.size) "set":=⟨_,ne,rfl⟩;have li:=PySem.F.called_set.init.lookup;have bi:=PySem.F.called_set.init.bind (.ref s.heap.objs.size)
   repeat (any_goals (first|wp_step|assumption))
   refine codeAny_mono (codeAny_call_builtin (R:=wants (λr y=>r=.none/\∃d h,y={s with heap:=d,toks:=h}/\Mb knd d s.heap.objs.size c ((List.range a.size).map f) a.size/\∀b o,b<s.heap.objs.size->s.heap.get? b=some o->d.get? b=some o) E) PySem.F.called_set.init.plain PySem.F.entry_set_init (check_set_init_1 ty ?_)) λr2 y p=>?_
   ·obtain⟨⟨c0,N,R,B⟩,H,D,J,F⟩:=Z;simp only at D F;subst D F;have M:(s.heap.push (F2 c)).get? l=some {cls:=.type "list",dict:=N,data:=.seq a J,slots:=B}:=cv _ H;have n1:=PySem.F.sub_list_set;have n2:=PySem.F.sub_list_frozenset;have n3:(Value.type "list"==Value.type "dict")=false:=by decide
    have I:(s.heap.push (F2 c)).IsList l a:=⟨_,M,rfl,J,rfl⟩;have K:l<s.heap.objs.size:=dt H;unfold Builtin.«set.__init__» noKeywords Builtin.Frozenset.updateFrom;generalize m:pyIter=it
    wp_walk
    subst m;refine wpAny_pyIter_list I (aN (wpAny_runValue ?_));have u:A.in1.in1.in1.handled=none:=by simp[no]
    have sz:(s.heap.push (F2 c)).objs.size=s.heap.objs.size+1:=Heap.size_push ..;refine A02 (knd:=knd) (f:=f) (led:=c) ((Walks.list u _ l (by rw[sz];exact ft (Nat.lt_succ_of_lt K)) a).toS) (S:=s.heap.objs.size) (λz=>by rcases eH.mp z with e|e;exact absurd e (by rw[sz];exact ft (Nat.lt_succ_self _));exact absurd (k8.mp e) (Nat.ne_of_gt K)) X qV a.size 0 _ (by omega) ⟨⟨_,da _ rfl,rfl,rfl⟩,(I.push _)⟩ ?_ λz j g=>?_
    ·have Y:((s.heap.push (F2 c)).push {cls:=.type "list_iterator",data:=.fields #[.ref l,.int 0 0] }).get? s.heap.objs.size=some (F2 c):=cv _ ne;exact⟨_,#[],0,_,Y,⟨rfl,rfl,rfl⟩,rfl,(λe z=>by simp at z),(λk=>by simp),dr _,rfl,Bu.fresh 0 0 c⟩
    ·obtain⟨d,U,O,h,os⟩:=z;obtain rfl:U=s.gens:=j.gens;obtain rfl:O=s.drawn:=j.drawn;obtain rfl:os=s.os:=j.os;show wpAny _ _ _ _ _ _;refine a6 ?_;show wpAny _ _ (ret Value.none) _ _ _;refine a6 ⟨rfl,d,h,rfl,g,λb o C e=>j.heap b o (λz=>?_) (cv _ (cv _ e))⟩;rcases eH.mp z with y|y
     ·exact absurd y (ft C)
     ·exact absurd (k8.mp y) (by rw[sz];exact ft (Nat.lt_succ_of_lt C))
   ·cases r2 with
    |error e=>exact p
    |ok S=>
     cases S with
     |ret r=>
      obtain⟨rfl,d,h,rfl,g,kp⟩:=p
      repeat (any_goals (first|wp_step|assumption))
      exact q _ _ g kp
     |_=>exact p.elim
  |_=>exact n.elim
end
theorem Ti:Manifest.owners.lookup (String.ofList ['r','o','t','a','r','e','t','i','_','t','e','s'].reverse)=some Manifest.sig_set_iterator:=by kernel_rfl
theorem Gc:Slot "set_iterator" "__next__" "set_iterator.__next__":=.of (owner:="set_iterator") (n:="__next__") (by rw[typeLookup_type,builtinLookup_eq_fast];kernel_rfl) (by decide+kernel) (by decide+kernel) (by decide+kernel) (by first|exact .inl (by decide+kernel)|exact .inr (by decide+kernel)) (by rw[isSubtype_type];kernel_rfl)
theorem Th:entryFor table "set_iterator.__next__"=some Builtin.«set_iterator.__next__»:=entryFor_of_tree (by kernel_rfl)
theorem X6(a:q3):argsOk "set_iterator.__next__" ⟨[a],[]⟩:=by
 unfold argsOk;rw[signature?_of (id:="set_iterator.__next__") (n:=['_','_','t','x','e','n','_','_']) (o:=['r','o','t','a','r','e','t','i','_','t','e','s']) (by kernel_rfl) Ti]
 kernel_rfl
theorem X7:Slot "set_iterator" "__iter__" "set_iterator.__iter__":=.of (owner:="set_iterator") (n:="__iter__") (by rw[typeLookup_type,builtinLookup_eq_fast];kernel_rfl) (by decide+kernel) (by decide+kernel) (by decide+kernel) (by first|exact .inl (by decide+kernel)|exact .inr (by decide+kernel)) (by rw[isSubtype_type];kernel_rfl)
theorem Re(a:q3):argsOk "set_iterator.__iter__" ⟨[a],[]⟩:=by
 unfold argsOk;rw[signature?_of (id:="set_iterator.__iter__") (n:=['_','_','r','e','t','i','_','_']) (o:=['r','o','t','a','r','e','t','i','_','t','e','s']) (by kernel_rfl) Ti]
 kernel_rfl
theorem Oh:entryFor table "set_iterator.__iter__"=some Builtin.«dict_keyiterator.__iter__»:=entryFor_alias (id':="dict_keyiterator.__iter__") (by kernel_rfl) (by first|rfl|decide+kernel|(unfold String.splitOn;simp+decide [String.splitOnAux])) (by decide+kernel) (by kernel_rfl)
theorem Nz:entryFor table "set.__iter__"=some Builtin.«frozenset.__iter__»:=entryFor_alias (id':="frozenset.__iter__") (by kernel_rfl) (by first|rfl|decide+kernel|(unfold String.splitOn;simp+decide [String.splitOnAux])) (by decide+kernel) (by kernel_rfl)
def F8(h:Heap)(it:Addr)(first:q3)(i:Nat)(S:Addr)(n ep:Nat):Prop:=∃o,h.get? it=some o/\o.cls=.type "set_iterator"/\o.data=.fields #[first,rawInt i,.ref S,rawInt n,rawInt ep]
theorem F8.ty{s:qU}{it S:Addr}{first:q3}{i n ep:Nat}(x:F8 s.heap it first i S n ep):s.TypeIs (.ref it) "set_iterator":=let⟨o,b,a,_⟩:=x;⟨o,b,a⟩
theorem F8.at{first:q3}(x:F8 h it first i S n ep)(k:∀o,h.get? it=some o->h'.get? it=some o):F8 h' it first i S n ep:=let⟨o,a,r⟩:=x;⟨o,k _ a,r⟩
theorem Ib:∀{l:List a}{i:Nat}{x:a},l[i]?=some x->(x::l.eraseIdx i).Perm l
 |[],i,x,h=>by cases h
 |y::l,0,x,h=>by
  cases h;exact List.Perm.refl _
 |y::l,i+1,x,h=>by
  have b:=Ib (l:=l) (i:=i) (x:=x) (by simpa using h);exact(List.Perm.swap y x _).trans (b.cons y)
theorem Wm(a:Nat->Nat):∀(fuel k:Nat) (left:List c) (out:Array c),left.length<=fuel->(pickOrder.go a fuel k left out).toList.Perm (out.toList++left)
 |0,k,left,out,h=>by
  unfold pickOrder.go;have e:left=[]:=List.length_eq_zero_iff.mp (by omega);rw[e];simp
 |fuel+1,k,left,out,h=>by
  unfold pickOrder.go;split
  ·rename_i x b;have d:=(cb.mp b);have g:=Wm a fuel (k+1) (left.eraseIdx (a k%left.length)) (out.push x) (by rw[List.length_eraseIdx,if_pos d.1];omega);refine g.trans ?_;rw[Array.toList_push,List.append_assoc];refine List.Perm.append_left _ ?_;exact Ib b
  ·rename_i b;have:left.length<=a k%left.length:=List.getElem?_eq_none_iff.mp b
   have f:left.length=0:=by
    rcases Nat.eq_zero_or_pos left.length with z|z
    ·exact z
    ·have:=Nat.mod_lt (a k) z;omega
   rw[List.length_eq_zero_iff.mp f];simp
theorem Yw(a:Nat->Nat)(xs:Array b):(pickOrder a xs).toList.Perm xs.toList:=by
 have:=Wm a xs.size 0 xs.toList #[] (by simp);simpa[pickOrder]using this
section
variable {P:q4}{w:ra}{A:q5}{E:pQ}{s:qU}
theorem Z8(a:0<n)(q:∀i d,i<n->Q i {s with drawn:=d}):wpAny (model P w) A (choose .order n) Q E s:=λc p b=>by
 show Sem.wp _ _ (.choose .order n .pure) _ _ _ _;rw[Sem.wp_choose];refine⟨by omega,?_⟩;show Sem.wp _ _ (Sem.pure _) _ _ _ _;rw[Sem.wp_pure];exact q _ _ (Nat.mod_lt _ a)
theorem Jv:∀(n:Nat) (xs:List c) (s:qU) {Q:List c->qU->Prop},xs.length=n->(∀ys d,ys.Perm xs->Q ys {s with drawn:=d})->wpAny (model P w) A (drawOrder n xs) Q E s
 |0,xs,s,Q,h,q=>by
  rw[List.length_eq_zero_iff.mp h]at q⊢;unfold drawOrder;have e:s={s with drawn:=s.drawn}:=by cases s;rfl
  rw[e];exact a6 (q [] s.drawn (List.Perm.refl _))
 |n+1,[],s,Q,h,q=>by cases h
 |n+1,x::xs,s,Q,h,q=>by
  unfold drawOrder;refine aN (Z8 (by rw[h];omega) λi d a=>?_);have b:(x::xs)[i]?=some ((x::xs)[i]'a):=d3 a;rw[b];dsimp only;refine aN (Jv n _ _ (by rw[List.length_eraseIdx,if_pos a];omega) λys f g=>a6 ?_);refine q _ f ?_;exact(List.Perm.cons _ g).trans (Ib b)
end
def Qj(es:Array (Int×q3))(t:SetTable):Bool:= !t.plain&&decide (es.size>1)
inductive O9(w:ra)(h:Heap)(S:Addr)(es:Array (Int×q3))(ep:Nat)(t:SetTable)(T:Addr)(ord:List q3)(i:Nat):q3->Prop
 |text (slot:Nat):w.params.followText "set-order"=true->ord=(pickOrder (w.params.setOrder S ep) es).toList.map (·.2)->O9 w h S es ep t T ord i (rawInt slot)
 |plain (slot:Nat):w.params.followText "set-order"=false->Qj es t=false->t.led=true->Ma t.place->ord=es.toList.map (·.2)->SetTable.below t.place slot=i->O9 w h S es ep t T ord i (rawInt slot)
 |drawn (pl:List Nat):h.IsTuple T (pl.map λ(k:Nat)=>rawInt k).toArray->(∀k∈pl,k<es.size)->ord=pl.filterMap (λk=>(es[k]?).map (·.2))->ord.length=pl.length->O9 w h S es ep t T ord i (.ref T)
theorem ol{b d:Type}{f:b->Option d}:∀{l:List b},(∀x∈l,(f x).isSome)->∀(i:Nat),(l.filterMap f)[i]?=l[i]?.bind f
 |[],_,i=>by simp
 |x::l,h,i=>by
  have a:=h x dm;cases e:f x with
  |none=>rw[e]at a;cases a
  |some y=>
   rw[List.filterMap_cons_some e];cases i with
   |zero=>simp[e]
   |succ i=>simpa using ol (λz c=>h z (d0 _ c)) i
section
variable {P:q4}{w:ra}{A:q5}{E:pQ}{s:qU}{S:Addr}{o:Obj}{es:Array (Int×q3)}{ep:Nat}{t:SetTable}
theorem Pf(d:s.heap.get? S=some o)(c:o.data=.set es ep t)(b:t.fits es.size=true)(bt:w.params.followText "set-order"=true)
  (q:Q (((pickOrder (w.params.setOrder S ep) es)[i]?).map λe=>(e.2,a)) s):wpAny (model P w) A (setNext S a i ep) Q E s:=by
 unfold setNext;refine aN (wpAny_setState_of d c b ?_);dsimp only;refine aN (aN (wpAny_askSetting (a6 ?_)));show wpAny _ _ (if(w.params.followText "set-order")=true then _ else _) _ _ _;rw[if_pos bt];show wpAny _ _ (if(ep != ep)=true then _ else _) _ _ _;rw[if_neg (by simp)];refine aN ?_;unfold setWalk;refine aN (wpAny_setState_of d c b ?_);dsimp only;refine aN (aN (wpAny_askSetting (a6 ?_)));show wpAny _ _ (if(w.params.followText "set-order")=true then _ else _) _ _ _;rw[if_pos bt];refine aN (wpAny_askSetting (a6 (a6 ?_)));exact q
theorem Nh(d:s.heap.get? S=some o)(c:o.data=.set es ep t)(b:t.fits es.size=true)(bt:w.params.followText "set-order"=false)(e:Qj es t=false)(led:t.led=true)
  (q:Q (match es[SetTable.below t.place a]?,t.place[SetTable.below t.place a]? with|some (_,x),some j=>some (x,j+1)|_,_=>none) s):wpAny (model P w) A (setNext S a i ep) Q E s:=by
 unfold setNext;refine aN (wpAny_setState_of d c b ?_);dsimp only;refine aN (aN (wpAny_askSetting (a6 ?_)));show wpAny _ _ (if(w.params.followText "set-order")=true then _ else _) _ _ _;rw[if_neg (by rw[bt];decide)];show wpAny _ _ (if Qj es t=true then _ else _) _ _ _;rw[if_neg (by rw[e];decide)];refine aN ?_;show wpAny _ _ (if(!t.led&& !es.isEmpty)=true then _ else _) _ _ _;rw[if_neg (by rw[led];simp)];exact a6 (a6 q)
theorem Gb{h:Heap}{it S:Addr}{a:Obj}{first x y:q3}{i n ep:Nat}(d:h.get? it=some a)(c:a.cls=.type "set_iterator")(b:a.data=.fields #[first,rawInt i,.ref S,rawInt n,rawInt ep]):
  F8 (h.update it (Obj.mapFields (·.setIfInBounds 1 (rawInt ((i:Int)+1))))) it first (i+1) S n ep/\(h.update it (Obj.mapFields (·.setIfInBounds 0 x))).get? it=some (Obj.mapFields (·.setIfInBounds 0 x) a)/\(Obj.mapFields (·.setIfInBounds 0 x) a).cls=.type "set_iterator"/\(Obj.mapFields (·.setIfInBounds 0 x) a).data=.fields #[x,rawInt i,.ref S,rawInt n,rawInt ep]:=by
 refine⟨⟨_,g0 _ d (Obj.isFreed_of_fields (Obj.data_mapFields b _)),(Obj.cls_mapFields ..).trans c,?_⟩,g0 _ d (Obj.isFreed_of_fields (Obj.data_mapFields b _)),(Obj.cls_mapFields ..).trans c,?_⟩
 ·rw[Obj.data_mapFields b];simp[rawInt]
 ·rw[Obj.data_mapFields b];simp
theorem ba{it T:Addr}{first v:q3}{i:Nat}{ord:List q3}{Q:Option q3->qU->Prop}(p:F8 s.heap it first i S es.size ep)(H:s.heap.get? S=some o)(G:o.data=.set es ep t)(b:t.fits es.size=true)(hm:O9 w s.heap S es ep t T ord i first)(j:ord[i]?=some v)(nT:it≠T)
  (q:∀pK h',F8 h' it pK (i+1) S es.size ep->O9 w h' S es ep t T ord (i+1) pK->Heap.SameBut it s.heap h'->Q (some v) {s with heap:=h'}):wpAny (model P w) A (pyNext (.ref it)) Q E s:=by
 have ty:=p.ty;obtain⟨o',u,oG,y⟩:=p;unfold pyNext;refine aN (ov (oe (name:=Str.ofString "__next__") ty Gc (hH Gc ty Th ?_ (X6 _))));unfold Builtin.«set_iterator.__next__»;refine aN (wpAny_of_eq (a:=(Value.ref it,[])) rfl ?_);refine aN (wpAny_fieldsOf u y ?_);show wpAny _ _ (setEntries S>>=_) _ _ _;refine aN (wpAny_setEntries_of H G b ?_);show wpAny _ _ (if(((es.size:Nat):Int) != ((es.size:Nat):Int))=true then _ else _) _ _ _;rw[if_neg (by simp)]
 have g:∀(m:Nat),O9 w ((s.heap.update it (Obj.mapFields (·.setIfInBounds 0 (rawInt m)))).update it (Obj.mapFields (·.setIfInBounds 1 (rawInt ((i:Int)+1))))) S es ep t T ord (i+1) (rawInt m)->∀{R:Fin->qU->Prop}{F:pQ},(∀l,Q (some v) l->R (.done (.ret v)) l)->wpAny (model P w) A.in1 (do setField (.ref it) 0 (rawInt m);setField (.ref it) 1 (rawInt ((i:Int)+1));ret v) R F s:=λm kO R F hR=>
  iv (Q:=λf l=>f=.done (.ret v)/\Q (some v) l) (E:=λ_ _=>False) (by
   obtain⟨_,U,e2,X⟩:=Gb (x:=rawInt m) (y:=v) u oG y;refine aN (wpAny_setField u y (by simp) ?_);refine aN (wpAny_setField (s:={s with heap:=s.heap.update it (Obj.mapFields (·.setIfInBounds 0 (rawInt m))) }) U X (by simp) ?_);obtain⟨I,_⟩:=Gb (x:=rawInt m) (y:=v) U e2 X;exact a6 ⟨rfl,q _ _ I kO ((il ..).trans (il ..))⟩) (λf l ⟨e,r⟩=>by rw[e];exact hR l r) λ_ _ z=>z.elim
 cases hm with
 |text a n d=>
  show wpAny _ _ (setNext S (a:Int).toNat ((i:Nat):Int).toNat ((ep:Nat):Int).toNat>>=_) _ _ _;refine aN (Pf H G b n ?_);simp only[Int.toNat_natCast];rw[d,List.getElem?_map,Array.getElem?_toList]at j;obtain⟨e,h,rfl⟩:=dI.mp j;rw[h];exact g a (.text a n d) λl r=>⟨_,rfl,a6 r⟩
 |plain a n nd B O d hb=>
  show wpAny _ _ (setNext S (a:Int).toNat ((i:Nat):Int).toNat ((ep:Nat):Int).toNat>>=_) _ _ _;refine aN (Nh H G b n nd B ?_);simp only[Int.toNat_natCast];rw[d,List.getElem?_map,Array.getElem?_toList]at j;obtain⟨e,h,rfl⟩:=dI.mp j
  have hsz:t.place.size=es.size:=by
   simp only[SetTable.fits,Bool.and_eq_true,beq_iff_eq]at b;exact b.1
  have hi:=(me.mp h).1;have Z:t.place[i]?=some (t.place[i]'(by omega)):=Array.getElem?_eq_getElem (by omega);rw[hb,h,Z];exact g _ (.plain _ n nd B O d (qj O Z)) λl r=>⟨_,rfl,a6 r⟩
 |drawn C Y K d hl=>
  obtain⟨oT,L,_,nT2,J⟩:=id Y;show wpAny _ _ (seqItems? (Value.ref T)>>=_) _ _ _;refine aN (gd L J ?_);have hi:=(cb.mp j).1;have c:C[i]?=some (C[i]'(by omega)):=d3 (by omega);have D:=K _ (cI c);generalize C[i]'(by omega)=k at c D;have h:es[k]?=some (es[k]'D):=Array.getElem?_eq_getElem D;generalize es[k]'D=e at h
  have N:v=e.2:=by
   rw[d,ol (λx hx=>by rw[Array.getElem?_eq_getElem (K x hx)];rfl),c]at j;simp[h]at j;exact j.symm
  subst N
  have M:(C.map λ(k:Nat)=>rawInt k).toArray[((i:Nat):Int).toNat]?=some (rawInt k):=by
   rw[Int.toNat_natCast,List.getElem?_toArray,List.getElem?_map,c];rfl
  dsimp only;rw[M];show wpAny _ _ (setNextDrawn S ((k:Nat):Int).toNat ((ep:Nat):Int).toNat>>=_) _ _ _;refine aN ?_;unfold setNextDrawn;refine aN (wpAny_setState_of H G b ?_);dsimp only;rw[if_neg (by simp)];simp only[Int.toNat_natCast,h];refine a6 ?_;obtain⟨I,_⟩:=Gb (x:=e.2) (y:=e.2) u oG y;refine aN (wpAny_setField u y (by simp) ?_);refine a6 ⟨_,rfl,a6 (q _ _ I (.drawn C ?_ K d hl) (il ..))⟩;exact Y.at λo e=>(eI _ _ nT).trans e
theorem ji{it T:Addr}{first:q3}{i:Nat}{ord:List q3}{Q:Option q3->qU->Prop}(D:A.handled=none)(d:F8 s.heap it first i S es.size ep)(p:s.heap.get? S=some o)(l:o.data=.set es ep t)(c:t.fits es.size=true)(F:O9 w s.heap S es ep t T ord i first)(G:ord.length=i)(O:ord.length=es.size)
  (q:∀h',Heap.ExtBut it s.heap h'->Q none {s with heap:=h'}):wpAny (model P w) A (pyNext (.ref it)) Q E s:=by
 have ty:=d.ty;obtain⟨Z,f,K,g⟩:=d;unfold pyNext;refine aN (ov (oe (name:=Str.ofString "__next__") ty Gc (hH Gc ty Th ?_ (X6 _))));unfold Builtin.«set_iterator.__next__»;refine aN (wpAny_of_eq (a:=(Value.ref it,[])) rfl ?_);refine aN (wpAny_fieldsOf f g ?_);show wpAny _ _ (setEntries S>>=_) _ _ _;refine aN (wpAny_setEntries_of p l c ?_);show wpAny _ _ (if(((es.size:Nat):Int) != ((es.size:Nat):Int))=true then _ else _) _ _ _;rw[if_neg (by simp)]
 have out:∀(v:Heap) {R:Fin->qU->Prop},Heap.ExtBut it s.heap v->wpAny (model P w) A.in1 (do let e <- newExc (.type "StopIteration") [];raiseNew e) R (λe M=>wpAny (model P w) A (do let b <- isInstance e (Value.type "StopIteration");if b=true then pure none else throw e) Q E M) {s with heap:=v}:=λv R H=>by
  refine aN ?_;simp only[newExc,newTuple];refine aN (g6 ?_ (by size_fits));refine aN (m:=firstArgMember _ _) (wpAny_of_eq (a:=Value.none) (by first|rfl|(simp only[firstArgMember];rfl)) ?_);refine g6 ?_ (by size_fits);simp only[raiseNew];refine aN (wpAny_handled ?_);rw[show A.in1.handled=none from D];refine aN (a6 (wpAny_throw ?_));refine aN (nB (T:="StopIteration") (b:=true) ⟨_,da _ rfl,rfl⟩ isSubtype_stop ?_);exact a6 (q _ ((H.push _).push _))
 cases F with
 |text a h j=>
  show wpAny _ _ (setNext S (a:Int).toNat ((i:Nat):Int).toNat ((ep:Nat):Int).toNat>>=_) _ _ _;refine aN (Pf p l c h ?_);simp only[Int.toNat_natCast]
  have n:(pickOrder (w.params.setOrder S ep) es)[i]?=none:=by
   rw[Array.getElem?_eq_none_iff];rw[j,List.length_map,Array.length_toList]at G;omega
  rw[n];refine aN (wpAny_setField f g (by simp) ?_);exact out _ (il ..).extBut
 |plain a h J x N j C=>
  show wpAny _ _ (setNext S (a:Int).toNat ((i:Nat):Int).toNat ((ep:Nat):Int).toNat>>=_) _ _ _;refine aN (Nh p l c h J x ?_);simp only[Int.toNat_natCast]
  have n:es[i]?=none:=by
   rw[Array.getElem?_eq_none_iff];omega
  rw[C,n];refine aN (wpAny_setField f g (by simp) ?_);exact out _ (il ..).extBut
 |drawn L B X j Y=>
  obtain⟨oT,r,_,I,m⟩:=id B;show wpAny _ _ (seqItems? (Value.ref T)>>=_) _ _ _;refine aN (gd r m ?_)
  have u:(L.map λ(k:Nat)=>rawInt k).toArray[((i:Nat):Int).toNat]?=none:=by
   rw[Int.toNat_natCast,List.getElem?_toArray,List.getElem?_map,List.getElem?_eq_none (by omega)];rfl
  dsimp only;rw[u];obtain⟨_,y,U,z⟩:=Gb (x:=rawInt 0) (y:=rawInt 0) f K g;refine aN (wpAny_setField f g (by simp) ?_);refine aN (wpAny_setField (s:={s with heap:=s.heap.update it (Obj.mapFields (·.setIfInBounds 0 (rawInt 0))) }) y z (by simp) ?_);exact out _ ((il ..).trans (il ..)).extBut
theorem gx{first:q3}(a:F8 s.heap it first i S n ep)(q:Q (.ref it) s):wpAny (model P w) A (pyIter (.ref it)) Q E s:=by
 refine wpAny_pyIter_slot a.ty X7 (hH X7 a.ty Oh ?_ (Re _));show wpAny _ _ (ret (.ref it)) _ _ s;refine a6 ⟨_,rfl,"set_iterator",_,a.ty,Gc.lookup,q⟩
theorem Z6{ord:List q3}(F:A.handled=none)(H:it≠S)(I:it≠T)(y:o.data=.set es ep t)(r:t.fits es.size=true)(D:ord.length=es.size):
  Walks P w A it [it,S,T] [it] ord.length (λi v=>ord[i]?=some v) (λi h=>h.get? S=some o/\∃first,F8 h it first i S es.size ep/\O9 w h S es ep t T ord i first)where
 sub:=λb n=>by simp at n;simp[n]
 frame:=λi h m ⟨j,first,g,p⟩ x=>⟨x S (by simp) _ j,first,g.at λo e=>x it (by simp) o e,by
  cases p with
  |text l a b=>exact .text l a b
  |plain l a b c d e f=>exact .plain l a b c d e f
  |drawn K a b c d=>exact .drawn K (a.at λo e=>x T (by simp) o e) b c d⟩
 item:=λi s Q E z ⟨j,first,g,p⟩ q=>by
  have B:ord[i]?=some (ord[i]'z):=d3 z;refine ba g j y r p B I λJ m u G C=>?_;have e:({s with heap:=m}:qU)={s with heap:=m,toks:=s.toks}:=rfl;rw[e];refine q _ m s.toks B ⟨(C.2 S (Ne.symm H)).trans j,J,u,G⟩ λb o n j=>(C.2 b (by simpa using n)).trans j
 done:=λs Q E ⟨j,first,g,p⟩ q=>by
  refine ji F g j y r p rfl D λm L=>?_;have e:({s with heap:=m}:qU)={s with heap:=m,toks:=s.toks}:=rfl;rw[e];exact q m s.toks λb o n j=>L b o (by simpa using n) j
 self:=λi s Q E ⟨j,first,g,p⟩ q=>gx g q
end
open PySem PySem.Spec PySem.SeqAt PyProof.Rows
theorem Tn:isSubtype (.type "set") (.type "set")=pure true:=by rw[isSubtype_type];kernel_rfl
theorem al{es:Array (Int×q3)}{pl:List Nat}(h:pl.Perm (List.range es.size)):(pl.filterMap λk=>(es[k]?).map (·.2)).Perm (es.toList.map (·.2)):=by
 refine(h.filterMap _).trans ?_
 have e:(List.range es.size).filterMap (λk=>(es[k]?).map (·.2))=es.toList.map (·.2):=by
  rw[<- filterMap_getElem?_range es,List.map_filterMap]
 rw[e]
section
variable {P:q4}{w:ra}{A:q5}{E:pQ}{s:qU}{S:Addr}{o:Obj}{es:Array (Int×q3)}{ep:Nat}{t:SetTable}
theorem bd{Q:pQ}(g:s.heap.get? S=some o)(ex:o.ExactSet)(l:o.data=.set es ep t)(f:t.fits es.size=true)(c:Bu t (Pa w))(F:es.size<=1000)
  (q:∀(first:q3) (T it:Addr) (ord:List q3) (h':Heap) (d:Drawn),(∀b u,s.heap.get? b=some u->h'.get? b=some u)->s.heap.objs.size<=it->it≠T->(T=S\/s.heap.objs.size<=T)->ord.Perm (es.toList.map (·.2))->F8 h' it first 0 S es.size ep->O9 w h' S es ep t T ord 0 first->Q (.ref it) {s with heap:=h',drawn:=d}):wpAny (model P w) A (pyIter (.ref S)) Q E s:=by
 have y:s.TypeIs (.ref S) "set":=⟨o,g,ex.1⟩;refine wpAny_pyIter_slot y PySem.F.slot_set_iter (hH PySem.F.slot_set_iter y Nz ?_ (PySem.F.args_set_iter_1 _));unfold Builtin.«frozenset.__iter__»;refine aN (wpAny_of_eq (a:=S) rfl ?_);refine aN (aN (wpAny_setEntries_of g l f (a6 ?_)));unfold setDrawn;refine aN (aN (wpAny_setState_of g l f ?_));dsimp only;refine aN (aN (wpAny_askSetting (a6 ?_)));refine a6 ?_;have v:=dt g;have a:∀{h:Heap}{x:Obj}{b u},h.get? b=some u->(h.push x).get? b=some u:=λe=>cv _ e;refine wpAny_ite_split (λz=>?_) (λz=>?_)
 ·refine aN (Jv _ _ _ List.length_range λm d p=>?_);have D:m.length=es.size:=by rw[p.length_eq,List.length_range]
  refine aN (wpAny_newTuple ?_ (by rw[List.length_map,sizeLine_eq];omega));refine aN (wpAny_setEpoch_of (a g) l f ?_);refine aN (g6 (a6 ⟨_,rfl,"set_iterator",_,⟨_,da _ rfl,rfl⟩,Gc.lookup,?_⟩));have r:∀x:Obj,(s.heap.push x).objs.size=s.heap.objs.size+1:=λx=>Heap.size_push ..;have n:∀k∈m,k<es.size:=λk n=>oM.mp (p.mem_iff.mp n);have i:=al p;refine q (.ref s.heap.objs.size) s.heap.objs.size _ (m.filterMap λk=>(es[k]?).map (·.2)) _ d (λb u e=>a (a e)) (by rw[r];exact Nat.le_succ _) (by rw[r];exact Nat.succ_ne_self _) (.inr (dr _)) i ⟨_,da _ rfl,rfl,rfl⟩ (.drawn m ⟨_,a (da _ rfl),rfl,_,rfl⟩ n rfl ?_);rw[i.length_eq,List.length_map,Array.length_toList,D]
 ·refine aN (a6 ?_);refine aN (wpAny_setEpoch_of g l f ?_);refine aN (g6 (a6 ⟨_,rfl,"set_iterator",_,⟨_,da _ rfl,rfl⟩,Gc.lookup,?_⟩));have B:¬((!w.params.followText "set-order"&&Qj es t)=true):=z;cases j:w.params.followText "set-order" with
  |true=>
   exact q (rawInt 0) S _ ((pickOrder (w.params.setOrder S ep) es).toList.map (·.2)) _ s.drawn (λb u e=>a e) (dr _) (Nat.ne_of_gt v) (.inl rfl) ((Yw _ es).map _) ⟨_,da _ rfl,rfl,rfl⟩ (.text 0 j rfl)
  |false=>
   rw[j]at B;have C:t.led=true:=by rw[c.led];show(!w.params.followText "set-order")=true;rw[j];rfl
   exact q (rawInt 0) S _ (es.toList.map (·.2)) _ s.drawn (λb u e=>a e) (dr _) (Nat.ne_of_gt v) (.inl rfl) (List.Perm.refl _) ⟨_,da _ rfl,rfl,rfl⟩ (.plain 0 j (by simpa using B) C c.CS rfl (Zm c.CS))
theorem aw(b:s.TypeIs (.ref S) "set")(q:Q false s):wpAny (model P w) A (Builtin.List.listLengthHint (.ref S)) Q E s:=by
 unfold Builtin.List.listLengthHint;refine aN (wpAny_specialOf b PySem.F.slot_set_len.lookup ?_);generalize a:("set.__len__":String)=c
 wp_delta;rw[show splitId c=some ("set","__len__")from by subst a;decide+kernel];subst a;refine aN (nB (T:="set") (b:=true) b Tn ?_);refine wpAny_ite_split (λz=>absurd z (by decide)) (λ_=>?_);refine wpAny_ite_split (λ_=>?_) (λz=>absurd (by decide+kernel) z);refine aN (wpAny_typeOf b ?_);exact a6 q
end
open PySem PySem.Spec PySem.SeqAt PyProof.Rows
section
variable {P:q4}{w:ra}{A:q5}{E:pQ}{s:qU}{S:Addr}{o:Obj}{es:Array (Int×q3)}{ep:Nat}{t:SetTable}
theorem Zr(hh:A.handled=none)(ho:s.heap.get? S=some o)(ex:o.ExactSet)(hd:o.data=.set es ep t)(n:t.fits es.size=true)(p:Bu t (Pa w))(qV:es.size<=1000)
  (q:∀(vs:List q3) (h':Heap) (d:Drawn) (tk:Nat),(∀b u,s.heap.get? b=some u->h'.get? b=some u)->s.heap.objs.size<=h'.objs.size->vs.Perm (es.toList.map (·.2))->Q vs {s with heap:=h',drawn:=d,toks:=tk}):wpAny (model P w) A (collect (.ref S)) Q E s:=by
 have G:=dt ho;unfold collect;refine aN (wpAny_runValue (codeAny_builtin F.entry_proto_collect ?_));rw[Around.under_plainId F.plain_proto_collect _];show wpAny _ A.in1 (newList []>>=λl=>again (.builtin "list.__iadd__" ⟨[l,.ref S],[]⟩)) _ _ s;refine aN (g6 ?_);refine a6 ⟨nP F.plain_list_iadd _,codeAny_builtin F.entry_list_iadd ?_⟩;rw[Around.under_plainId F.plain_list_iadd _];show wpAny _ A.in1 (Builtin.List.listExtendWith (.ref s.heap.objs.size) (.ref S) (.ref s.heap.objs.size)) _ _ _;have FJ:∀x:Obj,(s.heap.push x).objs.size=s.heap.objs.size+1:=λx=>Heap.size_push ..;have j:(s.heap.push {cls:=.type "list",data:=.seq ([]:List q3).toArray}).get? S=some o:=cv _ ho;have Z:(s.heap.push {cls:=.type "list",data:=.seq ([]:List q3).toArray}).get? s.heap.objs.size=some {cls:=.type "list",data:=.seq ([]:List q3).toArray}:=da _ rfl;generalize Y:s.heap.push {cls:=.type "list",data:=.seq ([]:List q3).toArray}=C at j Z;have R:C.objs.size=s.heap.objs.size+1:=by rw[<- Y];exact FJ _
 have M:∀b u,s.heap.get? b=some u->C.get? b=some u:=λb u e=>by rw[<- Y];exact cv _ e
 unfold Builtin.List.listExtendWith;refine aN (wpAny_typeOf (T:="set") ⟨o,j,ex.1⟩ ?_);have k1:Builtin.List.listSameRef (.ref s.heap.objs.size) (.ref S)=false:=by simp[Builtin.List.listSameRef];exact Nat.ne_of_gt G
 have k2:(Value.type "set"==Value.type "list")=false:=by decide
 have k3:(Value.type "set"==Value.type "tuple")=false:=by decide
 simp only[k1,k2,k3,Bool.or_false,Bool.false_eq_true,if_false];refine aN (bd (s:={s with heap:=C}) j ex hd n p qV λfirst T D c r d H a nT L X K I=>?_);have a:C.objs.size<=D:=a;rw[R]at a;refine aN (fY (aw (S:=S) ⟨o,H _ _ j,ex.1⟩ ?_));refine wpAny_ite_split (λ_=>?_) (λz=>absurd (by decide+kernel) z);refine aN (nC ?_);refine aN ?_;show wpAny _ A.in1 (updateSeq s.heap.objs.size (·.push .none)>>=λ_=>updateSeq s.heap.objs.size (·.pop)) _ _ _;have U:=H _ _ Z;refine aN (wpAny_updateSeq U rfl ?_);have v:=g0 (Obj.mapSeq (·.push Value.none)) U rfl;refine wpAny_updateSeq v rfl ?_;have J:=g0 (Obj.mapSeq (·.pop)) v rfl
 have off:∀b u,b≠s.heap.objs.size->r.get? b=some u->((r.update s.heap.objs.size (Obj.mapSeq (·.push Value.none))).update s.heap.objs.size (Obj.mapSeq (·.pop))).get? b=some u:=
  λb u f e=>(eI _ _ (Ne.symm f)).trans ((eI _ _ (Ne.symm f)).trans e)
 have nS:D≠S:=λe=>by
  rw[e]at a;exact absurd (fC (Nat.lt_succ_self _) a) (Nat.not_lt.mpr (nV G))
 have O:c.length=es.size:=by rw[X.length_eq,List.length_map,Array.length_toList]
 have nN:s.heap.objs.size∉[D,S,T]:=λz=>by
  rcases eH.mp z with e|z
  ·rw[<- e]at a;exact absurd a (Nat.not_succ_le_self _)
  ·rcases eH.mp z with e|z
   ·exact absurd e (Nat.ne_of_gt G)
   ·have e:=k8.mp z;rcases L with h|h
    ·rw[h]at e;exact absurd e (Nat.ne_of_gt G)
    ·have h:C.objs.size<=T:=h;rw[R,<- e]at h;exact absurd h (Nat.not_succ_le_self _)
 have W:=Z6 (P:=P) (w:=w) (A:=A.in1) (it:=D) (T:=T) (ord:=c) (show A.in1.handled=none from hh) nS nT hd n O
 have FK:(λi h=>h.get? S=some o/\∃first,F8 h D first i S es.size ep/\O9 w h S es ep t T c i first) 0 ((r.update s.heap.objs.size (Obj.mapSeq (·.push Value.none))).update s.heap.objs.size (Obj.mapSeq (·.pop))):=
  W.frame 0 r _ ⟨H _ _ j,first,K,I⟩ λb f u e=>off b u (λz=>nN (z▸f)) e
 refine a6 ⟨nP F.plain_extend_loop _,codeAny_extend_loopS W.toS (by rw[O,sizeLine_eq];omega) _ nN _ c.length 0 _ _ _ rfl (mu _) FK J (ItemsOf.nil _) λN g c' hm B ha=>?_⟩;show wpAny _ A (load s.heap.objs.size>>=_) _ _ N;refine aN (wpAny_load B (a6 ?_))
 have m:g.toList=c:=by
  obtain⟨r,h2⟩:=ha;refine List.ext_getElem? λi=>?_;rcases i3 i g.size with z|z
  ·have e:=h2 i g[i] (Array.getElem?_eq_getElem z);rw[e];simp[z]
  ·rw[List.getElem?_eq_none (by simpa using z),List.getElem?_eq_none (by omega)]
 rw[Moved.eq_with hm];refine q _ N.heap d N.toks (λb u e=>hm.heap b u (λz=>?_) (off b u (ft (dt e)) (H _ _ (M b u e)))) (nV (dt B)) (by rw[m];exact X);have f:=dt e;rcases eH.mp z with y|y
 ·exact absurd y (ft f)
 ·rw[List.mem_singleton.mp y]at f;exact absurd (fC f (Nat.le_of_succ_le a)) (Nat.lt_irrefl _)
end
theorem Wh:∀{vs:List q3},(∀v∈vs,∃y t,v=.int y t)->∃ys:qG,IntsAre vs ys/\ys.length=vs.length/\∀y,y∈ys↔∃t,Value.int y t∈vs
 |[],_=>⟨[],.nil,rfl,λy=>by simp⟩
 |v::vs,h=>by
  obtain⟨y,t,rfl⟩:=h v dm;obtain⟨ys,b,c,d⟩:=Wh λv f=>h v (d0 _ f);refine⟨y::ys,.cons y t b,by rw[List.length_cons,List.length_cons,c],λz=>?_⟩;rw[List.mem_cons,d z];constructor
  ·rintro(rfl|⟨u,a⟩)
   ·exact⟨t,dm⟩
   ·exact⟨u,d0 _ a⟩
  ·rintro⟨u,a⟩;rcases eH.mp a with e|a
   ·cases e;exact .inl rfl
   ·exact .inr ⟨u,a⟩
section
variable {prog:q4}{w:ra}{E:pQ}
theorem Tk{A:q5}{s:qU}{r:q3}{Q:pQ}{C:qG->Prop}(z:∀R:List q3->qU->Prop,(∀vs ns h1 d a,IntsAre vs ns->vs.length<64->C ns->(∀b u,s.heap.get? b=some u->h1.get? b=some u)->s.heap.objs.size<=h1.objs.size->R vs {s with heap:=h1,drawn:=d,toks:=a})->wpAny (model prog w) A.in1 (collect r) R E s)
  (h:∀(out:Array q3) (ns f:qG) (N:Addr) (h':Heap) (d:Drawn) (a c:Nat),C ns->IntsAre out.toList f->f.Perm ns->f.Pairwise (·<=·)->(∀b u,s.heap.get? b=some u->h'.get? b=some u)->s.heap.objs.size<=N->f.length<64->h'.get? N=some (seqObj "list" out c)->Q (.ref N) {s with heap:=h',drawn:=d,toks:=a}):
  wpAny (model prog w) A (call (.builtin "sorted") [r]) Q E s:=by
 refine Calls.call_function_entry kind_sorted plain_sorted entry_sorted (args_sorted1 _) ?_;unfold Builtin.«sorted»;refine aN (m:=checkCount "sorted" 1 1 _) (a6 ?_);refine aN (z _ λvs ns h1 d a m l p v g=>?_);have i:vs.length<=sizeLine:=by rw[sizeLine_eq];omega
 refine aN (wpAny_newList ?_ i);have j:(h1.push (seqObj "list" vs.toArray 0)).get? h1.objs.size=some (seqObj "list" vs.toArray 0):=da _ rfl;show wpAny _ _ _ _ _ {s with heap:=h1.push (seqObj "list" vs.toArray 0),drawn:=d,toks:=a};refine aN (fY (hH slot_list_sort ⟨_,j,rfl⟩ entry_list_sort (list_sort_tree (s:={s with heap:=h1.push (seqObj "list" vs.toArray 0),drawn:=d,toks:=a}) j m l λout f x n y=>⟨_,rfl,?_⟩) (args_list_sort _)));obtain⟨c,q⟩:∃c,(sortedHeap (h1.push (seqObj "list" vs.toArray 0)) h1.objs.size vs out).get? h1.objs.size=some (seqObj "list" out c):=sortedHeap_at j;refine a6 ⟨_,rfl,h out ns f _ _ d a c p x n y (λb o e=>?_) g (by rw[n.length_eq,<- m.length];exact l) q⟩;have e:=v b o e;rw[sortedHeap_old (Nat.ne_of_lt (Heap.lt_size e)) (by rw[size_push'];exact Nat.lt_succ_of_lt (Heap.lt_size e))];exact cv _ e
end
open PySem PySem.Spec PySem.SeqAt PyProof.Rows
section
variable {X:Cx}
theorem Am.draws(I:Am X a b H s)(d:Drawn):Am X a b H {s with drawn:=d}:=⟨I.ok,I.os,I.bare,I.base,I.loc,I.cell,I.free,I.cP,I.pin,I.aK,I.len⟩
def jo(K:W.Frag)(d:TA):TE:=λf H Q=>d f H λe b=>∃(l:Addr) (c:qG),e=[.ref l]/\Aq K b l (c.map V.int)/\c.length<64/\∀(p:Addr) (a:qG),b p=none->a.length<64->(∀y,y∈a↔y∈c)->a.Pairwise (·<=·)->Q (.ref p) (upd b p (.lst (a.map V.int)))
theorem rl{ns:qG}{a:List q3}(r:Ay (ns.map V.int) a){i:Nat}{v:q3}(h:a[i]?=some v):∃t,v=.int (ns.getD i 0) t:=by
 have f:=(cb.mp h).1;have c:=r.length;rw[List.length_map]at c
 have e:(ns.map V.int)[i]?=some (.int (ns.getD i 0)):=by
  rw[List.getElem?_map,List.getElem?_eq_getElem (by omega),List.getD_eq_getElem?_getD,List.getElem?_eq_getElem (by omega)];rfl
 obtain⟨u,b,d⟩:=r.get e;rw[h]at b;cases b;exact d
theorem Of{ns:qG}{k:Int}:k∈(List.range ns.length).map (λi=>ns.getD i 0)↔k∈ns:=by
 have e:(List.range ns.length).map (λk=>ns.getD k 0)=ns:=by
  refine List.ext_getElem (by simp) λi a b=>?_;simp[List.getElem_map,List.getElem_range,List.getD_eq_getElem?_getD,List.getElem?_eq_getElem b]
 rw[e]
theorem Ux{a:Expr}{ta:TA}{p m pos D:Pos}(hc:X.calm=true)(hg:Gl X "sorted")(hm:X.mg "sorted"=none)(S:Gl X "set")(Z:X.mg "set"=none)(ha:PA X [a] ta)
  (hs:starEach [a] X.env=[(false,eval a X.env)]:=by rfl)(xR:starEach [Expr.Call (.Name "set" m) [a] [] D] X.env=[(false,eval (.Call (.Name "set" m) [a] [] D) X.env)]:=by rfl):
  PE X (.Call (.Name "sorted" p) [.Call (.Name "set" m) [a] [] D] [] pos) (jo X.K ta):=by
 intro C s σ H Q I h;refine wpAny_Call_Name_kw (E9 I hg hm boot_sorted (PyProof.Rows.callWith_builtin1 ?_ xR rfl));rw[xR];show wpAny _ _ (spliced ((false,eval (.Call (.Name "set" m) [a] [] D) X.env)::[])) _ _ s;refine Calls.spliced_cons (wpAny_Call_Name_kw (E9 I S Z PyProof.Rows.boot_set (PyProof.Rows.callWith_type1 (Br (ha D C s σ H _ I h) λus n ⟨vs,H1,r,r1,q1⟩=>?_) hs rfl)));obtain⟨l,G,e,hq,qV,q⟩:=q1;subst e;obtain⟨u1,rfl,DG⟩:=Dg r1;cases DG;obtain⟨aH,rv,pl,hz⟩:=r.list hq;have f:=rv.length;rw[List.length_map]at f;have e3:aH.toArray.size=G.length:=by rw[List.size_toArray,f]
 refine zt (knd:=intKind X.prog X.w) (f:=λi=>G.getD i 0) (r.ok.hd hc) pl.isList (λi v hv=>?_) (by rw[e3];unfold scanBound;omega) λF tk g kp=>?_
 ·obtain⟨t,rfl⟩:=rl rv (by rw[<- List.getElem?_toArray];exact hv);exact⟨intKind_is _ _ _ _,rfl⟩
 refine Calls.spliced_nil ?_;rw[e3]at g;obtain⟨o,es,ep,tb,ho,P,hd,O,iL,hsz,A,w⟩:=g;have kp':∀b u,n.heap.get? b=some u->F.get? b=some u:=λb u e=>kp b u (dt e) e;refine Tk (s:={n with heap:=F,toks:=tk}) (C:=λJ=>∀y,y∈J↔y∈G) (λR hR=>?_) λout J K N M d L c hC p0 p1 m j hN DK e'=>?_
 ·refine Zr (s:={n with heap:=F,toks:=tk}) (show X.A.in1.handled=none from r.ok.hd hc) ho P hd A w (by omega) λvs M d L j Y E=>?_
  have x:∀v∈vs,∃y t,v=.int y t:=λv hv=>by
   obtain⟨e,z,rfl⟩:=fx.mp (E.mem_iff.mp hv);obtain⟨⟨k,U,_⟩,_⟩:=O e z;obtain⟨t,B⟩:=Value.isInt_shape U;exact⟨k,t,B⟩
  obtain⟨J,h1,h2',h3⟩:=Wh x;refine hR vs J M d L h1 ?_ (λy=>?_) j Y
  ·rw[E.length_eq,List.length_map,Array.length_toList];omega
  ·rw[h3 y,<- Of (ns:=G),iL y];constructor
   ·rintro⟨t,B⟩;obtain⟨e,z,ee⟩:=fx.mp (E.mem_iff.mp B);exact⟨e,z,by rw[ee];exact intKind_is _ _ _ _⟩
   ·rintro⟨e,z,U⟩;obtain⟨t,B⟩:=Value.isInt_shape U;exact⟨t,E.mem_iff.mpr (fx.mpr ⟨e,z,B⟩)⟩
 ·have kk:∀b u,n.heap.get? b=some u->M.get? b=some u:=λb u e=>j b u (kp' b u e)
  have TX:n.heap.objs.size<=N:=by
   have T:n.heap.objs.size<F.objs.size:=dt ho;exact ea (nV T) hN
  have I2:=(r.laid (a:=N) (o:=.lst (K.map V.int)) (t':=L) kk TX ⟨by rw[List.length_map,sizeLine_eq];omega,out.toList,c,Ho p0,e'⟩).draws d;exact⟨.ref N,upd H1 N (.lst (K.map V.int)),I2,rfl,q N K (r.aK.fresh TX) DK (λy=>(p1.mem_iff).trans (hC y)) m⟩
end
section
variable {X:Cx}{p pos kpos:Pos}{e d:Expr}{t:TA}{td:TE}{x:Str}
def A1e(K:W.Frag)(t:TA)(td:TE):TE:=λg H Q=>t g H λi h=>jk td jl g h λj f=>∃(a:Addr) (c:qG),i=[.ref a]/\j=[.bN]/\Aq K f a (c.map V.int)/\(c=[]->Q .bN f)/\∀m:Int,m∈c->(∀b∈c,b<=m)->Q (.int m) f
theorem mn(O:X.calm=true)(P:Gl X x)(S:X.mg x=none)(Y:bootBuiltins x=some (.builtin "max"))(N:PA X [e] t)(g:PE X d td)(T:x≠"__name__":=by decide)(qL:(x==("__debug__":Str))=false:=by decide)
  (he:starEach [e] X.env=[(false,eval e X.env)]:=by rfl):PE X (.Call (.Name x p) [e] [⟨some "default",d,kpos⟩] pos) (A1e X.K t td):=by
 intro f s E H Q I h;refine wpAny_Call_Name_kw (E9 I P S Y ?_ T qL);refine callWith_kw (he:=by rw[he];rfl) (hplain:=by rw[he];rfl) (Br (N pos f s E H _ I h) λus s1 o=>?_);obtain⟨vs,F,G,r1,q1⟩:=o;refine Br (mq (kpos:=kpos) (nm:=some "default") g wg pos f s1 E F _ G q1) λks s2 o=>?_;obtain⟨n,v,l,r2,q2⟩:=o
 ·obtain⟨a,D,rfl,rfl,U,q0,q⟩:=q2;obtain⟨u,rfl,ru⟩:=Dg r1;cases ru;obtain⟨u2,rfl,J⟩:=Dg r2;obtain⟨aH,rv,Z,hz⟩:=l.list U;have B:=Fv rv;obtain⟨n,y⟩:=B.allInts.items
  have r:D=n.toList.map (·.1):=by
   have L:=B.numsOf;have w:=nums_intItems n;rw[<- y]at w;exact L.symm.trans w
  have c:D.length=n.size:=by rw[r,List.length_map,Array.length_toList]
  have C:=Z.isList;rw[y]at C;refine Xz (l.ok.hd O) C (λz M tk g=>?_) λz m t M tk top g=>?_
  ·refine⟨.bN,v,l.kept g,J,q0 ?_⟩;rw[z]at c;exact List.length_eq_zero_iff.mp c
  ·refine⟨.int m,v,l.kept g,⟨t,rfl⟩,q _ ?_ λb A=>?_⟩
   ·obtain⟨⟨i,jQ,K⟩,_⟩:=top;rw[K,r,numAt_eq];exact getD_mem (by rw[List.length_map,Array.length_toList];omega)
   ·rw[r]at A;obtain⟨j,R,rfl⟩:=mem_getD A;rw[List.length_map,Array.length_toList]at R;rw[<- numAt_eq];exact top.2 j (by omega)
end
def o9(x:Str):It:=⟨λi _=>i<x.cps.toList.length,λi H v a=>a=H/\∃c,x.cps.toList[i]?=some c/\v=.str ⟨#[c]⟩,λi _=>i=x.cps.toList.length⟩
theorem Tq{P:q4}{w:ra}{K:PySem.W.Frag}{tg:Expr}(x:Str)(t:Tok)(it:Addr)(n:String)(Y:["enumerate","zip","dict_itemiterator","dict_reverseitemiterator","odict_iterator","itertools.zip_longest","itertools.pairwise"].contains n=false)
  (W:∀N:q5,N.handled=none->Walks P w N it [it] [it] x.cps.size (SignAt x) (λi h=>h.IsStrIter it n x t i))
  (Z:∀(A:q5) (i:Nat) (s:qU) (Q:pQ) (E:pQ),s.heap.IsStrIter it n x t i->Q (.ref it) s->wpAny (model P w) A (pyIter (.ref it)) Q E s):
  Pz P w K tg (o9 x) [it] it (λi h=>h.IsStrIter it n x t i)where
 mem:=by simp
 obj:=λi h a b g=>by
  have e:b=it:=by simpa using g
  subst e;obtain⟨o,e,c,d⟩:=a;exact⟨o,e,λv z=>by rw[d]at z;cases z⟩
 keep:=λi h l a k=>by
  obtain⟨o,e,r⟩:=a;exact⟨o,k it (by simp) o e,r⟩
 item:=by
  intro X F L D G i f s R H E I m a J;subst F L D;obtain⟨p,q,U,y,B,C⟩:=m it (by simp);refine(W X.A (I.ok.hd G)).item i s _ E (by have:i<x.cps.toList.length:=J;simpa using this) a λv l j hv O M=>?_;obtain⟨c,u,hx,rfl⟩:=hv;have S:Am X f R H {s with heap:=l,toks:=j}:=I.turned (t':=j) (λb o g e=>M b o (by simpa using g) e) p q y B C;obtain⟨o,e,T,d⟩:=id O;exact⟨_,rfl,We (s:={s with heap:=l,toks:=j}) e T d Y ⟨.str ⟨#[c]⟩,H,S,⟨u,rfl⟩,⟨rfl,c,by simpa using hx,rfl⟩,O,λb g=>(m b g).1⟩⟩
 done:=by
  intro X F L D G i f s R H E I m a J;subst F L D;obtain⟨p,q,U,y,B,C⟩:=m it (by simp)
  have e:i=x.cps.size:=by
   have:i=x.cps.toList.length:=J;simpa using this
  subst e;exact(W X.A (I.ok.hd G)).done s _ E a λl j M=>⟨rfl,I.turned (t':=j) (λb o g e=>M b o (by simpa using g) e) p q y B C⟩
 self:=λA i s Q E a h=>Z A i s Q E a h
def A1x(b:TE):TI:=λc H R=>b c H λv a=>∃x,v=.str x/\R (o9 x) a
theorem cr{X:Cx}{D l:Expr}{p:TE}(z:PE X l p):PI X D l (A1x p):=by
 intro a s F H R I h;refine Br (z a s F H _ I h) λv c u=>?_;obtain⟨y,g,f,C,B⟩:=u;obtain⟨x,e,q⟩:=B;subst e;obtain⟨t,rfl⟩:=C
 have d:∀b∈[c.heap.objs.size],Lg X a g b:=λb w=>by
  have e:b=c.heap.objs.size:=by simpa using w
  subst e;exact f.qO (dr _) (f.aK.fresh (dr _))
 cases n:x.cps.all (·<128)
 ·refine wpAny_pyIter_wide n ⟨c.heap.objs.size,[c.heap.objs.size],_,o9 x,g,rfl,f.kept (t':=c.toks) λb o e=>cv _ e,Tq x t _ "str_iterator" (by decide) (λr j=>Walks.strWide j _ x t) (λA i s Q E m h=>wpAny_pyIter_striter_wide m h),⟨_,da _ rfl,rfl,rfl⟩,d,q⟩
 ·refine wpAny_pyIter_ascii n ⟨c.heap.objs.size,[c.heap.objs.size],_,o9 x,g,rfl,f.kept (t':=c.toks) λb o e=>cv _ e,Tq x t _ "str_ascii_iterator" (by decide) (λr j=>Walks.strAscii j _ x t) (λA i s Q E m h=>wpAny_pyIter_striter_ascii m h),⟨_,da _ rfl,rfl,rfl⟩,d,q⟩
theorem Zs(a:Nat->List V->Hp->Prop)(n:a 0 [] (upd d D (.lst [])))
  (s:∀i c ys H,x.cps.toList[i]?=some c->a i ys H->∀f:VK,(∀y b,b D=some (.lst ys)->ys.length<sizeLine->a (i+1) (ys++[y]) (upd b D (.lst (ys++[y])))->f y b)->j (some (.str ⟨#[c]⟩)::Cv h l) H f)
  (r:∀ys H,a x.cps.toList.length ys H->Q H):Dc 1 h (o9 x) (J2 0) Ol j l D d Q:=by
 refine⟨λi m ys H=>m=x.cps.toList.length-i/\i<=x.cps.toList.length/\a i ys H,⟨x.cps.toList.length,by simp,mu _,n⟩,?_⟩;rintro i m ys w ⟨rfl,A,p⟩;by_cases g:i<x.cps.toList.length
 ·refine .inr ⟨g,λv z y=>?_⟩;obtain⟨e,c,q,y⟩:=y;subst e y;refine⟨⟨[some (.str ⟨#[c]⟩)],rfl,rfl⟩,?_⟩;simp only[Ol,↓reduceIte];exact s i c ys _ q p _ λy b o u pv=>⟨o,u,x.cps.toList.length-(i+1),by omega,rfl,g,pv⟩
 ·have e:i=x.cps.toList.length:=by omega
  subst e;exact .inl ⟨rfl,r _ _ p⟩
theorem Pw:∀l:List (Str×Tok),Ay ((l.map (·.1)).map V.str) (strValues l)
 |[]=>.nil
 |(x,t)::l=>.cons ⟨t,rfl⟩ (Pw l)
section
variable {X:Cx}
def wl:V->List V->Hp->VK->Prop:=λv a H Q=>∃x y:Str,v=.str x/\a=[.str y]/\(y.length==0)=false/\x.length<=100000/\∀p,H p=none->Q (.ref p) (upd H p (.lst ((Txt.split x y).map V.str)))
theorem N7:z9 X "str.split" wl:=by
 intro a s g H v C B A Q I p rv h;obtain⟨x,y,rfl,rfl,f,n,q⟩:=h;obtain⟨t,rfl⟩:=p;obtain⟨z,rfl,o⟩:=rv.one;obtain⟨u,rfl⟩:=o;have w:100000+2<=sizeLine:=by decide
 have m:(Builtin.Str.partsBetween x (Builtin.Str.occurrences x y 0 x.length (x.length+1)) y.length).length<=sizeLine:=by
  have r:=StrLaws.occ_length_le x y 0 x.length (x.length+1);rw[length_partsBetween];omega
 have b:∀(l:List (Str×Tok)) (k:Nat),l.map (·.1)=Txt.split x y->l.length<=sizeLine->EP X a g Q (.ref s.heap.objs.size) {s with heap:=s.heap.push {cls:=.type "list",data:=.seq (strValues l).toArray},toks:=k}:=λl k e j=>by
  refine⟨.ref _,_,I.SG (t':=k) (Pw l) (by rw[List.length_map,List.length_map];exact j),rfl,?_⟩;rw[e];exact q _ I.fresh
 cases c:(decide (x.length<y.length)||decide (Builtin.Str.strKind x<Builtin.Str.strKind y))
 ·cases d:(Builtin.Str.occurrences x y 0 x.length (x.length+1)).isEmpty
  ·refine call_meets F.slot_str_split (typeIs_str _ _ _) F.entry_str_split (F.args_str_split_2 _ _) (meets_str_split_sep x y t u c f d (by omega) m) ?_;show wants (EP X a g Q) X.xe _ {s with toks:=_,heap:=s.heap.push {cls:=.type "list",data:=.seq (strsFrom s.toks (Builtin.Str.partsBetween x (Builtin.Str.occurrences x y 0 x.length (x.length+1)) y.length)).toArray} };rw[strsFrom_eq];have e:=numbered_texts s.toks (Builtin.Str.partsBetween x (Builtin.Str.occurrences x y 0 x.length (x.length+1)) y.length);refine b _ _ (e.trans ((if_neg (ne_true_of_eq_false c)).trans (if_neg (ne_true_of_eq_false d))).symm) ?_;have i:=congrArg List.length e;rw[List.length_map]at i;omega
  ·exact call_meets F.slot_str_split (typeIs_str _ _ _) F.entry_str_split (F.args_str_split_2 _ _) (meets_str_split_not_found x y t u c f d)
    (b [(x,t)] s.toks ((if_neg (ne_true_of_eq_false c)).trans (if_pos d)).symm (by show 1<=sizeLine;decide))
 ·exact call_meets F.slot_str_split (typeIs_str _ _ _) F.entry_str_split (F.args_str_split_2 _ _) (meets_str_split_cannot_occur x y t u c)
   (b [(x,t)] s.toks (if_pos c).symm (by show 1<=sizeLine;decide))
theorem Ox:Cu X (.type "int") (λxs H Q=>∃(x:Str) (n:Int),xs=[.str x]/\intText? x=some n/\x.length<=640/\Q (.int n) H):=by
 intro a s f H xs e Q I r h;obtain⟨x,n,rfl,c,b,q⟩:=h;obtain⟨u,rfl,d⟩:=r.one;obtain⟨t,rfl⟩:=d;exact W.KIN.call_text c b ⟨.int n,H,I.tok _,⟨_,rfl⟩,q⟩
end
def jn:List (List Nat)->List Nat
 |[]=>[]
 |[w]=>w
 |w::v::r=>w++32::jn (v::r)
theorem lg:∀{ws vs:List (List Nat)},ws≠[]->vs≠[]->(∀w∈ws,32∉w)->(∀w∈vs,32∉w)->jn ws=jn vs->ws=vs:=by
 have f:∀{a b r s:List Nat},32∉a->32∉b->a++32::r=b++32::s->a=b/\r=s:=by
  intro a
  induction a with
  |nil=>
   intro b r s _ l e;cases b with
   |nil=>
    injection e with _ g;exact⟨rfl,g⟩
   |cons x b=>
    injection e with d _;exact absurd (d▸dm) l
  |cons y a n=>
   intro b r s p l e;cases b with
   |nil=>
    injection e with d _;exact absurd (d▸dm) p
   |cons x b=>
    injection e with d g;obtain⟨i,j⟩:=n (λz=>p (d0 _ z)) (λz=>l (d0 _ z)) g;exact⟨by rw[d,i],j⟩
 intro ws
 induction ws with
 |nil=>intro vs h;exact absurd rfl h
 |cons w ws n=>
  intro vs _ C q o e;cases vs with
  |nil=>exact absurd rfl C
  |cons v vs=>
   have B:=q w dm;have u:=o v dm;cases ws with
   |nil=>
    cases vs with
    |nil=>
     have c:w=v:=e;rw[c]
    |cons A vs=>
     have c:w=v++32::jn (A::vs):=e;exact absurd (c▸gv _ dm) B
   |cons D ws=>
    cases vs with
    |nil=>
     have c:w++32::jn (D::ws)=v:=e;exact absurd (c▸gv _ dm) u
    |cons A vs=>
     obtain⟨i,j⟩:=f B u e;rw[i,n (by simp) (by simp) (λz m=>q z (List.mem_cons_of_mem _ m)) (λz m=>o z (List.mem_cons_of_mem _ m)) j]
theorem M0:∀ws:List Str,(Str.join " " ws).cps.toList=jn (ws.map λx=>x.cps.toList)
 |[]=>rfl
 |[w]=>rfl
 |w::v::r=>by
  have a:=M0 (v::r);show(w++" "++Str.join " " (v::r)).cps.toList=_;rw[Str.cps_append,Str.cps_append,Array.toList_append,Array.toList_append,a,W.KWk.blank_list,List.append_assoc];rfl
theorem Zn:(Str.ofString " ")=⟨#[32]⟩:=by decide
theorem M6{x y:Str}(h:x.cps.toList=y.cps.toList):x=y:=Str.ext' (Array.toList_inj.mp h)
theorem L4:∀{ws vs:List Str},(ws.map λx=>x.cps.toList)=(vs.map λx=>x.cps.toList)->ws=vs
 |[],[],_=>rfl
 |[],_::_,h=>by cases h
 |_::_,[],h=>by cases h
 |w::ws,v::vs,h=>by
  injection h with a b;rw[M6 a,L4 b]
theorem L8{x:Str}{ws:List Str}(i:ws≠[])(j:∀w∈ws,32∉w.cps.toList)(h:x.cps.toList=jn (ws.map λx=>x.cps.toList)):Txt.split x " "=ws:=by
 have e:=StrLaws.join_split x " ";have d:=StrLaws.split_free x 32;rw[<- Zn]at d;refine L4 (lg ?_ (by simpa using i) ?_ ?_ ?_)
 ·intro z;have c:Txt.split x " "=[]:=by simpa using z
  rw[c]at e;have f:=congrArg (λy:Str=>y.cps.toList) e;have g:([]:List Nat)=x.cps.toList:=f;have l:x=⟨#[]⟩:=M6 g.symm;rw[l]at c;exact absurd c (by decide)
 ·intro w a;obtain⟨y,b,rfl⟩:=fx.mp a;exact d y b
 ·intro w a;obtain⟨y,b,rfl⟩:=fx.mp a;exact j y b
 ·rw[<- M0,e,h]
open PySem PySem.Spec PyProof.Rows PySem.NumText
def Bh(n:Int):Str:=Str.ofString (toString n)
def Gx(x:Str):Bool:=(x.cps.toList.all λc=>decide (48<=c/\c<=57))&&(decide (1<=x.length/\x.length<=100)&&(decide (x="0")||decide (x.cps.toList.head? ≠some 48)))
theorem S7:∀m:Nat,0<m->∃c r,Nat.toDigits 10 m=c::r/\c≠'0':=λm=>by
 induction m using Nat.strongRecOn with
 |_ m g=>
  intro a;by_cases h:m<10
  ·rw[Nat.toDigits_of_lt_base h];refine⟨_,_,rfl,?_⟩;have:∀d:Nat,d<10->0<d->Nat.digitChar d≠'0':=by decide
   exact this m h a
  ·have f:m%10<10:=Nat.mod_lt m (by decide);have t:Nat.toDigits 10 (m/10)++Nat.toDigits 10 (m%10)=Nat.toDigits 10 (10*(m/10)+m%10):=Nat.toDigits_append_toDigits (by decide) (by omega) f;rw[Nat.div_add_mod]at t;obtain⟨c,r,e,b⟩:=g (m/10) (by omega) (by omega);rw[<- t,e];exact⟨c,_,rfl,b⟩
theorem Fg(m:Nat):(Bh (m:Int)).cps.toList=(Nat.toDigits 10 m).map Char.toNat:=W.KIN.signs_num m
theorem lr(m:Nat):AllDigits (Bh (m:Int)).cps.toList:=by
 intro c a;rw[Fg]at a;obtain⟨d,b,e⟩:=fx.mp a;rw[<- e];exact digit_range (Nat.isDigit_of_mem_toDigits (by decide) (by decide) b)
theorem su(m:Nat):(Bh (m:Int)).cps.toList≠[]:=by
 rw[Fg];intro e;by_cases h:0<m
 ·obtain⟨c,r,a,_⟩:=S7 m h;rw[a]at e;cases e
 ·have:m=0:=by omega
  subst this;exact absurd e (by decide)
theorem Ut{m:Nat}(h:m<10^100):(Bh (m:Int)).length<=100:=by
 have e:(Bh (m:Int)).length=(Bh (m:Int)).cps.toList.length:=by simp[Str.length]
 rw[e,Fg,List.length_map];exact toDigits_len_pow (by decide) (by decide) h
structure zn(x:Str)(n:Int):Prop where
 is:Gx x=true
 val:intText? x=some n
 TY:32∉x.cps.toList
 len:x.length<=100
 sgn:∀c∈x.cps.toList,48<=c/\c<=57
theorem Cy{n:Int}(g:0<=n)(h1:n<10^100):zn (Bh n) n:=by
 obtain⟨m,rfl⟩:=Int.eq_ofNat_of_zero_le g
 have h:m<10^100:=by
  have:((10:Int)^100)=((10^100:Nat):Int):=by norm_cast
  omega
 have a:=lr m;have f:=su m;have d:=Ut h;refine⟨?_,?_,λz=>?_,d,a⟩
 ·unfold Gx;rw[Bool.and_eq_true,Bool.and_eq_true,Bool.or_eq_true];refine⟨List.all_eq_true.mpr λc b=>decide_eq_true (a c b),decide_eq_true ⟨?_,d⟩,?_⟩
  ·have e:(Bh (m:Int)).length=(Bh (m:Int)).cps.toList.length:=by simp[Str.length]
   rw[e];exact nf.mpr f
  ·by_cases z:0<m
   ·refine .inr (decide_eq_true ?_);rw[Fg];obtain⟨c,r,e,b⟩:=S7 m z;rw[e];intro y;have i:c.toNat=48:=by simpa using y
    exact b (Char.toNat_inj.mp i)
   ·have:m=0:=by omega
    subst this;exact .inl (by decide)
 ·have e:=intText_digits a f (ea d (by decide));rw[Fg,W.KIN.val_back]at e;exact e
 ·have:=a 32 z;omega
open Builtin.Str in
theorem rq(h:r≠[]):jn (w::r)=w++32::jn r:=by
 cases r with
 |nil=>exact absurd rfl h
 |cons v r=>rfl
section
variable {X:Cx}{o e:Expr}{es:List Expr}{ta:TE}{t:TA}{C f:Addr}{m:Str}{fd:q7}{ps:List Str}{sp:Sp}{k:Nat}{ds:List q3}{gJ:List V}{R:St->XK->Prop}{pos apos:Pos}
def yh(C:Addr)(m:Str)(sp:Sp)(gJ:List V)(R:St->XK->Prop)(ta:TE)(t:TA):TE:=λb H Q=>ta b H λx c=>∃a g fs,x=.ref a/\c a=some (.ins C g fs)/\fs.lookup m=none/\
 t b c λh d=>∃E,R b E/\sp (x::(h++gJ)) d Q E
theorem Nn{pl:Sem Bool}(he:PE X o ta)(c:Zc X.K C)(i:Lh X.K C m f)(F:B3 X.prog X.w X.K X.mg X.base (CX1 X.prog X.w) k f fd ps sp)(G:Be k X.A)(B:Cp X.K fd ps ds)(D:Ay gJ ds)(K:Rr X R)(A:PA X (e::es) t)
  (y:starEach (e::es) X.env=(false,eval e X.env)::starEach es X.env:=by rfl)(M:(backTo pos (starEach es X.env)).any (·.1)=false:=by rfl)
  (J:eval (.Call (.Attribute o m apos) (e::es) [] pos) X.env=(do
   let j <- eval o X.env
   standAt apos.atName;let(f,first) <- holding [j] (getMethod j m pl)
   callWith pos f first (backTo pos (starEach (e::es) X.env)) (backToKw pos (keywordEach [] X.env))):=by rfl):
  PE X (.Call (.Attribute o m apos) (e::es) [] pos) (yh C m sp gJ R ta t):=by
 intro b s n H Q I h;refine W.methodCall_KW (pl:=pl) (Br (he b s n H _ I h) λu O ⟨x,p,d,N,a,U,fs,w,v,l,q⟩=>?_) J;subst w;obtain rfl:u=Value.ref a:=N;refine Ic d v c i l ?_;refine W.callWith_K (first:=[.ref a]) (h₀:=X.base) I.ok.mod.fD i.kp (Br (A pos b O n p _ d q) λP Y ⟨S,T,g,r,E,z,L⟩=>⟨g.gZ,?_⟩) y M;exact Wt (us:=.ref a::P) (vs:=.ref a::S) F G B D K g (.cons rfl r) z L
end
section
variable {X:Cx}
def tFs(c:Str)(t1 e:TE):TE:=λa H Q=>t1 a H λv b=>∃i:Int,v=.int i/\i.natAbs.log2<1920/\c.length<=100/\e a b λu d=>∃j:Int,u=.int j/\j.natAbs.log2<1920/\Q (.str ((toString i:Str)++c++(toString j:Str))) d
theorem wb{k p1 p2 p3 p}(h1:PE X f t1)(A:PE X g m):PE X (.JoinedStr [.FormattedValue f (-1) none p1,.Constant (.str c) k p2,.FormattedValue g (-1) none p3] p) (tFs c t1 m):=by
 intro a s n H Q I h;refine wpAny_JoinedStr ?_
 have big:∀i:Int,i.natAbs.log2<1920->(toString i:Str).length<=4000:=λi b=>by
  have e:=int_text_length_le (k:=1920) (by decide) b;show(Str.ofString (toString i)).length<=4000;rw[PySem.ofString_length];omega
 refine PySem.wpAny_FormattedValue_plain (Br (h1 a s n H _ I h) λv F d=>?_);obtain⟨x,o,u,D,B⟩:=d;obtain⟨i,e,b,L,q⟩:=B;subst e;obtain⟨t,rfl⟩:=D;have K:10000<=sizeLine:=by decide
 have G:=big i b;refine PySem.wpAny_formatField_int b ⟨_,_,rfl,?_,?_⟩
 ·rw[strLen_append];show 0+_<=_;omega
 refine Calls.Constant_str ⟨_,_,rfl,?_,?_⟩
 ·rw[strLen_append,strLen_append];show 0+_+_<=_;omega
 refine PySem.wpAny_FormattedValue_plain (Br (A a _ n o _ (u.tok _) q) λv F d=>?_);obtain⟨x,r,w,E,C⟩:=d;obtain⟨j,e,l,q⟩:=C;subst e;obtain⟨t,rfl⟩:=E;have J:=big j l;refine PySem.wpAny_formatField_int l ⟨_,_,rfl,?_,?_,?_⟩
 ·rw[strLen_append,strLen_append,strLen_append];show 0+_+_+_<=_;omega
 ·rw[strLen_append,strLen_append,strLen_append];show 0+_+_+_<=_;omega
 ·have z:∀y:Str,Str.empty++y=y:=λy=>Str.ext' (by rw[Str.cps_append];exact Array.empty_append);rw[z];exact⟨.str _,r,w.tok _,⟨_,rfl⟩,q⟩
end
theorem kr{x:Str}{g:TG}{o:TS}{D:Hq}{a:St}{H:Hp}(d:Nat->St->Hp->Prop)(q:d 0 a H)
  (u:∀i c a H,x.cps.toList[i]?=some c->d i a H->g (.str ⟨#[c]⟩) a H λh j=>o {D with nx:=d (i+1),ct:=d (i+1),bk:=D.nx} h j)(s:∀a H,d x.cps.toList.length a H->D.nx a H):
  ∃W:Nat->Nat->St->Hp->Prop,(∃m,W 0 m a H)/\∀i m a H,W i m a H->
   ((o9 x).stop i H/\D.nx a H)\/((o9 x).go i H/\∃N:St->Hp->Prop,(∀f b,N f b->∃n,n<m/\W (i+1) n f b)/\∀y b,(o9 x).CK i H y b->g y a b λh j=>o {D with nx:=N,ct:=N,bk:=D.nx} h j):=by
 refine⟨λi m a H=>m=x.cps.toList.length-i/\i<=x.cps.toList.length/\d i a H,⟨x.cps.toList.length,by simp,mu _,q⟩,?_⟩;rintro i m a H ⟨rfl,w,p⟩;by_cases l:i<x.cps.toList.length
 ·refine .inr ⟨l,d (i+1),λf b v=>⟨x.cps.toList.length-(i+1),by omega,rfl,l,v⟩,λy b z=>?_⟩;obtain⟨e,c,r,z⟩:=z;subst e z;exact u i c a _ r p
 ·have e:i=x.cps.toList.length:=by omega
  subst e;exact .inl ⟨rfl,s a H p⟩
theorem qp:∀{a b r s:List Nat},c∉a->c∉b->a++c::r=b++c::s->a=b/\r=s:=by
 intro a
 induction a with
 |nil=>
  intro b r s _ g e;cases b with
  |nil=>
   injection e with _ f;exact⟨rfl,f⟩
  |cons x b=>
   injection e with d _;exact absurd (d▸dm) g
 |cons y a l=>
  intro b r s h g e;cases b with
  |nil=>
   injection e with d _;exact absurd (d▸dm) h
  |cons x b=>
   injection e with d f;obtain⟨i,j⟩:=l (λz=>h (d0 _ z)) (λz=>g (d0 _ z)) f;exact⟨by rw[d,i],j⟩
theorem Z3(p:c∉a.cps.toList)(q:c∉b.cps.toList):Txt.split (a++⟨#[c]⟩++b) ⟨#[c]⟩=[a,b]:=by
 have e:=StrLaws.join_split (a++⟨#[c]⟩++b) ⟨#[c]⟩;have i:=StrLaws.split_free (a++⟨#[c]⟩++b) c
 have m:(a++⟨#[c]⟩++b).cps.toList=a.cps.toList++c::b.cps.toList:=by
  rw[Str.cps_append,Str.cps_append,Array.toList_append,Array.toList_append,List.append_assoc];rfl
 generalize Txt.split (a++⟨#[c]⟩++b) ⟨#[c]⟩=f at e i;have l:=congrArg (λy:Str=>y.cps.toList) e;have d:(Str.join ⟨#[c]⟩ f).cps.toList=a.cps.toList++c::b.cps.toList:=l.trans m
 have step:∀(w v:Str) (r:List Str),(Str.join ⟨#[c]⟩ (w::v::r)).cps.toList=w.cps.toList++c::(Str.join ⟨#[c]⟩ (v::r)).cps.toList:=λw v r=>by
  show(w++⟨#[c]⟩++Str.join ⟨#[c]⟩ (v::r)).cps.toList=_;rw[Str.cps_append,Str.cps_append,Array.toList_append,Array.toList_append,List.append_assoc];rfl
 cases f with
 |nil=>
  have g:([]:List Nat)=a.cps.toList++c::b.cps.toList:=d;have:=congrArg List.length g;simp at this
 |cons w f=>
  have j:=i w dm;cases f with
  |nil=>
   have g:w.cps.toList=a.cps.toList++c::b.cps.toList:=d;exact absurd (g▸gv _ dm) j
  |cons v r=>
   rw[step]at d;obtain⟨n,h⟩:=qp j p d;cases r with
   |nil=>
    have o:v.cps.toList=b.cps.toList:=h;rw[M6 n,M6 o]
   |cons u r=>
    rw[step]at h;exact absurd (h▸gv _ dm) q
end L2
namespace Law
local macro_rules | `(tactic| ac_rfl) => `(tactic| first | exact ⟨rfl,rfl,rfl,by decide +kernel,rfl,by decide +kernel,by decide +kernel⟩ | exact ⟨rfl,by decide +kernel,by decide +kernel,by decide +kernel,by decide +kernel⟩)
local macro_rules | `(tactic| omega) => `(tactic| lia)
open PySem L2 PyProof.Rows
open PySem.Builtin.Int (intBits)
def top(i:Nat):Stmt:=PySem.Challenge.pw_roundcall_k95_wheels_at_the_desk.main.body.getD i (.Pass ⟨0,0,0,0⟩)
abbrev fq:Stmt:=top 14
abbrev dq:Stmt:=top 15
abbrev X3:Stmt:=top 16
abbrev Wx:Stmt:=top 18
abbrev f7:Stmt:=top 19
abbrev dz:Stmt:=top 20
abbrev xi:Stmt:=top 21
abbrev Jp:Stmt:=top 22
abbrev fe:Stmt:=top 23
abbrev Tg:Stmt:=top 24
abbrev du:Stmt:=top 25
abbrev Tf:Stmt:=top 26
abbrev f8:Stmt:=top 27
abbrev Gg:Stmt:=top 31
abbrev f9:Stmt:=top 32
abbrev ff:Stmt:=top 33
abbrev dv:Stmt:=top 34
abbrev xc:Stmt:=top 35
abbrev Wv:Stmt:=top 36
abbrev di:Stmt:=top 37
abbrev Gh:Stmt:=top 38
abbrev eg:Stmt:=top 39
abbrev Fl:Stmt:=top 40
abbrev dj:Stmt:=top 41
abbrev fg:Stmt:=top 42
abbrev X2:Stmt:=top 43
abbrev Wy:Stmt:=top 44
abbrev xf:Stmt:=top 46
abbrev fu:Stmt:=top 47
abbrev wz:Stmt:=top 48
abbrev X4:Stmt:=top 49
abbrev fz:Stmt:=top 50
abbrev Ww:Stmt:=top 51
abbrev Wz:Stmt:=top 52
abbrev dk:Stmt:=top 53
abbrev g7:Stmt:=top 60
abbrev X0:Stmt:=top 67
abbrev Te:Stmt:=top 68
abbrev g8:Stmt:=top 69
abbrev fh:Stmt:=top 70
abbrev Wu:Stmt:=top 71
abbrev f6:Stmt:=top 72
abbrev xj:Stmt:=Dy (top 73) 0
abbrev wy:Stmt:=Dy (top 73) 3
abbrev fi:Stmt:=Dy (top 73) 4
abbrev dh:Stmt:=Dy (top 73) 5
abbrev nq:Stmt:=Dy (top 73) 6
abbrev xh:Stmt:=Dy (top 73) 7
abbrev dl:Stmt:=Dy (top 73) 8
abbrev xg:Stmt:=Dy (top 73) 2
abbrev fb:Stmt:=Dy (top 73) 1
abbrev fw:Stmt:=top 75
abbrev fc:Stmt:=top 76
abbrev dw:Stmt:=top 77
abbrev fj:Stmt:=top 78
abbrev fk:Stmt:=top 79
abbrev fm:Stmt:=top 80
abbrev X1:Stmt:=top 81
abbrev fo:Stmt:=top 82
abbrev nl:Stmt:=top 83
abbrev Jo:Stmt:=top 84
theorem Rb:Af (["one","other","rest"]:List Str) ["one","other"] (A6 fq):=by ac_rfl
theorem R8:Af (["numbers","common","number"]:List Str) ["numbers"] (A6 dq):=by ac_rfl
theorem Rc:Af (["numbers","bottom","top","both"]:List Str) ["numbers"] (A6 X3):=by ac_rfl
def S5:Scope:={kind:=.function,names:=[(Str.ofString ".0",NameKind.local),(Str.ofString "number",NameKind.local),(Str.ofString "bottom",NameKind.free)],isGenerator:=false,isCoroutine:=false,more:=[] }
theorem S2:Bt (A6 X3) S5 (["numbers","bottom","top","both"]:List Str) (["number"]:List Str) [1]:=by ac_rfl
theorem So:(B9 (["numbers","bottom","top","both"]:List Str) (["number"]:List Str) [1]).Nodup:=by decide+kernel
theorem gl:Af (["periods","rising"]:List Str) ["periods"] (A6 Wx):=by ac_rfl
def Ml:Scope:={kind:=.function,names:=[(Str.ofString ".0",NameKind.local),(Str.ofString "earlier",NameKind.local),(Str.ofString "later",NameKind.local)],isGenerator:=false,isCoroutine:=false,more:=[] }
theorem Md:Bt (A6 Wx) Ml (["periods","rising"]:List Str) (["earlier","later"]:List Str) []:=by ac_rfl
theorem Gz:(B9 (["periods","rising"]:List Str) (["earlier","later"]:List Str) []).Nodup:=by decide+kernel
theorem gm:Af (["periods","told"]:List Str) ["periods"] (A6 f7):=by ac_rfl
theorem Hd:Af (["levels","taken","first","step","period","size"]:List Str) ["levels","taken"] (A6 dz):=by ac_rfl
theorem Ny:Af (["periods","levels","taken","firsts","period"]:List Str) ["periods"] (A6 xi):=by ac_rfl
theorem Nx:Af (["periods","order","rows","number","first"]:List Str) ["periods"] (A6 Jp):=by ac_rfl
def K8:Scope:={kind:=.function,names:=[(Str.ofString ".0",NameKind.local),(Str.ofString "period",NameKind.local)],isGenerator:=false,isCoroutine:=false,more:=[] }
theorem K4:Bt (A6 Jp) K8 (["periods","order","rows","number","first"]:List Str) (["period"]:List Str) []:=by ac_rfl
theorem Ki:(B9 (["periods","order","rows","number","first"]:List Str) (["period"]:List Str) []).Nodup:=by decide+kernel
def K9:Scope:={kind:=.function,names:=[(Str.ofString ".0",NameKind.local),(Str.ofString "period",NameKind.local)],isGenerator:=false,isCoroutine:=false,more:=[] }
theorem K5:Bt (A6 Jp) K9 (["periods","order","rows","number","first"]:List Str) (["period"]:List Str) []:=by ac_rfl
theorem Kj:(B9 (["periods","order","rows","number","first"]:List Str) (["period"]:List Str) []).Nodup:=by decide+kernel
theorem gq:Af (["wait","base","times"]:List Str) ["wait","base"] (A6 fe):=by ac_rfl
theorem xy:Af (["waits","base"]:List Str) ["waits","base"] (A6 Tg):=by ac_rfl
def Qc:Scope:={kind:=.function,names:=[(Str.ofString ".0",NameKind.local),(Str.ofString "wait",NameKind.local),(Str.ofString "base",NameKind.free)],isGenerator:=false,isCoroutine:=false,more:=[] }
theorem Q9:Bt (A6 Tg) Qc (["waits","base"]:List Str) (["wait"]:List Str) [1]:=by ac_rfl
theorem Qr:(B9 (["waits","base"]:List Str) (["wait"]:List Str) [1]).Nodup:=by decide+kernel
def Qd:Scope:={kind:=.function,names:=[(Str.ofString ".0",NameKind.local),(Str.ofString "wait",NameKind.local),(Str.ofString "doubling",NameKind.globalImplicit),(Str.ofString "base",NameKind.free)],isGenerator:=false,isCoroutine:=false,more:=[] }
theorem Qa:Bt (A6 Tg) Qd (["waits","base"]:List Str) (["wait"]:List Str) [1]:=by ac_rfl
theorem Qs:(B9 (["waits","base"]:List Str) (["wait"]:List Str) [1]).Nodup:=by decide+kernel
theorem gf:Af (["wait","most"]:List Str) ["wait","most"] (A6 du):=by ac_rfl
theorem V7:Af (["waits","least","bases"]:List Str) ["waits"] (A6 Tf):=by ac_rfl
def Mm:Scope:={kind:=.function,names:=[(Str.ofString ".0",NameKind.local),(Str.ofString "wait",NameKind.local),(Str.ofString "halved_down",NameKind.globalImplicit),(Str.ofString "least",NameKind.free)],isGenerator:=false,isCoroutine:=false,more:=[] }
theorem Me:Bt (A6 Tf) Mm (["waits","least","bases"]:List Str) (["wait"]:List Str) [1]:=by ac_rfl
theorem N8:(B9 (["waits","least","bases"]:List Str) (["wait"]:List Str) [1]).Nodup:=by decide+kernel
def Mn:Scope:={kind:=.function,names:=[(Str.ofString ".0",NameKind.local),(Str.ofString "base",NameKind.local),(Str.ofString "have_room",NameKind.globalImplicit),(Str.ofString "doubled",NameKind.globalImplicit),(Str.ofString "waits",NameKind.free)],isGenerator:=false,isCoroutine:=false,more:=[] }
theorem Mf:Bt (A6 Tf) Mn (["waits","least","bases"]:List Str) (["base"]:List Str) [0]:=by ac_rfl
theorem N9:(B9 (["waits","least","bases"]:List Str) (["base"]:List Str) [0]).Nodup:=by decide+kernel
theorem gn:Af (["waits","base"]:List Str) ["waits"] (A6 f8):=by ac_rfl
theorem xz:Af (["waits","calm"]:List Str) ["waits","calm"] (A6 Gg):=by ac_rfl
theorem xt:Af (["hall"]:List Str) ["hall"] (A6 f9):=by ac_rfl
theorem xv:Af (["hall","standing"]:List Str) ["hall","standing"] (A6 ff):=by ac_rfl
theorem xp:Af (["hall","who"]:List Str) ["hall","who"] (A6 dv):=by ac_rfl
theorem A0y:Af (["hall","standing","who","lost"]:List Str) ["hall","standing","who","lost"] (A6 xc):=by ac_rfl
theorem gh:Af (["hall","standing","who","lost","left"]:List Str) ["hall","standing","who","lost"] (A6 Wv):=by ac_rfl
def Ka:Scope:={kind:=.function,names:=[(Str.ofString ".0",NameKind.local),(Str.ofString "turns",NameKind.local)],isGenerator:=false,isCoroutine:=false,more:=[] }
theorem K6:Bt (A6 Wv) Ka (["hall","standing","who","lost","left"]:List Str) (["turns"]:List Str) []:=by ac_rfl
theorem Kk:(B9 (["hall","standing","who","lost","left"]:List Str) (["turns"]:List Str) []).Nodup:=by decide+kernel
theorem xl:Af (["hall","standing","lost"]:List Str) ["hall","standing","lost"] (A6 di):=by ac_rfl
theorem gu:Af (["hall","standing","who","lost","left"]:List Str) ["hall","standing","who","lost"] (A6 Gh):=by ac_rfl
theorem gk:Af (["hall","standing","who","behind"]:List Str) ["hall","standing","who"] (A6 eg):=by ac_rfl
theorem gi:Af (["hall","standing","who","lost","left"]:List Str) ["hall","standing","who","lost"] (A6 Fl):=by ac_rfl
def K7:Scope:={kind:=.function,names:=[(Str.ofString ".0",NameKind.local),(Str.ofString "number",NameKind.local),(Str.ofString "turns",NameKind.local)],isGenerator:=false,isCoroutine:=false,more:=[] }
theorem K3:Bt (A6 Fl) K7 (["hall","standing","who","lost","left"]:List Str) (["number","turns"]:List Str) []:=by ac_rfl
theorem Ff:(B9 (["hall","standing","who","lost","left"]:List Str) (["number","turns"]:List Str) []).Nodup:=by decide+kernel
theorem xm:Af (["hall"]:List Str) ["hall"] (A6 dj):=by ac_rfl
theorem Ra:Af (["hall","product","wait"]:List Str) ["hall"] (A6 fg):=by ac_rfl
theorem Kp:Af (["waits","rows","wait","longer","row"]:List Str) ["waits"] (A6 X2):=by ac_rfl
def Oc:Scope:={kind:=.function,names:=[(Str.ofString ".0",NameKind.local),(Str.ofString "turns",NameKind.local),(Str.ofString "row",NameKind.free)],isGenerator:=false,isCoroutine:=false,more:=[] }
theorem Ob:Bt (A6 X2) Oc (["waits","rows","wait","longer","row"]:List Str) (["turns"]:List Str) [4]:=by ac_rfl
theorem Og:(B9 (["waits","rows","wait","longer","row"]:List Str) (["turns"]:List Str) [4]).Nodup:=by decide+kernel
theorem V8:Af (["hall","told","left"]:List Str) ["hall"] (A6 Wy):=by ac_rfl
def Mr:Scope:={kind:=.function,names:=[(Str.ofString ".0",NameKind.local),(Str.ofString "quiet",NameKind.local),(Str.ofString "left",NameKind.free)],isGenerator:=false,isCoroutine:=false,more:=[] }
theorem Mj:Bt (A6 Wy) Mr (["hall","told","left"]:List Str) (["quiet"]:List Str) [2]:=by ac_rfl
theorem Ng:(B9 (["hall","told","left"]:List Str) (["quiet"]:List Str) [2]).Nodup:=by decide+kernel
theorem Pn:Af (["hall","pending","standing","calls","who","behind"]:List Str) ["hall"] (A6 xf):=by ac_rfl
theorem Ij:Af (["pending","ways","standing","calls","who","behind","later"]:List Str) ["pending"] (A6 fu):=by ac_rfl
theorem Pm:Af (["pending","ways","ranked","bare","later","standing","who","calls"]:List Str) ["pending","ways","ranked"] (A6 wz):=by ac_rfl
theorem Ga:Af (["hall","pending","ways","table","rank","ranked","standing"]:List Str) ["hall"] (A6 X4):=by ac_rfl
def U8:Scope:={kind:=.function,names:=[(Str.ofString ".0",NameKind.local),(Str.ofString "standing",NameKind.local),(Str.ofString "calls",NameKind.local)],isGenerator:=false,isCoroutine:=false,more:=[] }
theorem U6:Bt (A6 X4) U8 (["hall","pending","ways","table","rank","ranked","standing"]:List Str) (["standing","calls"]:List Str) []:=by ac_rfl
theorem Nf:(B9 (["hall","pending","ways","table","rank","ranked","standing"]:List Str) (["standing","calls"]:List Str) []).Nodup:=by decide+kernel
theorem y8:Af (["table","behind"]:List Str) ["table","behind"] (A6 fz):=by ac_rfl
theorem xq:Af (["hall","table","standing","who"]:List Str) ["hall","table","standing","who"] (A6 Ww):=by ac_rfl
def Ll:Scope:={kind:=.function,names:=[(Str.ofString ".0",NameKind.local),(Str.ofString "behind",NameKind.local),(Str.ofString "worth",NameKind.globalImplicit),(Str.ofString "table",NameKind.free)],isGenerator:=false,isCoroutine:=false,more:=[] }
theorem Li:Bt (A6 Ww) Ll (["hall","table","standing","who"]:List Str) (["behind"]:List Str) [1]:=by ac_rfl
theorem Lq:(B9 (["hall","table","standing","who"]:List Str) (["behind"]:List Str) [1]).Nodup:=by decide+kernel
theorem gp:Af (["hall","table","standing","worths"]:List Str) ["hall","table","standing"] (A6 Wz):=by ac_rfl
def Mo:Scope:={kind:=.function,names:=[(Str.ofString ".0",NameKind.local),(Str.ofString "who",NameKind.local),(Str.ofString "call_worth",NameKind.globalImplicit),(Str.ofString "hall",NameKind.free),(Str.ofString "standing",NameKind.free),(Str.ofString "table",NameKind.free)],isGenerator:=false,isCoroutine:=false,more:=[] }
theorem Mg:Bt (A6 Wz) Mo (["hall","table","standing","worths"]:List Str) (["who"]:List Str) [0,1,2]:=by ac_rfl
theorem Na:(B9 (["hall","table","standing","worths"]:List Str) (["who"]:List Str) [0,1,2]).Nodup:=by decide+kernel
theorem gb:Af (["hall","table","standing","who","reached"]:List Str) ["hall","table","standing","who"] (A6 dk):=by ac_rfl
theorem V9:Af (["wheel","turn","number","row"]:List Str) ["wheel","turn"] (A6 g7):=by ac_rfl
theorem xu:Af (["word"]:List Str) ["word"] (A6 X0):=by ac_rfl
def Mp:Scope:={kind:=.function,names:=[(Str.ofString ".0",NameKind.local),(Str.ofString "sign",NameKind.local),(Str.ofString "FIGURES",NameKind.globalImplicit)],isGenerator:=false,isCoroutine:=false,more:=[] }
theorem Mh:Bt (A6 X0) Mp (["word"]:List Str) (["sign"]:List Str) []:=by ac_rfl
theorem Nb:(B9 (["word"]:List Str) (["sign"]:List Str) []).Nodup:=by decide+kernel
theorem xr:Af (["words"]:List Str) ["words"] (A6 Te):=by ac_rfl
def Lm:Scope:={kind:=.function,names:=[(Str.ofString ".0",NameKind.local),(Str.ofString "word",NameKind.local),(Str.ofString "is_number",NameKind.globalImplicit)],isGenerator:=false,isCoroutine:=false,more:=[] }
theorem Lj:Bt (A6 Te) Lm (["words"]:List Str) (["word"]:List Str) []:=by ac_rfl
theorem Lr:(B9 (["words"]:List Str) (["word"]:List Str) []).Nodup:=by decide+kernel
def Ln:Scope:={kind:=.function,names:=[(Str.ofString ".0",NameKind.local),(Str.ofString "word",NameKind.local),(Str.ofString "int",NameKind.globalImplicit)],isGenerator:=false,isCoroutine:=false,more:=[] }
theorem Lk:Bt (A6 Te) Ln (["words"]:List Str) (["word"]:List Str) []:=by ac_rfl
theorem Ls:(B9 (["words"]:List Str) (["word"]:List Str) []).Nodup:=by decide+kernel
theorem y9:Af (["word","size"]:List Str) ["word","size"] (A6 g8):=by ac_rfl
theorem Kq:Af (["row","words","calm","numbers"]:List Str) ["row"] (A6 fh):=by ac_rfl
theorem xn:Af (["numbers"]:List Str) ["numbers"] (A6 Wu):=by ac_rfl
def Iz:Scope:={kind:=.function,names:=[(Str.ofString ".0",NameKind.local),(Str.ofString "number",NameKind.local),(Str.ofString "str",NameKind.globalImplicit)],isGenerator:=false,isCoroutine:=false,more:=[] }
theorem Iy:Bt (A6 Wu) Iz (["numbers"]:List Str) (["number"]:List Str) []:=by ac_rfl
theorem Je:(B9 (["numbers"]:List Str) (["number"]:List Str) []).Nodup:=by decide+kernel
theorem V6:Af (["place","period","first"]:List Str) ["place"] (A6 f6):=by ac_rfl
theorem A11:Af (["self"]:List Str) ["self"] (A6 xj):=by ac_rfl
theorem A0x:Af (["self","word"]:List Str) ["self","word"] (A6 wy):=by ac_rfl
theorem xw:Af (["self","hall","standing","table"]:List Str) ["self","hall","standing","table"] (A6 fi):=by ac_rfl
theorem g9:Af (["self","hall","table"]:List Str) ["self","hall"] (A6 dh):=by ac_rfl
theorem A0z:Af (["self","found"]:List Str) ["self","found"] (A6 nq):=by ac_rfl
def Hs:Scope:={kind:=.function,names:=[(Str.ofString ".0",NameKind.local),(Str.ofString "place",NameKind.local),(Str.ofString "place_text",NameKind.globalImplicit)],isGenerator:=false,isCoroutine:=false,more:=[] }
theorem Hr:Bt (A6 nq) Hs (["self","found"]:List Str) (["place"]:List Str) []:=by ac_rfl
theorem Ht:(B9 (["self","found"]:List Str) (["place"]:List Str) []).Nodup:=by decide+kernel
theorem A10:Af (["self"]:List Str) ["self"] (A6 xh):=by ac_rfl
theorem gc:Af (["self","who","lost","broken"]:List Str) ["self","who","lost"] (A6 dl):=by ac_rfl
theorem oy:Af (["self","word","number","who"]:List Str) ["self","word","number"] (A6 xg):=by ac_rfl
theorem R9:Af (["self","row","read","word","numbers"]:List Str) ["self","row"] (A6 fb):=by ac_rfl
theorem y6:Af (["cell"]:List Str) ["cell"] (A6 fw):=by ac_rfl
theorem He:Af (["number","wide","many","waits","k","one","some"]:List Str) ["number","wide"] (A6 fc):=by ac_rfl
theorem gj:Af (["word","sign"]:List Str) ["word"] (A6 dw):=by ac_rfl
theorem Ih:Af (["words","periods","rows","word","period","parts","first","row"]:List Str) ["words","periods"] (A6 fj):=by ac_rfl
theorem xx:Af (["e"]:List Str) ["e"] (A6 fk):=by ac_rfl
theorem Kr:Af (["desk","row","caught","found","e"]:List Str) ["desk","row"] (A6 fm):=by ac_rfl
theorem Ko:Af (["desk","kept","waits","how","found","base","words","rows"]:List Str) ["desk","kept","waits"] (A6 X1):=by ac_rfl
def Mq:Scope:={kind:=.function,names:=[(Str.ofString ".0",NameKind.local),(Str.ofString "wait",NameKind.local),(Str.ofString "str",NameKind.globalImplicit)],isGenerator:=false,isCoroutine:=false,more:=[] }
theorem Mi:Bt (A6 X1) Mq (["desk","kept","waits","how","found","base","words","rows"]:List Str) (["wait"]:List Str) []:=by ac_rfl
theorem Nd:(B9 (["desk","kept","waits","how","found","base","words","rows"]:List Str) (["wait"]:List Str) []).Nodup:=by decide+kernel
theorem Ii:Af (["desk","kept","number","turn","row","due","who"]:List Str) ["desk","kept","number"] (A6 fo):=by ac_rfl
theorem gr:Af (["desk","rows","due"]:List Str) ["desk"] (A6 nl):=by ac_rfl
def Gs:Scope:={kind:=.function,names:=[(Str.ofString ".0",NameKind.local),(Str.ofString "row",NameKind.local),(Str.ofString "_law_told",NameKind.globalImplicit),(Str.ofString "desk",NameKind.free)],isGenerator:=false,isCoroutine:=false,more:=[] }
theorem Gr:Bt (A6 nl) Gs (["desk","rows","due"]:List Str) (["row"]:List Str) [0]:=by ac_rfl
theorem Ha:(B9 (["desk","rows","due"]:List Str) (["row"]:List Str) [0]).Nodup:=by decide+kernel
theorem Dj:Af (["script","desks","kept","wide","cell","number","at","good","waits","rows"]:List Str) ["script"] (A6 Jo):=by ac_rfl
abbrev lamQ:Str:="chain_wheel.<locals>.<lambda>"
abbrev lamP:Pos:=⟨77,44,77,74⟩
set_option genInjectivity false in
set_option genSizeOf false in
structure Ads where
 iP:Addr
 kQ:Addr
 kR:Addr
 kS:Addr
 iQ:Addr
 kT:Addr
 qW:Addr
 gB:Addr
 kU:Addr
 gS:Addr
 kW:Addr
 iR:Addr
 kX:Addr
 gC:Addr
 iT:Addr
 gT:Addr
 kY:Addr
 qX:Addr
 iU:Addr
 kZ:Addr
 fG:Addr
 iV:Addr
 gD:Addr
 iW:Addr
 lA:Addr
 lB:Addr
 lC:Addr
 qY:Addr
 lD:Addr
 qZ:Addr
 lF:Addr
 iX:Addr
 lG:Addr
 lH:Addr
 lI:Addr
 lJ:Addr
 lK:Addr
 lL:Addr
 lM:Addr
 lN:Addr
 lO:Addr
 lP:Addr
 rA:Addr
 rB:Addr
 lQ:Addr
 lR:Addr
 rC:Addr
 rD:Addr
 lS:Addr
 rE:Addr
 lU:Addr
 iY:Addr
 lV:Addr
 iZ:Addr
 lW:Addr
 lX:Addr
 gE:Addr
 lY:Addr
 lZ:Addr
 rF:Addr
 mB:Addr
structure Txt(K:W.Frag)(mg:Str->Option q3)(ad:Ads)(aA aE aF aB aC aM bR aR bS bT bU cL aD aG bM aQ aO:Addr):Prop where
 FN:mg "divisor"=some (.ref ad.iP)
 FO:W.keepIn K (.ref ad.iP)=true
 TZ:mg "least_round"=some (.ref ad.kQ)
 UA:W.keepIn K (.ref ad.kQ)=true
 UB:mg "shares"=some (.ref ad.kR)
 UC:W.keepIn K (.ref ad.kR)=true
 UD:mg "are_chain"=some (.ref ad.kS)
 UE:W.keepIn K (.ref ad.kS)=true
 FP:mg "have_room"=some (.ref ad.iQ)
 FQ:W.keepIn K (.ref ad.iQ)=true
 UG:mg "free_first"=some (.ref ad.kT)
 UH:W.keepIn K (.ref ad.kT)=true
 m_x8:mg "rising_firsts"=some (.ref ad.qW)
 k_x8:W.keepIn K (.ref ad.qW)=true
 UI:mg "chain_wheel"=some (.ref ad.gB)
 uS:W.keepIn K (.ref ad.gB)=true
 UJ:mg "doubling"=some (.ref ad.kU)
 UK:W.keepIn K (.ref ad.kU)=true
 yF:mg "doubled"=some (.ref ad.gS)
 yG:W.keepIn K (.ref ad.gS)=true
 UL:mg "halved_down"=some (.ref ad.kW)
 UM:W.keepIn K (.ref ad.kW)=true
 FR:mg "best_base"=some (.ref ad.iR)
 FT:W.keepIn K (.ref ad.iR)=true
 UN:mg "wheel_for"=some (.ref ad.kX)
 UO:W.keepIn K (.ref ad.kX)=true
 UP:mg "hall_of"=some (.ref ad.gC)
 yH:W.keepIn K (.ref ad.gC)=true
 FU:mg "beginning"=some (.ref ad.iT)
 FV:W.keepIn K (.ref ad.iT)=true
 yI:mg "may_lose"=some (.ref ad.gT)
 yJ:W.keepIn K (.ref ad.gT)=true
 UQ:mg "is_listener"=some (.ref ad.kY)
 UR:W.keepIn K (.ref ad.kY)=true
 m_x2:mg "refuse_wrong_turn"=some (.ref ad.qX)
 k_x2:W.keepIn K (.ref ad.qX)=true
 FW:mg "left_behind"=some (.ref ad.iU)
 FX:W.keepIn K (.ref ad.iU)=true
 US:mg "quiet_behind"=some (.ref ad.kZ)
 UT:W.keepIn K (.ref ad.kZ)=true
 rG:mg "after"=some (.ref ad.fG)
 nD:W.keepIn K (.ref ad.fG)=true
 FY:mg "all_behind"=some (.ref ad.iV)
 FZ:W.keepIn K (.ref ad.iV)=true
 UU:mg "broken_ones"=some (.ref ad.gD)
 yK:W.keepIn K (.ref ad.gD)=true
 GA:mg "quiet_values"=some (.ref ad.iW)
 GB:W.keepIn K (.ref ad.iW)=true
 UW:mg "how_many"=some (.ref ad.lA)
 UX:W.keepIn K (.ref ad.lA)=true
 UY:mg "all_left"=some (.ref ad.lB)
 UZ:W.keepIn K (.ref ad.lB)=true
 VA:mg "standings"=some (.ref ad.lC)
 VB:W.keepIn K (.ref ad.lC)=true
 m_x3:mg "calls_by_standing"=some (.ref ad.qY)
 k_x3:W.keepIn K (.ref ad.qY)=true
 VC:mg "ways_to"=some (.ref ad.lD)
 VD:W.keepIn K (.ref ad.lD)=true
 m_x1:mg "without_calls_left"=some (.ref ad.qZ)
 k_x1:W.keepIn K (.ref ad.qZ)=true
 VE:mg "ranks"=some (.ref ad.lF)
 VF:W.keepIn K (.ref ad.lF)=true
 yL:mg "worth"=some (.ref ad.iX)
 yM:W.keepIn K (.ref ad.iX)=true
 VG:mg "call_worth"=some (.ref ad.lG)
 VH:W.keepIn K (.ref ad.lG)=true
 VI:mg "best_call"=some (.ref ad.lH)
 VJ:W.keepIn K (.ref ad.lH)=true
 VL:mg "worst_answer"=some (.ref ad.lI)
 VM:W.keepIn K (.ref ad.lI)=true
 VN:mg "heard"=some (.ref ad.lJ)
 VO:W.keepIn K (.ref ad.lJ)=true
 VP:mg "is_number"=some (.ref ad.lK)
 VQ:W.keepIn K (.ref ad.lK)=true
 GC:mg "numbers_of"=some (.ref ad.lL)
 GD:W.keepIn K (.ref ad.lL)=true
 VR:mg "takes"=some (.ref ad.lM)
 VS:W.keepIn K (.ref ad.lM)=true
 VT:mg "row_read"=some (.ref ad.lN)
 VU:W.keepIn K (.ref ad.lN)=true
 GF:mg "numbers_text"=some (.ref ad.lO)
 GG:W.keepIn K (.ref ad.lO)=true
 VV:mg "place_text"=some (.ref ad.lP)
 VW:W.keepIn K (.ref ad.lP)=true
 GH:mg "_law_big"=some (.ref ad.iY)
 GI:W.keepIn K (.ref ad.iY)=true
 VX:mg "_law_waits"=some (.ref ad.lV)
 VY:W.keepIn K (.ref ad.lV)=true
 yN:mg "_law_figures"=some (.ref ad.iZ)
 yO:W.keepIn K (.ref ad.iZ)=true
 VZ:mg "_law_rows"=some (.ref ad.lW)
 WA:W.keepIn K (.ref ad.lW)=true
 WB:mg "_law_kind"=some (.ref ad.lX)
 WC:W.keepIn K (.ref ad.lX)=true
 nF:mg "_law_told"=some (.ref ad.gE)
 nG:W.keepIn K (.ref ad.gE)=true
 WD:mg "_law_wheel"=some (.ref ad.lY)
 WE:W.keepIn K (.ref ad.lY)=true
 yP:mg "_law_turn"=some (.ref ad.lZ)
 yQ:W.keepIn K (.ref ad.lZ)=true
 m_x5:mg "_law_hall_stands"=some (.ref ad.rF)
 k_x5:W.keepIn K (.ref ad.rF)=true
 m_law:mg "law"=some (.ref ad.mB)
 yR:W.keepIn K (.ref ad.mB)=true
 WG:mg "sum"=none
 jA:mg "sorted"=none
 yS:mg "all"=none
 yT:mg "zip"=none
 GJ:mg "any"=none
 fK:mg "range"=none
 eK:mg "len"=none
 oN:mg "min"=none
 yU:mg "max"=none
 WH:mg "set"=none
 uT:mg "tuple"=none
 mC:mg "enumerate"=none
 rH:mg "int"=none
 aP:mg "isinstance"=none
 fH:mg "str"=none
 pL:mg "ValueError"=none
 yV:mg "list"=none
 jU:∃t,mg "MOST_LISTENERS"=some (.int 8 t)
 jV:∃t,mg "MOST_STANDINGS"=some (.int 3000 t)
 nH:∃t,mg "MOST_FIGURES"=some (.int 100 t)
 wR:∃t,mg "FIGURES"=some (.str "0123456789" t)
 pM:mg "ROWS_ALONE"=some (.ref bM)
 fL:∀H:Hp,Cf K H bM ([.str "best",.str "rank"]:List V)
 mR:mg "ROWS_WITH_ONE"=some (.ref aQ)
 eM:∀H:Hp,Cf K H aQ ([.str "call",.str "lost",.str "answer",.str "join",.str "leave",.str "turn"]:List V)
 jW:mg "ROWS_WITH_SOME"=some (.ref aO)
 dJ:∀H:Hp,Cf K H aO ([.str "hall",.str "wheel"]:List V)
 gK:mg "NoWheel"=some (.ref aA)
 oO:mg "NoChain"=some (.ref aE)
 oP:mg "TooMuch"=some (.ref aF)
 oQ:mg "TooMany"=some (.ref aB)
 jX:mg "NoStand"=some (.ref aC)
 pN:mg "RoundError"=some (.ref aM)
 yW:mg "NoHall"=some (.ref bR)
 pO:mg "NoListener"=some (.ref aR)
 yX:mg "NoLoss"=some (.ref bS)
 yY:mg "Unsafe"=some (.ref bT)
 yZ:mg "NoPart"=some (.ref bU)
 DQ:mg "NoRow"=some (.ref cL)
 zA:mg "Desk"=some (.ref aD)
 aI:Zc K aD
 uU:Mk K aD ad.rA
 WI:Lh K aD "told" ad.lU
 M_x4:Lh K aD "told_of_one" ad.rE
 M_x0:Lh K aD "refuse_without_stand" ad.rB
 WJ:Lh K aD "put" ad.lQ
 WK:Lh K aD "new_hall" ad.lR
 M_x6:Lh K aD "new_wheel" ad.rC
 M_x7:Lh K aD "rank_text" ad.rD
 WL:Lh K aD "do_turn" ad.lS
 bP:Ex K aD "hall"
 aJ:Ex K aD "standing"
 bV:Ex K aD "table"
 bW:Ex K aD "wheel"
 fI:Py K aA
 jY:Py K aE
 jZ:Py K aF
 kA:Py K aB
 gL:Py K aC
 fM:Py K aM
 fN:W.subIn K (.ref aM) (.type "BaseException")=some true
 fQ:W.specialIn K (.builtin "object.__class__") "__get__"=some (some (.builtin "getset_descriptor.__get__"))
 fR:W.takesIn K (.builtin "object.__class__")=some true
 aS:W.findIn K (.ref aC) "__getattribute__"=some (some (.builtin "BaseException.__getattribute__"))
 aU:W.findIn K (.ref aC) "__getattr__"=some none
 aV:W.findIn K (.ref aC) "__class__"=some (some (.builtin "object.__class__"))
 aW:W.mroIn K aC (.type "object")=some true
 aX:W.subIn K (.ref aC) (.type "BaseException")=some true
 bX:W.subIn K (.ref aC) (.ref aM)=some true
 dM:W.kitOne K (.ref aC) (.ref bR)=some false
 cA:W.kitOne K (.ref aC) (.ref aR)=some false
 dN:W.kitOne K (.ref aC) (.ref bS)=some false
 dQ:W.kitOne K (.ref aC) (.ref bT)=some false
 cR:W.kitOne K (.ref aC) (.ref aE)=some false
 cS:W.kitOne K (.ref aC) (.ref aF)=some false
 dR:W.kitOne K (.ref aC) (.ref bU)=some false
 eP:W.kitOne K (.ref aC) (.ref cL)=some false
 cB:W.kitOne K (.ref aC) (.type "ValueError")=some true
 cT:W.kitOne K (.ref aC) (.ref aC)=some true
 cU:W.kitOne K (.ref aC) (.ref aB)=some false
 cV:W.kitOne K (.ref aC) (.ref aA)=some false
 aY:W.findIn K (.ref aA) "__getattribute__"=some (some (.builtin "BaseException.__getattribute__"))
 aZ:W.findIn K (.ref aA) "__getattr__"=some none
 bA:W.findIn K (.ref aA) "__class__"=some (some (.builtin "object.__class__"))
 bB:W.mroIn K aA (.type "object")=some true
 bC:W.subIn K (.ref aA) (.type "BaseException")=some true
 cC:W.subIn K (.ref aA) (.ref aM)=some true
 dU:W.kitOne K (.ref aA) (.ref bR)=some false
 cD:W.kitOne K (.ref aA) (.ref aR)=some false
 dW:W.kitOne K (.ref aA) (.ref bS)=some false
 dX:W.kitOne K (.ref aA) (.ref bT)=some false
 cW:W.kitOne K (.ref aA) (.ref aE)=some false
 cX:W.kitOne K (.ref aA) (.ref aF)=some false
 dY:W.kitOne K (.ref aA) (.ref bU)=some false
 eS:W.kitOne K (.ref aA) (.ref cL)=some false
 cE:W.kitOne K (.ref aA) (.type "ValueError")=some true
 cY:W.kitOne K (.ref aA) (.ref aC)=some false
 cZ:W.kitOne K (.ref aA) (.ref aB)=some false
 dA:W.kitOne K (.ref aA) (.ref aA)=some true
 bD:W.findIn K (.ref aB) "__getattribute__"=some (some (.builtin "BaseException.__getattribute__"))
 bE:W.findIn K (.ref aB) "__getattr__"=some none
 bG:W.findIn K (.ref aB) "__class__"=some (some (.builtin "object.__class__"))
 bH:W.mroIn K aB (.type "object")=some true
 bI:W.subIn K (.ref aB) (.type "BaseException")=some true
 cF:W.subIn K (.ref aB) (.ref aM)=some true
 dZ:W.kitOne K (.ref aB) (.ref bR)=some false
 cH:W.kitOne K (.ref aB) (.ref aR)=some false
 eC:W.kitOne K (.ref aB) (.ref bS)=some false
 eE:W.kitOne K (.ref aB) (.ref bT)=some false
 dB:W.kitOne K (.ref aB) (.ref aE)=some false
 dC:W.kitOne K (.ref aB) (.ref aF)=some false
 eG:W.kitOne K (.ref aB) (.ref bU)=some false
 eV:W.kitOne K (.ref aB) (.ref cL)=some false
 cJ:W.kitOne K (.ref aB) (.type "ValueError")=some true
 dD:W.kitOne K (.ref aB) (.ref aC)=some false
 dE:W.kitOne K (.ref aB) (.ref aB)=some true
 dG:W.kitOne K (.ref aB) (.ref aA)=some false
inductive Il(p0 p1 p2:Prop):Prop where
 |mk (h0:p0) (h1:p1) (h2:p2):Il p0 p1 p2
inductive Fp(p0 p1 p2 p3:Prop):Prop where
 |mk (h0:p0) (h1:p1) (h2:p2) (h3:p3):Fp p0 p1 p2 p3
inductive Fq(p0 p1 p2 p3 p4:Prop):Prop where
 |mk (h0:p0) (h1:p1) (h2:p2) (h3:p3) (h4:p4):Fq p0 p1 p2 p3 p4
inductive Im(p0 p1 p2 p3 p4 p5:Prop):Prop where
 |mk (h0:p0) (h1:p1) (h2:p2) (h3:p3) (h4:p4) (h5:p5):Im p0 p1 p2 p3 p4 p5
inductive Jw(p0 p1 p2 p3 p4 p5 p6:Prop):Prop where
 |mk (h0:p0) (h1:p1) (h2:p2) (h3:p3) (h4:p4) (h5:p5) (h6:p6):Jw p0 p1 p2 p3 p4 p5 p6
inductive Rq(p0 p1 p2 p3 p4 p5 p6 p7:Prop):Prop where
 |mk (h0:p0) (h1:p1) (h2:p2) (h3:p3) (h4:p4) (h5:p5) (h6:p6) (h7:p7):Rq p0 p1 p2 p3 p4 p5 p6 p7
inductive Px(p0 p1 p2 p3 p4 p5 p6 p7 p8:Prop):Prop where
 |mk (h0:p0) (h1:p1) (h2:p2) (h3:p3) (h4:p4) (h5:p5) (h6:p6) (h7:p7) (h8:p8):Px p0 p1 p2 p3 p4 p5 p6 p7 p8
inductive M7(p0 p1 p2 p3 p4 p5 p6 p7 p8 p9:Prop):Prop where
 |mk (h0:p0) (h1:p1) (h2:p2) (h3:p3) (h4:p4) (h5:p5) (h6:p6) (h7:p7) (h8:p8) (h9:p9):M7 p0 p1 p2 p3 p4 p5 p6 p7 p8 p9
inductive Vz(p0 p1 p2 p3 p4 p5 p6 p7 p8 p9 GK:Prop):Prop where
 |mk (h0:p0) (h1:p1) (h2:p2) (h3:p3) (h4:p4) (h5:p5) (h6:p6) (h7:p7) (h8:p8) (h9:p9) (h10:GK):Vz p0 p1 p2 p3 p4 p5 p6 p7 p8 p9 GK
inductive o0(p0 p1 p2 p3 p4 p5 p6 p7 p8 p9 GK WM WN WO WQ:Prop):Prop where
 |mk (h0:p0) (h1:p1) (h2:p2) (h3:p3) (h4:p4) (h5:p5) (h6:p6) (h7:p7) (h8:p8) (h9:p9) (h10:GK) (h11:WM) (h12:WN) (h13:WO) (h14:WQ):o0 p0 p1 p2 p3 p4 p5 p6 p7 p8 p9 GK WM WN WO WQ
inductive o4(p0 p1 p2 p3 p4 p5 p6 p7 p8 p9 GK WM WN WO WQ p15:Prop):Prop where
 |mk (h0:p0) (h1:p1) (h2:p2) (h3:p3) (h4:p4) (h5:p5) (h6:p6) (h7:p7) (h8:p8) (h9:p9) (h10:GK) (h11:WM) (h12:WN) (h13:WO) (h14:WQ) (h15:p15):o4 p0 p1 p2 p3 p4 p5 p6 p7 p8 p9 GK WM WN WO WQ p15
inductive Ld{T0 T1:Type}(p:T0->T1->Prop):Prop where
 |mk (x0:T0) (x1:T1) (h:p x0 x1):Ld p
inductive O5{T0 T1 T2:Type}(p:T0->T1->T2->Prop):Prop where
 |mk (x0:T0) (x1:T1) (x2:T2) (h:p x0 x1 x2):O5 p
inductive Zh{T0 T1 T2 T3:Type}(p:T0->T1->T2->T3->Prop):Prop where
 |mk (x0:T0) (x1:T1) (x2:T2) (x3:T3) (h:p x0 x1 x2 x3):Zh p
inductive o6{T0 T1 T2 T3 T4:Type}(p:T0->T1->T2->T3->T4->Prop):Prop where
 |mk (x0:T0) (x1:T1) (x2:T2) (x3:T3) (x4:T4) (h:p x0 x1 x2 x3 x4):o6 p
inductive yv{T0 T1 T2 T3 T4 T5:Type}(p:T0->T1->T2->T3->T4->T5->Prop):Prop where
 |mk (x0:T0) (x1:T1) (x2:T2) (x3:T3) (x4:T4) (x5:T5) (h:p x0 x1 x2 x3 x4 x5):yv p
inductive yw{T0 T1 T2 T3 T4 T5 T6:Type}(p:T0->T1->T2->T3->T4->T5->T6->Prop):Prop where
 |mk (x0:T0) (x1:T1) (x2:T2) (x3:T3) (x4:T4) (x5:T5) (x6:T6) (h:p x0 x1 x2 x3 x4 x5 x6):yw p
inductive o7{T0 T1 T2 T3 T4 T5 T6 T7:Type}(p:T0->T1->T2->T3->T4->T5->T6->T7->Prop):Prop where
 |mk (x0:T0) (x1:T1) (x2:T2) (x3:T3) (x4:T4) (x5:T5) (x6:T6) (x7:T7) (h:p x0 x1 x2 x3 x4 x5 x6 x7):o7 p
inductive yx{T0 T1 T2 T3 T4 T5 T6 T7 T8:Type}(p:T0->T1->T2->T3->T4->T5->T6->T7->T8->Prop):Prop where
 |mk (x0:T0) (x1:T1) (x2:T2) (x3:T3) (x4:T4) (x5:T5) (x6:T6) (x7:T7) (x8:T8) (h:p x0 x1 x2 x3 x4 x5 x6 x7 x8):yx p
inductive Xb{T0 T1 T2 T3 T4 T5 T6 T7 T8 T9:Type}(p:T0->T1->T2->T3->T4->T5->T6->T7->T8->T9->Prop):Prop where
 |mk (x0:T0) (x1:T1) (x2:T2) (x3:T3) (x4:T4) (x5:T5) (x6:T6) (x7:T7) (x8:T8) (x9:T9) (h:p x0 x1 x2 x3 x4 x5 x6 x7 x8 x9):Xb p
def Bc(H:Hp)(a:Addr)(ws:qG)(calm:qH):Prop:=∃t,H a=some (.tup [.ref t,vO calm])/\H t=some (.tup (ws.map V.int))
def Dh(H:Hp)(b:Addr)(a:qG)(q:Int):Prop:=∃u,H b=some (.tup [.ref u,.int q])/\H u=some (.tup (a.map V.int))
theorem Bc.same{H b:Hp}{a:Addr}{ws:qG}{calm:qH}(s:A8 H b)(h:Bc H a ws calm):Bc b a ws calm:=by
 obtain⟨t,c,d⟩:=h;exact⟨t,s _ _ c,s _ _ d⟩
theorem Dh.same{H b:Hp}{a:Addr}{c:qG}{q:Int}(s:A8 H b)(h:Dh H a c q):Dh b a c q:=by
 obtain⟨t,d,e⟩:=h;exact⟨t,s _ _ d,s _ _ e⟩
theorem yt(c:qH):decide (vO c=V.bN)=decide (c=none):=by cases c<;>simp[vO]
def C6(ws c:qG)(b:Nat)(a:Bool):qG:=if a=true then c.map (λx=>x-1)else(c.map (λx=>x-1)).set b (ws.getD b 0)
def F7(calm:qH)(q:Int)(a:Bool):Int:=if a=true then calm.getD 0 else max (q-1) 0
def O8(calm:qH)(q:Int)(a:Bool):Prop:=a=true->calm≠none/\q=0
theorem Jb(ws c:qG)(b:Nat)(a:Bool):(C6 ws c b a).length=c.length:=by
 unfold C6;split<;>simp
theorem Sf(x:Int):∀ns:qG,Oe (.int x) (ns.map V.int)=decide (x∈ns)
 |[]=>rfl
 |n::ns=>by
  show(kn (V.int n) (V.int x)||Oe (.int x) (ns.map V.int))=_;rw[Sf x ns];show((n==x)||decide (x∈ns))=_;by_cases h:n=x
  ·simp[h]
  ·have a:¬x=n:=λe=>h e.symm;simp[h,a]
theorem P3:∀ns:qG,(ns.map V.int).all Gw=true
 |[]=>rfl
 |n::ns=>by
  show(Gw (V.int n)&&(ns.map V.int).all Gw)=true;rw[P3 ns];rfl
theorem kt{ws:qG}{k:Nat}(h:k<ws.length):Oa (ws.map V.int) (k:Int)=some (.int (ws.getD k 0)):=by
 refine Ek ?_;rw[List.getElem?_map,List.getElem?_eq_getElem h,List.getD_eq_getElem?_getD,List.getElem?_eq_getElem h];rfl
theorem Hj{n k:Nat}(h:k<n):jv n (k:Int)=some k:=by
 unfold jv;rw[if_pos (by omega),if_pos (by omega)];simp
theorem El{a:Int}{n:Nat}(h:a.natAbs<2^n):intBits a<=n:=intBits_le h
theorem Bo(x:Int){m:Int}(h:0<m):0<=x%m/\x%m<m:=⟨oK x (by omega),px x h⟩
theorem oq:(0:Int)<10^(60:Int).toNat:=by decide+kernel
def U7(xs:qG)(a b:qH):qG:=(xs.drop (HT.iB xs.length 0 a)).take (HT.iB xs.length xs.length b-HT.iB xs.length 0 a)
theorem P0(xs:qG)(b a:qH):Qb (xs.map V.int) b a=(U7 xs b a).map V.int:=by
 unfold Qb U7;rw[List.length_map,List.map_take,List.map_drop]
theorem Xi{a b:Int}{m n:Nat}(e:intBits a<=m)(f:intBits b<=n):intBits (a*b)<=m+n:=by
 apply intBits_le;rw[Int.natAbs_mul,Nat.pow_add];have c:=fC (natAbs_lt_pow_bits a) (Nat.pow_le_pow_right (by decide) e);have d:=fC (natAbs_lt_pow_bits b) (Nat.pow_le_pow_right (by decide) f);exact Nat.mul_lt_mul'' c d
theorem Fm{n:Nat}(h:n<=10000):n<sizeLine:=nX h (by decide)
def Ax(H c:Hp):Prop:=∀b a,H b=some (.tup a)->c b=some (.tup a)
theorem Ax.of{H a:Hp}(s:A8 H a):Ax H a:=λb c e=>s b _ e
theorem Ax.trans{H d f:Hp}(a:Ax H d)(b:Ax d f):Ax H f:=λc g e=>b c g (a c g e)
theorem Ax.lst{H:Hp}{D:Addr}{a:List V}{o:HO}(h:H D=some (.lst a)):Ax H (upd H D o):=λb c e=>by
 rw[A9 (Bf e h (by intro z;cases z))];exact e
def Ej(H:Hp)(r:qG)(v:V):Prop:=∃p,v=.ref p/\H p=some (.tup (r.map V.int))
def Kv(H:Hp)(z:qG×Int)(v:V):Prop:=∃p u,v=.ref p/\H p=some (.tup [.ref u,.int z.2])/\H u=some (.tup (z.1.map V.int))
theorem Ej.up{H a:Hp}{r:qG}{v:V}(t:Ax H a)(h:Ej H r v):Ej a r v:=by
 obtain⟨p,e,b⟩:=h;exact⟨p,e,t _ _ b⟩
theorem Kv.up{H a:Hp}{z:qG×Int}{v:V}(t:Ax H a)(h:Kv H z v):Kv a z v:=by
 obtain⟨p,u,e,b,c⟩:=h;exact⟨p,u,e,t _ _ b,t _ _ c⟩
def An{a:Type}(P:a->V->Prop)(b:List a)(vs:List V):Prop:=vs.length=b.length/\∀(i:Nat) (r:a) (v:V),b[i]?=some r->vs[i]?=some v->P r v
theorem An.nil{a:Type}{P:a->V->Prop}:An P [] []:=⟨rfl,λi r v e=>by cases e⟩
theorem An.imp{c:Type}{P a:c->V->Prop}{b:List c}{vs:List V}(f:∀r v,P r v->a r v)(h:An P b vs):An a b vs:=⟨h.1,λi r v d e=>f _ _ (h.2 i r v d e)⟩
theorem An.append{d:Type}{P:d->V->Prop}{c ss:List d}{vs us:List V}(h:An P c vs)(g:An P ss us):An P (c++ss) (vs++us):=by
 refine⟨by rw[List.length_append,List.length_append,h.1,g.1],λi r v a b=>?_⟩;rcases i3 i c.length with z|z
 ·rw[List.getElem?_append_left z]at a;rw[List.getElem?_append_left (by rw[h.1];exact z)]at b;exact h.2 i r v a b
 ·rw[List.getElem?_append_right z]at a;rw[List.getElem?_append_right (by rw[h.1];exact z),h.1]at b;exact g.2 _ r v a b
theorem An.one{b:Type}{P:b->V->Prop}{r:b}{v:V}(h:P r v):An P [r] [v]:=by
 refine⟨rfl,λi d e a c=>?_⟩;cases i with
 |zero=>cases a;cases c;exact h
 |succ i=>cases a
theorem An.get{d:Type}{P:d->V->Prop}{a:List d}{vs:List V}(h:An P a vs){i:Nat}{v:V}(e:vs[i]?=some v):∃r,a[i]?=some r/\P r v:=by
 have f:=(cb.mp e).1
 have b:i<a.length:=by
  rw[<- h.1];exact f
 have c:a[i]?=some a[i]:=d3 b;exact⟨_,c,h.2 i _ v c e⟩
def qv:qH->Int
 |none=>1
 |some c=>c+1
def Bn(q:Int)(ws:qG):Int:=ws.foldl (·*·) q
def Qm(r:qG)(w:Int):List (qG):=(List.range w.toNat).map λt=>r++[1+((t:Nat):Int)]
def C2(a:List (qG))(w:Int):List (qG):=a.flatMap λr=>Qm r w
def C9(ws:qG):List (qG):=ws.foldl C2 [[]]
def Fn(r:qG)(q:Int):List (qG×Int):=(List.range q.toNat).map λk=>(r,0+((k:Nat):Int))
def Bq(ws:qG)(q:Int):List (qG×Int):=(C9 ws).flatMap λr=>Fn r q
theorem Fe{a c:Type}(f:c->a->c)(b:c)(xs:List a){i:Nat}{x:a}(h:xs[i]?=some x):(xs.take (i+1)).foldl f b=f ((xs.take i).foldl f b) x:=by
 rw[List.take_add_one,h,List.foldl_append];rfl
theorem P4{a b:Type}(f:a->List b)(xs:List a){i:Nat}{x:a}(h:xs[i]?=some x):(xs.take (i+1)).flatMap f=(xs.take i).flatMap f++f x:=by
 rw[List.take_add_one,h,List.flatMap_append];simp
theorem Pj{q:Int}(a:intBits q<=256):∀{ws:qG},(∀w∈ws,intBits w<=256)->∀i,i<=ws.length->intBits (Bn q (ws.take i))<=256*(i+1)
 |ws,h,0,_=>by simpa[Bn]using a
 |ws,h,i+1,d=>by
  have c:ws[i]?=some ws[i]:=d3 (by omega);have b:=Pj a h i (by omega);unfold Bn at b⊢;rw[Fe _ _ _ c];exact ea (Xi b (h _ (oa _))) (by omega)
theorem Uy(q:Int):∀(ws:qG) (a:Int),Bn (q*a) ws=q*Bn a ws
 |[],a=>rfl
 |w::ws,a=>by
  show Bn (q*a*w) ws=q*Bn (a*w) ws;rw[Int.mul_assoc,Uy q ws (a*w)]
theorem Mv{a c:Type}{f:a->List c}{n:Nat}:∀{xs:List a},(∀x∈xs,(f x).length=n)->(xs.flatMap f).length=xs.length*n
 |[],_=>by simp
 |x::xs,h=>by
  rw[List.flatMap_cons,List.length_append,h x (List.mem_cons_self ..),Mv λy b=>h y (List.mem_cons_of_mem _ b),List.length_cons,Nat.succ_mul];omega
theorem Sj(r:qG)(w:Int):(Qm r w).length=w.toNat:=by simp[Qm]
theorem Ps(r:qG)(q:Int):(Fn r q).length=q.toNat:=by simp[Fn]
theorem O2(a:List (qG))(w:Int):(C2 a w).length=a.length*w.toNat:=Mv λr _=>Sj r w
theorem Nw:∀(ws:qG) (rows:List (qG)),(∀w∈ws,1<=w)->((ws.foldl C2 rows).length:Int)=Bn (rows.length:Int) ws
 |[],rows,_=>rfl
 |w::ws,rows,h=>by
  have b:=h w (dm ..);show((ws.foldl C2 (C2 rows w)).length:Int)=Bn ((rows.length:Int)*w) ws;rw[Nw ws _ (λx a=>h x (List.mem_cons_of_mem _ a)),O2];congr 1;rw[Int.natCast_mul];congr 1;omega
theorem Jk:∀(ws:qG) (a:Int),0<=a->(∀w∈ws,1<=w)->a<=Bn a ws
 |[],a,_,_=>Int.le_refl _
 |w::ws,a,c,h=>by
  have d:=h w (dm ..)
  have b:a<=a*w:=by
   have:=ll d c;rw[Int.mul_one]at this;exact this
  exact oD b (Jk ws (a*w) (oD c b) λx e=>h x (d0 _ e))
theorem Yx{ws:qG}{a:Int}(c:0<=a)(h:∀w∈ws,1<=w)(i:Nat):Bn a (ws.take i)<=Bn a ws:=by
 have e:Bn a ws=Bn (Bn a (ws.take i)) (ws.drop i):=by
  unfold Bn;rw[<- List.foldl_append,List.take_append_drop]
 rw[e];refine Jk _ _ (oD c (Jk _ _ c λw b=>h w (List.mem_of_mem_take b))) λw b=>h w (List.mem_of_mem_drop b)
theorem Qo{r x:qG}{w:Int}(h:x∈Qm r w):∃t:Nat,t<w.toNat/\x=r++[1+(t:Int)]:=by
 unfold Qm at h;obtain⟨t,a,rfl⟩:=fx.mp h;exact⟨t,oM.mp a,rfl⟩
theorem Jm(ws:qG):∀i,i<=ws.length->∀r∈C9 (ws.take i),r.length=i/\∀(k:Nat) (x w:Int),r[k]?=some x->ws[k]?=some w->1<=x/\x<=w
 |0,_,r,h=>by
  have e:r=[]:=k8.mp h;subst e;exact⟨rfl,λk x w e=>by cases e⟩
 |i+1,o,r,h=>by
  have d:ws[i]?=some ws[i]:=d3 (by omega);have e:C9 (ws.take (i+1))=C2 (C9 (ws.take i)) ws[i]:=Fe _ _ _ d;rw[e]at h;obtain⟨f,g,j⟩:=List.mem_flatMap.mp h;obtain⟨t,n,rfl⟩:=Qo j;obtain⟨c,l⟩:=Jm ws i (by omega) f g;refine⟨by simp[c],λk x w a b=>?_⟩;rcases i3 k f.length with z|z
  ·rw[List.getElem?_append_left z]at a;exact l k x w a b
  ·have m:k=i:=by
    have:=(cb.mp a).1;rw[List.length_append,List.length_singleton]at this;omega
   subst m;rw[List.getElem?_append_right z,c,Nat.sub_self]at a;cases a;rw[d]at b;cases b;omega
def Xe(r s:qG):Prop:=bJ (r.map PyData.int) (s.map PyData.int)=true
theorem Ly(a b:Int):PyData.eqv (.int a) (.int b)=decide (a=b):=by
 show(a==b)=_;by_cases h:a=b<;>simp[h]
theorem Qn:∀r:qG,¬Xe r r
 |[]=>by unfold Xe;simp[bJ]
 |x::r=>λh=>by
  have a:=Qn r;unfold Xe at h a;rw[List.map_cons,bJ,Ly,if_pos (by simp)]at h;exact a h
theorem Sl:∀{r s:qG}{x y:Int},r.length=s.length->Xe r s->Xe (r++[x]) (s++[y])
 |[],[],x,y,_,h=>absurd h (Qn [])
 |[],_::_,_,_,c,_=>by simp at c
 |_::_,[],_,_,c,_=>by simp at c
 |a::r,b::s,x,y,c,h=>by
  unfold Xe at h⊢;rw[List.cons_append,List.cons_append,List.map_cons,List.map_cons,bJ]at*;by_cases e:PyData.eqv (.int a) (.int b)=true
  ·rw[if_pos e]at h⊢;exact Sl (r:=r) (s:=s) (by simpa using c) h
  ·rw[if_neg e]at h⊢;exact h
theorem Sk:∀{r:qG}{x y:Int},x<y->Xe (r++[x]) (r++[y])
 |[],x,y,h=>by
  unfold Xe;show bJ [PyData.int x] [PyData.int y]=true;rw[bJ,Ly,if_neg (by simp;omega),Tu];exact decide_eq_true h
 |a::r,x,y,h=>by
  unfold Xe;rw[List.cons_append,List.cons_append,List.map_cons,List.map_cons,bJ,Ly,if_pos (by simp)];exact Sk (r:=r) h
theorem Ul(r:qG)(w:Int):(Qm r w).Pairwise Xe:=by
 unfold Qm;rw[List.pairwise_map];exact List.pairwise_lt_range.imp λh=>Sk (by omega)
theorem L7(ws:qG):∀i,i<=ws.length->(C9 (ws.take i)).Pairwise Xe
 |0,_=>by
  show([[]]:List (qG)).Pairwise Xe;exact List.pairwise_singleton _ _
 |i+1,n=>by
  have f:ws[i]?=some ws[i]:=d3 (by omega);have e:C9 (ws.take (i+1))=C2 (C9 (ws.take i)) ws[i]:=Fe _ _ _ f;rw[e];unfold C2;rw[List.pairwise_flatMap];refine⟨λr _=>Ul r _,?_⟩;refine(L7 ws i (by omega)).imp_of_mem λ{a b} c d h x g y j=>?_;obtain⟨t,_,rfl⟩:=Qo g;obtain⟨u,_,rfl⟩:=Qo j;have l:=(Jm ws i (by omega) a c).1;have m:=(Jm ws i (by omega) b d).1;exact Sl (by omega) h
def dS(z:qG×Int):rb:=dP (dT z.1) (.int z.2)
theorem bn{a b:qG×Int}(h:Xe a.1 b.1\/(a.1=b.1/\a.2<b.2)):Tu (dS a) (dS b)=true:=by
 show bJ [dT a.1,.int a.2] [dT b.1,.int b.2]=true;rw[bJ,r6];rcases h with h|⟨d,f⟩
 ·have c:¬a.1=b.1:=λe=>by
   rw[e]at h;exact Qn _ h
  rw[if_neg (by simpa using c)];exact h
 ·rw[if_pos (by simpa using d),bJ,Ly,if_neg (by simp;omega),Tu];exact decide_eq_true f
theorem Qp{r:qG}{q:Int}{z:qG×Int}(h:z∈Fn r q):z.1=r/\0<=z.2/\z.2<q:=by
 unfold Fn at h;obtain⟨k,a,rfl⟩:=fx.mp h;have:=oM.mp a;exact⟨rfl,by show 0<=0+(k:Int);omega,by show 0+(k:Int)<q;omega⟩
theorem Rl(ws:qG)(q:Int):(Bq ws q).Pairwise λa b=>Tu (dS a) (dS b)=true:=by
 unfold Bq;rw[List.pairwise_flatMap];refine⟨λr _=>?_,?_⟩
 ·unfold Fn;rw[List.pairwise_map];exact List.pairwise_lt_range.imp λ{a b} h=>bn (a:=(r,0+((a:Nat):Int))) (b:=(r,0+((b:Nat):Int))) (.inr ⟨rfl,by show 0+((a:Nat):Int)<0+((b:Nat):Int);omega⟩)
 ·have h:=L7 ws ws.length (dr _);rw[List.take_length]at h;refine h.imp λ{a b} h x c y d=>?_;exact bn (.inl (by rw[(Qp c).1,(Qp d).1];exact h))
theorem Po{ws:qG}{q:Int}(h:∀w∈ws,1<=w)(a:0<=q):((Bq ws q).length:Int)=Bn q ws:=by
 unfold Bq;rw[Mv λr _=>Ps r q,Int.natCast_mul];have e:((C9 ws).length:Int)=Bn 1 ws:=Nw ws [[]] h;rw[e,Int.toNat_of_nonneg a,Int.mul_comm,<- Uy,Int.mul_one]
theorem Pp{ws:qG}{q:Int}{z:qG×Int}(h:z∈Bq ws q):z.1.length=ws.length/\(∀(k:Nat) (x w:Int),z.1[k]?=some x->ws[k]?=some w->1<=x/\x<=w)/\0<=z.2/\z.2<q:=by
 obtain⟨r,b,c⟩:=List.mem_flatMap.mp h;obtain⟨d,e,f⟩:=Qp c;have a:=Jm ws ws.length (dr _) r (by rw[List.take_length];exact b);rw[d];exact⟨a.1,a.2,e,f⟩
theorem Pk{ws:qG}(h:∀w∈ws,1<=w)(d:Bn 1 ws<=3000)(i:Nat):(C9 (ws.take i)).length<=3000:=by
 have e:=Nw (ws.take i) [[]] λw a=>h w (List.mem_of_mem_take a);have b:=Yx (ws:=ws) (a:=1) (by decide) h i;have c:Bn (([[]]:List (qG)).length:Int) (ws.take i)=Bn 1 (ws.take i):=rfl;unfold C9;omega
def zd(H:Hp)(v:V):Option (qG×Int)->Prop
 |none=>v=.bN
 |some r=>∃b,v=.ref b/\Dh H b r.1 r.2
def qr:Option (qG×Int)->rb
 |none=>.none
 |some r=>dP (dT r.1) (.int r.2)
theorem ww{H:Hp}{v:V}{r:Option (qG×Int)}(h:zd H v r):Rp H (qr r) v:=by
 cases r with
 |none=>
  cases h;exact de
 |some r=>
  obtain⟨b,rfl,t,a,c⟩:=h;exact ow a (A0u c) (V3 _)
theorem An.tail{c:Type}{P:c->V->Prop}{r:c}{v:V}{d:List c}{vs:List V}(h:An P (r::d) (v::vs)):P r v/\An P d vs:=⟨h.2 0 r v rfl rfl,by have:=h.1;simpa using this,λi a b e f=>h.2 (i+1) a b e f⟩
theorem N6{a:Type}{P:a->Prop}{xs:List a}{x:a}(h:∀y∈xs,P y)(b:P x):∀y∈xs++[x],P y:=λy c=>by
 rcases fF.mp c with z|z
 ·exact h y z
 ·cases k8.mp z;exact b
theorem Dh.up{H a:Hp}{b:Addr}{c:qG}{q:Int}(t:Ax H a)(h:Dh H b c q):Dh a b c q:=by
 obtain⟨u,d,e⟩:=h;exact⟨u,t _ _ d,t _ _ e⟩
theorem zd.up{H a:Hp}{v:V}{r:Option (qG×Int)}(s:Ax H a)(h:zd H v r):zd a v r:=by
 cases r with
 |none=>exact h
 |some r=>
  obtain⟨b,e,h⟩:=h;exact⟨b,e,h.up s⟩
def Fo(ws c:qG)(d:qH)(q:Int)(b:Nat)(a:Bool):Option (qG×Int):=if(0:Int)∈C6 ws c b a then none else some (C6 ws c b a,F7 d q a)
def Lp(a:qH)(q:Int):Bool:= !decide (a=none)&&decide (q=0)
def Bg(ws c:qG)(b:qH)(q:Int)(a:Nat):List (Option (qG×Int)):=Fo ws c b q a false::if Lp b q=true then[Fo ws c b q a true]else[]
def Hw(H:Hp)(r:Option (qG×Int))(v:V):Prop:=zd H v r
theorem Hw.up{H a:Hp}{v:V}{r:Option (qG×Int)}(s:Ax H a)(h:Hw H r v):Hw a r v:=zd.up s h
theorem An.cons{a:Type}{P:a->V->Prop}{r:a}{v:V}{b:List a}{vs:List V}(h:P r v)(g:An P b vs):An P (r::b) (v::vs):=(An.one h).append g
theorem Pl{H:Hp}:∀{a:List (Option (qG×Int))}{us:List V},An (Hw H) a us->aL H (a.map qr) us
 |[],[],_=>by unfold aL;rfl
 |[],_::_,h=>by have:=h.1;simp at this
 |_::_,[],h=>by have:=h.1;simp at this
 |r::a,u::us,h=>by
  obtain⟨b,c⟩:=h.tail;show aL H (qr r::a.map qr) (u::us);unfold aL;exact⟨_,_,rfl,ww b,Pl c⟩
theorem kq(r:Option (qG×Int)):PyData.eqv (qr r) .none=decide (r=none):=by cases r<;>rfl
theorem Q4:∀a:List (Option (qG×Int)),(a.map qr).any (λe=>PyData.eqv e .none)=decide (none∈a)
 |[]=>rfl
 |r::a=>by
  rw[List.map_cons,List.any_cons,Q4 a,kq,Bool.eq_iff_iff];simp only[Bool.or_eq_true,decide_eq_true_eq,List.mem_cons];exact⟨λz=>z.imp Eq.symm id,λz=>z.imp Eq.symm id⟩
def SV(H:Hp)(v:V):Prop:=∃b k,v=.ref b/\Iu H b k
def W1(H:Hp)(cs:List (E3×V)):Prop:=∀e∈cs,(∃i:Int,e.1=.inl i)/\∃(l:Addr) (a:List V),e.2=.ref l/\H l=some (.lst a)/\a.length<=2/\∀u∈a,SV H u
def zi(H:Hp)(v:V):Prop:=∃(c:Addr) (a:List (E3×V)),v=.ref c/\H c=some (.dK a)/\a.length<=8/\W1 H a
def LT(H a:Hp):Prop:=(∀b c,H b=some (.lst c)->a b=some (.lst c))/\Ax H a
theorem LT.of{H a:Hp}(s:A8 H a):LT H a:=⟨λb c e=>s b _ e,Ax.of s⟩
theorem LT.dT{H:Hp}{D:Addr}{kvs:pR}{o:HO}(h:H D=some (.dT kvs)):LT H (upd H D o):=
 ⟨λb a e=>by rw[A9 (Bf e h (by intro z;cases z))];exact e,λb a e=>by rw[A9 (Bf e h (by intro z;cases z))];exact e⟩
theorem LT.dK{H:Hp}{D:Addr}{kvs:List (E3×V)}{o:HO}(h:H D=some (.dK kvs)):LT H (upd H D o):=
 ⟨λb a e=>by rw[A9 (Bf e h (by intro z;cases z))];exact e,λb a e=>by rw[A9 (Bf e h (by intro z;cases z))];exact e⟩
theorem LT.trans{H d f:Hp}(a:LT H d)(b:LT d f):LT H f:=⟨λc g e=>b.1 c g (a.1 c g e),a.2.trans b.2⟩
def Hy(H:Hp)(kvs:pR):Prop:=∀a∈kvs,zi H a.2
theorem Sz{c:Type}[DecidableEq c]{P:V->Prop}{kvs:List (c×V)}{k:c}{v:V}(h:∀a∈kvs,P a.2)(d:P v):∀a∈Cg kvs k v,P a.2:=λa b=>by
 unfold Cg at b;split at b
 ·obtain⟨x,e,rfl⟩:=fx.mp b;split
  ·exact d
  ·exact h x e
 ·rcases fF.mp b with z|z
  ·exact h a z
  ·cases k8.mp z;exact d
theorem Dl{n:Nat}(h:n<=200000):n<sizeLine:=nX h (by decide)
theorem Bb{a:Type}[DecidableEq a]{kvs:List (a×V)}{k:a}{v:V}(h:Av kvs k=some v):(k,v)∈kvs:=by
 unfold Av at h;obtain⟨p,b,rfl⟩:=dI.mp h;have c:=List.find?_some b;have d:=List.mem_of_find?_eq_some b;have e:p.1=k:=by simpa using c
 rw[<- e];exact d
theorem Lb{a:Type}[DecidableEq a]{kvs:List (a×V)}{k:a}{v:V}(h:(k,v)∈kvs):∃w,Av kvs k=some w:=by
 cases e:Av kvs k with
 |some w=>exact⟨w,rfl⟩
 |none=>exact absurd (List.mem_map_of_mem (f:=(·.1)) h) (Ts e)
def Ei(kvs:pR)(H a:Hp):Prop:=∀b o,H b=some o->(∀c∈kvs,c.2≠ .ref b)->a b=some o
theorem Ei.of{kvs:pR}{H a:Hp}(s:A8 H a):Ei kvs H a:=λb o e _=>s b o e
theorem Ei.trans{kvs:pR}{H d f:Hp}(a:Ei kvs H d)(b:Ei kvs d f):Ei kvs H f:=λc o e n=>b c o (a c o e n) n
theorem Ei.new{kvs:pR}{H c:Hp}{p:Addr}{o:HO}(a:Ei kvs H c)(h:H p=none):Ei kvs H (upd c p o):=λb u e n=>by
 rw[A9 (Aa e h)];exact a b u e n
theorem Ei.keep{kvs:pR}{H d:Hp}{b:Addr}{o:HO}(a:Ei kvs H d)(p:Hy H kvs)(e:H b=some o)(n:∀cs,o≠ .dK cs):d b=some o:=a b o e λi h z=>by
 obtain⟨c,cs,f,g,_⟩:=p i h;rw[z]at f;cases f;rw[e]at g;exact n cs (en g)
theorem Ei.lt{kvs:pR}{H c:Hp}(a:Ei kvs H c)(p:Hy H kvs):LT H c:=⟨λb f e=>a.keep p e (λd z=>nomatch z),λb f e=>a.keep p e (λd z=>nomatch z)⟩
theorem Ei.pop{kvs:pR}{H:Hp}{c:Addr}{o:HO}{a:(qG×Int)×V}(h:a∈kvs)(e:a.2=.ref c):Ei kvs H (upd H c o):=λb u d n=>by
 rw[A9 (λz=>n a h (by rw[e,z]))];exact d
def pq(H:Hp):V->Nat
 | .ref c=>match H c with
  |some (.dK a)=>a.length
  |_=>0
 |_=>0
def Ch(H:Hp)(kvs:pR):Nat:=(kvs.map λa=>pq H a.2).sum
theorem O3{H:Hp}{c:Addr}{cs:List (E3×V)}(h:H c=some (.dK cs)):pq H (.ref c)=cs.length:=by
 unfold pq;simp only[h]
theorem Ea{H a:Hp}:∀{kvs:pR},Hy H kvs->(∀c cs,H c=some (.dK cs)->a c=some (.dK cs))->Ch a kvs=Ch H kvs
 |[],_,_=>rfl
 |kv::kvs,p,k=>by
  obtain⟨c,cs,e,b,_⟩:=p kv (by simp);have d:=Ea (kvs:=kvs) (λx f=>p x (d0 _ f)) k;unfold Ch at d⊢;rw[List.map_cons,List.map_cons,List.sum_cons,List.sum_cons,d,e,O3 b,O3 (k c cs b)]
theorem N0{H:Hp}:∀{kvs:pR},Hy H kvs->Ch H kvs<=8*kvs.length
 |[],_=>mu _
 |kv::kvs,p=>by
  obtain⟨c,f,e,a,g,_⟩:=p kv (by simp);have d:=N0 (kvs:=kvs) (λx b=>p x (d0 _ b));unfold Ch at d⊢;rw[List.map_cons,List.sum_cons,e,O3 a,List.length_cons];omega
theorem Pb{H:Hp}{c:Addr}{cs a:List (E3×V)}(e:H c=some (.dK cs))(g:a.length<cs.length):∀{kvs:pR},Ch (upd H c (.dK a)) kvs<=Ch H kvs/\((∃kv∈kvs,kv.2=.ref c)->Ch (upd H c (.dK a)) kvs+1<=Ch H kvs)
 |[]=>⟨dr _,λ⟨kv,h,_⟩=>by cases h⟩
 |kv::kvs=>by
  obtain⟨m,f⟩:=Pb e g (kvs:=kvs)
  have one:pq (upd H c (.dK a)) kv.2<=pq H kv.2/\(kv.2=.ref c->pq (upd H c (.dK a)) kv.2+1<=pq H kv.2):=by
   by_cases z:kv.2=.ref c
   ·rw[z,O3 e,O3 A2];omega
   ·refine⟨Nat.le_of_eq ?_,λy=>absurd y z⟩;unfold pq;cases j:kv.2 with
    |ref d=>
     rw[j]at z;have i:d≠c:=λy=>z (by rw[y]);simp only[A9 i]
    |_=>rfl
  unfold Ch at m f⊢;rw[List.map_cons,List.map_cons,List.sum_cons,List.sum_cons];refine⟨by omega,λ⟨x,l,b⟩=>?_⟩;rcases eH.mp l with y|y
  ·subst y;have:=one.2 b;omega
  ·have:=f ⟨x,y,b⟩;omega
theorem ki{cs:List (E3×V)}{k:E3}{v:V}(h:Av cs k=some v):(Bx cs k).length<cs.length:=by
 have a:=Bb h;unfold Bx;exact List.length_filter_lt_length_iff_exists.mpr ⟨(k,v),a,by simp⟩
theorem Mu{cs:List (E3×V)}{k:E3}{e:E3×V}(h:e∈Bx cs k):e∈cs:=(pa.mp h).1
def Xf(B:Addr)(H:Hp)(kvs:pR):Prop:=∀b∈kvs,∀c a,b.2=.ref c->H c=some (.dK a)->∀e∈a,e.2≠ .ref B
theorem Xf.start{B:Addr}{H:Hp}{kvs:pR}(p:Hy H kvs)(h:H B=none):Xf B H kvs:=λq i c r j m e o z=>by
 obtain⟨d,s,a,b,_,n⟩:=p q i;rw[j]at a;cases a;rw[m]at b;cases b;obtain⟨_,l,u,f,g,_⟩:=n e o;rw[z]at f;cases f;rw[h]at g;cases g
theorem Xf.keep{B:Addr}{H a:Hp}{kvs:pR}(n:Xf B H kvs)(p:Hy H kvs)(k:∀c cs,H c=some (.dK cs)->a c=some (.dK cs)):Xf B a kvs:=λh e c cs f i=>by
 obtain⟨d,l,j,g,_⟩:=p h e;have b:=j;rw[f]at b;cases b;have:=k _ _ g;rw[i]at this;cases this;exact n h e c cs f g
theorem Xf.pop{B c:Addr}{H:Hp}{cs:List (E3×V)}{k:E3}{kvs:pR}(n:Xf B H kvs)(j:H c=some (.dK cs)):Xf B (upd H c (.dK (Bx cs k))) kvs:=λh b d i f a e g=>by
 by_cases z:d=c
 ·subst z;rw[A2]at a;cases a;exact n h b d cs f j e (Mu g)
 ·rw[A9 z]at a;exact n h b d i f a e g
theorem lm(k:qG×Int):Tu (dS k) (dS k)=false:=by
 have a:PyData.eqv (dT k.1) (dT k.1)=true:=by
  show PyData.eqvAll (k.1.map PyData.int) (k.1.map PyData.int)=true;rw[Gv];simp
 show bJ [dT k.1,.int k.2] [dT k.1,.int k.2]=false;rw[bJ,if_pos a,bJ,if_pos (show PyData.eqv (.int k.2) (.int k.2)=true from PySem.SeqAt.eqv_refl _ rfl)];rfl
theorem L9(ws:qG)(q:Int):(Bq ws q).Nodup:=(Rl ws q).imp λ{a b} h e=>by
 rw[e,lm]at h;cases h
theorem Pg{c:Type}{xs:List c}{i:Nat}{x:c}(h:xs.Nodup)(e:xs[i]?=some x):x∉xs.take i:=λz=>by
 obtain⟨j,a⟩:=gP.mp z
 have b:j<i:=by
  apply Classical.byContradiction;intro y;rw[List.getElem?_take_eq_none (by omega)]at a;cases a
 rw[List.getElem?_take_of_lt b]at a;have m:=(cb.mp a);have n:=(cb.mp e);obtain⟨d,f⟩:=m;obtain⟨g,l⟩:=n;exact(List.pairwise_iff_getElem.mp h) j i d g b (f.trans l.symm)
theorem Db{b:Type}[DecidableEq b]{kvs:List (b×V)}{k:b}{v:V}(a:(kvs.map (·.1)).Nodup)(h:(k,v)∈kvs):Av kvs k=some v:=by
 induction kvs with
 |nil=>cases h
 |cons p r d=>
  rw[List.map_cons,List.nodup_cons]at a;rcases eH.mp h with z|z
  ·subst z;exact C4 rfl
  ·have c:¬p.1=k:=λe=>a.1 (by rw[e];exact List.mem_map_of_mem (f:=(·.1)) z);rw[C3 c];exact d a.2 z
theorem Rm{d:Type}{kvs:List (d×V)}{x y:d×V}(b:(kvs.map (·.2)).Nodup)(c:x∈kvs)(f:y∈kvs)(e:x.2=y.2):x=y:=by
 induction kvs with
 |nil=>cases c
 |cons p r g=>
  rw[List.map_cons,List.nodup_cons]at b;rcases eH.mp c with z|z<;>rcases eH.mp f with a|a
  ·rw[z,a]
  ·subst z;exact absurd (by rw[e];exact List.mem_map_of_mem (f:=(·.2)) a) b.1
  ·subst a;exact absurd (by rw[<- e];exact List.mem_map_of_mem (f:=(·.2)) z) b.1
  ·exact g b.2 z a
theorem cz{a:Type}[DecidableEq a]{kvs:List (a×V)}{k:a}{v:V}{e:a×V}(h:e∈Cg kvs k v):e∈kvs\/e=(k,v):=by
 unfold Cg at h;split at h
 ·obtain⟨x,c,rfl⟩:=fx.mp h;split
  ·rename_i b;exact .inr (by rw[b])
  ·exact .inl c
 ·rcases fF.mp h with z|z
  ·exact .inl z
  ·exact .inr (k8.mp z)
theorem Ui{a:Type}[DecidableEq a]{kvs:List (a×V)}{k j:a}{v:V}(h:(Av kvs j).isSome=true\/j=k):(Av (Cg kvs k v) j).isSome=true:=by
 rw[Js];split
 ·rfl
 ·rename_i b;rcases h with h|h
  ·exact h
  ·exact absurd h b
def Go(ws:qG)(b:qH)(z:qG×Int)(H:Hp)(cs:List (E3×V)):Prop:=∀e∈cs,∃(a:Nat) (l:Addr) (c:List V),e.1=.inl (a:Int)/\a<ws.length/\none∉Bg ws z.1 b z.2 a/\e.2=.ref l/\H l=some (.lst c)/\An (Hw H) (Bg ws z.1 b z.2 a) c
def W0(ws:qG)(b:qH)(H:Hp)(z:qG×Int)(v:V):Prop:=∃(c:Addr) (a:List (E3×V)),v=.ref c/\H c=some (.dK a)/\a.length<=8/\Go ws b z H a
theorem Go.up{ws:qG}{c:qH}{z:qG×Int}{H b:Hp}{cs:List (E3×V)}(t:LT H b)(h:Go ws c z H cs):Go ws c z b cs:=λe n=>by
 obtain⟨a,l,o,d,f,g,i,j,m⟩:=h e n;exact⟨a,l,o,d,f,g,i,t.1 _ _ j,m.imp λ_ _ y=>Hw.up t.2 y⟩
theorem Go.ok{ws:qG}{f:qH}{z:qG×Int}{H:Hp}{cs:List (E3×V)}(h:Go ws f z H cs):W1 H cs:=λe n=>by
 obtain⟨v,l,s,a,w,g,i,j,b⟩:=h e n;refine⟨⟨_,a⟩,l,s,i,j,?_,λu p=>?_⟩
 ·rw[b.1];unfold Bg;split<;>simp
 ·obtain⟨m,o⟩:=gP.mp p;obtain⟨r,q,c⟩:=b.get o;cases r with
  |none=>exact absurd (cI q) g
  |some r=>
   obtain⟨d,e,a⟩:=c;exact⟨d,r,e,a⟩
theorem W0.up{ws:qG}{b:qH}{z:qG×Int}{H a:Hp}{v:V}(t:LT H a)(k:∀c cs,H c=some (.dK cs)->a c=some (.dK cs))(h:W0 ws b H z v):W0 ws b a z v:=by
 obtain⟨c,cs,e,d,f,g⟩:=h;exact⟨c,cs,e,k _ _ d,f,g.up t⟩
def Ck(ws:qG)(b:qH)(H:Hp)(kvs:pR):Prop:=(∀a∈kvs,W0 ws b H a.1 a.2)/\(kvs.map (·.1)).Nodup/\(kvs.map (·.2)).Nodup
theorem Ck.ok{ws:qG}{b:qH}{H:Hp}{kvs:pR}(h:Ck ws b H kvs):Hy H kvs:=λj a=>by
 obtain⟨c,d,e,f,g,i⟩:=h.1 j a;exact⟨c,d,e,f,g,i.ok⟩
theorem Ck.keep{ws:qG}{b:qH}{H a:Hp}{kvs:pR}(p:Ck ws b H kvs)(t:LT H a)(k:∀c cs,H c=some (.dK cs)->a c=some (.dK cs)):Ck ws b a kvs:=⟨λe d=>(p.1 e d).up t k,p.2⟩
def M9(ws:qG)(e:qH)(H:Hp)(kvs:pR):Prop:=∀b∈kvs,∀c d,b.2=.ref c->H c=some (.dK d)->∀a:Nat,a<ws.length->none∉Bg ws b.1.1 e b.1.2 a->(Av d (.inl (a:Int))).isSome=true
theorem M9.keep{ws:qG}{a:qH}{H b:Hp}{kvs:pR}(f:M9 ws a H kvs)(p:Ck ws a H kvs)(k:∀c cs,H c=some (.dK cs)->b c=some (.dK cs)):M9 ws a b kvs:=λj g c cs h l=>by
 obtain⟨d,n,m,i,_⟩:=p.1 j g;have e:=m;rw[h]at e;cases e;have:=k _ _ i;rw[l]at this;cases this;exact f j g c cs h i
def Ao(H:Hp)(kvs:pR)(k:qG×Int)(a:Nat):Prop:=∃(c:Addr) (b:List (E3×V)),Av kvs k=some (.ref c)/\H c=some (.dK b)/\(Av b (.inl (a:Int))).isSome=true
theorem Ep{c:Type}{xs:List c}{x:c}(h:xs.Nodup)(g:x∉xs):(xs++[x]).Nodup:=by
 rw[List.nodup_append];refine⟨h,by simp,λa d b f e=>?_⟩;rw[List.mem_singleton.mp f]at e;exact g (e▸d)
def Q0(ws:qG)(d:qH)(kvs:pR)(H:Hp)(a:qG×Int)(u:V):Prop:=∃(t b:Addr) (c:Nat) (k:qG×Int),u=.ref t/\H t=some (.tup [.ref b,.int (c:Int)])/\Iu H b k/\(∃v,Av kvs k=some v)/\some a∈Bg ws k.1 d k.2 c
theorem Q0.up{ws:qG}{f:qH}{kvs:pR}{H d:Hp}{c:qG×Int}{u:V}(t:Ax H d)(h:Q0 ws f kvs H c u):Q0 ws f kvs d c u:=by
 obtain⟨a,b,i,k,e,g,j,l,m⟩:=h;exact⟨a,b,i,k,e,t _ _ g,j.up t,l,m⟩
def F9(ws:qG)(e:qH)(d:Hp)(kvs:pR)(n:Nat)(H:Hp)(c:pR):Prop:=(∀b∈c,∃(l:Addr) (a:List V),b.2=.ref l/\d l=none/\H l=some (.lst a)/\a.length<=n/\∀u∈a,Q0 ws e kvs H b.1 u)/\(c.map (·.2)).Nodup
theorem F9.up{ws:qG}{c:qH}{b H a:Hp}{kvs d:pR}{n m:Nat}(t:LT H a)(s:n<=m)(h:F9 ws c b kvs n H d):F9 ws c b kvs m a d:=⟨λp f=>by
 obtain⟨l,q,e,g,i,r,j⟩:=h.1 p f;exact⟨l,q,e,g,t.1 _ _ i,by omega,λu o=>(j u o).up t.2⟩,h.2⟩
theorem F9.app{ws:qG}{b:qH}{g H:Hp}{kvs f:pR}{n:Nat}{l:Addr}{us:List V}{x:V}{a:qG×Int}(h:F9 ws b g kvs n H f)(v:(a,V.ref l)∈f)(s:H l=some (.lst us))(c:us.length<=n)(r:∀u∈us,Q0 ws b kvs H a u)(w:Q0 ws b kvs H a x):F9 ws b g kvs (n+1) (upd H l (.lst (us++[x]))) f:=⟨λm i=>by
 have t:Ax H (upd H l (.lst (us++[x]))):=Ax.lst s;obtain⟨d,y,e,j,p,A,q⟩:=h.1 m i;by_cases z:d=l
 ·subst z;have o:m=(a,V.ref d):=Rm h.2 i v e;refine⟨d,us++[x],e,j,A2,by rw[List.length_append,List.length_singleton];omega,λu c=>?_⟩;rw[o];exact(N6 r w u c).up t
 ·exact⟨d,y,e,j,(A9 z).trans p,by omega,λu c=>(q u c).up t⟩,h.2⟩
def Ce(H:Hp)(e:pR)(a k:qG×Int)(c:Nat):Prop:=∃(l:Addr) (d:List V) (t b:Addr),Av e a=some (.ref l)/\H l=some (.lst d)/\V.ref t∈d/\H t=some (.tup [.ref b,.int (c:Int)])/\Iu H b k
theorem Ce.up{H e:Hp}{f:pR}{c k:qG×Int}{d:Nat}(t:LT H e)(h:Ce H f c k d):Ce e f c k d:=by
 obtain⟨l,o,a,b,g,i,j,m,n⟩:=h;exact⟨l,o,a,b,g,t.1 _ _ i,j,t.2 _ _ m,n.up t.2⟩
theorem Ce.put{H:Hp}{g:pR}{c k i:qG×Int}{d:Nat}{v:V}(m:Av g i=none)(h:Ce H g c k d):Ce H (Cg g i v) c k d:=by
 obtain⟨l,n,a,b,f,j⟩:=h;refine⟨l,n,a,b,?_,j⟩;rw[Js,if_neg (λe=>by rw[e,m]at f;cases f)];exact f
theorem Ce.app{H:Hp}{o:pR}{c k:qG×Int}{d:Nat}{l:Addr}{us:List V}{x:V}(n:H l=some (.lst us))(h:Ce H o c k d):Ce (upd H l (.lst (us++[x]))) o c k d:=by
 have t:Ax H (upd H l (.lst (us++[x]))):=Ax.lst n;obtain⟨f,p,a,b,g,e,i,j,m⟩:=h;by_cases z:f=l
 ·subst z;rw[n]at e;cases e;exact⟨f,_,a,b,g,A2,gy _ i,t _ _ j,m.up t⟩
 ·exact⟨f,p,a,b,g,(A9 z).trans e,i,t _ _ j,m.up t⟩
theorem Sa{cs:List (E3×V)}{k j:E3}:Av (Bx cs k) j=if j=k then none else Av cs j:=by
 induction cs with
 |nil=>split<;>rfl
 |cons p r a=>
  by_cases e:p.1=k
  ·rw[Y0 e,a];by_cases z:j=k
   ·rw[if_pos z,if_pos z]
   ·rw[if_neg z,if_neg z,C3 (λy=>z (by rw[<- y,e]))]
  ·have b:Bx (p::r) k=p::Bx r k:=by
    unfold Bx;rw[List.filter_cons,if_pos (by simpa using e)]
   rw[b];by_cases z:p.1=j
   ·rw[C4 z,C4 z,if_neg (λy=>e (z.trans y))]
   ·rw[C3 z,C3 z,a]
theorem Ao.keep{ws:qG}{l:qH}{H h:Hp}{kvs:pR}{k:qG×Int}{a:Nat}(p:Ck ws l H kvs)(j:∀c cs,H c=some (.dK cs)->h c=some (.dK cs)):Ao h kvs k a↔Ao H kvs k a:=by
 constructor
 ·rintro⟨c,cs,b,f,g⟩;obtain⟨d,m,e,i,_⟩:=p.1 _ (Bb b);cases e;have:=j _ _ i;rw[f]at this;cases this;exact⟨c,cs,b,i,g⟩
 ·rintro⟨c,cs,b,f,g⟩;exact⟨c,cs,b,j _ _ f,g⟩
theorem Ao.pop{ws:qG}{n:qH}{H:Hp}{kvs:pR}{k h:qG×Int}{e g:Nat}{c:Addr}{cs:List (E3×V)}(p:Ck ws n H kvs)(l:Av kvs k=some (.ref c))(m:H c=some (.dK cs)):
  Ao (upd H c (.dK (Bx cs (.inl (e:Int))))) kvs h g↔Ao H kvs h g/\¬(h=k/\g=e):=by
 constructor
 ·rintro⟨d,i,a,f,b⟩;by_cases z:d=c
  ·subst z;rw[A2]at f;cases f;have j:(h,V.ref d)=(k,V.ref d):=Rm p.2.2 (Bb a) (Bb l) rfl;cases j;rw[Sa]at b;by_cases y:(Sum.inl (g:Int):E3)=.inl (e:Int)
   ·rw[if_pos y]at b;cases b
   ·rw[if_neg y]at b;exact⟨⟨d,cs,a,m,b⟩,λw=>y (by rw[w.2])⟩
  ·rw[A9 z]at f;refine⟨⟨d,i,a,f,b⟩,λw=>z ?_⟩;rw[w.1,l]at a;cases a;rfl
 ·rintro⟨⟨d,i,a,f,b⟩,o⟩;by_cases z:d=c
  ·subst z;have j:(h,V.ref d)=(k,V.ref d):=Rm p.2.2 (Bb a) (Bb l) rfl;cases j;rw[m]at f;cases f;refine⟨d,_,a,A2,?_⟩;rw[Sa,if_neg]
   ·exact b
   ·intro y;have q:(g:Int)=(e:Int):=Sum.inl.inj y;exact o ⟨rfl,by omega⟩
  ·exact⟨d,i,a,(A9 z).trans f,b⟩
theorem Ck.pop{ws:qG}{b:qH}{H:Hp}{c:Addr}{cs:List (E3×V)}{k:E3}{kvs:pR}(p:Ck ws b H kvs)(h:H c=some (.dK cs)):Ck ws b (upd H c (.dK (Bx cs k))) kvs:=⟨λm i=>by
 obtain⟨d,j,e,a,f,g⟩:=p.1 m i;have t:LT H (upd H c (.dK (Bx cs k))):=LT.dK h;by_cases z:d=c
 ·subst z;rw[h]at a;cases a;exact⟨d,Bx cs k,e,A2,ea (S9 cs k) f,λx l=>(g.up t) x (Mu l)⟩
 ·exact⟨d,j,e,(A9 z).trans a,f,g.up t⟩,p.2⟩
theorem Ck.WS{ws:qG}{f:qH}{B:Addr}{H a:Hp}{kvs:pR}(p:Ck ws f H kvs)(n:Xf B H kvs)(t:Ax H a)(x:∀l us,l≠B->H l=some (.lst us)->a l=some (.lst us))(k:∀c cs,H c=some (.dK cs)->a c=some (.dK cs)):Ck ws f a kvs:=⟨λm d=>by
 obtain⟨c,cs,g,h,o,q⟩:=p.1 m d;refine⟨c,cs,g,k _ _ h,o,λe j=>?_⟩;obtain⟨b,l,us,r,s,u,i,v,w⟩:=q e j;exact⟨b,l,us,r,s,u,i,x _ _ (λz=>n m d c cs g h e j (by rw[i,z])) v,w.imp λ_ _ y=>Hw.up t y⟩,p.2⟩
theorem L3:∀{xs ys:qG},xs.map V.int=ys.map V.int->xs=ys
 |[],[],_=>rfl
 |[],_::_,h=>by cases h
 |_::_,[],h=>by cases h
 |x::xs,y::ys,h=>by
  rw[List.map_cons,List.map_cons]at h;injection h with a b;injection a with a;rw[a,L3 b]
def Rs(ws:qG)(d:qH)(e:pR)(k:qG×Int)(m:Int):Prop:=
 (∀b,b<ws.length->none∈Bg ws k.1 d k.2 b\/∃a c,some a∈Bg ws k.1 d k.2 b/\Av e a=some (.int c)/\c<=m-1)/\
 (m=1\/∃b,b<ws.length/\none∉Bg ws k.1 d k.2 b/\∀a c,some a∈Bg ws k.1 d k.2 b->Av e a=some (.int c)->m-1<=c)
def Fs(ws:qG)(c:qH)(d:pR):Prop:=
 (∀k v,Av d k=some v->∃m:Int,v=.int m/\1<=m/\k∈Bq ws (qv c)/\Rs ws c d k m)/\
 (∀k,k∈Bq ws (qv c)->Av d k=none->∃b,b<ws.length/\none∉Bg ws k.1 c k.2 b/\∀a,some a∈Bg ws k.1 c k.2 b->Av d a=none)
def Ge(ws:qG)(c:qH)(d:pR)(e:List (qG×Int))(r:Int)(f:(qG×Int)->Nat->Prop):Prop:=
 1<=r/\(∀g∈d,∃n:Int,g.2=.int n/\1<=n/\n<r)/\(∀k∈e,k∈Bq ws (qv c)/\Av d k=none)/\(∀k v,Av d k=some v->k∈Bq ws (qv c))/\
 (∀k a,f k a↔(k∈Bq ws (qv c)/\a<ws.length/\none∉Bg ws k.1 c k.2 a/\∀b,some b∈Bg ws k.1 c k.2 a->Av d b=none))/\
 (∀k,k∈Bq ws (qv c)->((∀a,¬f k a)↔(k∈e\/(Av d k).isSome=true)))/\
 (∀k m,Av d k=some (.int m)->Rs ws c d k m)/\∀k∈e,Rs ws c d k r
theorem Ge.done{ws:qG}{d:qH}{f:pR}{r:Int}{c:(qG×Int)->Nat->Prop}(h:Ge ws d f [] r c):Fs ws d f:=by
 obtain⟨E,w,D,A,o,p,b,q⟩:=h;refine⟨λk v e=>?_,λk s e=>?_⟩
 ·obtain⟨n,g,i,_⟩:=w _ (Bb e);have B:v=.int n:=g;subst B;exact⟨n,rfl,i,A k _ e,b k n e⟩
 ·have u:¬ ∀a,¬c k a:=λz=>by
   rcases(p k s).mp z with y|y
   ·cases y
   ·rw[e]at y;cases y
  obtain⟨a,x⟩:=Classical.not_forall.mp u;obtain⟨C,j,l,m⟩:=(o k a).mp (Classical.not_not.mp x);exact⟨a,j,l,m⟩
theorem Ge.step{ws:qG}{f:qH}{u d:pR}{i l:List (qG×Int)}{r:Int}{K g:(qG×Int)->Nat->Prop}(h:Ge ws f u i r K)
  (B:∀k,Av d k=if k∈i then some (.int r)else Av u k)(Z:∀kv∈d,∃n:Int,kv.2=.int n/\1<=n/\n<r+1)
  (hl:∀k b,g k b↔(K k b/\∀a∈i,some a∉Bg ws k.1 f k.2 b))(j:∀k,k∈l↔((∃b,K k b)/\∀b,¬g k b)):Ge ws f d l (r+1) g:=by
 obtain⟨h0,hv,gU,kB,N,G,O,P⟩:=h
 have L:∀k,Av d k=none↔(k∉i/\Av u k=none):=λk=>by
  rw[B];by_cases z:k∈i
  ·rw[if_pos z];exact⟨λy=>(nomatch y),λy=>absurd z y.1⟩
  ·rw[if_neg z];exact⟨λy=>⟨z,y⟩,λy=>y.2⟩
 have H:∀a c,Av u a=some (.int c)->Av d a=some (.int c):=λa c e=>by
  rw[B,if_neg (λz=>by rw[(gU a z).2]at e;cases e)];exact e
 have back:∀a c,Av d a=some (.int c)->(a∈i/\c=r)\/Av u a=some (.int c):=λa c e=>by
  rw[B]at e;by_cases z:a∈i
  ·rw[if_pos z]at e;cases e;exact .inl ⟨z,rfl⟩
  ·rw[if_neg z]at e;exact .inr e
 have o:∀k m,m<=r->Rs ws f u k m->Rs ws f d k m:=λk m hm ⟨p1,p2⟩=>by
  refine⟨λb s=>?_,?_⟩
  ·rcases p1 b s with y|⟨a,c,I,J,U⟩
   ·exact .inl y
   ·exact .inr ⟨a,c,I,H _ _ J,U⟩
  ·rcases p2 with y|⟨b,I,J,U⟩
   ·exact .inl y
   ·refine .inr ⟨b,I,J,λa c X Y=>?_⟩;rcases back a c Y with⟨_,e⟩|e
    ·omega
    ·exact U a c X e
 have pG:∀k b,g k b↔(k∈Bq ws (qv f)/\b<ws.length/\none∉Bg ws k.1 f k.2 b/\∀a,some a∈Bg ws k.1 f k.2 b->Av d a=none):=λk b=>by
  rw[hl,N];constructor
  ·rintro⟨⟨D,E,F,A⟩,g5⟩;exact⟨D,E,F,λa z=>(L a).mpr ⟨λy=>g5 a y z,A a z⟩⟩
  ·rintro⟨D,E,F,A⟩;exact⟨⟨D,E,F,λa z=>((L a).mp (A a z)).2⟩,λa y z=>((L a).mp (A a z)).1 y⟩
 refine⟨by omega,Z,λk p=>?_,λk v e=>?_,pG,λk p=>?_,λk m e=>?_,λk p=>?_⟩
 ·obtain⟨⟨b,s⟩,hn⟩:=(j k).mp p;have R:=((N k b).mp s).1;refine⟨R,(L k).mpr ⟨λz=>?_,?_⟩⟩
  ·exact(G k R).mpr (.inl z) b s
  ·cases S:Av u k with
   |none=>rfl
   |some v=>exact absurd s ((G k R).mpr (.inr (by rw[S];rfl)) b)
 ·rw[B]at e;by_cases z:k∈i
  ·exact(gU k z).1
  ·rw[if_neg z]at e;exact kB k v e
 ·constructor
  ·intro z;by_cases y:∃b,K k b
   ·exact .inl ((j k).mpr ⟨y,z⟩)
   ·right;rcases(G k p).mp (λb w=>y ⟨b,w⟩)with x|x
    ·rw[B,if_pos x];rfl
    ·obtain⟨v,M⟩:=Option.isSome_iff_exists.mp x;obtain⟨n,C,_⟩:=hv _ (Bb M);have T:v=.int n:=C;rw[T]at M;rw[H k n M];rfl
  ·rintro(z|z) b w
   ·exact((j k).mp z).2 b w
   ·have w1:=((hl k b).mp w).1;rw[B]at z;by_cases y:k∈i
    ·exact(G k p).mpr (.inl y) b w1
    ·rw[if_neg y]at z;exact(G k p).mpr (.inr z) b w1
 ·rcases back k m e with⟨I,J⟩|y
  ·subst J;exact o k m (Int.le_refl _) (P k I)
  ·obtain⟨n,C,e2,e3⟩:=hv _ (Bb y);cases C;exact o k m (by omega) (O k m y)
 ·obtain⟨⟨WT,QW⟩,hn⟩:=(j k).mp p;obtain⟨D,E,F,A⟩:=(N k WT).mp QW;refine⟨λb s=>?_,.inr ⟨WT,E,F,λa c X Y=>?_⟩⟩
  ·by_cases y:none∈Bg ws k.1 f k.2 b
   ·exact .inl y
   ·right;have Q:¬ ∀a,some a∈Bg ws k.1 f k.2 b->Av d a=none:=λz=>hn b ((pG k b).mpr ⟨D,s,y,z⟩);obtain⟨a,hx⟩:=Classical.not_forall.mp Q;obtain⟨x1,x2⟩:=Classical.not_imp.mp hx;cases q:Av d a with
    |none=>exact absurd q x2
    |some v=>
     obtain⟨n,C,e2,e3⟩:=Z _ (Bb q);have T:v=.int n:=C;exact⟨a,n,x1,by rw[q,T],by omega⟩
  ·rcases back a c Y with⟨_,e⟩|e
   ·omega
   ·rw[A a X]at e;cases e
theorem sr{b:Type}[DecidableEq b]{kvs:List (b×V)}{k:b}{v:V}(c:(kvs.map (·.1)).Nodup):((Cg kvs k v).map (·.1)).Nodup:=by
 cases e:Av kvs k with
 |none=>
  rw[Jl v e,List.map_append];exact Ep c (Ts e)
 |some w=>
  have d:(kvs.any λa=>decide (a.1=k))=true:=by
   rw[Eh,e];rfl
  unfold Cg;rw[if_pos d,List.map_map]
  have:(kvs.map ((λx=>x.1) ∘ λa=>if a.1=k then(a.1,v)else a))=kvs.map (·.1):=by
   apply List.map_congr_left;intro x _;show(if x.1=k then(x.1,v)else x).1=x.1;split<;>rfl
  rw[this];exact c
def Zg(H:Hp)(v:V):Prop:=∃c,v=.ref c/\H c=some (.dK [])
theorem Ge.start{ws:qG}{h:qH}{H:Hp}{kvs:pR}{A:List (qG×Int)}(j:Ck ws h H kvs)(O:kvs.map (·.1)=Bq ws (qv h))(N:M9 ws h H kvs)(D:∀k,k∈A↔∃v,(k,v)∈kvs/\Zg H v):Ge ws h [] A 1 (Ao H kvs):=by
 have f:∀k,k∈Bq ws (qv h)↔∃v,(k,v)∈kvs:=λk=>by
  rw[<- O,List.mem_map];exact⟨λ⟨x,g,q⟩=>⟨x.2,by rw[<- q];exact g⟩,λ⟨v,g⟩=>⟨_,g,rfl⟩⟩
 have E:∀k a,Ao H kvs k a↔(k∈Bq ws (qv h)/\a<ws.length/\none∉Bg ws k.1 h k.2 a):=λk a=>by
  constructor
  ·rintro⟨c,p,g,q,C⟩;have b:=Bb g;obtain⟨d,U,e,i,_,r⟩:=j.1 _ b;cases e;rw[q]at i;cases i;obtain⟨Z,I⟩:=Option.isSome_iff_exists.mp C;obtain⟨G,l,R,n,s,B,_⟩:=r _ (Bb I);have M:(a:Int)=(G:Int):=Sum.inl.inj n;have:a=G:=by omega
   subst this;exact⟨(f k).mpr ⟨_,b⟩,s,B⟩
  ·rintro⟨g,q,C⟩;obtain⟨v,b⟩:=(f k).mp g;obtain⟨c,p,e,i,_,r⟩:=j.1 _ b;have w:v=.ref c:=e;subst w;exact⟨c,p,Db j.2.1 b,i,N _ b c p rfl i a q C⟩
 have F:∀k,k∈Bq ws (qv h)->((∀a,¬Ao H kvs k a)↔k∈A):=λk o=>by
  obtain⟨v,b⟩:=(f k).mp o;obtain⟨c,p,e,i,_,r⟩:=j.1 _ b;have w:v=.ref c:=e;subst w;rw[D];constructor
  ·intro z;refine⟨_,b,c,rfl,?_⟩;cases p with
   |nil=>exact i
   |cons x xs=>
    obtain⟨a,l,R,n,_⟩:=r x (by simp);exact absurd ⟨c,_,Db j.2.1 b,i,by rw[C4 n];rfl⟩ (z a)
  ·rintro⟨Y,Q,S,K,L⟩ a ⟨T,J,n,s,B⟩;have g:=Db j.2.1 b;rw[Db j.2.1 Q,K]at g;cases g;rw[Db j.2.1 b]at n;cases n;rw[L]at s;cases s;cases B
 refine⟨Int.le_refl _,(λX z=>by cases z),λk u=>?_,(λk v z=>by cases z),λk a=>?_,λk o=>?_,(λk m z=>by cases z),λk u=>?_⟩
 ·obtain⟨v,b,_⟩:=(D k).mp u;exact⟨(f k).mpr ⟨v,b⟩,rfl⟩
 ·rw[E];exact⟨λz=>⟨z.1,z.2.1,z.2.2,λ_ _=>rfl⟩,λz=>⟨z.1,z.2.1,z.2.2.1⟩⟩
 ·rw[F k o];exact⟨λz=>.inl z,λz=>z.elim id (λy=>by cases y)⟩
 ·obtain⟨v,b,_⟩:=(D k).mp u;have o:=(f k).mpr ⟨v,b⟩;refine⟨λa P=>?_,.inl rfl⟩;left;apply Classical.byContradiction;intro y;exact(F k o).mpr u a ((E k a).mpr ⟨o,P,y⟩)
def wd(x:Int×Int):rb:=dP (.int x.1) (.int x.2)
def P6(x y:Int×Int):Bool:=decide (y.1<x.1\/(x.1=y.1/\y.2<x.2))
theorem Kd(a b:Int):PyData.eqv (.int a) (.int b)=decide (a=b):=rfl
theorem rh(x y:Int×Int):Zd (wd x) (wd y)=P6 x y:=by
 obtain⟨a,b⟩:=x;obtain⟨c,d⟩:=y;show(if PyData.eqv (.int a) (.int c)=true then(if PyData.eqv (.int b) (.int d)=true then cQ [] []else Zd (.int b) (.int d))else Zd (.int a) (.int c))=decide (c<a\/(a=c/\d<b));rw[Kd,Kd];show(if decide (a=c)=true then(if decide (b=d)=true then false else decide (b>d))else decide (a>c))=decide (c<a\/(a=c/\d<b));by_cases e:a=c
 ·rw[if_pos (decide_eq_true e)];by_cases f:b=d
  ·rw[if_pos (decide_eq_true f)];exact(mr (by omega)).symm
  ·rw[if_neg (by simpa using f)];exact decide_eq_decide.mpr (by omega)
 ·rw[if_neg (by simpa using e)];exact decide_eq_decide.mpr (by omega)
theorem bo(x y:Int×Int):Tu (wd x) (wd y)=P6 y x:=by
 obtain⟨a,b⟩:=x;obtain⟨c,d⟩:=y;show(if PyData.eqv (.int a) (.int c)=true then(if PyData.eqv (.int b) (.int d)=true then bJ [] []else Tu (.int b) (.int d))else Tu (.int a) (.int c))=decide (a<c\/(c=a/\b<d));rw[Kd,Kd];show(if decide (a=c)=true then(if decide (b=d)=true then false else decide (b<d))else decide (a<c))=decide (a<c\/(c=a/\b<d));by_cases e:a=c
 ·rw[if_pos (decide_eq_true e)];by_cases f:b=d
  ·rw[if_pos (decide_eq_true f)];exact(mr (by omega)).symm
  ·rw[if_neg (by simpa using f)];exact decide_eq_decide.mpr (by omega)
 ·rw[if_neg (by simpa using e)];exact decide_eq_decide.mpr (by omega)
theorem Zq(x y:Int×Int):Jx (wd x) (wd y):=by
 show Jx (.tuple [.int x.1,.int x.2]) (.tuple [.int y.1,.int y.2]);simp[Jx,iM]
theorem Ms(x:Int×Int):(wd x).depth<=50:=by
 show(dP _ _).depth<=50;rw[Zz];show max 0 0+1<=50;decide
theorem Ws{H:Hp}{p:Addr}{x:Int×Int}(h:H p=some (.tup [.int x.1,.int x.2])):Rp H (wd x) (.ref p):=ow h (V3 _) (V3 _)
theorem ah(x y:Int×Int):PyData.eqv (wd x) (wd y)=decide (x=y):=by
 obtain⟨a,b⟩:=x;obtain⟨c,d⟩:=y;show PyData.eqv (dP _ _) (dP _ _)=_;rw[qz,Kd,Kd];by_cases e:a=c<;>by_cases f:b=d<;>simp[e,f]
theorem Q6(f:Nat->Int×Int):∀k,argBest (λi j=>P6 (f i) (f j)) k<=k/\∀j,j<=k->P6 (f j) (f (argBest (λi j=>P6 (f i) (f j)) k))=false
 |0=>⟨dr _,λj c=>by
  have e:j=0:=by omega
  subst e;show P6 (f 0) (f 0)=false;unfold P6;exact mr (by omega)⟩
 |k+1=>by
  obtain⟨d,a⟩:=Q6 f k;rw[E4];generalize argBest (λi j=>P6 (f i) (f j)) k=b at d a⊢;by_cases z:P6 (f (k+1)) (f b)=true
  ·rw[if_pos z];refine⟨dr _,λj c=>?_⟩;unfold P6 at z a⊢;have g:=of_decide_eq_true z;refine mr ?_;rcases i3 k j with y|y
   ·have e:j=k+1:=by omega
    subst e;omega
   ·have:=of_decide_eq_false (a j y);omega
  ·rw[if_neg z];refine⟨by omega,λj c=>?_⟩;rcases i3 k j with y|y
   ·have e:j=k+1:=by omega
    subst e;simpa using z
   ·exact a j y
def Tp:Option V->Int×Int
 |some (.int m)=>(0,m)
 |_=>(1,0)
def told(a:pR):Option (qG×Int)->Int×Int
 |none=>(0,0)
 |some k=>Tp (Av a k)
def A03(x y:Int×Int):Int×Int:=if P6 x y=true then y else x
def Ro(d:pR)(ws c:qG)(b:qH)(q:Int)(a:Nat):Int×Int:=
 if Lp b q=true then A03 (told d (Fo ws c b q a false)) (told d (Fo ws c b q a true))else told d (Fo ws c b q a false)
def Rt(a:pR):Prop:=∀k v,Av a k=some v->∃m:Int,v=.int m
theorem Td{H:Hp}:∀{a:List rb}{us:List V},us.length=a.length->(∀(i:Nat) (d:rb) (u:V),a[i]?=some d->us[i]?=some u->Rp H d u)->aL H a us
 |[],us,b,_=>by
  unfold aL;exact List.length_eq_zero_iff.mp b
 |d::a,[],b,_=>by simp at b
 |d::a,u::us,b,h=>by
  unfold aL;exact⟨u,us,rfl,h 0 d u rfl rfl,Td (by simpa using b) λi c g e f=>h (i+1) c g (by simpa using e) (by simpa using f)⟩
theorem jz{f:Nat->Int×Int}{n:Nat}(q:0<n):Dm ((List.range n).map λi=>wd (f i))<n/\∀j,j<n->P6 (f j) (f (Dm ((List.range n).map λi=>wd (f i))))=false:=by
 have e:Dm ((List.range n).map λi=>wd (f i))=argBest (λi j=>P6 (f i) (f j)) (n-1):=by
  unfold Dm;rw[List.length_map,List.length_range]
  have a:∀k,k<=n-1->argBest (λi j=>Zd (((List.range n).map λi=>wd (f i)).getD i .none) (((List.range n).map λi=>wd (f i)).getD j .none)) k=argBest (λi j=>P6 (f i) (f j)) k:=λk=>by
   induction k with
   |zero=>exact λ_=>rfl
   |succ k l=>
    intro p;have b:=(Q6 f k).1;rw[E4,E4,l (by omega)];generalize argBest (λi j=>P6 (f i) (f j)) k=c at b⊢
    have g:∀i,i<n->((List.range n).map λi=>wd (f i)).getD i .none=wd (f i):=λi h=>by
     rw[List.getD_eq_getElem?_getD,List.getElem?_map,List.getElem?_range h];rfl
    show(if Zd (((List.range n).map λi=>wd (f i)).getD (k+1) .none) (((List.range n).map λi=>wd (f i)).getD c .none)=true then _ else _)=_;rw[g _ (by omega),g _ (by omega),rh]
  exact a (n-1) (dr _)
 rw[e];obtain⟨m,d⟩:=Q6 f (n-1);exact⟨by omega,λj o=>d j (by omega)⟩
theorem Nu{ws:qG}{b:qH}{a:pR}(h:Fs ws b a):Rt a:=λk v e=>by
 obtain⟨m,c,_⟩:=h.1 k v e;exact⟨m,c⟩
def M8(f:Nat->Int×Int)(n j:Nat):Prop:=j<n/\(∀i,i<n->P6 (f i) (f j)=false)/\∀m,m<j->f m≠f j
theorem least{Pr:Nat->Prop}:∀(b:Nat),Pr b->∃j,j<=b/\Pr j/\∀m,m<j->¬Pr m:=λb=>by
 induction b using Nat.strongRecOn with
 |ind b g=>
  intro d;by_cases z:∃m,m<b/\Pr m
  ·obtain⟨m,a,c⟩:=z;obtain⟨j,l,h,i⟩:=g m a c;exact⟨j,by omega,h,i⟩
  ·exact⟨b,dr _,d,λm e f=>z ⟨m,e,f⟩⟩
theorem M8.of{f:Nat->Int×Int}{n j:Nat}(d:0<n)(l:j<=Dm ((List.range n).map λi=>wd (f i)))(e:f j=f (Dm ((List.range n).map λi=>wd (f i))))(h:∀m,m<j->¬f m=f (Dm ((List.range n).map λi=>wd (f i)))):M8 f n j:=by
 obtain⟨g,a⟩:=jz (f:=f) d;refine⟨by omega,λi b=>by rw[e];exact a i b,λm c=>by rw[e];exact h m c⟩
def U0(H:Hp)(f:Nat->Int×Int)(ys:List V):Prop:=∀(i:Nat) (u:V),ys[i]?=some u->∃p,u=.ref p/\H p=some (.tup [.int (f i).1,.int (f i).2])
theorem U0.snoc{H b:Hp}{f:Nat->Int×Int}{ys:List V}{p:Addr}{n:Nat}(h:U0 H f ys)(t:Ax H b)(m:ys.length=n)(e:b p=some (.tup [.int (f n).1,.int (f n).2])):U0 b f (ys++[.ref p]):=λi u a=>by
 rcases i3 i ys.length with y|y
 ·rw[List.getElem?_append_left y]at a;obtain⟨l,d,g⟩:=h i u a;exact⟨l,d,t _ _ g⟩
 ·rw[List.getElem?_append_right y]at a
  have c:i-ys.length=0:=by
   have:=(cb.mp a).1;rw[List.length_singleton]at this;omega
  rw[c]at a;cases a;have j:i=n:=by omega
  subst j;exact⟨p,rfl,e⟩
theorem U0.rp{H:Hp}{f:Nat->Int×Int}{ys:List V}{n:Nat}(h:U0 H f ys)(l:ys.length=n):aL H ((List.range n).map λi=>wd (f i)) ys:=by
 refine Td (by rw[List.length_map,List.length_range];exact l) λi d u b c=>?_;obtain⟨o,g,j⟩:=h i u c;subst g;rw[List.getElem?_map]at b;obtain⟨m,e,rfl⟩:=dI.mp b
 have a:i<n:=by
  have:=(cb.mp c).1;omega
 rw[List.getElem?_range a]at e;cases e;exact Ws j
theorem W6(f:Nat->Int×Int)(n:Nat):∀d∈(List.range n).map λi=>wd (f i),∀e∈(List.range n).map λi=>wd (f i),Jx d e:=λd a e b=>by
 obtain⟨c,_,rfl⟩:=fx.mp a;obtain⟨g,_,rfl⟩:=fx.mp b;exact Zq _ _
theorem W9(f:Nat->Int×Int)(n:Nat):∀d∈(List.range n).map λi=>wd (f i),d.depth<=50:=λd a=>by
 obtain⟨b,_,rfl⟩:=fx.mp a;exact Ms _
theorem ky(f:Nat->Int×Int){n i:Nat}(h:i<n):((List.range n).map λi=>wd (f i))[i]?=some (wd (f i)):=by
 rw[List.getElem?_map,List.getElem?_range h];rfl
theorem au{f:Nat->Int×Int}{n i:Nat}{e:rb}(h:((List.range n).map λi=>wd (f i))[i]?=some e):e=wd (f i):=by
 rw[List.getElem?_map]at h;obtain⟨c,b,rfl⟩:=dI.mp h
 have a:i<n:=by
  have:=(cb.mp b).1;rwa[List.length_range]at this
 rw[List.getElem?_range a]at b;cases b;rfl
theorem aq{a:qG}{j:Nat}(h:j<a.length):a[j]?=some (a.getD j 0):=by
 rw[List.getD_eq_getElem?_getD,List.getElem?_eq_getElem h];rfl
theorem Y4{a:qG}{j:Nat}(h:j<a.length):a.getD j 0∈a:=cI (aq h)
theorem Wp:∀(ws:qG) (rows:List (qG)) (a ext:qG),a∈rows->ext.length=ws.length->(∀i,i<ws.length->1<=ext.getD i 0/\ext.getD i 0<=ws.getD i 0)->a++ext∈ws.foldl C2 rows
 |[],rows,a,ext,h,b,_=>by
  have e:ext=[]:=List.length_eq_zero_iff.mp b;rw[e,List.append_nil];exact h
 |w::ws,rows,a,[],h,b,_=>by simp at b
 |w::ws,rows,a,x::ext,h,b,c=>by
  have f:=c 0 (by simp);have l:1<=x/\x<=w:=f
  have g:a++[x]∈C2 rows w:=by
   refine List.mem_flatMap.mpr ⟨a,h,fx.mpr ⟨(x-1).toNat,oM.mpr (by omega),?_⟩⟩;have e:1+(((x-1).toNat:Nat):Int)=x:=by omega
   rw[e]
  have d:=Wp ws (C2 rows w) (a++[x]) ext g (by simpa using b) λi j=>c (i+1) (by simp;omega);rw[List.append_assoc]at d;exact d
theorem jh{ws:qG}{q:Int}{z:qG×Int}(h1:z.1.length=ws.length)(a:∀i,i<ws.length->1<=z.1.getD i 0/\z.1.getD i 0<=ws.getD i 0)(b:0<=z.2)(c:z.2<q):z∈Bq ws q:=by
 refine List.mem_flatMap.mpr ⟨z.1,?_,fx.mpr ⟨z.2.toNat,oM.mpr (by omega),?_⟩⟩
 ·have:=Wp ws [[]] [] z.1 (by simp) h1 a;exact this
 ·have e:0+((z.2.toNat:Nat):Int)=z.2:=by omega
  rw[e]
theorem Ev{a:Type}{xs:List a}{i:Nat}{x:a}(h:xs[i]?=some x):xs.take (i+1)=xs.take i++[x]:=by
 rw[List.take_add_one,h];rfl
def Occ(b:pR)(m:Int):Prop:=∃a∈b,a.2=.int m
theorem Ss{ws:qG}{p:qH}{b:pR}(h:Fs ws p b)(g:(b.map (·.1)).Nodup):∀(n:Nat) (m:Int),Occ b m->1<=m-n->Occ b (m-n)
 |0,m,c,_=>by
  rw[show m-((0:Nat):Int)=m by omega];exact c
 |n+1,m,c,C=>by
  obtain⟨j,o,e⟩:=c;have i:=Db g (show(j.1,j.2)∈b from o);rw[e]at i;obtain⟨m0,q,B,_,u,v⟩:=h.1 _ _ i;cases q;rcases v with z|⟨f,w,x,y⟩
  ·omega
  ·rcases u f w with z|⟨a,d,A,l,D⟩
   ·exact absurd z x
   ·have s:=y a d A l;have r:d=m-1:=by omega
    have:=Ss h g n (m-1) ⟨(a,.int d),Bb l,by rw[r]⟩ (by omega);rw[show m-((n+1:Nat):Int)=m-1-(n:Int)by omega];exact this
def Lc(d:pR)(ws c:qG)(b:qH)(q:Int)(a:Nat):Bool:=Lp b q&&P6 (told d (Fo ws c b q a false)) (told d (Fo ws c b q a true))
def Du(L:qG)(i:Nat):qG:=(List.range i).filterMap λk=>if L.getD k 0=0 then some (k:Int)else none
theorem Em(L:qG)(i:Nat):Du L (i+1)=Du L i++(if L.getD i 0=0 then[(i:Int)]else[]):=by
 unfold Du;rw[List.range_succ,List.filterMap_append];congr 1;by_cases h:L.getD i 0=0
 ·rw[if_pos h,List.filterMap_cons,List.filterMap_nil,if_pos h]
 ·rw[if_neg h,List.filterMap_cons,List.filterMap_nil,if_neg h]
theorem Ey(L:qG):∀i,(Du L i).length<=i
 |0=>dr _
 |i+1=>by
  rw[Em,List.length_append];have h:=Ey L i;split<;>simp<;>omega
theorem U2{L:qG}{i:Nat}(c:i<=L.length):Du L i=[]↔(0:Int)∉L.take i:=by
 induction i with
 |zero=>simp[Du]
 |succ i b=>
  have e:L[i]?=some (L.getD i 0):=by
   rw[List.getD_eq_getElem?_getD,List.getElem?_eq_getElem (show i<L.length by omega)];rfl
  rw[Em,Ev e,List.append_eq_nil_iff,b (by omega)];by_cases h:L.getD i 0=0
  ·rw[if_pos h,h];simp
  ·have a:¬(0=L.getD i 0):=λz=>h z.symm;simp only[if_neg h,List.mem_append,List.mem_singleton,a,or_false,and_true]
theorem Kw{a:Type}{f:a->rb}{n:Nat}(h:∀x,(f x).depth<=n):∀xs:List a,PyData.depthAll (xs.map f)<=n
 |[]=>mu _
 |x::xs=>Nat.max_le.mpr ⟨h x,Kw h xs⟩
theorem Wr{H:Hp}{a:Addr}{ss:List Str}(e:H a=some (.lst (ss.map V.str)))(b:∀s∈ss,PyData.strOk s=true):Rp H (.list (ss.map PyData.str)) (.ref a):=by
 have c:∀{ss:List Str},(∀s∈ss,PyData.strOk s=true)->aL H (ss.map PyData.str) (ss.map V.str):=by
  intro ss
  induction ss with
  |nil=>intro _;unfold aL;rfl
  |cons s ss f=>
   intro b;rw[List.map_cons,List.map_cons];unfold aL;exact⟨_,_,rfl,by unfold Rp;exact⟨rfl,b s dm⟩,f λx d=>b x (d0 _ d)⟩
 unfold Rp;exact⟨a,_,rfl,e,c b⟩
theorem U9(ss:List Str):(PyData.list (ss.map PyData.str)).depth<=60:=by
 have:=Kw (f:=PyData.str) (n:=0) (λ_=>dr _) ss;show PyData.depthAll (ss.map PyData.str)+1<=60;omega
def Ct(x:Addr)(H a:Hp):Prop:=∀b o,b≠x->H b=some o->a b=some o
theorem Ct.of{x:Addr}{H a:Hp}(s:A8 H a):Ct x H a:=λb o _ e=>s b o e
theorem Ct.refl(x:Addr)(H:Hp):Ct x H H:=λ_ _ _ e=>e
theorem Ct.trans{x:Addr}{H a c:Hp}(s:Ct x H a)(t:Ct x a c):Ct x H c:=λb o n e=>t b o n (s b o n e)
theorem Ct.ins{x:Addr}{H:Hp}{o:HO}:Ct x H (upd H x o):=λb u n e=>by rw[A9 n];exact e
theorem Ct.tup{x C c:Addr}{fs:List (Str×V)}{H b:Hp}(s:Ct x H b)(d:H x=some (.ins C c fs)){a:Addr}{xs:List V}(h:H a=some (.tup xs)):b a=some (.tup xs):=s _ _ (Bf h d HO.noConfusion) h
theorem Ct.lst{x C c:Addr}{fs:List (Str×V)}{H b:Hp}(s:Ct x H b)(d:H x=some (.ins C c fs)){a:Addr}{xs:List V}(h:H a=some (.lst xs)):b a=some (.lst xs):=s _ _ (Bf h d HO.noConfusion) h
theorem Ct.dT{x C c:Addr}{fs:List (Str×V)}{H b:Hp}(s:Ct x H b)(d:H x=some (.ins C c fs)){a:Addr}{xs:pR}(h:H a=some (.dT xs)):b a=some (.dT xs):=s _ _ (Bf h d HO.noConfusion) h
theorem Ct.seq{K:W.Frag}{x C d:Addr}{fs:List (Str×V)}{H b:Hp}(s:Ct x H b)(c:H x=some (.ins C d fs)){a:Addr}{xs:List V}(h:Aq K H a xs):Aq K b a xs:=by
 rcases h with(h|⟨o,h⟩)|h
 ·exact .inl (.inl (s.lst c h))
 ·exact .inl (.inr ⟨o,s _ _ (Bf h c HO.noConfusion) h⟩)
 ·exact .inr h
theorem Bc.but{x C e:Addr}{fs:List (Str×V)}{H b:Hp}(s:Ct x H b)(d:H x=some (.ins C e fs)){a:Addr}{ws:qG}{c:qH}(h:Bc H a ws c):Bc b a ws c:=by
 obtain⟨t,f,g⟩:=h;exact⟨t,s.tup d f,s.tup d g⟩
theorem Dh.but{x C e:Addr}{fs:List (Str×V)}{H b:Hp}(s:Ct x H b)(c:H x=some (.ins C e fs)){a:Addr}{d:qG}{q:Int}(h:Dh H a d q):Dh b a d q:=by
 obtain⟨t,f,g⟩:=h;exact⟨t,s.tup c f,s.tup c g⟩
def Ua(c:Nat):Bool:=decide (48<=c/\c<=57)
theorem ax(c:Nat):(!(Builtin.Str.occurrences "0123456789" ⟨#[c]⟩ 0 (Str.ofString "0123456789").length 1).isEmpty)=Ua c:=by
 rw[StrLaws.found_one];have e:(Str.ofString "0123456789").cps.toList=[48,49,50,51,52,53,54,55,56,57]:=by decide
 rw[e];unfold Ua;rw[Bool.eq_iff_iff,decide_eq_true_iff,decide_eq_true_iff];simp only[List.mem_cons,List.not_mem_nil,or_false];omega
theorem Om{a:Type}{f:Nat->a}{xs:List Nat}{i c:Nat}(h:xs[i]?=some c):(xs.take (i+1)).map f=(xs.take i).map f++[f c]:=by
 rw[List.take_add_one,h,List.map_append];rfl
theorem ya{n:Nat}(h:n<100000):n<sizeLine:=fC h (by decide)
theorem Wf{xs:List Nat}(h:xs≠[]):∃c,xs[0]?=some c/\xs.head?=some c:=by
 cases xs with
 |nil=>exact absurd rfl h
 |cons c r=>exact⟨c,rfl,rfl⟩
theorem qi{v:V}{xs:List V}:Oa (v::xs) 0=some v:=Ek (show(v::xs)[0]?=some v from rfl)
def Dw:qH->List Str
 |none=>[]
 |some c=>[Str.ofString "calm",Bh c]
def Hg(w:Str)(n:Int):Bool:=if Oe (.str w) [.str "best",.str "rank"]=true then decide (V.int n=V.int 0)else if Oe (.str w) [.str "call",.str "lost",.str "answer",.str "join",.str "leave",.str "turn"]=true then decide (V.int n=V.int 1)else(Oe (.str w) [.str "hall",.str "wheel"]&&decide (n>0))
structure E6(x hd:Str)(ns:qG)(cm:qH):Prop where
 cut:Txt.split x " "=hd::(ns.map Bh++Dw cm)
 len:x.length<=100000
 big:∀n∈ns,0<=n/\n<10^100
 calm:∀c,cm=some c->(0<=c/\c<10^100)/\hd=Str.ofString "hall"
 tak:Hg hd (ns.length:Int)=true
 qV:ns.length<=300
 ok:PyData.strOk hd=true
def F0(ws:List Str)(a b:qH):List Str:=(ws.drop (HT.iB ws.length 0 a)).take (HT.iB ws.length ws.length b-HT.iB ws.length 0 a)
theorem Fc(ws:List Str)(b a:qH):Qb (ws.map V.str) b a=(F0 ws b a).map V.str:=by
 unfold Qb F0;rw[List.length_map,List.map_take,List.map_drop]
theorem Zu(w:Str)(ws:List Str):F0 (w::ws) (some 1) none=ws:=by
 unfold F0;rw[HT.fZ,show HT.iB (w::ws).length 0 (some 1)=min 1 (w::ws).length from HT.pA _ 0 1,List.length_cons,show min 1 (ws.length+1)=1 by omega];simp
theorem S4(ws:List Str)(a b:Str):F0 (ws++[a,b]) (some (-2)) (some (-1))=[a]/\F0 (ws++[a,b]) (some (-1)) none=[b]/\F0 (ws++[a,b]) none (some (-2))=ws:=by
 have f:(ws++[a,b]).length=ws.length+2:=by simp
 have e:∀d,HT.iB (ws++[a,b]).length d (some (-2))=ws.length:=λd=>by
  unfold HT.iB;simp only[show(-2:Int)<0 by decide,if_true];omega
 have c:∀d,HT.iB (ws++[a,b]).length d (some (-1))=ws.length+1:=λd=>by
  unfold HT.iB;simp only[show(-1:Int)<0 by decide,if_true];omega
 refine⟨?_,?_,?_⟩
 ·unfold F0;rw[e,c,List.drop_left,show ws.length+1-ws.length=1 by omega];rfl
 ·unfold F0;rw[c,HT.fZ,f,show ws++[a,b]=(ws++[a])++[b]by simp,List.drop_left' (by simp),show ws.length+2-(ws.length+1)=1 by omega];rfl
 ·unfold F0;rw[HT.fZ,e,List.drop_zero,Nat.sub_zero,List.take_left]
theorem Xr{ws:List Str}{a:Str}(h:a∉ws):F0 ws (some (-2)) (some (-1))≠[a]:=λe=>by
 have:a∈F0 ws (some (-2)) (some (-1)):=by rw[e];simp
 exact h (List.mem_of_mem_drop (List.mem_of_mem_take this))
theorem Ym{n:Int}{x:Str}(h:0<=n/\n<10^100)(a:Gx x=false):Bh n≠x:=λe=>by
 have:=(Cy h.1 h.2).is;rw[e,a]at this;cases this
theorem Kt{n:Int}(h:0<=n/\n<10^100):PyData.strOk (Bh n)=true:=by
 have b:=(Cy h.1 h.2).sgn;unfold PyData.strOk;rw[<- Array.all_toList,List.all_eq_true];intro c a;have:=b c a;simp;omega
theorem Cq{n:Int}(h:0<=n/\n<10^100):n.natAbs.log2<1920:=by
 by_cases z:n.natAbs=0
 ·rw[z];decide
 ·rw[Nat.log2_lt z]
  have a:n.natAbs<10^100:=by
   have e:((10:Int)^100)=((10^100:Nat):Int):=by norm_cast
   omega
  exact Nat.lt_trans a (by decide+kernel)
theorem ag:∀xs ys:List Str,PyData.eqv (.list (xs.map PyData.str)) (.list (ys.map PyData.str))=decide (xs=ys):=by
 have a:∀xs ys:List Str,PyData.eqvAll (xs.map PyData.str) (ys.map PyData.str)=decide (xs=ys):=by
  intro xs
  induction xs with
  |nil=>intro ys;cases ys<;>simp[PyData.eqvAll]
  |cons x xs b=>
   intro ys;cases ys with
   |nil=>simp[PyData.eqvAll]
   |cons y ys=>
    show(PyData.eqv (.str x) (.str y)&&PyData.eqvAll (xs.map PyData.str) (ys.map PyData.str))=_;rw[b ys,Bool.eq_iff_iff,Bool.and_eq_true];simp[PyData.eqv]
 exact a
def Rn(a:Bool):Str:=if a=true then Str.ofString "lost" else Str.ofString "call"
theorem E2(a b:Str):(a++b).length=a.length+b.length:=by
 show(a++b).cps.size=_;rw[Str.cps_append,Array.size_append];rfl
def Jf(ns:qG):Str:=Txt.join " " (ns.map Bh)
theorem Jg{ns:qG}(h:∀n∈ns,0<=n/\n<10^100)(e:ns.length<=300):(Jf ns).length<=40000:=by
 unfold Jf;rw[show Txt.join (Str.ofString " ") (ns.map Bh)=Str.join (Str.ofString " ") (ns.map Bh)from StrLaws.glued_eq_join _ _];have b:=StrLaws.join_length_le (Str.ofString " ") (ns.map Bh)
 have c:=sumLen_le_of_bound (λz:Str=>z) 100 (ns.map Bh) (λz d=>by
  obtain⟨n,a,rfl⟩:=fx.mp d;exact(Cy (h n a).1 (h n a).2).len)
 rw[List.map_id',List.length_map]at c;rw[List.length_map,show(Str.ofString " ").length=1 from rfl]at b;omega
def B7(h s t w:V):List (Str×V):=[("hall",h),("standing",s),("table",t),("wheel",w)]
def Bp(C:Addr)(H:Hp)(x e:Addr)(ws:qG)(d:qH)(f:qG)(q:Int)(g:pR)(w:V):Prop:=
 ∃a b c,H x=some (.ins C e (B7 (.ref a) (.ref b) (.ref c) w))/\Bc H a ws d/\Dh H b f q/\H c=some (.dT g)
theorem Bp.same{C:Addr}{H c:Hp}{x e:Addr}{ws:qG}{d:qH}{f:qG}{q:Int}{g:pR}{w:V}(s:A8 H c)(h:Bp C H x e ws d f q g w):Bp C c x e ws d f q g w:=by
 obtain⟨a,b,i,j,l,m,n⟩:=h;exact⟨a,b,i,s _ _ j,l.same s,m.same s,s _ _ n⟩
theorem Nt(h s t w v:V):Gj "standing" v (B7 h s t w)=B7 h v t w:=rfl
def Ir(ws:qG)(a:qH):Prop:=(∀w∈ws,1<=w/\w<=3000)/\(∀c,a=some c->1<=c/\c<=3000)/\0<ws.length/\ws.length<=8/\Bn (qv a) ws<=3000
def Iv(ws:qG)(b:qH)(a:pR):Prop:=Fs ws b a/\(a.map (·.1)).Nodup/\a.length<=60000
theorem d7{ws:qG}{j:qH}{a:pR}{k:qG×Int}{m:Int}(h:Iv ws j a)(f:Av a k=some (.int m)):1<=m/\m<=(a.length:Int):=by
 obtain⟨d,p,s⟩:=h;obtain⟨m0,l,n,_⟩:=d.1 _ _ f;cases l;have q:Occ a m:=⟨(k,.int m),Bb f,rfl⟩;refine⟨n,?_⟩;have r:(List.range m.toNat).Nodup:=List.nodup_range
 have c:List.range m.toNat ⊆ a.map λb=>match b.2 with| .int i=>(i-1).toNat|_=>0:=λi o=>by
  have u:=oM.mp o;obtain⟨b,g,e⟩:=Ss d p (m.toNat-(i+1)) m q (by omega);refine fx.mpr ⟨b,g,?_⟩;rw[e];show(m-((m.toNat-(i+1):Nat):Int)-1).toNat=i;omega
 have:=List.Nodup.length_le_of_subset r c;rw[List.length_range,List.length_map]at this;omega
theorem Wo{ws:qG}{b:qH}{a:pR}{k:qG×Int}{m:Int}(h:Iv ws b a)(c:Av a k=some (.int m)):1<=m/\m<=60000:=by
 have d:=d7 h c;have e:=h.2.2;omega
def Mw(a:pR)(k:qG×Int):Str:=match Av a k with
 |some (.int m)=>Str.ofString "broken within "++Bh m
 |_=>Str.ofString "kept"
def La(ws c:qG)(d:qH)(q:Int)(b:Nat)(a:Bool):qG×Int:=if(0:Int)∈C6 ws c b a then(ws,0)else(C6 ws c b a,F7 d q a)
def Pt(ws c:qG)(d:qH)(q:Int)(b:Nat)(a:Bool):Str:=if(0:Int)∈C6 ws c b a then Str.ofString "broken "++Jf (Du (C6 ws c b a) ws.length)else Str.ofString "left "++Jf (C6 ws c b a)++Str.ofString " quiet "++Bh (F7 d q a)
theorem lw{ns:qG}:(Jf ns).cps.toList=jn ((ns.map Bh).map λx=>x.cps.toList):=by
 unfold Jf;rw[show Txt.join (Str.ofString " ") (ns.map Bh)=Str.join (Str.ofString " ") (ns.map Bh)from StrLaws.glued_eq_join _ _,M0]
theorem R7{x a:Str}{ns:qG}{b:qH}(h:x.cps.toList=jn ((a::(ns.map Bh++Dw b)).map λx=>x.cps.toList))(g:32∉a.cps.toList)(j:x.length<=100000)(d:∀n∈ns,0<=n/\n<10^100)(e:∀c,b=some c->(0<=c/\c<10^100)/\a=Str.ofString "hall")(m:Hg a (ns.length:Int)=true)(i:ns.length<=300)(l:PyData.strOk a=true):E6 x a ns b:=by
 refine⟨L8 (by simp) (λw o=>?_) h,j,d,e,m,i,l⟩;rcases eH.mp o with z|z
 ·rw[z];exact g
 ·rcases fF.mp z with z|z
  ·obtain⟨n,f,rfl⟩:=fx.mp z;exact(Cy (d n f).1 (d n f).2).TY
  ·cases b with
   |none=>cases z
   |some c=>
    rcases eH.mp z with z|z
    ·rw[z];decide
    ·rw[List.mem_singleton.mp z];exact(Cy (e c rfl).1.1 (e c rfl).1.2).TY
theorem Vn{a:Str}{n:Int}(h1:Oe (.str a) [.str "best",.str "rank"]=false)(b:Oe (.str a) [.str "call",.str "lost",.str "answer",.str "join",.str "leave",.str "turn"]=false)(c:Oe (.str a) [.str "hall",.str "wheel"]=true)(d:0<n):Hg a n=true:=by
 unfold Hg;rw[h1,b,c,if_neg Bool.false_ne_true,if_neg Bool.false_ne_true,decide_eq_true (show n>0 from d)];rfl
theorem Fa(a b:Str):(a++b).cps.toList=a.cps.toList++b.cps.toList:=by rw[Str.cps_append,Array.toList_append]
theorem nj{x a:Str}{n:Int}(b:0<=n/\n<10^100)(h:x.cps.toList=a.cps.toList++[32])(d:32∉a.cps.toList)(l:x.length<=100)(j:Hg a 1=true)(i:PyData.strOk a=true):E6 (x++Bh n) a [n] none:=by
 have g:=(Cy b.1 b.2).len;refine R7 ?_ d (by rw[E2];omega) (λm f=>by rw[List.mem_singleton.mp f];exact b) (λc e=>by cases e) j (by show 1<=300;decide) i;rw[Fa,h];show _=a.cps.toList++32::(Bh n).cps.toList;simp
theorem d8:E6 (Str.ofString "best") (Str.ofString "best") [] none:=
 R7 (by decide) (by decide) (by decide) (λn b=>by cases b) (λc a=>by cases a) (by decide) (by decide) (by decide+kernel)
def Tb(a:pR)(k:qG×Int):Str:=match Av a k with
 |some (.int m)=>Bh m
 |_=>Str.ofString "safe"
theorem Tl{ws:qG}{a:qH}(h:Ir ws a):(ws,0)∈Bq ws (qv a):=by
 refine jh rfl (λi b=>⟨(h.1 _ (Y4 b)).1,Int.le_refl _⟩) (Int.le_refl _) ?_;show 0<qv a;cases a with
 |none=>decide
 |some c=>
  have:=h.2.1 c rfl;show 0<c+1;omega
theorem Bp.but{C:Addr}{H d:Hp}{x y l f:Addr}{fs:List (Str×V)}{ws:qG}{e:qH}{g:qG}{q:Int}{i:pR}{w:V}(s:Ct x H d)(c:H x=some (.ins C l fs))(ne:y≠x)(h:Bp C H y f ws e g q i w):Bp C d y f ws e g q i w:=by
 obtain⟨a,b,j,m,n,o,p⟩:=h;exact⟨a,b,j,s _ _ ne m,n.but s c,o.but s c,s.dT c p⟩
def tw{c:Type}(a b:c)(i:Nat):c:=if i=0 then a else b
theorem Zl{a b:V}{i:Nat}(h:i<2):Oa [a,b] (i:Int)=some (tw a b i):=by
 have:i=0\/i=1:=by omega
 rcases this with rfl|rfl<;>rfl
theorem Gb{a b u:V}{i:Nat}(h:i<2):([a,b]:List V).set i u=[if 0=i then u else a,if 1=i then u else b]:=by
 have:i=0\/i=1:=by omega
 rcases this with rfl|rfl<;>rfl
theorem yo(a b:Addr)(i:Nat):tw (V.ref a) (V.ref b) i=.ref (tw a b i):=by
 unfold tw;split<;>rfl
theorem A1k{a b:Addr}(h:a≠b){i j:Nat}(f:i<2)(g:j<2)(c:i≠j):tw a b i≠tw a b j:=by
 have d:i=0\/i=1:=by omega
 have e:j=0\/j=1:=by omega
 rcases d with rfl|rfl<;>rcases e with rfl|rfl
 ·exact absurd rfl c
 ·exact h
 ·exact Ne.symm h
 ·exact absurd rfl c
theorem Zt{xs:qG}{b a:qH}{z:Int}(h:z∈U7 xs b a):z∈xs:=by
 unfold U7 at h;exact List.mem_of_mem_drop (List.mem_of_mem_take h)
theorem kb:intBits (618033988749894848204586834365638117720309179805762862137:Int)<=200:=by decide+kernel
theorem A1z:(10:Int)^(60:Int).toNat<2^200:=by decide+kernel
theorem qy(a b:Int):decide (V.int a=V.int b)=decide (a=b):=by simp
theorem ap{x y:Int}(c:0<=x)(d:0<y):Int.gcd y (x%y)=Int.gcd x y:=by
 obtain⟨a,rfl⟩:∃a:Nat,x=a:=⟨x.toNat,by omega⟩;obtain⟨b,rfl⟩:∃b:Nat,y=b:=⟨y.toNat,by omega⟩;rw[<- Int.natCast_emod,Int.gcd_natCast_natCast,Int.gcd_natCast_natCast,Nat.gcd_comm b,<- Nat.gcd_rec,Nat.gcd_comm]
def Ye(c:Nat)(xs:qG):Nat:=xs.foldl (λc n=>Nat.lcm c n.natAbs) c
def Dv(xs:qG):Nat:=Ye 1 xs
theorem Yf(xs:qG)(x:Int):Dv (xs++[x])=Nat.lcm (Dv xs) x.natAbs:=by
 unfold Dv Ye;rw[List.foldl_append];rfl
theorem Ku{xs:qG}{i:Nat}{x:Int}(h:xs[i]?=some x):xs.take (i+1)=xs.take i++[x]:=by
 rw[List.take_add_one,h];rfl
theorem lj{c:Nat}{x:Int}(a:1<=x):(c:Int)/((Int.gcd (c:Int) x:Nat):Int)*x=((Nat.lcm c x.natAbs:Nat):Int):=by
 obtain⟨n,rfl⟩:∃n:Nat,x=n:=⟨x.toNat,by omega⟩;rw[Int.gcd_natCast_natCast,Int.natAbs_natCast,<- Int.natCast_ediv,<- Int.natCast_mul];unfold Nat.lcm;rw[Nat.div_mul_right_comm (Nat.gcd_dvd_left c n)]
theorem rf{c:Nat}{x:Int}(e:0<c)(f:1<=x):0<((Int.gcd (c:Int) x:Nat):Int)/\((Int.gcd (c:Int) x:Nat):Int)<=x:=by
 have a:((Int.gcd (c:Int) x:Nat):Int)∣x:=Int.gcd_dvd_right ..;have b:=my (by omega) a
 have d:Int.gcd (c:Int) x≠0:=λz=>by
  have:=(Int.gcd_eq_zero_iff.mp z).2;omega
 omega
def Fu(B:Int)(xs:qG):qG:=xs.map λx=>B/x
theorem Xx(B:Int)(xs:qG)(x:Int):Fu B (xs++[x])=Fu B xs++[B/x]:=by
 unfold Fu;rw[List.map_append];rfl
theorem Wa{B:Int}(a:0<=B):∀{xs:qG},(∀x∈xs,1<=x)->0<=(Fu B xs).sum
 |[],_=>by simp[Fu]
 |x::xs,h=>by
  have b:=Wa a λy c=>h y (d0 _ c);have d:=h x (dm ..);have e:0<=B/x:=m8 a (by omega);unfold Fu at b⊢;rw[List.map_cons,List.sum_cons];omega
def Gq(H:Hp)(r:Int×Int)(v:V):Prop:=∃p,v=.ref p/\H p=some (.tup [.int r.1,.int r.2])
theorem Gq.up{H a:Hp}{r:Int×Int}{v:V}(t:Ax H a)(h:Gq H r v):Gq a r v:=by
 obtain⟨p,e,b⟩:=h;exact⟨p,e,t _ _ b⟩
theorem Er:1<=sizeLine:=by decide
def rv:qG->Int->Int
 |p::q::r,u=>rv (q::r) (u/(p/q))+u%(p/q)*q
 |_,u=>u
inductive Lv:qG->Prop
 |one:Lv [1]
 |cons {p q:Int}{r:qG}:q<p->q∣p->Lv (q::r)->Lv (p::q::r)
theorem Lv.pos{q:Int}{r:qG}(h:Lv (q::r)):1<=q:=by
 generalize e:q::r=l at h
 induction h generalizing q r with
 |one=>cases e;decide
 |cons b c d a=>
  cases e;have:=a rfl;omega
theorem Cw{p q:Int}(b:1<=q)(a:1<=p)(h:q∣p):1<=p/q/\p=q*(p/q):=by
 obtain⟨c,rfl⟩:=h;rw[Int.mul_ediv_cancel_left _ (by omega)];refine⟨?_,rfl⟩;by_cases z:1<=c
 ·exact z
 ·have:q*c<=0:=Int.mul_nonpos_of_nonneg_of_nonpos (by omega) (by omega);omega
theorem J0{u c q:Int}(b:1<=c)(a:0<=u)(h:u<q*c):0<=u/c/\u/c<q:=
 ⟨m8 a (by omega),Int.ediv_lt_of_lt_mul (by omega) h⟩
theorem ox:∀{l:qG},Lv l->∀{q:Int}{r:qG},l=q::r->
  (∀u,0<=u->u<q->0<=rv (q::r) u/\rv (q::r) u<q)/\∀u v,0<=u->u<q->0<=v->v<q->rv (q::r) u=rv (q::r) v->u=v:=by
 intro l h
 induction h with
 |one=>
  rintro q r e;cases e;exact⟨λu a b=>⟨a,b⟩,λu v a b c d _=>by omega⟩
 |@cons p q r U L M Q=>
  rintro Y Z e;cases e;obtain⟨O,P⟩:=Q rfl;have N:=M.pos;obtain⟨n,J⟩:=Cw N (by omega) L
  have f:∀u,0<=u->u<p->0<=rv (q::r) (u/(p/q))/\rv (q::r) (u/(p/q))<q/\0<=u%(p/q)/\u%(p/q)<p/q:=λu g i=>by
   have y:=J0 (q:=q) n g (by omega);have z:=O _ y.1 y.2;exact⟨z.1,z.2,oK _ (by omega),px _ (by omega)⟩
  have m:∀u,rv (p::q::r) u=rv (q::r) (u/(p/q))+u%(p/q)*q:=λu=>rfl;constructor
  ·intro u g i;obtain⟨o,s,w,C⟩:=f u g i;rw[m];have m1:0<=u%(p/q)*q:=oI w (by omega);have R:(u%(p/q)+1)*q<=p/q*q:=Int.mul_le_mul_of_nonneg_right (by omega) (by omega);rw[Int.add_mul,Int.one_mul,Int.mul_comm (p/q) q,<- J]at R;omega
  ·intro u v g i x K e;obtain⟨o,s,w,C⟩:=f u g i;obtain⟨D,E,S,T⟩:=f v x K;rw[m,m]at e;have j:=congrArg (·%q) e;simp only[Int.add_mul_emod_self_right]at j;rw[Int.emod_eq_of_lt o s,Int.emod_eq_of_lt D E]at j;have G:u%(p/q)*q=v%(p/q)*q:=by omega
   have H:=Int.eq_of_mul_eq_mul_right (show q≠0 by omega) G;have A:=J0 (q:=q) n g (by omega);have B:=J0 (q:=q) n x (by omega);have I:=P _ _ A.1 A.2 B.1 B.2 j;have F:=Int.mul_ediv_add_emod u (p/q);have X:=Int.mul_ediv_add_emod v (p/q);rw[I,H]at F;omega
theorem wx{p q:Int}{r:qG}(i:Lv (p::q::r)){u:Int}(g:0<=u)(h1:u<p):rv (p::q::r) u%q=rv (q::r) (u/(p/q)):=by
 have d:Lv (q::r)/\q<p/\q∣p:=by
  cases i with
  |cons a b c=>exact⟨c,a,b⟩
 have j:=d.1.pos;obtain⟨h,l⟩:=Cw j (by omega) d.2.2;have e:=J0 (q:=q) h g (by omega);have f:=(ox d.1 rfl).1 _ e.1 e.2;show(rv (q::r) (u/(p/q))+u%(p/q)*q)%q=_;rw[Int.add_mul_emod_self_right,Int.emod_eq_of_lt f.1 f.2]
theorem Lv.drop:∀{d:qG} (k:Nat),Lv d->k<d.length->Lv (d.drop k):=by
 intro d k h
 induction h generalizing k with
 |one=>intro e;cases k with
  |zero=>exact .one
  |succ k=>simp at e
 |cons a b c f=>intro e;cases k with
  |zero=>exact .cons a b c
  |succ k=>exact f k (by simpa using e)
theorem Lv.take{a:qG}{i:Nat}(h:Lv a.reverse)(b:0<i)(c:i<=a.length):Lv (a.take i).reverse:=by
 rw[List.reverse_take];exact h.drop _ (by rw[List.length_reverse];omega)
theorem Lv.dvd:∀{l:qG},Lv l->∀{q:Int}{r:qG},l=q::r->∀p∈l,p∣q:=by
 intro l h
 induction h with
 |one=>
  rintro q r e p d;cases e;rw[List.mem_singleton.mp d];exact Int.dvd_refl _
 |cons a b c f=>
  rintro q r e p d;cases e;rcases eH.mp d with rfl|d
  ·exact Int.dvd_refl _
  ·exact Int.dvd_trans (f rfl p d) b
theorem Lv.first{a:qG}(h:Lv a.reverse){p:Int}(b:a[0]?=some p):p=1:=by
 have f:0<a.length:=(cb.mp b).1;have c:=h.take (i:=1) (by decide) f;cases a with
 |nil=>cases b
 |cons x g=>
  have e:(List.take 1 (x::g)).reverse=[x]:=rfl;have d:x=p:=by simpa using b
  rw[e,d]at c;cases c;rfl
inductive FF(ls:qG)(top t0:Int):Nat->Int->Int->Int->Prop
 |zero:FF ls top t0 0 0 t0 1
 |succ {i:Nat}{step:Int}{r:qG}:(ls.take i).reverse=step::r->FF ls top t0 i (rv (step::r) (t0/(top/step))) (t0%(top/step)) step
theorem FF.pos{a:qG}{top t0:Int}{i:Nat}{f t s:Int}(h:FF a top t0 i f t s)(b:Lv a.reverse)(l:0<=t0)(n:∃r,a.reverse=top::r):1<=s/\s∣top/\0<=t:=by
 obtain⟨u,c⟩:=n;have o:1<=top:=by rw[c]at b;exact b.pos
 cases h with
 |zero=>exact⟨by decide,Int.one_dvd _,l⟩
 |@succ _ _ r e=>
  have m:s∈a.reverse:=by
   have:s∈(a.take i).reverse:=by rw[e];exact dm
   exact List.mem_reverse.mpr (List.mem_of_mem_take (List.mem_reverse.mp this))
  have q:0<i:=by
   cases i with
   |zero=>simp at e
   |succ i=>omega
  have j:Lv (s::r):=by
   rw[<- e,List.reverse_take];refine b.drop _ ?_
   have:(a.take i).length≠0:=λz=>by
    have:=congrArg List.length e;rw[List.length_reverse,z]at this;simp at this
   rw[List.length_take]at this;rw[List.length_reverse];omega
  have g:=j.pos;have d:=b.dvd c s m;obtain⟨p,_⟩:=Cw g o d;exact⟨g,d,oK _ (by omega)⟩
theorem so{a b c:Int}(d:0<=a)(e:1<=b)(f:1<=c):a%(b*c)/b=a/b%c:=by
 obtain⟨a,rfl⟩:∃n:Nat,a=n:=⟨a.toNat,by omega⟩;obtain⟨b,rfl⟩:∃n:Nat,b=n:=⟨b.toNat,by omega⟩;obtain⟨c,rfl⟩:∃n:Nat,c=n:=⟨c.toNat,by omega⟩;have:=Nat.mod_mul_right_div_self a b c
 exact_mod_cast this
theorem FF.step{d:qG}{top t0:Int}{i:Nat}{f t s p:Int}(h:FF d top t0 i f t s)(g:Lv d.reverse)(w:0<=t0)(y:∃r,d.reverse=top::r)(n:d[i]?=some p):
  1<=top/p/\p∣top/\1<=p/\FF d top t0 (i+1) (f+t/(top/p)*s) (t%(top/p)) p:=by
 have F:=h.pos g w y;obtain⟨L,u⟩:=y;have J:1<=top:=by rw[u]at g;exact g.pos
 have K:=(cb.mp n).1;have H:p∈d.reverse:=List.mem_reverse.mpr (cI n);have x:=g.dvd u p H;have m:=g.take (i:=i+1) (by omega) (by omega)
 have l:(d.take (i+1)).reverse=p::(d.take i).reverse:=by
  rw[List.take_add_one,n];simp
 have q:1<=p:=by rw[l]at m;exact m.pos
 obtain⟨j,o⟩:=Cw q J x;refine⟨j,x,q,?_⟩;cases h with
 |zero=>
  have A:=g.first n;subst A;have:=FF.succ (top:=top) (t0:=t0) l;rw[List.take_zero,List.reverse_nil]at this
  have B:(0:Int)+t0/(top/1)*1=rv [1] (t0/(top/1)):=by
   show _=t0/(top/1);omega
  rw[B];exact this
 |@succ _ _ r e=>
  have:=FF.succ (top:=top) (t0:=t0) l;rw[e]at this;rw[l,e]at m
  have I:s∣p:=by
   cases m with
   |cons a b c=>exact b
  obtain⟨G,E⟩:=Cw F.1 q I
  have v:top/s=top/p*(p/s):=by
   have e:top=s*(top/p*(p/s)):=by
    calc top=p*(top/p):=o
     _=s*(p/s)*(top/p):=by rw[<- E]
     _=s*(top/p*(p/s)):=by rw[Int.mul_assoc,Int.mul_comm (p/s)]
   generalize top/p*(p/s)=z at e⊢;rw[e,Int.mul_ediv_cancel_left _ (by omega)]
  have C:rv (s::r) (t0/(top/s))+t0%(top/s)/(top/p)*s=rv (p::s::r) (t0/(top/p)):=by
   show _=rv (s::r) (t0/(top/p)/(p/s))+t0/(top/p)%(p/s)*s;rw[v,so w j G,Int.ediv_ediv_of_nonneg (by omega)]
  have D:t0%(top/s)%(top/p)=t0%(top/p):=by
   rw[v,Int.emod_emod_of_dvd _ (Int.dvd_mul_right ..)]
  rw[C,D];exact this
theorem FF.last{a:qG}{top t0:Int}{i:Nat}{f t s:Int}(h:FF a top t0 i f t s)(c:i=a.length){r:qG}(b:a.reverse=top::r)(d:1<=top):f=rv (top::r) t0:=by
 cases h with
 |zero=>
  have:a=[]:=List.length_eq_zero_iff.mp (by omega);rw[this]at b;cases b
 |@succ _ _ g e=>
  rw[c,List.take_length,b]at e;cases e;rw[Int.ediv_self (by omega),Int.ediv_one]
def Gi(q:Int)(dn:List (Int×Int)):Int:=(dn.map λx=>q/x.1).sum
structure Iq(dn:List (Int×Int))(q:Int)(r:qG)(t:Int):Prop where
 lv:Lv (q::r)
 sum:t=Gi q dn
 all:∀x∈dn,1<=x.1/\x.1∣q/\0<=x.2/\x.2<x.1/\∀u,t<=u->u<q->rv (q::r) u%x.1≠x.2
 pair:dn.Pairwise λx y=>x.1∣y.1/\y.2%x.1≠x.2
theorem To{q:Int}(a:0<=q):∀{dn:List (Int×Int)},(∀x∈dn,1<=x.1)->0<=Gi q dn
 |[],_=>Int.le_refl 0
 |x::dn,h=>by
  have b:=To a λy c=>h y (d0 _ c);have d:0<=q/x.1:=m8 a (by have:=h x dm;omega);unfold Gi at b⊢;rw[List.map_cons,List.sum_cons];omega
theorem Kx{p q x:Int}(g:1<=x)(h:x∣q)(a:1<=q)(f:1<=p)(d:q∣p):p/x=q/x*(p/q):=by
 obtain⟨_,b⟩:=Cw g a h;obtain⟨_,c⟩:=Cw a f d;have e:p=x*(q/x*(p/q)):=by rw[<- Int.mul_assoc,<- b,<- c]
 generalize q/x*(p/q)=z at e⊢;rw[e,Int.mul_ediv_cancel_left _ (by omega)]
theorem Hn{p q:Int}(e:1<=q)(d:1<=p)(c:q∣p):∀{dn:List (Int×Int)},(∀x∈dn,1<=x.1/\x.1∣q)->Gi p dn=Gi q dn*(p/q)
 |[],_=>by simp[Gi]
 |x::dn,h=>by
  have a:=Hn e d c λy f=>h y (d0 _ f);have b:=h x dm;unfold Gi at a⊢;rw[List.map_cons,List.sum_cons,List.map_cons,List.sum_cons,a,Int.add_mul,Kx b.1 b.2 e d c]
theorem Iq.begin:Iq [] 1 [] 0:=⟨.one,rfl,(λ_ z=>nomatch z),.nil⟩
theorem Iq.same{dn:List (Int×Int)}{q:Int}{r:qG}{t:Int}(h:Iq dn q r t):t*(q/q)=t:=by
 have:=h.lv.pos;rw[Int.ediv_self (by omega),Int.mul_one]
theorem Iq.nn{dn:List (Int×Int)}{q:Int}{r:qG}{t:Int}(h:Iq dn q r t):0<=t:=by
 have:=h.lv.pos;rw[h.sum];exact To (by omega) λx a=>(h.all x a).1
theorem Iq.grow{dn:List (Int×Int)}{p q:Int}{r:qG}{t:Int}(h:Iq dn q r t)(d:q<p)(a:q∣p):Iq dn p (q::r) (t*(p/q)):=by
 have i:=h.lv.pos;have v:=h.nn;obtain⟨s,y⟩:=Cw i (by omega) a;refine⟨.cons d a h.lv,?_,λx b=>?_,h.pair⟩
 ·rw[Hn i (by omega) a λx b=>⟨(h.all x b).1,(h.all x b).2.1⟩,<- h.sum]
 ·obtain⟨j,c,l,m,n⟩:=h.all x b;refine⟨j,Int.dvd_trans c a,l,m,λu g o e=>?_⟩;have f:0<=u:=oD (oI v (by omega)) g;have w:=J0 (q:=q) s f (by omega);refine n (u/(p/q)) (Int.le_ediv_of_mul_le (by omega) g) w.2 ?_;rw[<- wx (.cons d a h.lv) f o,Int.emod_emod_of_dvd _ c];exact e
theorem Iq.put{dn:List (Int×Int)}{q:Int}{r:qG}{t:Int}(h:Iq dn q r t)(d:t<q):Iq (dn++[(q,rv (q::r) t)]) q r (t+1):=by
 have v:=h.lv.pos;have m:=h.nn;obtain⟨o,A⟩:=ox h.lv rfl;have p:=o t m d;refine⟨h.lv,?_,λx f=>?_,?_⟩
 ·have:=h.sum;unfold Gi at this⊢;rw[List.map_append,List.sum_append,<- this];simp only[List.map_cons,List.map_nil,List.sum_cons,List.sum_nil];rw[Int.ediv_self (by omega)];rfl
 ·rcases fF.mp f with z|z
  ·obtain⟨g,b,i,j,c⟩:=h.all x z;exact⟨g,b,i,j,λu s a=>c u (by omega) a⟩
  ·rw[List.mem_singleton.mp z];refine⟨v,Int.dvd_refl _,p.1,p.2,λu s a e=>?_⟩;have n:=o u (by omega) a;have l:rv (q::r) u%q=rv (q::r) t:=e;rw[Int.emod_eq_of_lt n.1 n.2]at l;have:=A u t (by omega) a m d l;omega
 ·refine List.pairwise_append.mpr ⟨h.pair,List.pairwise_singleton ..,λx f y w=>?_⟩;rw[List.mem_singleton.mp w];obtain⟨g,b,i,j,c⟩:=h.all x f;exact⟨b,c t (Int.le_refl _) d⟩
theorem Z0{B:Int}{ps:qG}(g:1<=B)(a:∀p∈ps,1<=p/\p∣B)(e:(ps.map λp=>B/p).sum<=B){i:Nat}{p:Int}(j:ps[i]?=some p){dn:List (Int×Int)}(q:dn.map Prod.fst=ps.take i)(c:∀x∈dn,1<=x.1/\x.1∣p):Gi p dn<p:=by
 have b:=a p (cI j)
 have nn:∀{l:qG},(∀p∈l,1<=p/\p∣B)->0<=(l.map λp=>B/p).sum:=by
  intro l
  induction l with
  |nil=>exact λ_=>Int.le_refl 0
  |cons x l s=>
   intro h;have f:=s λy d=>h y (d0 _ d);have u:0<=B/x:=m8 (by omega) (by have:=h x dm;omega);rw[List.map_cons,List.sum_cons];omega
 have m:ps=ps.take i++p::ps.drop (i+1):=by
  have r:=(cb.mp j);rw[<- r.2,List.getElem_cons_drop,List.take_append_drop]
 have w:=nn (l:=ps.drop (i+1)) λy d=>a y (List.mem_of_mem_drop d);rw[m,List.map_append,List.sum_append,List.map_cons,List.sum_cons,<- q,List.map_map]at e;have n:(dn.map ((λp=>B/p) ∘ Prod.fst)).sum=Gi B dn:=rfl;rw[n,Hn b.1 g b.2 c]at e;obtain⟨v,o⟩:=Cw b.1 g b.2;by_cases z:Gi p dn<p
 ·exact z
 ·have f:p*(B/p)<=Gi p dn*(B/p):=Int.mul_le_mul_of_nonneg_right (by omega) (by omega);rw[<- o]at f;omega
def ze(xs fs:qG):Prop:=fs.length=xs.length/\(∀(i:Nat) (x f:Int),xs[i]?=some x->fs[i]?=some f->0<=f/\f<x)/\
 ∀(i j:Nat) (x y f g:Int),i≠j->xs[i]?=some x->xs[j]?=some y->fs[i]?=some f->fs[j]?=some g->(f-g)%min x y≠0
theorem Rv{x y f g:Int}(l:1<=x)(m:1<=y)(h:x∣y)(b:0<=f)(h1:f<x)(i:g%x≠f):(f-g)%min x y≠0/\(g-f)%min y x≠0:=by
 have j:=my (by omega) h;have c:min x y=x:=by omega
 have e:min y x=x:=by omega
 rw[c,e]
 have k:∀d,f-g=x*d\/g-f=x*d->False:=λd a=>by
  refine i ?_;rcases a with a|a
  ·have:g=f+(-d)*x:=by rw[Int.neg_mul,Int.mul_comm d x];omega
   rw[this,Int.add_mul_emod_self_right,Int.emod_eq_of_lt b h1]
  ·have:g=f+d*x:=by rw[Int.mul_comm d x];omega
   rw[this,Int.add_mul_emod_self_right,Int.emod_eq_of_lt b h1]
 constructor
 ·intro z;obtain⟨d,a⟩:=Int.dvd_of_emod_eq_zero z;exact k d (.inl a)
 ·intro z;obtain⟨d,a⟩:=Int.dvd_of_emod_eq_zero z;exact k d (.inr a)
theorem yu{xs fs:qG}{dn:List (Int×Int)}{ord:List Nat}(F:fs.length=xs.length)(B:ord.Perm (List.range xs.length))(v:ord.length=dn.length)
  (I:∀(k o:Nat) (x:Int×Int),ord[k]?=some o->dn[k]?=some x->xs[o]?=some x.1/\fs[o]?=some x.2)
  (c:∀x∈dn,1<=x.1/\0<=x.2/\x.2<x.1)(u:dn.Pairwise λx y=>x.1∣y.1/\y.2%x.1≠x.2):ze xs fs:=by
 have get:∀(i:Nat) (x f:Int),xs[i]?=some x->fs[i]?=some f->∃k,ord[k]?=some i/\dn[k]?=some (x,f):=λi x f l n=>by
  have E:=(cb.mp l).1;have p:i∈ord:=B.mem_iff.mpr (oM.mpr E);obtain⟨k,h⟩:=gP.mp p;have L:=(cb.mp h).1;have d:dn[k]?=some (dn[k]'(by omega)):=d3 (by omega);obtain⟨r,s⟩:=I k i _ h d;rw[l]at r;rw[n]at s;refine⟨k,h,d.trans ?_⟩;generalize dn[k]'(by omega)=y at r s;obtain⟨J,K⟩:=y;cases r;cases s;rfl
 refine⟨F,λi x f l n=>?_,λi j x y f g C l G n D=>?_⟩
 ·obtain⟨k,_,d⟩:=get i x f l n;exact⟨(c _ (cI d)).2.1,(c _ (cI d)).2.2⟩
 ·obtain⟨k,w,d⟩:=get i x f l n;obtain⟨m,H,p⟩:=get j y g G D;have a:=c _ (cI d);have b:=c _ (cI p)
  have A:k≠m:=λe=>by
   rw[e,H]at w;cases w;exact C rfl
  have h:=(cb.mp d);have q:=(cb.mp p);rw[List.pairwise_iff_getElem]at u;rcases Nat.lt_or_gt_of_ne A with z|z
  ·have:=u k m h.1 q.1 z;rw[h.2,q.2]at this;exact(Rv a.1 b.1 this.1 a.2.1 a.2.2 this.2).1
  ·have:=u m k q.1 h.1 z;rw[h.2,q.2]at this;exact(Rv b.1 a.1 this.1 b.2.1 b.2.2 this.2).2
theorem Oj{xs ys:qG}{ord:List Nat}(h1:ys.Perm xs)(c:ys.Pairwise (·<=·))(d:ord.Perm (List.range xs.length))(f:(ord.map λk=>xs.getD k 0).Pairwise (·<=·)):ord.map (λk=>xs.getD k 0)=ys:=by
 have e:(List.range xs.length).map (λk=>xs.getD k 0)=xs:=by
  refine List.ext_getElem (by simp) λi a b=>?_;have:i<xs.length:=b;simp[List.getElem_map,List.getElem_range,List.getD_eq_getElem?_getD,List.getElem?_eq_getElem this]
 refine List.Perm.eq_of_pairwise (le:=(·<=·)) (λa b _ _ x y=>Int.le_antisymm x y) f c ?_;refine(d.map _).trans ?_;rw[e];exact h1.symm
theorem Ql:∀(xs:qG) (c:Nat),0<c->(∀x∈xs,1<=x)->0<Ye c xs/\c∣Ye c xs/\(∀x∈xs,x.natAbs∣Ye c xs)/\(∀m:Nat,c∣m->(∀x∈xs,x.natAbs∣m)->Ye c xs∣m)
 |[],c,b,_=>⟨b,Nat.dvd_refl _,(λ_ z=>nomatch z),λm h _=>h⟩
 |x::xs,c,b,h=>by
  have p:=h x (dm ..);have o:0<x.natAbs:=by omega
  have n:0<Nat.lcm c x.natAbs:=Nat.lcm_pos b o;obtain⟨g,d,i,j⟩:=Ql xs (Nat.lcm c x.natAbs) n λy a=>h y (d0 _ a);refine⟨g,Nat.dvd_trans (Nat.dvd_lcm_left _ _) d,λy a=>?_,λm l f=>?_⟩
  ·rcases eH.mp a with e|a
   ·rw[e];exact Nat.dvd_trans (Nat.dvd_lcm_right _ _) d
   ·exact i y a
  ·exact j m (Nat.lcm_dvd l (f x (dm ..))) λy a=>f y (d0 _ a)
theorem sj{xs:qG}{B:Int}(f:1<=B)(h:∀x∈xs,1<=x/\x∣B):0<Dv xs/\(∀x∈xs,x∣((Dv xs:Nat):Int))/\((Dv xs:Nat):Int)∣B/\((Dv xs:Nat):Int)<=B:=by
 obtain⟨b,_,c,e⟩:=Ql xs 1 (by decide) λx a=>(h x a).1;have d:((Dv xs:Nat):Int)∣B:=Int.dvd_natAbs.mp (Int.natCast_dvd_natCast.mpr (e _ (Nat.one_dvd _) λx a=>Int.natAbs_dvd_natAbs.mpr (h x a).2));exact⟨b,λx a=>Int.natAbs_dvd.mp (Int.natCast_dvd_natCast.mpr (c x a)),d,my (by omega) d⟩
def Be(xs:qG):Prop:=(Fu ((Dv xs:Nat):Int) xs).sum<=((Dv xs:Nat):Int)
instance (xs:qG):Decidable (Be xs):=inferInstanceAs (Decidable (_<=_))
theorem S8{p q:Int}(e:1<=q)(d:1<=p)(c:q∣p):∀{xs:qG},(∀x∈xs,1<=x/\x∣q)->(Fu p xs).sum=(Fu q xs).sum*(p/q)
 |[],_=>by simp[Fu]
 |x::g,h=>by
  have a:=S8 e d c λy f=>h y (d0 _ f);have b:=h x dm;unfold Fu at a⊢;rw[List.map_cons,List.sum_cons,List.map_cons,List.sum_cons,a,Int.add_mul,Kx b.1 b.2 e d c]
theorem Nv{xs:qG}{B:Int}(b:1<=B)(h:∀x∈xs,1<=x/\x∣B):Be xs↔(Fu B xs).sum<=B:=by
 obtain⟨i,d,a,f⟩:=sj b h;unfold Be;have c:1<=((Dv xs:Nat):Int):=by omega
 generalize((Dv xs:Nat):Int)=L at d a f c⊢;obtain⟨j,g⟩:=Cw c b a;rw[S8 c b a λx e=>⟨(h x e).1,d x e⟩];constructor
 ·intro z;have:=Int.mul_le_mul_of_nonneg_right z (show 0<=B/L by omega);omega
 ·intro z;rw[g,Int.mul_ediv_cancel_left _ (show L≠0 by omega)]at z;exact Int.le_of_mul_le_mul_right z (by omega)
def Gp(xs:qG):Prop:=∀x∈xs,∀y∈xs,x∣y\/y∣x
theorem wj{ys:qG}(h:∀k,k+1<ys.length->ys.getD k 0∣ys.getD (k+1) 0):ys.Pairwise (·∣·):=by
 rw[List.pairwise_iff_getElem];intro i j b c f
 have a:∀d,i+d<ys.length->ys.getD i 0∣ys.getD (i+d) 0:=by
  intro d
  induction d with
  |zero=>exact λ_=>Int.dvd_refl _
  |succ d e=>exact λg=>Int.dvd_trans (e (by omega)) (h (i+d) (by omega))
 have:=a (j-i) (by omega);rw[show i+(j-i)=j by omega,List.getD_eq_getElem?_getD,List.getD_eq_getElem?_getD,List.getElem?_eq_getElem b,List.getElem?_eq_getElem c]at this;exact this
theorem Ry{xs ys:qG}(e:ys.Perm xs)(h:ys.Pairwise (·∣·)):Gp xs:=λx f y g=>by
 obtain⟨i,d⟩:=gP.mp (e.mem_iff.mpr f);obtain⟨j,c⟩:=gP.mp (e.mem_iff.mpr g);have a:=cb.mp d;have b:=cb.mp c;rw[List.pairwise_iff_getElem]at h;rcases Nat.lt_trichotomy i j with z|z|z
 ·have:=h i j a.1 b.1 z;rw[a.2,b.2]at this;exact .inl this
 ·subst z;rw[d]at c;cases c;exact .inl (Int.dvd_refl _)
 ·have:=h j i b.1 a.1 z;rw[a.2,b.2]at this;exact .inr this
theorem Eu{xs ys:qG}(c:ys.Perm xs)(g:ys.Pairwise (·<=·))(h1:∀x∈xs,1<=x)(h:Gp xs):ys.Pairwise (·∣·):=by
 refine g.imp_of_mem λ{a b} d e f=>?_;have j:=h1 b (c.mem_iff.mp e);have i:=h1 a (c.mem_iff.mp d);rcases h a (c.mem_iff.mp d) b (c.mem_iff.mp e)with z|z
 ·exact z
 ·have:=my (by omega) z;rw[show a=b by omega];exact Int.dvd_refl _
theorem Vo:∀{ys:qG},ys.Pairwise (·∣·)->∃B:Int,((ys=[]/\B=1)\/B∈ys)/\∀y∈ys,y∣B
 |[],_=>⟨1,.inl ⟨rfl,rfl⟩,λ_ z=>nomatch z⟩
 |y::l,h=>by
  obtain⟨c,d⟩:=List.pairwise_cons.mp h;obtain⟨B,b,f⟩:=Vo d;rcases b with⟨e,_⟩|b
  ·subst e;refine⟨y,.inr dm,λz a=>?_⟩;rw[List.mem_singleton.mp a];exact Int.dvd_refl _
  ·refine⟨B,.inr (d0 _ b),λz a=>?_⟩;rcases eH.mp a with rfl|a
   ·exact c B b
   ·exact f z a
def om(ys:qG)(i:Nat):List Bool:=(List.range i).map λk=>decide (ys.getD (k+1) 0%ys.getD k 0=0)
theorem br(ys:qG)(i:Nat):om ys (i+1)=om ys i++[decide (ys.getD (i+1) 0%ys.getD i 0=0)]:=by
 unfold om;rw[List.range_succ,List.map_append];rfl
theorem Ur(ys:qG)(i:Nat):(om ys i).length=i:=by
 unfold om;simp
theorem lp{xs ys:qG}(b:ys.Perm xs)(d:ys.Pairwise (·<=·))(h1:∀x∈xs,1<=x):((om ys (ys.length-1)).all id=true)↔Gp xs:=by
 unfold om;rw[List.all_map,List.all_eq_true];constructor
 ·intro h;refine Ry b (wj λk a=>Int.dvd_of_emod_eq_zero ?_);have:=h k (oM.mpr (by omega));simpa using this
 ·intro h k a;have f:=oM.mp a;have c:=Eu b d h1 h;rw[List.pairwise_iff_getElem]at c;have:=c k (k+1) (by omega) (by omega) (by omega)
  have e:ys.getD (k+1) 0%ys.getD k 0=0:=by
   rw[List.getD_eq_getElem?_getD,List.getD_eq_getElem?_getD,List.getElem?_eq_getElem (show k<ys.length by omega),List.getElem?_eq_getElem (show k+1<ys.length by omega)];exact Int.emod_eq_zero_of_dvd this
  simpa using e
theorem A0i{a b:Int}{g:Nat}(d:0<g)(h1:(g:Int)∣a)(c:(g:Int)∣b):a/g<=b/g↔a<=b:=by
 obtain⟨x,rfl⟩:=h1;obtain⟨y,rfl⟩:=c;rw[Int.mul_ediv_cancel_left _ (by omega),Int.mul_ediv_cancel_left _ (by omega)];constructor
 ·intro h;exact ll h (by omega)
 ·intro h;exact Int.le_of_mul_le_mul_left h (by omega)
theorem cq{a b:qG}(h:a.Perm b):a.sum=b.sum:=by
 induction h with
 |nil=>rfl
 |cons x _ e=>rw[List.sum_cons,List.sum_cons,e]
 |swap x y l=>simp only[List.sum_cons];omega
 |trans _ _ c d=>exact c.trans d
theorem Gf{a B:Int}(c:0<=a)(h1:a<=B)(b:B<2^4000):intBits a<=4000:=by
 refine El ?_;obtain⟨n,rfl⟩:∃n:Nat,a=n:=⟨a.toNat,by omega⟩;rw[Int.natAbs_natCast];have e:((2^4000:Nat):Int)=2^4000:=by simp
 rw[<- e]at b;generalize(2:Nat)^4000=Z at b⊢;omega
theorem km{t s:Int}(a:0<=t)(b:0<s):t%s<=t:=by
 rcases Int.lt_or_le t s with z|z
 ·rw[Int.emod_eq_of_lt a z];exact Int.le_refl _
 ·have:=px t b;omega
theorem Wj{q:Int}{r a:qG}(h:a.reverse=q::r):Oa (a.map V.int) (-1)=some (.int q):=by
 have e:a=r.reverse++[q]:=by
  have:=congrArg List.reverse h;rw[List.reverse_reverse,List.reverse_cons]at this;exact this
 subst e;unfold Oa jv;rw[List.length_map,List.length_append,List.length_singleton,if_neg (by decide),if_pos (by omega)];show((r.reverse++[q]).map V.int)[(((r.reverse.length+1:Nat):Int)+-1).toNat]?=_;rw[show(((r.reverse.length+1:Nat):Int)+-1).toNat=r.reverse.length by omega,List.getElem?_map,List.getElem?_concat_length];rfl
theorem An.set{c:Type}{P:c->V->Prop}{d:List c}{vs:List V}(h:An P d vs)(i:Nat){r:c}{v:V}(g:P r v):An P (d.set i r) (vs.set i v):=by
 refine⟨by rw[List.length_set,List.length_set];exact h.1,λj x y a b=>?_⟩;rw[List.getElem?_set]at a b;by_cases z:i=j
 ·rw[if_pos z]at a b;split at a
  ·split at b
   ·cases a;cases b;exact g
   ·cases b
  ·cases a
 ·rw[if_neg z]at a b;exact h.2 j x y a b
theorem kc{t:Int}(h:1<=t):∃k:Nat,((intBits t:Nat):Int)-1=(k:Nat)/\(2:Int)^k<=t/\t<2*2^k:=by
 obtain⟨n,rfl⟩:∃n:Nat,t=n:=⟨t.toNat,by omega⟩;have c:n≠0:=by omega
 have e:intBits ((n:Nat):Int)=n.log2+1:=by
  unfold PySem.Builtin.Int.intBits;rw[if_neg (by simp;omega),Int.natAbs_natCast]
 have a:=Nat.log2_self_le c;have b:=Nat.lt_log2_self (n:=n);refine⟨n.log2,by rw[e];omega,?_,?_⟩
 ·have:((2^n.log2:Nat):Int)<=(n:Int):=Int.ofNat_le.mpr a;simpa using this
 ·have:((n:Nat):Int)<((2^(n.log2+1):Nat):Int):=Int.ofNat_lt.mpr b;rw[Nat.pow_succ]at this;simp at this;omega
theorem Xu{w b t:Int}{p:Int}(h:1<=b)(e:t=w/b)(h1:p<=t)(g:t<2*p):b*p<=w/\w<2*(b*p):=by
 have d:=Int.mul_ediv_add_emod w b;have m:=oK w (show b≠0 by omega);have i:=px w (show 0<b by omega);rw[<- e]at d;have a:b*p<=b*t:=ll h1 (by omega);have c:b*t<=b*(2*p-1):=ll (by omega) (by omega);have f:b*(2*p-1)=2*(b*p)-b:=by grind
 omega
def E7(b x:Int):Int:=b*2^((x/b).toNat.log2)
theorem Ew(k:Nat):(1:Int)<=2^k:=Int.pow_pos (by decide)
theorem Km{i j:Nat}(h:(2:Int)^i<2^j):i<j:=by
 rcases i3 i j with z|z
 ·exact z
 ·have c:=Nat.pow_le_pow_right (show 0<2 by decide) z;have a:((2^i:Nat):Int)=2^i:=by simp
  have b:((2^j:Nat):Int)=2^j:=by simp
  omega
theorem F3{b x y:Int}(a:1<=b)(h:b*x<b*y):x<y:=Int.lt_of_mul_lt_mul_left h (by omega)
theorem Zx{b x:Int}(g:1<=b){i j:Nat}(h1:b*2^i<=x)(d:x<2*(b*2^i))(h:b*2^j<=x)(f:x<2*(b*2^j)):i=j:=by
 have e:∀k:Nat,2*(b*2^k)=b*2^(k+1):=λk=>by rw[Int.pow_succ,<- Int.mul_assoc b,Int.mul_comm 2]
 rw[e]at d f;have a:=Km (F3 g (l7 h1 f));have c:=Km (F3 g (l7 h d));omega
theorem Gu{b x:Int}(o:1<=b)(q:b<=x):E7 b x<=x/\x<2*E7 b x:=by
 unfold E7;have m:1<=x/b:=(Int.le_ediv_iff_mul_le (by omega)).mpr (by omega);obtain⟨n,a⟩:∃n:Nat,x/b=n:=⟨(x/b).toNat,by omega⟩;rw[a,Int.toNat_natCast];have e:n≠0:=by omega
 have r:=Nat.log2_self_le e;have s:=Nat.lt_log2_self (n:=n);have d:((2^n.log2:Nat):Int)=2^n.log2:=by simp
 have l:(2:Nat)^(n.log2+1)=2^n.log2*2:=Nat.pow_succ ..;generalize(2:Int)^n.log2=p at d⊢;have c:=Int.mul_ediv_add_emod x b;have i:=oK x (show b≠0 by omega);have j:=px x (show 0<b by omega);rw[a]at c;have g:p<=(n:Int):=by omega
 have h:(n:Int)+1<=p*2:=by omega
 have m1:=ll g (show 0<=b by omega);have f:=ll h (show 0<=b by omega);rw[Int.mul_add,Int.mul_one,<- Int.mul_assoc]at f;omega
theorem Zv{b x:Int}(d:1<=b){k:Nat}(h1:b*2^k<=x)(e:x<2*(b*2^k)):b*2^k=E7 b x:=by
 have f:b<=x:=by
  have:=ll (Ew k) (show 0<=b by omega);omega
 obtain⟨a,c⟩:=Gu d f;unfold E7 at a c⊢;rw[Zx d h1 e a c]
theorem Qg{b x:Int}(a:1<=b):b<=E7 b x:=by
 unfold E7;have:=ll (Ew ((x/b).toNat.log2)) (show 0<=b by omega);omega
theorem Xv{b x:Int}(d:1<=b)(h:2*b<=x):E7 (2*b) x=E7 b x:=by
 obtain⟨a,c⟩:=Gu (b:=2*b) (x:=x) (by omega) h
 have e:E7 (2*b) x=b*2^((x/(2*b)).toNat.log2+1):=by
  unfold E7;rw[Int.pow_succ,<- Int.mul_assoc,Int.mul_comm 2 b,Int.mul_assoc,Int.mul_assoc,Int.mul_comm 2]
 rw[e]at a c⊢;exact Zv d a c
theorem Yz{xs ys:qG}(f:ys.length=xs.length)(h1:∀x∈xs,1<=x)(d:∀(i:Nat) (x y:Int),xs[i]?=some x->ys[i]?=some y->x<=y)(j:Be xs):Be ys:=by
 have g:∀y∈ys,1<=y:=λy A=>by
  obtain⟨i,o⟩:=gP.mp A;have b:xs[i]?=some (xs[i]'(by rw[<- f];exact(cb.mp o).1)):=d3 _;have:=d i _ _ b o;have:=h1 _ (cI b);omega
 obtain⟨m,p,n,q⟩:=Ql (xs++ys) 1 (by decide) λx b=>(fF.mp b).elim (h1 x) (g x);have e:∀x∈xs++ys,x∣((Dv (xs++ys):Nat):Int):=λx b=>Int.natAbs_dvd.mp (Int.natCast_dvd_natCast.mpr (n x b))
 have h:1<=((Dv (xs++ys):Nat):Int):=by
  have:0<Dv (xs++ys):=m;omega
 generalize((Dv (xs++ys):Nat):Int)=B at e h;rw[Nv h λx b=>⟨h1 x b,e x (List.mem_append_left _ b)⟩]at j;rw[Nv h λx b=>⟨g x b,e x (List.mem_append_right _ b)⟩];refine oD ?_ j;clear j e m p n q
 induction ys generalizing xs with
 |nil=>
  rw[List.length_eq_zero_iff.mp f.symm];exact Int.le_refl _
 |cons y ys C=>
  cases xs with
  |nil=>cases f
  |cons x xs=>
   have u:=C (xs:=xs) (by simpa using f) (λz l=>h1 z (d0 _ l)) (λi a c r s=>d (i+1) a c (by simpa using r) (by simpa using s)) (λz l=>g z (d0 _ l));have v:=d 0 x y rfl rfl;have D:=h1 x dm
   have E:B/y<=B/x:=by
    refine(Int.le_ediv_iff_mul_le (by omega)).mpr ?_;have w:0<=B/y:=m8 (by omega) (by omega);have m1:=ll v w;have F:=Int.ediv_mul_le B (show y≠0 by omega);omega
   unfold Fu at u⊢;rw[List.map_cons,List.sum_cons,List.map_cons,List.sum_cons];omega
def Ty(w m r:Int):Prop:=1<=r/\r<=m/\∃j:Nat,r=w/2^j/\∀i,i<j->m<w/2^i
theorem P8{w:Int}{j:Nat}(a:0<=w):w/2^(j+1)=w/2^j/2:=by
 rw[Int.pow_succ,Int.ediv_ediv_of_nonneg (Int.le_trans (by decide) (Ew j))]
theorem Y5{w:Int}(a:0<=w){i j:Nat}(h:i<j):2*(w/2^j)<=w/2^i:=by
 induction j with
 |zero=>exact absurd h (nU _)
 |succ j b=>
  rw[P8 a];have c:0<=w/2^j:=m8 a (oD (by decide) (Ew j));rcases i3 i j with z|z
  ·have:=b z;omega
  ·rw[show i=j by omega];omega
theorem Zw{b c x:Int}(r:1<=b)(d:b<=c){k:Nat}(j:E7 b x=b*2^k)(i:c*2^k<=x):E7 b x<=E7 c x:=by
 have h:1<=c:=by omega
 have f:c<=x:=by
  have:=ll (Ew k) (show 0<=c by omega);omega
 obtain⟨g,a⟩:=Gu h f;have m:b*2^k<=c*2^k:=Int.mul_le_mul_of_nonneg_right d (by have:=Ew k;omega);rw[j];refine oD m ?_;unfold E7 at g a⊢;generalize(x/c).toNat.log2=l at g a⊢;have e:2*(c*2^l)=c*2^(l+1):=by rw[Int.pow_succ,<- Int.mul_assoc c,Int.mul_comm 2]
 rw[e]at a;have s:=Km (F3 h (l7 i a))
 have n:(2:Int)^k<=2^l:=by
  have q:=Nat.pow_le_pow_right (show 0<2 by decide) (show k<=l by omega);have o:((2^k:Nat):Int)=2^k:=by simp
  have p:((2^l:Nat):Int)=2^l:=by simp
  omega
 exact ll n (by omega)
theorem bq(f:Int->Int):∀{xs:qG},xs≠[]->∃w∈xs,∀x∈xs,f w<=f x
 |[x],_=>⟨x,dm,λy c=>by rw[List.mem_singleton.mp c];exact Int.le_refl _⟩
 |x::y::l,_=>by
  obtain⟨w,b,h⟩:=bq f (xs:=y::l) (by simp);rcases Int.le_total (f x) (f w)with z|z
  ·exact⟨x,dm,λu a=>(eH.mp a).elim (λe=>by rw[e];exact Int.le_refl _) λa=>oD z (h u a)⟩
  ·exact⟨w,d0 _ b,λu a=>(eH.mp a).elim (λe=>by rw[e];exact z) λa=>h u a⟩
theorem W5{xs:qG}{m:Int}(a:∀x∈xs,m<=x):∀(n:Nat) (b:Int),m.toNat-b.toNat<=n->1<=b->b<=m->∃c,b<=c/\c<=m/\m<2*c/\xs.map (E7 c)=xs.map (E7 b)
 |n,b,l,h,d=>by
  rcases Int.lt_or_le m (2*b)with z|z
  ·exact⟨b,Int.le_refl _,d,z,rfl⟩
  ·cases n with
   |zero=>exact⟨b,Int.le_refl _,d,by omega,rfl⟩
   |succ n=>
    obtain⟨c,j,e,f,g⟩:=W5 a n (2*b) (by omega) (by omega) z;refine⟨c,by omega,e,f,g.trans (List.map_congr_left λx i=>Xv h ?_)⟩;have:=a x i;omega
theorem Oo{xs:qG}{m b:Int}(h:m∈xs)(o:∀x∈xs,m<=x)(I:1<=b)(M:b<=m)(C:Be (xs.map (E7 b))):∃w∈xs,∀r,Ty w m r->b<=r/\Be (xs.map (E7 r)):=by
 obtain⟨c,N,O,P,G⟩:=W5 o _ b (dr _) I M;rw[<- G]at C;have s:1<=c:=by omega
 obtain⟨w,g,a⟩:=bq (λx=>x/2^((x/c).toNat.log2)) (xs:=xs) (λe=>by rw[e]at h;cases h)
 have B:∀x∈xs,c<=x/2^((x/c).toNat.log2)/\x/2^((x/c).toNat.log2)<2*c:=λx d=>by
  obtain⟨u,v⟩:=Gu s (show c<=x by have:=o x d;omega);unfold E7 at u v;have S:=Ew ((x/c).toNat.log2);refine⟨(Int.le_ediv_iff_mul_le (by omega)).mpr u,Int.ediv_lt_of_lt_mul (by omega) (by rw[Int.mul_assoc];exact v)⟩
 have p:m/2^((m/c).toNat.log2)<=m:=Int.ediv_le_self _ (by omega);have L:w/2^((w/c).toNat.log2)<=m:=oD (a m h) p;refine⟨w,g,λr ⟨R,K,j,H,J⟩=>?_⟩;have F:0<=w:=by have:=o w g;omega
 have n:j=(w/c).toNat.log2:=by
  rcases Nat.lt_trichotomy j ((w/c).toNat.log2)with z|z|z
  ·have l:=Y5 F z;have Q:=(B w g).1;omega
  ·exact z
  ·have:=J _ z;omega
 have A:r=w/2^((w/c).toNat.log2):=by rw[H,n]
 have E:c<=r:=by rw[A];exact(B w g).1
 refine⟨by omega,Yz (xs:=xs.map (E7 c)) (by rw[List.length_map,List.length_map]) (λy f=>?_) (λi x y d f=>?_) C⟩
 ·obtain⟨x,d,rfl⟩:=fx.mp f;have:=Qg (x:=x) s;omega
 ·rw[List.getElem?_map]at d f;obtain⟨z,D,rfl⟩:=dI.mp d;rw[D]at f;cases f;have q:=cI D;refine Zw s E (k:=(z/c).toNat.log2) rfl ?_;have l:=a z q;rw[<- A]at l;exact(Int.le_ediv_iff_mul_le (by have:=Ew ((z/c).toNat.log2);omega)).mp l
def Ip(xs:qG):qH->Prop
 |none=>∀b,1<=b->(∀x∈xs,b<=x)->¬Be (xs.map (E7 b))
 |some b=>1<=b/\(∀x∈xs,b<=x)/\Be (xs.map (E7 b))/\∀c,b<c->(∀x∈xs,c<=x)->¬Be (xs.map (E7 c))
theorem Xg{xs ys:qG}{m:Int}(d:m∈xs)(f:∀x∈xs,m<=x)(j:∀w∈xs,∃r∈ys,Ty w m r)(l:∀y∈ys,¬Be (xs.map (E7 y))):Ip xs none:=λb e n g=>by
 obtain⟨w,i,h⟩:=Oo d f e (n m d) g;obtain⟨r,c,a⟩:=j w i;exact l r c (h r a).2
theorem Xh{xs ys:qG}{m b:Int}(g:m∈xs)(i:∀x∈xs,m<=x)(q:∀w∈xs,∃r∈ys,Ty w m r)(h1:1<=b)(s:b<=m)(n:Be (xs.map (E7 b)))(j:∀y∈ys,Be (xs.map (E7 y))->y<=b):Ip xs (some b):=by
 refine⟨h1,λx p=>oD s (i x p),n,λc v a d=>?_⟩;obtain⟨w,o,h⟩:=Oo g i (by omega) (a m g) d;obtain⟨r,f,e⟩:=q w o;have l:=h r e;have u:=j r f l.2;omega
theorem Vv{xs ys:qG}{b:Int}(g:1<=b)(j:ys.length=xs.length)(h:∀(i:Nat) (x y:Int),xs[i]?=some x->ys[i]?=some y->∃k:Nat,y=b*2^k/\b*2^k<=x/\x<2*(b*2^k)):ys=xs.map (E7 b):=by
 refine List.ext_getElem? λi=>?_;rw[List.getElem?_map];rcases i3 i xs.length with z|z
 ·have a:xs[i]?=some (xs[i]'z):=d3 z;have c:ys[i]?=some (ys[i]'(by omega)):=d3 (by omega);obtain⟨k,e,d,f⟩:=h i _ _ a c;rw[a,c,e,Zv g d f];rfl
 ·rw[List.getElem?_eq_none z,List.getElem?_eq_none (by omega)];rfl
theorem ke{b x y:Int}:E7 b x∣E7 b y\/E7 b y∣E7 b x:=by
 unfold E7
 have a:∀{i j:Nat},i<=j->b*2^i∣b*2^j:=λ{i j} h=>by
  refine Int.mul_dvd_mul_left b ⟨2^(j-i),?_⟩;rw[<- Int.pow_add,show i+(j-i)=j by omega]
 rcases Nat.le_total ((x/b).toNat.log2) ((y/b).toNat.log2)with z|z
 ·exact .inl (a z)
 ·exact .inr (a z)
theorem Kb(b:Int)(xs:qG):Gp (xs.map (E7 b)):=λu a v c=>by
 obtain⟨x,_,rfl⟩:=fx.mp a;obtain⟨y,_,rfl⟩:=fx.mp c;exact ke
theorem Xo{xs:qG}(h1:∀x∈xs,1<=x)(j:Gp xs):∃B:Int,(B=1\/B∈xs)/\1<=B/\∀x∈xs,1<=x/\x∣B:=by
 obtain⟨g,e,l⟩:∃g:qG,g.Perm xs/\g.Pairwise (·<=·):=⟨xs.mergeSort (λa b=>decide (a<=b)),List.mergeSort_perm ..,by
  have:=List.pairwise_mergeSort (le:=λ(a b:Int)=>decide (a<=b)) (λa b c h1 d=>by simp at h1 d⊢;omega) (λa b=>by simp;omega) xs;exact this.imp λh=>by simpa using h⟩
 obtain⟨B,d,i⟩:=Vo (Eu e l h1 j);rcases d with⟨_,rfl⟩|d
 ·exact⟨1,.inl rfl,by decide,λx f=>⟨h1 x f,i x (e.mem_iff.mpr f)⟩⟩
 ·exact⟨B,.inr (e.mem_iff.mp d),h1 B (e.mem_iff.mp d),λx f=>⟨h1 x f,i x (e.mem_iff.mpr f)⟩⟩
theorem kf{xs:qG}{b:Int}(g:1<=b)(i:∀x∈xs,b<=x/\x<2^400):∃B:Int,1<=B/\B<2^4000/\∀y∈xs.map (E7 b),1<=y/\y∣B:=by
 have d:∀y∈xs.map (E7 b),1<=y/\y<2^400:=λy c=>by
  obtain⟨x,h,rfl⟩:=fx.mp c;have a:=Qg (x:=x) g;have e:=(Gu g (i x h).1).1;have f:=(i x h).2;exact⟨by omega,by omega⟩
 obtain⟨B,a,e,f⟩:=Xo (λy c=>(d y c).1) (Kb b xs);refine⟨B,e,?_,f⟩;have k:(2:Int)^400<2^4000:=by decide+kernel
 rcases a with rfl|a
 ·exact l7 (by decide) k
 ·exact Int.lt_trans (d B a).2 k
def WF(p a:Int):Prop:=1<=p/\p<2^600/\0<=a/\a<p
theorem Op{xs:qG}:∀{r a:qH},Ip xs r->Ip xs a->r=a
 |none,none,_,_=>rfl
 |none,some b,h,g=>absurd g.2.2.1 (h b g.1 g.2.1)
 |some b,none,h,g=>absurd h.2.2.1 (g b h.1 h.2.1)
 |some b,some c,h,g=>by
  rcases Int.lt_trichotomy b c with z|z|z
  ·exact absurd g.2.2.1 (h.2.2.2 c z g.2.1)
  ·rw[z]
  ·exact absurd h.2.2.1 (g.2.2.2 b z h.2.1)
theorem Z2{ys fs:qG}(h1:∀y∈ys,1<=y)(o:Gp ys)(r:ze ys fs){i j:Nat}{y z f g t:Int}(d:ys[i]?=some y)(hz:ys[j]?=some z)(p:fs[i]?=some f)(q:fs[j]?=some g)(s:t%y=f)(u:t%z=g):i=j:=by
 by_cases e:i=j
 ·exact e
 ·have n:=r.2.2 i j y z f g e d hz p q;have v:=h1 y (cI d);have x:=h1 z (cI hz);have h:y∣t-f:=⟨t/y,by have:=Int.mul_ediv_add_emod t y;omega⟩;have l:z∣t-g:=⟨t/z,by have:=Int.mul_ediv_add_emod t z;omega⟩;refine absurd (Int.emod_eq_zero_of_dvd ?_) n
  have c:∀m:Int,m∣t-f->m∣t-g->m∣f-g:=λm a b=>by
   have:=Int.dvd_sub b a;rw[show t-g-(t-f)=f-g by omega]at this;exact this
  rcases o y (cI d) z (cI hz)with w|w
  ·have:=my (by omega) w;rw[show min y z=y by omega];exact c y h (Int.dvd_trans w l)
  ·have:=my (by omega) w;rw[show min y z=z by omega];exact c z (Int.dvd_trans w h) l
theorem Uz(h s t w v:V):Gj "wheel" v (B7 h s t w)=B7 h s t v:=rfl
def B1(r:Int×Int):Str:=Bh r.1++Str.ofString "+"++Bh r.2
def Ik(b:Int)(a:List (Int×Int)):Str:=Txt.join " " ((Str.ofString "base "++Bh b)::a.map B1)
theorem Kl{r:Int×Int}(h1:0<=r.1/\r.1<10^100)(a:0<=r.2/\r.2<10^100):(B1 r).length<=201:=by
 have b:=(Cy h1.1 h1.2).len;have c:=(Cy a.1 a.2).len;unfold B1;rw[E2,E2,show(Str.ofString "+").length=1 from rfl];omega
def og(H b:Hp):Prop:=∀a o,H a=some o->(∀c,o≠ .lst c)->b a=some o
theorem og.put{H:Hp}{ss:Addr}{xs a:List V}(e:H ss=some (.lst xs)):og H (upd H ss (.lst a)):=λ_ _ h n=>(A9 (Bf h e (n _))).trans h
theorem Bc.GN{H b:Hp}{a:Addr}{ws:qG}{c:qH}(s:og H b)(h:Bc H a ws c):Bc b a ws c:=by
 obtain⟨t,d,e⟩:=h;exact⟨t,s _ _ d (λ_=>HO.noConfusion),s _ _ e (λ_=>HO.noConfusion)⟩
theorem Dh.GN{H b:Hp}{a:Addr}{c:qG}{q:Int}(s:og H b)(h:Dh H a c q):Dh b a c q:=by
 obtain⟨t,d,e⟩:=h;exact⟨t,s _ _ d (λ_=>HO.noConfusion),s _ _ e (λ_=>HO.noConfusion)⟩
theorem Bp.GN{C:Addr}{H c:Hp}{x e:Addr}{ws:qG}{d:qH}{f:qG}{q:Int}{g:pR}{w:V}(s:og H c)(h:Bp C H x e ws d f q g w):Bp C c x e ws d f q g w:=by
 obtain⟨a,b,i,j,l,m,n⟩:=h;exact⟨a,b,i,s _ _ j (λ_=>HO.noConfusion),l.GN s,m.GN s,s _ _ n (λ_=>HO.noConfusion)⟩
theorem at4{a b c d:Int}{i:Int}(e:0<=i)(h1:i<4):∃v,Oa [V.int a,.int b,.int c,.int d] i=some (.int v)/\(v=a\/v=b\/v=c\/v=d):=by
 have:i=0\/i=1\/i=2\/i=3:=by omega
 rcases this with rfl|rfl|rfl|rfl
 ·exact⟨a,rfl,.inl rfl⟩
 ·exact⟨b,rfl,.inr (.inl rfl)⟩
 ·exact⟨c,rfl,.inr (.inr (.inl rfl))⟩
 ·exact⟨d,rfl,.inr (.inr (.inr rfl))⟩
theorem gz(xs:qG)(j:Nat)(v:Int):(xs.map V.int).set j (.int v)=(xs.set j v).map V.int:=by rw[List.map_set]
theorem ms:Str.ofString "+"=⟨#[43]⟩:=by decide
theorem Sr{n:Int}(h:0<=n/\n<10^100):43∉(Bh n).cps.toList:=λz=>by
 have:=(Cy h.1 h.2).sgn 43 z;omega
theorem Sx{r:Int×Int}(h1:0<=r.1/\r.1<10^100)(a:0<=r.2/\r.2<10^100):Txt.split (B1 r) (Str.ofString "+")=[Bh r.1,Bh r.2]:=by
 unfold B1;rw[ms];exact Z3 (Sr h1) (Sr a)
theorem sk{a b:Int}:(if b<a then b else a)=min a b:=by split<;>omega
abbrev oh(Q:VK):VK:=λv b=>∃s,v=.str s/\∀(p:Addr) (a:Hp),b p=none->A8 b a->a p=some (.lst [.str "told",.str s])->Q (.ref p) a
abbrev Zk(e c d:Addr)(Q:VK):XK:=λcls _ b=>∃(C:Addr) (k:Int),cls=.ref C/\((e=C/\k=1)\/(c=C/\k=2)\/(d=C/\k=4))/\∀(p:Addr) (a:Hp),b p=none->A8 b a->a p=some (.lst [.str "refused",.int k])->Q (.ref p) a
theorem Ct.free{x:Addr}{H a:Hp}{o:HO}(s:Ct x H a)(b:a x=some o){k:Addr}(h:a k=none):H k=none:=by
 cases e:H k with
 |none=>rfl
 |some u=>
  have n:k≠x:=λz=>by rw[z,b]at h;cases h
  rw[s k u n e]at h;cases h
def Zi(a:List (Int×Int)):Prop:=a≠[]/\a.length<=63/\(∀r∈a,WF r.1 r.2/\r.1<=2^200)/\∀(i j:Nat) (r b:Int×Int) (t:Int),a[i]?=some r->a[j]?=some b->t%r.1=r.2->t%b.1=b.2->i=j
theorem Z1{xs:qG}(b:∀n∈xs,0<=n/\n<10^100)(a:1<=xs.length)(h1:xs.length<=300):E6 (Str.ofString "wheel "++Jf xs) (Str.ofString "wheel") xs none:=by
 have g:=Jg b h1
 have e:(xs.map Bh).map (λx:Str=>x.cps.toList)≠[]:=by
  intro z;rw[List.map_eq_nil_iff,List.map_eq_nil_iff]at z;rw[z]at a;cases a
 have d:(Str.ofString "wheel ").cps.toList=(Str.ofString "wheel").cps.toList++[32]:=by decide
 refine R7 ?_ (by decide) ?_ b (λc f=>by cases f) (Vn (by decide) (by decide) (by decide) (by omega)) h1 (by decide+kernel)
 ·rw[Fa,lw,d,show xs.map Bh++Dw none=xs.map Bh from List.append_nil _,List.map_cons,rq e];simp
 ·rw[E2];exact ea (la g _) (by decide)
theorem Z7{b:Int}{a:List (Int×Int)}(e:0<=b/\b<10^100)(i:a.length<=63)(f:∀r∈a,(0<=r.1/\r.1<10^100)/\(0<=r.2/\r.2<10^100)):(Ik b a).length<=100000:=by
 unfold Ik;rw[show Txt.join (Str.ofString " ") ((Str.ofString "base "++Bh b)::a.map B1)=Str.join (Str.ofString " ") ((Str.ofString "base "++Bh b)::a.map B1)from StrLaws.glued_eq_join _ _];have g:=StrLaws.join_length_le (Str.ofString " ") ((Str.ofString "base "++Bh b)::a.map B1)
 have h:=sumLen_le_of_bound (λz:Str=>z) 300 ((Str.ofString "base "++Bh b)::a.map B1) (λz c=>by
  rcases eH.mp c with rfl|c
  ·rw[E2];exact ea (la (Cy e.1 e.2).len _) (by decide)
  ·obtain⟨r,d,rfl⟩:=fx.mp c;exact ea (Kl (f r d).1 (f r d).2) (by decide))
 rw[List.map_id',List.length_cons,List.length_map]at h;rw[List.length_cons,List.length_map,show(Str.ofString " ").length=1 from rfl]at g;omega
theorem Sw(r:Int×Int):(B1 r).cps.toList=(Bh r.1).cps.toList++43::(Bh r.2).cps.toList:=by
 unfold B1;rw[Fa,Fa,show(Str.ofString "+").cps.toList=[43]by decide];simp
theorem Tt{b:Int}{a:List (Int×Int)}(g:0<=b/\b<10^100)(e:∀r∈a,(0<=r.1/\r.1<10^100)/\(0<=r.2/\r.2<10^100)):Txt.split (Ik b a) (Str.ofString " ")=Str.ofString "base"::Bh b::a.map B1:=by
 refine L8 (by simp) (λw c=>?_) ?_
 ·rcases eH.mp c with rfl|c
  ·decide
  rcases eH.mp c with rfl|c
  ·exact(Cy g.1 g.2).TY
  ·obtain⟨r,d,rfl⟩:=fx.mp c;rw[Sw];intro z;rcases fF.mp z with z|z
   ·exact(Cy (e r d).1.1 (e r d).1.2).TY z
   ·rcases eH.mp z with z|z
    ·cases z
    ·exact(Cy (e r d).2.1 (e r d).2.2).TY z
 ·unfold Ik;rw[show Txt.join (Str.ofString " ") ((Str.ofString "base "++Bh b)::a.map B1)=Str.join (Str.ofString " ") ((Str.ofString "base "++Bh b)::a.map B1)from StrLaws.glued_eq_join _ _,M0]
  have f:(Str.ofString "base "++Bh b).cps.toList=(Str.ofString "base").cps.toList++32::(Bh b).cps.toList:=by
   rw[Fa,show(Str.ofString "base ").cps.toList=(Str.ofString "base").cps.toList++[32]by decide];simp
  cases a with
  |nil=>
   show(Str.ofString "base "++Bh b).cps.toList=(Str.ofString "base").cps.toList++32::(Bh b).cps.toList;exact f
  |cons r a=>
   show(Str.ofString "base "++Bh b).cps.toList++32::jn (((r::a).map B1).map λx=>x.cps.toList)=(Str.ofString "base").cps.toList++32::((Bh b).cps.toList++32::jn (((r::a).map B1).map λx=>x.cps.toList));rw[f,List.append_assoc];rfl
theorem at1{u v:V}{xs:List V}:Oa (u::v::xs) 1=some v:=Ek (show(u::v::xs)[1]?=some v from rfl)
theorem kd(a b:Str)(ws:List Str):F0 (a::b::ws) (some 2) none=ws:=by
 unfold F0;rw[HT.fZ,show HT.iB (a::b::ws).length 0 (some 2)=min 2 (a::b::ws).length from HT.pA _ 0 2,List.length_cons,List.length_cons,show min 2 (ws.length+1+1)=2 by omega];simp
theorem Qz:(2:Int)^200<10^100:=by decide+kernel
theorem cu:(2:Int)^200<2^400:=by decide+kernel
theorem l0{t f p:Int}(a:0<=f)(h1:f<p)(c:0<=t):(f<=t/\(t-f)%p=0)↔t%p=f:=by
 have e:(t-f)%p=0↔t%p=f%p:=(Int.emod_eq_emod_iff_emod_sub_eq_zero (m:=t) (n:=p) (k:=f)).symm;rw[e,Int.emod_eq_of_lt a h1];constructor
 ·exact λz=>z.2
 ·intro z;refine⟨?_,z⟩;have d:=Int.mul_ediv_add_emod t p;have b:0<=t/p:=m8 c (by omega);have g:=oI (show 0<=p by omega) b;omega
theorem D2{H:Hp}{p:Addr}{s:Str}(h:H p=some (.lst [.str "told",.str s]))(a:PyData.strOk s=true):Rp H (.list [.str (Str.ofString "told"),.str s]) (.ref p):=by
 unfold Rp;refine⟨p,_,rfl,h,?_⟩;unfold aL;refine⟨_,_,rfl,by unfold Rp;exact⟨rfl,by decide+kernel⟩,?_⟩;unfold aL;refine⟨_,_,rfl,by unfold Rp;exact⟨rfl,a⟩,?_⟩;unfold aL;rfl
theorem Jn{H:Hp}{p:Addr}{k:Int}(h:H p=some (.lst [.str "refused",.int k])):Rp H (.list [.str (Str.ofString "refused"),.int k]) (.ref p):=by
 unfold Rp;refine⟨p,_,rfl,h,?_⟩;unfold aL;refine⟨_,_,rfl,by unfold Rp;exact⟨rfl,by decide+kernel⟩,?_⟩;unfold aL;refine⟨_,_,rfl,by unfold Rp;rfl,?_⟩;unfold aL;rfl
theorem J1{s:Str}:PyData.eqv (.list [.str (Str.ofString "told"),.str s]) (.list [.str (Str.ofString "told"),.str s])=true:=by
 simp[PyData.eqv,PyData.eqvAll]
theorem Sc{k:Int}:PyData.eqv (.list [.str (Str.ofString "refused"),.int k]) (.list [.str (Str.ofString "refused"),.int k])=true:=by
 simp[PyData.eqv,PyData.eqvAll]
def W4(H:Hp)(c:Addr)(d w:V):Prop:=(d=.bN/\w=.bN)\/∃(k p:Addr) (e b:List V) (a:List (Int×Int)),d=.ref k/\w=.ref p/\k≠c/\p≠c/\H p=some (.lst e)/\An (Gq H) a e/\H k=some (.lst b)/\An (Gq H) a b/\Zi a
theorem cw:(2:Int)^200*10^30+2^200+3<10^100:=by decide+kernel
theorem d9{n:Int}(a:0<=n/\n<10^100):E6 (Str.ofString "turn "++Bh n) (Str.ofString "turn") [n] none:=nj a (by decide) (by decide) (by decide) (by decide) (by decide+kernel)
theorem X5{ws:qG}{g:qH}{d:pR}(h:Fs ws g d)(S:List (qG×Int))(r:∀k∈S,∃a,a<ws.length/\∃j∈S,Bg ws k.1 g k.2 a=[some j]):∀k∈S,Av d k=none:=by
 have o:∀(n:Nat) (k:qG×Int) (m:Int),k∈S->Av d k=some (.int m)->m.toNat<=n->False:=by
  intro n
  induction n with
  |zero=>
   intro k m _ c s;obtain⟨m0,e,p,_⟩:=h.1 _ _ c;cases e;omega
  |succ n w=>
   intro k m f c s;obtain⟨m0,e,p,_,q⟩:=h.1 _ _ c;cases e;obtain⟨a,u,j,y,i⟩:=r k f;rcases q.1 a u with z|⟨b,x,l,A,B⟩
   ·rw[i]at z;exact nomatch k8.mp z
   ·rw[i]at l;have e:=en (k8.mp l);subst e;exact w b x y A (by omega)
 intro k f;cases c:Av d k with
 |none=>rfl
 |some v=>
  obtain⟨m,rfl,_⟩:=h.1 _ _ c;exact(o _ k m f c (dr _)).elim
theorem V5{b:pR}(h:Fs [3,2] none b):Av b ([3,2],0)=none/\Av b ([3,1],0)=none/\Av b ([2,2],0)=none:=by
 have a:=X5 h [([3,2],0),([3,1],0),([2,2],0)] (λk c=>by
  simp only[List.mem_cons,List.not_mem_nil,or_false]at c;rcases c with rfl|rfl|rfl
  ·exact⟨0,by decide,([3,1],0),by decide,by decide⟩
  ·exact⟨1,by decide,([2,2],0),by decide,by decide⟩
  ·exact⟨0,by decide,([3,1],0),by decide,by decide⟩)
 exact⟨a _ (by decide),a _ (by decide),a _ (by decide)⟩
theorem xk{b:pR}(h:Fs [2,3] none b):Av b ([2,3],0)=none:=by
 refine X5 h [([2,3],0),([2,2],0),([1,3],0)] (λk a=>?_) _ (by decide);simp only[List.mem_cons,List.not_mem_nil,or_false]at a;rcases a with rfl|rfl|rfl
 ·exact⟨0,by decide,([2,2],0),by decide,by decide⟩
 ·exact⟨1,by decide,([1,3],0),by decide,by decide⟩
 ·exact⟨0,by decide,([2,2],0),by decide,by decide⟩
theorem qk{a:pR}(h:Fs [3,2] none a){j:Nat}(f:M8 (λi=>Ro a [3,2] [3,2] none 0 i) 2 j):j=0:=by
 obtain⟨l,c,d⟩:=V5 h;obtain⟨g,_,b⟩:=f;by_cases z:j=0
 ·exact z
 ·have e:j=1:=by omega
  subst e;refine absurd ?_ (b 0 (by decide));show Ro a [3,2] [3,2] none 0 0=Ro a [3,2] [3,2] none 0 1;unfold Ro;rw[if_neg (by decide),if_neg (by decide),show Fo [3,2] [3,2] none 0 0 false=some ([3,1],0)by decide,show Fo [3,2] [3,2] none 0 1 false=some ([2,2],0)by decide];show Tp (Av a ([3,1],0))=Tp (Av a ([2,2],0));rw[c,d]
theorem Uf{a b:Int}(h1:1<=a/\a<=50)(e:1<=b/\b<=50):Ir [a,b] none:=by
 refine⟨λw d=>?_,(λc f=>by cases f),(by show 0<2;decide),(by show 2<=8;decide),?_⟩
 ·simp only[List.mem_cons,List.not_mem_nil,or_false]at d;rcases d with rfl|rfl<;>omega
 ·show 1*a*b<=3000;have:=Int.mul_le_mul h1.2 e.2 (by omega) (by decide);rw[Int.one_mul];omega
theorem G9{x a:Str}{ns:qG}(h:x.cps.toList=jn ((a::(ns.map Bh++Dw none)).map λx=>x.cps.toList))(b:32∉a.cps.toList)(l:x.length<=100)(d:∀n∈ns,0<=n/\n<100)(j:Hg a (ns.length:Int)=true)(f:ns.length<=300)(i:PyData.strOk a=true):E6 x a ns none:=
 R7 h b (by omega) (λn g=>by have:=d n g;omega) (λc e=>by cases e) j f i
theorem Ct.new{x:Addr}{H a:Hp}{D:Addr}{o:HO}(s:Ct x H a)(h:H D=none):Ct x H (upd a D o):=λb u n e=>by rw[A9 (Aa e h)];exact s b u n e
def qc(H:Hp)(D:Addr)(d:List V)(v:V):Prop:=∃p,v=.ref p/\p≠D/\H p=some (.lst d)
def X8:List (List V):=[[.str "refused",.int 4],[.str "told",.str "safe"],[.str "told",.str "0"],[.str "told",.str "reached"],[.str "told",.str "reached"],[.str "told",.str "left 3 1 quiet 0"]]
def O1:List rb:=[.list [.str (Str.ofString "refused"),.int 4],.list [.str (Str.ofString "told"),.str (Str.ofString "safe")],.list [.str (Str.ofString "told"),.str (Str.ofString "0")],.list [.str (Str.ofString "told"),.str (Str.ofString "reached")],.list [.str (Str.ofString "told"),.str (Str.ofString "reached")],.list [.str (Str.ofString "told"),.str (Str.ofString "left 3 1 quiet 0")]]
theorem dc{H:Hp}{D:Addr}{ys:List V}(h:H D=some (.lst ys))(all:An (qc H D) X8 ys):Rp H (.list O1) (.ref D):=by
 obtain⟨r,g⟩:=all
 obtain⟨a,b,c,d,e,f,rfl⟩:∃a b c d e f,ys=[a,b,c,d,e,f]:=by
  match ys,r with
  |[a,b,c,d,e,f],_=>exact⟨a,b,c,d,e,f,rfl⟩
 obtain⟨s,rfl,_,l⟩:=g 0 _ a rfl rfl;obtain⟨u,rfl,_,m⟩:=g 1 _ b rfl rfl;obtain⟨w,rfl,_,n⟩:=g 2 _ c rfl rfl;obtain⟨x,rfl,_,o⟩:=g 3 _ d rfl rfl;obtain⟨y,rfl,_,p⟩:=g 4 _ e rfl rfl;obtain⟨z,rfl,_,q⟩:=g 5 _ f rfl rfl;have cons:∀{d i v j},Rp H d v->aL H i j->aL H (d::i) (v::j):=λa b=>by unfold aL;exact⟨_,_,rfl,a,b⟩
 unfold Rp;refine⟨D,_,rfl,h,cons (Jn l) (cons (D2 m (by decide+kernel)) (cons (D2 n (by decide+kernel)) (cons (D2 o (by decide+kernel)) (cons (D2 p (by decide+kernel)) (cons (D2 q (by decide+kernel)) (by unfold aL;rfl))))))⟩
theorem yn:Pt [3,2] [3,2] none 0 0 false=Str.ofString "left 3 1 quiet 0":=by decide+kernel
theorem A0t:E6 (Str.ofString "hall 9 9 9 9") (Str.ofString "hall") [9,9,9,9] none:=G9 (by decide+kernel) (by decide) (by decide) (by decide) (by decide) (by decide) (by decide+kernel)
theorem Tc:E6 (Str.ofString "rank") (Str.ofString "rank") [] none:=G9 (by decide+kernel) (by decide) (by decide) (by decide) (by decide) (by decide) (by decide+kernel)
theorem wo:E6 (Str.ofString "answer 0") (Str.ofString "answer") [0] none:=G9 (by decide+kernel) (by decide) (by decide) (by decide) (by decide) (by decide) (by decide+kernel)
theorem wq:E6 (Str.ofString "answer 1") (Str.ofString "answer") [1] none:=G9 (by decide+kernel) (by decide) (by decide) (by decide) (by decide) (by decide) (by decide+kernel)
theorem wu:E6 (Str.ofString "call 0") (Str.ofString "call") [0] none:=G9 (by decide+kernel) (by decide) (by decide) (by decide) (by decide) (by decide) (by decide+kernel)
theorem wn:E6 (Str.ofString "hall 3 2") (Str.ofString "hall") [3,2] none:=G9 (by decide+kernel) (by decide) (by decide) (by decide) (by decide) (by decide) (by decide+kernel)
theorem wm:E6 (Str.ofString "hall 2 3") (Str.ofString "hall") [2,3] none:=G9 (by decide+kernel) (by decide) (by decide) (by decide) (by decide) (by decide) (by decide+kernel)
def Dk(C:Addr)(H:Hp)(x a:Addr)(t:Nat)(w:V):Prop:=∃b d e,H x=some (.ins C a (B7 b d e w))/\(t=0->∃c,Bp C H x a [3,2] none [3,2] 0 c w/\Iv [3,2] none c)/\(t=1->b=.bN)
theorem Dk.same{C:Addr}{H a:Hp}{x b:Addr}{t:Nat}{w:V}(s:A8 H a)(h:Dk C H x b t w):Dk C a x b t w:=by
 obtain⟨j,l,m,f,g,i⟩:=h;refine⟨j,l,m,s _ _ f,λe=>?_,i⟩;obtain⟨n,c,d⟩:=g e;exact⟨n,c.same s,d⟩
theorem Dk.GN{C:Addr}{H a:Hp}{x b:Addr}{t:Nat}{w:V}(s:og H a)(h:Dk C H x b t w):Dk C a x b t w:=by
 obtain⟨j,l,m,f,g,i⟩:=h;refine⟨j,l,m,s _ _ f (λ_=>HO.noConfusion),λe=>?_,i⟩;obtain⟨n,c,d⟩:=g e;exact⟨n,c.GN s,d⟩
theorem Dk.but{C:Addr}{H a:Hp}{x b y c:Addr}{fs:List (Str×V)}{t:Nat}{w:V}(s:Ct y H a)(m:H y=some (.ins C c fs))(n:x≠y)(h:Dk C H x b t w):Dk C a x b t w:=by
 obtain⟨l,o,p,g,i,j⟩:=h;refine⟨l,o,p,s _ _ n g,λe=>?_,j⟩;obtain⟨q,d,f⟩:=i e;exact⟨q,Bp.but s m n d,f⟩
theorem Dk.wheel{C:Addr}{H j:Hp}{x g:Addr}{t:Nat}{w u i q r:V}(s:Ct x H j)(f:H x=some (.ins C g (B7 i q r w)))(m:j x=some (.ins C g (B7 i q r u)))(h:Dk C H x g t w):Dk C j x g t u:=by
 obtain⟨l,G,I,d,E,F⟩:=h;rw[f]at d
 have e:i=l:=by
  unfold B7 at d;injection d with d;injection d with _ _ d;injection d with d _;injection d
 refine⟨i,q,r,m,λz=>?_,λz=>e.trans (F z)⟩;obtain⟨J,⟨a,b,v,c,y,A,B⟩,D⟩:=E z;refine⟨J,⟨a,b,v,?_,y.but s f,A.but s f,s.dT f B⟩,D⟩;rw[f]at c;unfold B7 at c m⊢;injection c with c;injection c with _ _ c;injection c with n c;injection c with o c;injection c with p c;injection n with _ n;injection o with _ o;injection p with _ p;rw[m,n,o,p]
theorem W4.same{H a:Hp}{b:Addr}{c w:V}(s:A8 H a)(h:W4 H b c w):W4 a b c w:=by
 rcases h with h|⟨k,p,u,m,q,d,e,n,o,f,g,i,j,l⟩
 ·exact .inl h
 ·exact .inr ⟨k,p,u,m,q,d,e,n,o,s _ _ f,g.imp (λr v z=>Gq.up (Ax.of s) z),s _ _ i,j.imp (λr v z=>Gq.up (Ax.of s) z),l⟩
theorem W4.but{H b:Hp}{c y D f:Addr}{fs:List (Str×V)}{d w:V}(s:Ct y H b)(a:H y=some (.ins D f fs))(h:W4 H c d w):W4 b c d w:=by
 rcases h with h|⟨k,p,C,q,B,g,i,x,A,j,l,m,n,o⟩
 ·exact .inl h
 ·exact .inr ⟨k,p,C,q,B,g,i,x,A,s.lst a j,l.imp (λr v ⟨u,e,z⟩=>⟨u,e,s.tup a z⟩),s.lst a m,n.imp (λr v ⟨u,e,z⟩=>⟨u,e,s.tup a z⟩),o⟩
theorem W4.put{H:Hp}{a:Addr}{c w:V}{u ys:List V}(b:H a=some (.lst u))(h:W4 H a c w):W4 (upd H a (.lst ys)) a c w:=by
 rcases h with h|⟨k,p,s,o,q,f,g,d,e,i,j,l,m,n⟩
 ·exact .inl h
 ·exact .inr ⟨k,p,s,o,q,f,g,d,e,(A9 e).trans i,j.imp (λr v z=>Gq.up (Ax.lst b) z),(A9 d).trans l,m.imp (λr v z=>Gq.up (Ax.lst b) z),n⟩
def jt(C:Addr)(H:Hp)(f g i l h c:Addr):Prop:=∃a b d e,H h=some (.lst [.ref f,.ref g])/\H c=some (.lst [a,b])/\∀j,j<2->Dk C H (tw f g j) (tw i l j) j (tw d e j)/\W4 H c (tw a b j) (tw d e j)
theorem jt.same{C:Addr}{H a:Hp}{i l f g b e:Addr}(s:A8 H a)(h:jt C H i l f g b e):jt C a i l f g b e:=by
 obtain⟨o,p,q,r,m,n,c⟩:=h;exact⟨o,p,q,r,s _ _ m,s _ _ n,λj d=>⟨(c j d).1.same s,(c j d).2.same s⟩⟩
theorem jt.put{C:Addr}{H:Hp}{c d g i b a:Addr}{k0 k1 w0 w1:V}{m:List V}(l:H b=some (.lst [.ref c,.ref d]))(f:H a=some (.lst m))(n:b≠a)(h:∀j,j<2->Dk C H (tw c d j) (tw g i j) j (tw w0 w1 j)/\W4 H a (tw k0 k1 j) (tw w0 w1 j)):jt C (upd H a (.lst [k0,k1])) c d g i b a:=
 ⟨k0,k1,w0,w1,(A9 n).trans l,A2,λj e=>⟨(h j e).1.GN (og.put f),(h j e).2.put f⟩⟩
theorem Vt{e:Type}{a b c:e}{t j:Nat}(f:j<2):tw (if 0=t then c else a) (if 1=t then c else b) j=if j=t then c else tw a b j:=by
 have d:j=0\/j=1:=by omega
 rcases d with rfl|rfl<;>rfl
theorem jr:Ay [V.bN] [Value.none]:=.cons rfl .nil
theorem Jt:Ay [V.bl false] [Value.bool false]:=.cons rfl .nil
theorem Vu:Ay [V.bl false] [Value.bool false]:=.cons rfl .nil
theorem A1l{us:List q3}(h:us.length=0):us=[]:=List.length_eq_zero_iff.mp h
theorem yp{us:List q3}(h:us.length=1):∃b,us=[b]:=by
 cases us with
 |nil=>cases h
 |cons a us=>
  obtain rfl:=A1l (Nat.succ.inj h);exact⟨a,rfl⟩
theorem yq{us:List q3}(h:us.length=2):∃c b,us=[c,b]:=by
 cases us with
 |nil=>cases h
 |cons a us=>
  obtain⟨b,rfl⟩:=yp (Nat.succ.inj h);exact⟨a,b,rfl⟩
theorem nz{us:List q3}(h:us.length=3):∃d b c,us=[d,b,c]:=by
 cases us with
 |nil=>cases h
 |cons a us=>
  obtain⟨b,c,rfl⟩:=yq (Nat.succ.inj h);exact⟨a,b,c,rfl⟩
theorem yr{us:List q3}(h:us.length=4):∃e b c d,us=[e,b,c,d]:=by
 cases us with
 |nil=>cases h
 |cons a us=>
  obtain⟨b,c,d,rfl⟩:=nz (Nat.succ.inj h);exact⟨a,b,c,d,rfl⟩
seal O6 PS PE PT PA PI PG PW
structure Gk(P:q4)(w:ra)(K:W.Frag)(mg:Str->Option q3)(base:Heap)(k:Nat)(f:Addr)(ps:List Str)(sp:Sp)(fd:q7):Prop where
 g:B3 P w K mg base (CX1 P w) k f fd ps sp
 b:Cp K fd ps []
section
variable {P:q4}{w:ra}{K:W.Frag}{mg:Str->Option q3}{base:Heap}{ad:Ads}{aA aE aF aB aC aM bR aR bS bT bU cL aD aG bM aQ aO:Addr}
variable (T:Txt K mg ad aA aE aF aB aC aM bR aR bS bT bU cL aD aG bM aQ aO)
include T
def Vj(K:W.Frag):Sp:=λc H Q _=>Ld λ(a b:Int)=>Fp (c=[.int a,.int b]) (0<=a) (0<=b) (Q (.int (Int.gcd a b)) H)
theorem vk{n:q7}(F:D4 K "divisor" "divisor" fq ad.iP n):B3 P w K mg base (CX1 P w) 1 ad.iP n ["one","other"] (Vj K):=by
 refine F.okN Rb (λN H Q E h=>?_) (λS A m s H N Q E X h=>?_)
 ·rcases h with⟨a,b,rfl,o,p,q⟩<;>rfl
 ·obtain⟨a,b,rfl,o,p,q⟩:=h;refine⟨_,(A3 (Nr ml (Ai Jh (pv 1) A7 (Ag _)) (A3 (Ad (i:=2) Rb.nd rfl (Or.inl rfl) (Al C0 (pv 0) (pv 1))) (A3 (Ad (i:=0) Rb.nd rfl (Or.inl rfl) (pv 1)) (A5 (Ad (i:=1) Rb.nd rfl (Or.inl rfl) (pv 2)))))) (A5 (Ab (pv 0)))),?_⟩;refine O4 (λd g=>O5 λ(x y:Int) (r:Option V)=>Fq (d=[some (.int x),some (.int y),r]) (0<=x) (0<=y) (Int.gcd x y=Int.gcd a b) (g=H)) (λ(d:L2.St) (_:L2.Hp)=>match d[1]? with|some (some (V.int y))=>y.toNat|_=>0) ⟨a,b,none,rfl,o,p,rfl,rfl⟩ ?_ ?_
  ·rintro d g ⟨x,y,r,rfl,L,M,u,rfl⟩;refine⟨_,rfl,_,_,rfl,rfl,_,rfl,?_⟩;refine Fw (λl=>?_) (λl=>?_)
   ·have f:0<y:=by simpa using l
    have I:=oK x (show y≠0 by omega);have U:=px x f;refine⟨_,rfl,_,rfl,_,_,rfl,rfl,f,_,rfl,_,rfl,⟨y,x%y,_,rfl,M,I,(ap L f).trans u,rfl⟩,?_⟩;show(x%y).toNat<y.toNat;omega
   ·have f:¬0<y:=by simpa using l
    have e:y=0:=by omega
    subst e;refine⟨_,rfl,?_⟩;rw[<- u,Int.gcd_zero,show((x.natAbs:Nat):Int)=x by omega]at q;exact q
  ·rintro d g O R J ⟨v,B,i,j,C,D,c,G,z⟩;exact⟨v,B,i,j,C,D,c,G,J _ _ z⟩
def i9(K:W.Frag):Sp:=λc H Q _=>O5 λ(a:Addr) (b:qG) (B:Int)=>Im (c=[.ref a]) (Aq K H a (b.map V.int)) (1<=B) (B<2^4000) ((∀x∈b,1<=x/\x∣B)) (Q (.int ((Dv b:Nat):Int)) H)
theorem u4{C M:q7}(F:D4 K "least_round" "least_round" dq ad.kQ C)(I:Gk P w K mg base 1 ad.iP ["one","other"] (Vj K) M):B3 P w K mg base (CX1 P w) 2 ad.kQ C ["numbers"] (i9 K):=by
 refine F.okN R8 (λN H Q E h=>?_) (λO A u s H N Q E L h=>?_)
 ·rcases h with⟨a,b,B,rfl,l,D,f,r,q⟩<;>rfl
 ·obtain⟨a,b,B,rfl,l,D,f,r,q⟩:=h;refine⟨_,(A3 (Ad (i:=1) R8.nd rfl (Or.inl rfl) A7) (A3 (C1 ml rfl (Cd (pv 0)) (Aj (i:=2) R8.nd rfl (Or.inl rfl)) (A5 (Ad (i:=1) R8.nd rfl (Or.inl rfl) (Al D8 (Al Dq (pv 1) (Ac I.g (L.mono (by decide)) rfl T.FN T.FO I.b .nil Ap (A0 (pv 1) (A0 (pv 2) A4)))) (pv 2))))) (A5 (Ab (pv 1))))),?_⟩;refine⟨_,rfl,a,rfl,.inl ⟨⟨_,l⟩,?_⟩⟩;refine Cl (K:=K) (a:=a) (xs:=b.map V.int) (λi g d=>∃(v:Option V),g=[some (.ref a),some (.int ((Dv (b.take i):Nat):Int)),v]/\d=H) ⟨_,rfl,rfl⟩ (by rintro i g d _ ⟨_,_,e⟩;exact(by rw[e];exact l)) ?_ ?_
  ·rintro i y g d G ⟨v,rfl,rfl⟩;rw[List.getElem?_map]at G;obtain⟨n,p,rfl⟩:=dI.mp G;have R:=(cb.mp p).1;have j:=r n (cI p);obtain⟨J,_,_,o⟩:=sj (xs:=b.take i) D λx h=>r x (List.mem_of_mem_take h);have c:=my (by omega) j.2;have e:=lj (c:=Dv (b.take i)) j.1;have z:=Yf (b.take i) n;rw[<- Ku p]at z;rw[<- z]at e;have m:=rf (c:=Dv (b.take i)) J j.1;refine⟨_,rfl,_,rfl,_,rfl,_,n,rfl,by omega,by omega,_,_,rfl,rfl,⟨m.1,ea (Gf (by omega) (oD m.2 c) f) (by decide)⟩,_,rfl,_,_,rfl,rfl,Pe (Ov m.1 (Gf (by omega) o f)) (Gf (by omega) c f) (by decide),some (.int n),?_,rfl⟩;show[some (V.ref a),some (V.int (((Dv (b.take i):Nat):Int)/((Int.gcd ((Dv (b.take i):Nat):Int) n:Nat):Int)*n)),some (V.int n)]=_;rw[e]
  ·rintro g d ⟨v,rfl,rfl⟩;refine⟨_,rfl,?_⟩;rw[List.length_map,List.take_length];exact q
def jc(K:W.Frag):Sp:=λe H Q _=>O5 λ(a:Addr) (c:qG) (B:Int)=>Jw (e=[.ref a]) (Aq K H a (c.map V.int)) (c.length<=80) (1<=B) (B<2^4000) ((∀x∈c,1<=x/\x∣B)) (∀(p:Addr) (t b:Int) (d:Hp),A8 H d->d p=some (.tup [.int t,.int b])->(t<=b↔Be c)->Q (.ref p) d)
theorem vt{G Z sL:q7}(F:D4 K "shares" "shares" X3 ad.kR G)(Y:Gk P w K mg base 2 ad.kQ ["numbers"] (i9 K) Z)(X:Gk P w K mg base 1 ad.iP ["one","other"] (Vj K) sL):B3 P w K mg base (CX1 P w) 3 ad.kR G ["numbers"] (jc K):=by
 refine F.okN Rc (λvs H Q E h=>?_) (λbK A v s H vs Q E S h=>?_)
 ·rcases h with⟨a,b,B,rfl,j,mF,o,l,e,q⟩<;>rfl
 ·obtain⟨a,b,B,rfl,j,mF,o,l,e,q⟩:=h;refine⟨_,(A3 (Ad (i:=1) Rc.nd rfl (Or.inr rfl) (Ac Y.g (S.mono (by decide)) rfl T.TZ T.UA Y.b .nil Ap (A0 (pv 0) A4))) (A3 (Ad (i:=2) Rc.nd rfl (Or.inl rfl) (Ak (Xn rfl) (by rfl) T.WG boot_sum (A0 (Cc (Cd (pv 0)) _ rfl S2 rfl rfl (λ_ _ _ _=>(Aj (i:=0) So rfl (Or.inl rfl))) (λ_ _ _ _=>Bw) (λ_ _ _ _=>(Al Dq (pv 1) (pv 0)))) A4))) (A3 (Ad (i:=3) Rc.nd rfl (Or.inl rfl) (Ac X.g (S.mono (by decide)) rfl T.FN T.FO X.b .nil Ap (A0 (pv 2) (A0 (pv 1) A4)))) (A5 (Ab (Cz (A0 (Al Dq (pv 2) (pv 3)) (A0 (Al Dq (pv 1) (pv 3)) A4)))))))),?_⟩;refine⟨_,rfl,a,b,B,rfl,j,o,l,e,?_⟩;obtain⟨M,_,_,d⟩:=sj o e;have m:Be b↔(Fu ((Dv b:Nat):Int) b).sum<=((Dv b:Nat):Int):=Iff.rfl;generalize Dv b=L at M d m⊢;refine⟨_,rfl,a,rfl,.inl ⟨⟨_,j⟩,λD J=>?_⟩⟩;refine Bz (K:=K) (a:=a) (xs:=b.map V.int) (λi f g=>f=(Fu (L:Int) (b.take i)).map V.int/\g D=some (.lst f)/\A8 H g) ⟨rfl,A2,A8.upd J⟩ (by rintro i f g _ ⟨_,_,s⟩;exact s.seq j) ?_ ?_
  ·rintro i y f g U ⟨rfl,mW,s'⟩ Qe hQ;rw[List.getElem?_map]at U;obtain⟨n,R,rfl⟩:=dI.mp U;have C:=e n (cI R);have r:=my (by omega) C.2;refine⟨_,rfl,_,rfl,_,_,rfl,rfl,⟨Int.lt_of_lt_of_le (by decide) C.1,ea (Gf (by omega) r l) (by decide)⟩,?_⟩;refine hQ _ _ mW (As ?_) ⟨?_,A2,s'.new J⟩
   ·rw[List.length_map];unfold Fu;rw[List.length_map,List.length_take];omega
   ·rw[Ku R,Xx,List.map_append];rfl
  rintro f H1 ⟨rfl,I,s1⟩;rw[List.length_map,List.take_length]at I;have N:=Wa (B:=(L:Int)) (by omega) λx h=>(e x h).1;refine⟨D,_,rfl,Aq.of I,?_⟩;generalize(Fu (L:Int) b).sum=T at N m⊢
  have O:0<Int.gcd T (L:Int)/\Int.gcd T (L:Int)<=L:=by
   have h1:Int.gcd T (L:Int)∣L:=by
    have h2:((Int.gcd T (L:Int):Nat):Int)∣(L:Int):=Int.gcd_dvd_right ..;exact Int.natCast_dvd_natCast.mp h2
   have h3:=Nat.le_of_dvd M h1
   have h4:Int.gcd T (L:Int)≠0:=λz=>by
    have:=(Int.gcd_eq_zero_iff.mp z).2;omega
   exact⟨by omega,h3⟩
  have c:intBits ((Int.gcd T (L:Int):Nat):Int)<=8999:=ea (Gf (by omega) (oD (Int.ofNat_le.mpr O.2) d) l) (by decide);have u:=A0i O.1 (Int.gcd_dvd_left ..) (Int.gcd_dvd_right ..);refine⟨_,rfl,_,rfl,T,(L:Int),rfl,N,by omega,?_⟩;refine⟨_,rfl,_,rfl,_,_,rfl,rfl,⟨by omega,c⟩,_,rfl,_,rfl,_,_,rfl,rfl,⟨by omega,c⟩,B4,λp hp=>?_⟩;exact q p _ _ _ (s1.trans (A8.upd hp)) A2 (u.trans m.symm)
def ip(K:W.Frag):Sp:=λe H Q _=>Ld λ(a:Addr) (c:qG)=>Fq (e=[.ref a]) (Aq K H a (c.map V.int)) (c.length<64) ((∀x∈c,1<=x)) (∀(b:Bool) (d:Hp),A8 H d->(b=true↔Gp c)->Q (.bl b) d)
theorem ui{M:q7}(F:D4 K "are_chain" "are_chain" Wx ad.kS M):B3 P w K mg base (CX1 P w) 1 ad.kS M ["periods"] (ip K):=by
 refine F.okN gl (λvs H Q E h=>?_) (λbK A C s H vs Q E hr h=>?_)
 ·rcases h with⟨a,J,rfl,O,X,B,q⟩<;>rfl
 ·obtain⟨a,J,rfl,O,X,B,q⟩:=h;refine⟨_,(A3 (Ad (i:=1) gl.nd rfl (Or.inl rfl) (Ak (Ix K) (by rfl) T.jA boot_sorted (A0 (pv 0) A4))) (A5 (Ab (Ak (Jz rfl) (by rfl) T.yS boot_all (A0 (Cc (Qy (by rfl) T.yT (A0 (pv 1) (A0 (Ec (Ef K) (pv 1) (Es A7) Hl) A4))) _ rfl Md rfl rfl (λ_ _ _ _=>(Dz K (n:=2) rfl (Ba (Aj (i:=0) Gz rfl (Or.inl rfl)) (Ba (Aj (i:=1) Gz rfl (Or.inl rfl)) Df)))) (λ_ _ _ _=>Bw) (λ_ _ _ _=>(Bd C7 (Al C0 (pv 1) (pv 0)) A7 (Ag _)))) A4))))),?_⟩;refine⟨_,rfl,a,J,rfl,O,X,λR b hR o mD=>?_⟩;have Y:A8 H (upd H R (.lst (b.map V.int))):=A8.upd hR;have e:(upd H R (.lst (b.map V.int))) R=some (.lst (b.map V.int)):=A2;generalize upd H R (.lst (b.map V.int))=j at Y e⊢;refine⟨_,rfl,_,rfl,_,rfl,R,_,rfl,Aq.of e,λc xN=>?_⟩;have QY:b.length=J.length:=o.length_eq
  have DR:Qb (b.map V.int) (some 1) none=(b.drop 1).map V.int:=by
   rw[P0];unfold U7;rw[HT.fZ,show HT.iB b.length 0 (some 1)=min 1 b.length from HT.pA b.length 0 1];congr 1;rcases Nat.eq_zero_or_pos b.length with z|z
   ·rw[List.length_eq_zero_iff.mp z];rfl
   ·rw[show min 1 b.length=1 by omega,List.take_of_length_le (by rw[List.length_drop];omega)]
  rw[DR];have D:A8 j (upd j c (.lst ((b.drop 1).map V.int))):=A8.upd xN;have f:(upd j c (.lst ((b.drop 1).map V.int))) c=some (.lst ((b.drop 1).map V.int)):=A2;generalize upd j c (.lst ((b.drop 1).map V.int))=H2 at D f⊢;have l:=D _ _ e;refine⟨false,false,R,c,rfl,⟨_,Aq.of l⟩,⟨_,Aq.of f⟩,λG N=>?_⟩
  refine Xq (K:=K) (b1:=false) (b2:=false) (c:=R) (d:=c) (xs:=b.map V.int) (ys:=(b.drop 1).map V.int) (by rw[List.length_map,List.length_map,List.length_drop];omega)
   (λi g d=>g=(om b i).map V.bl/\d G=some (.lst g)/\A8 H2 d) ⟨rfl,A2,A8.upd N⟩ (by rintro i g d _ ⟨_,_,s⟩;exact⟨Aq.of (s _ _ l),Aq.of (s _ _ f)⟩) ?_ (λσ d Q1 Q2 p z=>p _ _ z) ?_ ?_
  ·rintro i x y T g m U L ⟨rfl,n,I⟩ hT;rw[List.getElem?_map]at U L;obtain⟨u,r,rfl⟩:=dI.mp U;obtain⟨w,S,rfl⟩:=dI.mp L;rw[List.getElem?_drop,Nat.add_comm]at S;have ex:b.getD i 0=u:=by rw[List.getD_eq_getElem?_getD,r];rfl
   have ey:b.getD (i+1) 0=w:=by rw[List.getD_eq_getElem?_getD,S];rfl
   have hi:=(cb.mp r).1;have WU:=B u (o.mem_iff.mp (cI r));have Z:A8 m (upd m T (.tup [V.int u,V.int w])):=A8.upd hT;simp only[Ol,↓reduceIte];refine⟨_,rfl,_,rfl,_,_,rfl,rfl,Int.lt_of_lt_of_le (by decide) WU,rfl,Z _ _ n,As (by rw[List.length_map,Ur];omega),?_,A2,(I.trans Z).new N⟩;rw[br,ex,ey,List.map_append,qy];rfl
  ·rintro σ d Q1 Q2 p ⟨v,e,v',l,i1,j1,f,e3,c0,e4,z⟩;exact⟨v,e,v',l,i1,j1,f,e3,c0,e4,p _ _ z⟩
  rintro g m ⟨rfl,n,I⟩;refine⟨G,_,rfl,Aq.of n,?_⟩;rw[List.length_map,List.length_drop];exact q _ _ (Y.trans (D.trans I)) (lp o mD B)
def Vg(K:W.Frag):Sp:=λd H Q _=>O5 λ(a:Addr) (b:qG) (B:Int)=>Jw (d=[.ref a]) (Aq K H a (b.map V.int)) (b.length<=80) (1<=B) (B<2^4000) ((∀x∈b,1<=x/\x∣B)) (∀(c:Hp),A8 H c->Q (.bl (decide (Be b))) c)
theorem uj{j v:q7}(F:D4 K "have_room" "have_room" f7 ad.iQ j)(u:Gk P w K mg base 3 ad.kR ["numbers"] (jc K) v):B3 P w K mg base (CX1 P w) 4 ad.iQ j ["periods"] (Vg K):=by
 refine F.okN gm (λD H Q E h=>?_) (λG A c s H D Q E x h=>?_)
 ·rcases h with⟨a,d,B,rfl,m,o,l,r,n,q⟩<;>rfl
 ·obtain⟨a,d,B,rfl,m,o,l,r,n,q⟩:=h;refine⟨_,(A3 (Ad (i:=1) gm.nd rfl (Or.inl rfl) (Ac u.g (x.mono (by decide)) rfl T.UB T.UC u.b .nil Ap (A0 (pv 0) A4))) (A5 (Ab (Bd A0h (Au (Aw K) (pv 1) A7 (λ_ _=>rfl)) (Au (Aw K) (pv 1) A7 (λ_ _=>rfl)) (Ag _))))),?_⟩;refine⟨_,rfl,a,d,B,rfl,m,o,l,r,n,λp t b f C i g=>?_⟩;refine⟨_,rfl,p,_,_,_,rfl,rfl,.inr (Cf.of i),rfl,_,rfl,p,_,_,_,rfl,rfl,.inr (Cf.of i),rfl,_,_,rfl,rfl,?_⟩
  have e:decide (t<=b)=decide (Be d):=by
   by_cases z:t<=b
   ·rw[decide_eq_true z,decide_eq_true (g.mp z)]
   ·rw[decide_eq_false z,decide_eq_false λy=>z (g.mpr y)]
  show Q (V.bl (decide (t<=b))) f;rw[e];exact q f C
def ii(K:W.Frag):Sp:=λd H Q _=>o6 λ(a:Addr) (c r:qG) (top b:Int)=>Rq (d=[.ref a,.int b]) (Aq K H a (c.map V.int)) (Lv c.reverse) (c.reverse=top::r) (0<=b) (b<top) (top<2^4000) (Q (.int (rv (top::r) b)) H)
theorem ud{L:q7}(F:D4 K "free_first" "free_first" dz ad.kT L):B3 P w K mg base (CX1 P w) 1 ad.kT L ["levels","taken"] (ii K):=by
 refine F.okN Hd (λZ H Q E h=>?_) (λbK A G s H Z Q E hr h=>?_)
 ·rcases h with⟨a,D,r,top,v,rfl,u,g,b,z,R,c,q⟩<;>rfl
 ·obtain⟨a,D,r,top,v,rfl,u,g,b,z,R,c,q⟩:=h;refine⟨_,(A3 (Ad (i:=2) Hd.nd rfl (Or.inl rfl) A7) (A3 (Ad (i:=3) Hd.nd rfl (Or.inl rfl) A7) (A3 (C1 ml rfl (Cd (pv 0)) (Aj (i:=4) Hd.nd rfl (Or.inl rfl)) (A3 (Ad (i:=5) Hd.nd rfl (Or.inl rfl) (Al Dq (Au (Aw K) (pv 0) (Jj Gd A7) (λ_ _=>rfl)) (pv 4))) (A3 (cx (i:=2) Hd.nd rfl (Or.inl rfl) (Al D8 (Al Dq (pv 1) (pv 5)) (pv 3)) ay) (A3 (Ad (i:=1) Hd.nd rfl (Or.inl rfl) (Al C0 (pv 1) (pv 5))) (A5 (Ad (i:=3) Hd.nd rfl (Or.inl rfl) (pv 4))))))) (A5 (Ab (pv 2)))))),?_⟩;have Y:1<=top:=by rw[b]at g;exact g.pos
  refine⟨_,rfl,a,rfl,.inl ⟨⟨_,u⟩,?_⟩⟩;refine Cl (K:=K) (a:=a) (xs:=D.map V.int) (λi x o=>o6 λ(f t s:Int) (I J:Option V)=>Fp (x=[some (.ref a),some (.int t),some (.int f),some (.int s),I,J]) (FF D top v i f t s) (t<=v) (o=H)) ⟨0,v,1,none,none,rfl,.zero,Int.le_refl _,rfl⟩ (by rintro i x o _ ⟨_,_,_,_,_,_,_,_,e⟩;exact(by rw[e];exact u)) ?_ ?_
  ·rintro i y x o M ⟨f,t,s,I,J,rfl,d,m,rfl⟩;rw[List.getElem?_map]at M;obtain⟨p,U,rfl⟩:=dI.mp M;have C:=d.pos g z ⟨r,b⟩;obtain⟨X,S,wV,B⟩:=d.step g z ⟨r,b⟩ U;have N:=my (by omega) S;have O:=my (by omega) C.2.1;have l:top/p<=top:=Int.ediv_le_self _ (by omega);have n:0<top/p:=by omega
   have j:intBits (top/p)<=8999:=ea (Gf (by omega) l c) (by decide);refine⟨_,rfl,_,rfl,a,_,_,_,rfl,rfl,.inl u,Wj b,_,rfl,_,_,rfl,rfl,⟨by omega,ea (Gf (by omega) N c) (by decide)⟩,?_⟩;refine⟨_,rfl,_,rfl,_,rfl,_,_,rfl,rfl,⟨n,j⟩,_,rfl,_,_,rfl,rfl,Pe (Ov n (Gf C.2.2 (by omega) c)) (Gf (by omega) O c) (by decide),_,_,rfl,rfl,?_⟩;refine⟨_,rfl,_,rfl,_,_,rfl,rfl,n,_,rfl,?_⟩;exact⟨_,_,_,_,_,rfl,B,oD (km C.2.2 n) m,rfl⟩
  ·rintro x o ⟨f,t,s,I,J,rfl,d,m,rfl⟩;refine⟨_,rfl,?_⟩;rw[List.length_map]at d;rw[d.last rfl b Y];exact q
def pk(K:W.Frag):Sp:=λe H Q _=>O5 λ(a:Addr) (b:qG) (B:Int)=>Px (e=[.ref a]) (H a=some (.lst (b.map V.int))) (b.length<=80) (1<=B) (B<2^4000) ((∀x∈b,1<=x/\x∣B)) (b.Pairwise (·∣·)) ((Fu B b).sum<=B) (∀(D:Addr) (c:List (Int×Int)) (d:Hp),H D=none->A8 H d->d D=some (.lst (c.map λx=>V.int x.2))->c.map Prod.fst=b->(∀x∈c,1<=x.1/\0<=x.2/\x.2<x.1)->(c.Pairwise λx y=>x.1∣y.1/\y.2%x.1≠x.2)->Q (.ref D) d)
theorem A0e{fd LV:q7}(F:D4 K "rising_firsts" "rising_firsts" xi ad.qW fd)(uY:Gk P w K mg base 1 ad.kT ["levels","taken"] (ii K) LV):B3 P w K mg base (CX1 P w) 2 ad.qW fd ["periods"] (pk K):=by
 refine F.okN Ny (λvs H Q E h=>?_) (λbK A outer s H vs Q E hr h=>?_)
 ·rcases h with⟨a,o,B,rfl,ha,qC,hB,U,hx,DN,gR,q⟩<;>rfl
 ·obtain⟨a,o,B,rfl,ha,qC,hB,U,hx,DN,gR,q⟩:=h;refine⟨_,(A3 (Ad (i:=1) Ny.nd rfl (Or.inl rfl) (B6 (A0 A7 A4))) (A3 (Ad (i:=2) Ny.nd rfl (Or.inl rfl) A7) (A3 (Ad (i:=3) Ny.nd rfl (Or.inl rfl) (B6 A4)) (A3 (C1 ml rfl (Cd (pv 0)) (Aj (i:=4) Ny.nd rfl (Or.inl rfl)) (A3 (Ad (i:=2) Ny.nd rfl (Or.inl rfl) (Al D8 (pv 2) (Al Dq (pv 4) (Au (Aw K) (pv 1) (Jj Gd A7) (λ_ _=>rfl))))) (A3 (Di (Ai Jh (pv 4) (Au (Aw K) (pv 1) (Jj Gd A7) (λ_ _=>rfl)) (Ag _)) (A5 (Cs (Dr PySem.F.plainAttrs_list PySem.F.slot_list_append PySem.F.type_list_append D1 (pv 1) (A0 (pv 4) A4)))) Ae) (A3 (Cs (Dr PySem.F.plainAttrs_list PySem.F.slot_list_append PySem.F.type_list_append D1 (pv 3) (A0 (Ac uY.g (hr.mono (by decide)) rfl T.UG T.UH uY.b .nil Ap (A0 (pv 1) (A0 (pv 2) A4))) A4))) (A5 (cx (i:=2) Ny.nd rfl (Or.inl rfl) A7 ay)))))) (A5 (Ab (pv 3))))))),?_⟩;refine⟨B4,λL hL=>?_⟩;have s1:A8 H (upd H L (.lst [.int 1])):=A8.upd hL;have e1:(upd H L (.lst [.int 1])) L=some (.lst [.int 1]):=A2;generalize upd H L (.lst [.int 1])=Y at s1 e1⊢;refine⟨B4,λF hF=>?_⟩;have s2:A8 Y (upd Y F (.lst [])):=A8.upd hF;have e2:(upd Y F (.lst [])) F=some (.lst []):=A2;generalize upd Y F (.lst [])=H2 at s2 e2⊢;have oJ:=s2 _ _ e1;have S:F≠L:=λe=>by rw[e,e1]at hF;cases hF
  have G:H F=none:=s1.free hF;have dH:=s1.trans s2;refine⟨_,rfl,a,rfl,.inl ⟨⟨_,Aq.of (dH _ _ ha)⟩,?_⟩⟩
  refine Cl (K:=K) (a:=a) (xs:=o.map V.int) (λi l X=>o6 λ(d:List (Int×Int)) (q:Int) (r:qG) (t:Int) (v4:Option V)=>M7 (l=[some (.ref a),some (.ref L),some (.int t),some (.ref F),v4]) (Iq d q r t) (d.map Prod.fst=o.take i) (d.length=i) ((i=0->q=1)) ((∀p,0<i->o[i-1]?=some p->q=p)) (X L=some (.lst ((q::r).reverse.map V.int))) (X F=some (.lst (d.map λx=>V.int x.2))) (r.length<=i) (A8 H X))
   ⟨[],1,[],0,none,rfl,.begin,rfl,rfl,(λ_=>rfl),(λp h=>absurd h (by decide)),oJ,e2,dr _,dH⟩ (by rintro i l X _ ⟨_,_,_,_,_,_,_,_,_,_,_,_,_,_,s⟩;exact Aq.of (s _ _ ha)) ?_ ?_
  ·rintro i y l H3 hy ⟨d,c,r,t,v4,rfl,b,u,TK,I,J,m,eF,CU,s3⟩;rw[List.getElem?_map]at hy;obtain⟨p,n,rfl⟩:=dI.mp hy;have hi:=(cb.mp n).1;have j:=hx p (cI n);have g:=my (by omega) j.2;have zE:=b.lv.pos
   have v:c∣p:=by
    rcases Nat.eq_zero_or_pos i with z|z
    ·rw[I z];exact Int.one_dvd _
    ·have e:o[i-1]?=some (o[i-1]'(by omega)):=d3 (by omega);rw[J _ z e];rw[List.pairwise_iff_getElem]at DN;have:=DN (i-1) i (by omega) hi (by omega);rw[(List.getElem?_eq_some_iff.mp n).2]at this;exact this
   have M:=my (by omega) v;have GR:Oa ((c::r).reverse.map V.int) (-1)=some (.int c):=Wj (r:=r) (by rw[List.reverse_reverse]);obtain⟨hc,ec⟩:=Cw zE j.1 v
   have O:t*(p/c)<p:=by
    have h1:=Z0 hB hx gR n u λx R=>⟨(b.all x R).1,Int.dvd_trans (b.all x R).2.1 v⟩;rw[Hn zE j.1 v λx R=>⟨(b.all x R).1,(b.all x R).2.1⟩,<- b.sum]at h1;exact h1
   have N:=b.nn
   have htp:t<=B:=by
    have:=ll hc N;omega
   have hcB:p/c<=B:=oD (Int.ediv_le_self _ (by omega)) g;refine⟨_,rfl,_,rfl,_,rfl,_,rfl,L,_,_,_,rfl,rfl,.inl (Aq.of m),GR,_,_,rfl,rfl,⟨by omega,ea (Gf (by omega) (oD M g) U) (by decide)⟩,_,_,rfl,rfl,Pe (Gf N htp U) (Gf (by omega) hcB U) (by decide),?_⟩;refine⟨_,rfl,_,rfl,_,rfl,L,_,_,_,rfl,rfl,.inl (Aq.of m),GR,_,_,rfl,rfl,_,rfl,(λl Z=>∃(f:qG),Im (l=[some (.ref a),some (.ref L),some (.int (t*(p/c))),some (.ref F),some (.int p)]) (Iq d p f (t*(p/c))) (Z L=some (.lst ((p::f).reverse.map V.int))) (Z F=some (.lst (d.map λx=>V.int x.2))) (f.length<=i+1) (A8 H Z)),λh0=>?_,λh0=>?_,?_⟩
   ·have bL:c<p:=by simpa using h0
    refine⟨_,rfl,.inl ⟨rfl,_,Aq.of m⟩,_,rfl,L,_,_,rfl,rfl,m,As (by rw[List.length_map,List.length_reverse,List.length_cons];omega),?_⟩;refine⟨c::r,rfl,b.grow bL v,?_,by rw[A9 S];exact eF,by rw[List.length_cons];omega,s3.new hL⟩;rw[A2,List.reverse_cons (a:=p),List.map_append];rfl
   ·have bL:¬c<p:=by simpa using h0
    have e:c=p:=by omega
    subst e;exact⟨r,rfl,by rw[b.same];exact b,m,eF,by omega,s3⟩
   rintro l Z ⟨f,rfl,LS,D,C,hr4,s4⟩;refine⟨_,rfl,.inl ⟨rfl,_,Aq.of C⟩,_,rfl,_,rfl,L,(p::f).reverse,f,p,_,rfl,Aq.of D,by rw[List.reverse_reverse];exact LS.lv,by rw[List.reverse_reverse],LS.nn,O,l7 g U,?_⟩;refine⟨F,_,_,rfl,rfl,C,As (by rw[List.length_map];omega),?_⟩;refine⟨_,rfl,_,_,rfl,rfl,?_⟩;refine⟨d++[(p,rv (p::f) (t*(p/c)))],p,f,_,_,rfl,LS.put O,?_,by rw[List.length_append,TK];rfl,(λz=>absurd z (by omega)),(λp' _ h=>?_),by rw[A9 (Ne.symm S)];exact D,?_,hr4,s4.new G⟩
   ·rw[List.map_append,u,Ku n];rfl
   ·rw[show i+1-1=i by omega,n]at h;cases h;rfl
   ·rw[A2,List.map_append];rfl
  ·rintro l H3 ⟨d,c,r,t,v4,rfl,b,u,TK,I,J,m,eF,CU,s3⟩;refine⟨_,rfl,?_⟩;rw[List.length_map,List.take_length]at u;exact q F d H3 G s3 eF u (λx h=>⟨(b.all x h).1,(b.all x h).2.2.1,(b.all x h).2.2.2.1⟩) b.pair
def ia(K:W.Frag)(aA aE aF aB aC aD aG:Addr):Sp:=λg H Q E=>Ld λ(a:Addr) (b:qG)=>Px (g=[.ref a]) (H a=some (.lst (b.map V.int))) (b.length<64) ((∀x∈b,x<2^4000)) (H aG=some (.tab lamQ lamP)) (((∃x∈b,x<1)->∀c,A8 H c->E (.ref aA) none c)) (((∀x∈b,1<=x)->¬Gp b->∀c,A8 H c->E (.ref aE) none c)) (((∀x∈b,1<=x)->Gp b->¬Be b->∀c,A8 H c->E (.ref aF) none c)) (((∀x∈b,1<=x)->Gp b->Be b->∀(p:Addr) (f:List V) (e:List (Int×Int)) (d:Hp),H p=none->A8 H d->d p=some (.lst f)->An (Gq d) e f->e.map Prod.fst=b->ze b (e.map Prod.snd)->Q (.ref p) d))
theorem u5{fd LW sM WW:q7}{rK:Addr}(hB:Tv base mg)(F:jw K "chain_wheel" "chain_wheel" Jp ad.gB fd rK aG)(uZ:Gk P w K mg base 1 ad.kS ["periods"] (ip K) LW)(mG:Gk P w K mg base 4 ad.iQ ["periods"] (Vg K) sM)(DT:Gk P w K mg base 2 ad.qW ["periods"] (pk K) WW):B3 P w K mg base (CX1 P w) 5 ad.gB fd ["periods"] (ia K aA aE aF aB aC aD aG):=by
 refine F.uN Nx (λvs H Q E h=>?_) (λA outer s H vs Q E hr h=>?_)
 ·rcases h with⟨a,d,rfl,I,mF,nQ,hT,he1,he2,he3,q⟩<;>rfl
 ·obtain⟨a,d,rfl,I,mF,nQ,hT,he1,he2,he3,q⟩:=h;refine⟨_,(A3 (Az (Bk (Ak (Ow rfl) (by rfl) T.GJ boot_any (A0 (Cc (Cd (pv 0)) _ rfl K4 rfl rfl (λ_ _ _ _=>(Aj (i:=0) Ki rfl (Or.inl rfl))) (λ_ _ _ _=>Bw) (λ_ _ _ _=>(Bd Fh (pv 0) A7 (Ag _)))) A4))) (A5 (Ds Hc rfl (by rfl) T.gK T.fI (A0 Ah A4))) Ae) (A3 (Az (D9 (Bk (Ac uZ.g (hr.mono (by decide)) rfl T.UD T.UE uZ.b .nil Ap (A0 (pv 0) A4)))) (A5 (Ds Hc rfl (by rfl) T.oO T.jY (A0 Ah A4))) Ae) (A3 (Az (D9 (Bk (Ac mG.g (hr.mono (by decide)) rfl T.FP T.FQ mG.b .nil Ap (A0 (pv 0) A4)))) (A5 (Ds Hc rfl (by rfl) T.oP T.jZ (A0 Ah A4))) Ae) (A3 (Ad (i:=1) Nx.nd rfl (Or.inl rfl) (Uw (j:=0) (q:="chain_wheel.<locals>.<lambda>") hr (x:="number") (y:="periods") ⟨⟨_,_,_,rfl⟩,λ_ _ _ _ _ _ _=>rfl,rfl,rfl,rfl,by decide+kernel,rfl,rfl,by decide,by decide,by decide⟩ (λcc h=>Rz rfl h) rfl rfl (.inr (.inl rfl)) rfl rfl F.tab (show(("chain_wheel":Str)++".<locals>.")++"<lambda>"=("chain_wheel.<locals>.<lambda>":Str)by decide+kernel) hB (by rfl) T.jA (A0 (B5 Zp (by rfl) T.fK boot_range (A0 (Ak (Bs K) (by rfl) T.eK PySem.boot_len (A0 (pv 0) A4)) A4)) A4))) (A3 (Ed (i:=2) Nx.nd rfl (Cd (pv 0)) _ rfl K5 rfl rfl (λ_ _ _ _=>(Aj (i:=0) Kj rfl (Or.inl rfl))) (λ_ _ _ _=>Bw) (λ_ _ _ _=>(Cz (A0 (pv 0) (A0 A7 A4)))) rfl rfl) (A3 (C1 Ys rfl (Qy (by rfl) T.yT (A0 (pv 1) (A0 (Ac DT.g (hr.mono (by decide)) rfl T.m_x8 T.k_x8 DT.b .nil Ap (A0 (Ak (Ix K) (by rfl) T.jA boot_sorted (A0 (pv 0) A4)) A4)) A4))) (Dz K (n:=2) rfl (Ba (Aj (i:=3) Nx.nd rfl (Or.inl rfl)) (Ba (Aj (i:=4) Nx.nd rfl (Or.inl rfl)) Df))) (A5 (Ig (Cz (A0 (Au (Aw K) (pv 0) (pv 3) (λ_ _=>rfl)) (A0 (pv 4) A4))) (No (pv 2) (pv 3) Hf)))) (A5 (Ab (pv 2))))))))),?_⟩;refine⟨_,rfl,a,rfl,.inl ⟨⟨_,Aq.of I⟩,λC hC=>?_⟩⟩;refine Bz (K:=K) (a:=a) (xs:=d.map V.int) (λi g f=>g=((d.take i).map λx=>decide (x<1)).map V.bl/\f C=some (.lst g)/\A8 H f) ⟨rfl,A2,A8.upd hC⟩ (by rintro i g f _ ⟨_,_,s⟩;exact Aq.of (s _ _ I)) ?_ ?_
  ·rintro i y g f hy ⟨rfl,hC',s'⟩ Qe hQ;rw[List.getElem?_map]at hy;obtain⟨x,l,rfl⟩:=dI.mp hy;refine⟨_,rfl,_,_,rfl,rfl,?_⟩;refine hQ _ _ hC' (As ?_) ⟨?_,A2,s'.new hC⟩
   ·rw[List.length_map,List.length_map,List.length_take];omega
   ·rw[Ev l,List.map_append,List.map_append];rfl
  rintro ys0 H1 ⟨rfl,WX,s1⟩;rw[List.length_map,List.take_length]at WX;refine⟨C,_,rfl,Aq.of WX,_,rfl,?_⟩;rw[List.any_map];refine Fw (λp=>?_) (λp=>?_)
  ·obtain⟨x,l,hd⟩:=List.any_eq_true.mp p;exact⟨Er,λH2 s2=>he1 ⟨x,l,by simpa using hd⟩ H2 (s1.trans s2)⟩
  have L:∀x∈d,1<=x:=λx l=>by
   rcases Int.lt_or_le x 1 with z|z
   ·exact absurd (List.any_eq_true.mpr ⟨x,l,by simpa using z⟩) p
   ·exact z
  have e1:=s1 _ _ I;refine⟨_,rfl,a,d,rfl,Aq.of e1,mF,L,λb H2 s2 hb=>?_⟩;refine⟨_,rfl,?_⟩;have dH:=s1.trans s2;have e2:=dH _ _ I;refine Fw (λp=>?_) (λp=>?_)
  ·exact⟨Er,λZ s3=>he2 L (λz=>by rw[hb.mpr z]at p;cases p) Z (dH.trans s3)⟩
  have gO:Gp d:=hb.mp (by simpa using p)
  obtain⟨B,zF,zG⟩:∃B:Int,(1<=B/\B<2^4000)/\∀x∈d,1<=x/\x∣B:=by
   obtain⟨g,G,mD⟩:∃g:qG,g.Perm d/\g.Pairwise (·<=·):=⟨d.mergeSort (λa b=>decide (a<=b)),List.mergeSort_perm ..,by
    have:=List.pairwise_mergeSort (le:=λ(a b:Int)=>decide (a<=b)) (λa b c u N=>by simp at u N⊢;omega) (λa b=>by simp;omega) d;exact this.imp λh=>by simpa using h⟩
   obtain⟨B,u,N⟩:=Vo (Eu G mD L gO);refine⟨B,?_,λx l=>⟨L x l,N x (G.mem_iff.mpr l)⟩⟩;rcases u with⟨_,rfl⟩|u
   ·exact⟨by decide,by decide+kernel⟩
   ·exact⟨L B (G.mem_iff.mp u),nQ B (G.mem_iff.mp u)⟩
  refine⟨_,rfl,a,d,B,rfl,Aq.of e2,by omega,zF.1,zF.2,zG,λZ s3=>?_⟩;have wY:=dH.trans s3;have e3:=wY _ _ I;refine⟨_,rfl,?_⟩;refine Fw (λp=>?_) (λp=>?_)
  ·exact⟨Er,λH4 s4=>he3 L gO (by simpa using p) H4 (wY.trans s4)⟩
  have gR:Be d:=by simpa using p
  have q:=q L gO gR;have hT3:=wY _ _ hT;refine⟨_,rfl,a,_,rfl,.inl (Aq.of e3),_,rfl,λrg hrg=>?_⟩;have el:(((d.map V.int).length:Nat):Int)=((d.length:Nat):Int):=by rw[List.length_map]
  rw[el];have s4:A8 Z (upd Z rg (.xH 0 ((d.length:Nat):Int))):=A8.upd hrg;have e4:(upd Z rg (.xH 0 ((d.length:Nat):Int))) rg=some (.xH 0 ((d.length:Nat):Int)):=A2;generalize upd Z rg (.xH 0 ((d.length:Nat):Int))=H4 at s4 e4⊢;have e34:=s4 _ _ e3;refine⟨rg,a,d,rfl,e4,rfl,Aq.of e34,mF,s4 _ _ hT3,λO m H5 s5 hO eO zH hopw=>?_⟩;have DU:=wY.trans (s4.trans s5);have e5:=DU _ _ I;refine⟨_,rfl,a,rfl,.inl ⟨⟨_,Aq.of e5⟩,λD hD=>?_⟩⟩;refine Bz (K:=K) (a:=a) (xs:=d.map V.int) (λi n f=>An (Gq f) ((d.take i).map λx=>(x,0)) n/\f D=some (.lst n)/\A8 H5 f) ⟨An.nil,A2,A8.upd hD⟩ (by rintro i g f _ ⟨_,_,s⟩;exact Aq.of (s _ _ e5)) ?_ ?_
  ·rintro i y n f hy ⟨hA,mW,s'⟩ Qe hQ;rw[List.getElem?_map]at hy;obtain⟨x,l,rfl⟩:=dI.mp hy;refine⟨_,rfl,B4,λT U=>?_⟩;have st:A8 f (upd f T (.tup [.int x,.int 0])):=A8.upd U;have et:(upd f T (.tup [.int x,.int 0])) T=some (.tup [.int x,.int 0]):=A2;generalize upd f T (.tup [.int x,.int 0])=H'' at st et⊢;have tl:=Ax.lst (o:=.lst (n++[.ref T])) (st _ _ mW);refine hQ _ _ (st _ _ mW) (As (by rw[hA.1,List.length_map,List.length_take];omega)) ⟨?_,A2,(s'.trans st).new hD⟩;rw[Ev l,List.map_append];exact(hA.imp λr v z=>Gq.up ((Ax.of st).trans tl) z).append (An.one ⟨T,rfl,tl _ _ et⟩)
  rintro us0 H6 ⟨hA6,GS,s6⟩;rw[List.length_map,List.take_length]at hA6;have QZ:=DU.trans s6;have e6:=QZ _ _ I;have eO6:=s6 _ _ eO;have rR:H D=none:=DU.free hD;refine⟨_,rfl,_,rfl,a,d,rfl,Aq.of e6,mF,λR g hR G mD=>?_⟩;have s7:A8 H6 (upd H6 R (.lst (g.map V.int))):=A8.upd hR;have e7:(upd H6 R (.lst (g.map V.int))) R=some (.lst (g.map V.int)):=A2;generalize upd H6 R (.lst (g.map V.int))=H7 at s7 e7⊢;have QY:g.length=d.length:=G.length_eq;refine⟨R,g,B,rfl,e7,by omega,zF.1,zF.2,λx l=>zG x (G.mem_iff.mp l),Eu G mD L gO,?_,λF dn H8 hF s8 eF GQ WY hdpw=>?_⟩
  ·have:=(Nv zF.1 zG).mp gR;unfold Fu at this⊢;rw[cq (G.map _)];exact this
  have J:=s7.trans s8;have eO8:=J _ _ eO6;have RA:=J _ _ GS;have s18:=QZ.trans J;have QV:m.length=d.length:=by rw[zH.length_eq,List.length_range]
  have TK:dn.length=g.length:=by rw[<- GQ,List.length_map]
  have DV:=Oj G mD zH (List.pairwise_map.mpr hopw);have hnd:m.Nodup:=zH.nodup_iff.mpr List.nodup_range;have nDO:D≠O:=λe=>by rw[e,eO]at hD;cases hD
  have nDF:D≠F:=λe=>by rw[<- e,s7 _ _ GS]at hF;cases hF
  refine⟨false,false,O,F,rfl,⟨_,Aq.of eO8⟩,⟨_,Aq.of eF⟩,?_⟩
  refine Sd (K:=K) (b1:=false) (b2:=false) (c:=O) (d:=F) (xs:=m.map λ(k:Nat)=>V.int ((k:Nat):Int)) (ys:=dn.map λx=>V.int x.2) (by rw[List.length_map,List.length_map];omega)
   (λi σ f=>Zh λ(n:List V) (Y:List (Int×Int)) (v3 v4:Option V)=>Rq (σ=[some (.ref a),some (.ref O),some (.ref D),v3,v4]) (f D=some (.lst n)) (An (Gq f) Y n) (Y.map Prod.fst=d) ((∀(j o:Nat) (x:Int×Int),j<i->m[j]?=some o->dn[j]?=some x->Y[o]?=some x)) (f O=some (.lst (m.map λ(k:Nat)=>V.int ((k:Nat):Int)))) (f F=some (.lst (dn.map λx=>V.int x.2))) (A8 H f))
   ⟨us0,_,_,_,rfl,RA,hA6.imp λr v z=>Gq.up (Ax.of J) z,by rw[List.map_map];exact List.map_id d,(λj o x h=>absurd h (by omega)),eO8,eF,s18⟩ (by rintro i σ f _ ⟨_,_,_,_,_,_,_,_,_,u,N,_⟩;exact⟨Aq.of u,Aq.of N⟩) ?_ ?_
  ·rintro i xo yf T σ H9 ho0 hf0 ⟨n,Y,v3,v4,rfl,S,WZ,mS,qE,eO9,eF9,s9⟩ U;rw[List.getElem?_map]at ho0 hf0;obtain⟨o,X,rfl⟩:=dI.mp ho0;obtain⟨z,hz,rfl⟩:=dI.mp hf0;have hom:o<d.length:=oM.mp (zH.mem_iff.mp (cI X))
   have hxo:d[o]?=some z.1:=by
    have u:g[i]?=some z.1:=by rw[<- GQ,List.getElem?_map,hz];rfl
    rw[<- DV,List.getElem?_map,X]at u;have N:d.getD o 0=z.1:=by simpa using u
    rw[List.getElem?_eq_getElem hom,<- N,List.getD_eq_getElem?_getD,List.getElem?_eq_getElem hom];rfl
   have jO:A8 H9 (upd H9 T (.tup [.int ((o:Nat):Int),.int z.2])):=A8.upd U;have LX:(upd H9 T (.tup [.int ((o:Nat):Int),.int z.2])) T=some (.tup [.int ((o:Nat):Int),.int z.2]):=A2;generalize upd H9 T (.tup [.int ((o:Nat):Int),.int z.2])=xM at jO LX⊢;refine⟨T,_,rfl,Cf.of LX,rfl,_,_,rfl,_,_,rfl,rfl,?_⟩;have XA:=s9.trans jO;have zI:Oa (d.map V.int) ((o:Nat):Int)=some (.int z.1):=Ek (by rw[List.getElem?_map,hxo];rfl);refine⟨_,rfl,_,rfl,a,_,_,_,rfl,rfl,.inl (Aq.of (XA _ _ I)),zI,_,rfl,B4,λM LY=>?_⟩;have pE:A8 xM (upd xM M (.tup [.int z.1,.int z.2])):=A8.upd LY;have e11:(upd xM M (.tup [.int z.1,.int z.2])) M=some (.tup [.int z.1,.int z.2]):=A2;generalize upd xM M (.tup [.int z.1,.int z.2])=KN at pE e11⊢;have XB:=pE _ _ (jO _ _ S);have hul:n.length=d.length:=by rw[WZ.1,<- mS,List.length_map]
   refine⟨_,rfl,_,rfl,D,_,_,_,rfl,rfl,XB,Hj (by omega),?_⟩;have tl:=Ax.lst (o:=.lst (n.set o (.ref M))) XB;refine⟨n.set o (.ref M),Y.set o z,_,_,rfl,A2,((WZ.imp λr v w=>Gq.up (((Ax.of jO).trans (Ax.of pE)).trans tl) w).set o ⟨M,rfl,tl _ _ e11⟩),?_,λj o' x hj iE iC=>?_,by rw[A9 (Ne.symm nDO)];exact pE _ _ (jO _ _ eO9),by rw[A9 (Ne.symm nDF)];exact pE _ _ (jO _ _ eF9),(XA.trans pE).new rR⟩
   ·rw[List.map_set,mS];refine List.ext_getElem? λj=>?_;rw[List.getElem?_set];split
    ·rename_i e;subst e;rw[hxo]
    ·rfl
   ·rw[List.getElem?_set];by_cases e:j=i
    ·subst e;rw[X]at iE;cases iE;rw[hz]at iC;cases iC;rw[if_pos rfl,if_pos (by rw[<- WZ.1];omega)]
    ·rw[if_neg λw=>e ?_]
     ·exact qE j o' x (by omega) iE iC
     ·subst w;have wW:=cb.mp iE;have jQ:=cb.mp X;have hpn:=List.pairwise_iff_getElem.mp hnd;rcases Nat.lt_or_gt_of_ne e with y|y
      ·exact absurd (wW.2.trans jQ.2.symm) (hpn j i wW.1 jQ.1 y)
      ·exact absurd (jQ.2.trans wW.2.symm) (hpn i j jQ.1 wW.1 y)
  ·rintro σ H9 ⟨n,Y,v3,v4,rfl,S,WZ,mS,qE,eO9,eF9,s9⟩;refine⟨_,rfl,?_⟩;rw[List.length_map]at qE;refine q D n Y H9 rR s9 S WZ mS (yu (dn:=dn) (ord:=m) (by rw[<- mS,List.length_map,List.length_map]) zH (by omega) (λk o x X l=>?_) WY hdpw);have h:=qE k o x (cb.mp X).1 X l;refine⟨?_,by rw[List.getElem?_map,h];rfl⟩;rw[<- mS,List.getElem?_map,h];rfl
def iz(K:W.Frag):Sp:=λa H Q _=>Ld λ(w b:Int)=>Im (a=[.int w,.int b]) (1<=b) (b<=w) (b<2^400) (w<2^400) (∀k:Nat,b*2^k<=w->w<2*(b*2^k)->Q (.int (b*2^k)) H)
theorem uw{d:q7}(F:D4 K "doubling" "doubling" fe ad.kU d):B3 P w K mg base (CX1 P w) 1 ad.kU d ["wait","base"] (iz K):=by
 refine F.okN gq (λu H Q E h=>?_) (λv A c s H u Q E y h=>?_)
 ·rcases h with⟨w,b,rfl,e,o,f,a,q⟩<;>rfl
 ·obtain⟨w,b,rfl,e,o,f,a,q⟩:=h;refine⟨_,(A3 (Ad (i:=2) gq.nd rfl (Or.inl rfl) (Al Dq (pv 0) (pv 1))) (A5 (Ab (Al mh (pv 1) (Al Nk (wa PySem.F.plainAttrs_int PySem.F.slot_int_bit_length PySem.F.type_int_bit_length Yj (pv 2)) A7))))),?_⟩;have l:1<=w/b:=(Int.le_ediv_iff_mul_le (by omega)).mpr (by omega);have x:w/b<=w:=Int.ediv_le_self _ (by omega);obtain⟨k,g,p,r⟩:=kc l;obtain⟨i,j⟩:=Xu e rfl p r;have m:intBits b<=401:=El (by omega);have n:intBits (w/b)<=401:=El (by omega);refine⟨_,rfl,_,rfl,_,_,rfl,rfl,⟨by omega,by omega⟩,?_⟩;refine⟨_,rfl,_,rfl,rfl,_,rfl,rfl,_,_,rfl,rfl,_,_,rfl,rfl,⟨by omega,by omega⟩,?_⟩;rw[g];show Q (.int (b*2^((k:Nat):Int).toNat)) H;rw[Int.toNat_natCast];exact q k i j
def Rj(K:W.Frag)(aA aE aF aB aC aD aG:Addr):Sp:=λg H Q E=>O5 λ(a:Addr) (c:qG) (b:Int)=>Jw (g=[.ref a,.int b]) (H a=some (.lst (c.map V.int))) (c.length<=100) (b<2^400) ((∀x∈c,x<2^400)) (((b<1\/∃x∈c,x<b)->∀f,A8 H f->E (.ref aA) none f)) ((1<=b->(∀x∈c,b<=x)->∀(p:Addr) (e:qG) (d:Hp),H p=none->A8 H d->d p=some (.lst (e.map V.int))->e.length=c.length->(∀(i:Nat) (x y:Int),c[i]?=some x->e[i]?=some y->∃k:Nat,y=b*2^k/\b*2^k<=x/\x<2*(b*2^k))->Q (.ref p) d))
theorem vn{fd MA:q7}(F:D4 K "doubled" "doubled" Tg ad.gS fd)(vA:Gk P w K mg base 1 ad.kU ["wait","base"] (iz K) MA):B3 P w K mg base (CX1 P w) 2 ad.gS fd ["waits","base"] (Rj K aA aE aF aB aC aD aG):=by
 refine F.uN xy (λvs H Q E h=>?_) (λbK A R s H vs Q E hr h=>?_)
 ·rcases h with⟨a,g,b,rfl,B,mF,Z,nQ,he,q⟩<;>rfl
 ·obtain⟨a,g,b,rfl,B,mF,Z,nQ,he,q⟩:=h;refine⟨_,(A3 (Az (PW.pt (d4 (Ai Fh (pv 1) A7 (Ag _)) (Ee (Bk (Ak (Ow rfl) (by rfl) T.GJ boot_any (A0 (Cc (Cd (pv 0)) _ rfl Q9 rfl rfl (λ_ _ _ _=>(Aj (i:=0) Qr rfl (Or.inl rfl))) (λ_ _ _ _=>Bw) (λ_ _ _ _=>(Bd Fh (pv 0) (pv 1) (Ag _)))) A4)))))) (A5 (Ds Hc rfl (by rfl) T.gK T.fI (A0 Ah A4))) Ae) (A5 (Ab (Cc (Cd (pv 0)) _ rfl Qa rfl rfl (λ_ _ _ _=>(Aj (i:=0) Qs rfl (Or.inl rfl))) (λ_ _ _ _=>Bw) (λ_ _ _ _=>(Ac vA.g (hr.mono (by decide)) rfl T.UJ T.UK vA.b .nil Ap (A0 (pv 0) (A0 (pv 1) A4)))))))),?_⟩;refine⟨_,rfl,_,_,rfl,rfl,_,rfl,(λd c=>A8 H c/\(d=true↔(b<1\/∃x∈g,x<b))),λm=>⟨A8.refl _,λ_=>.inl (by simpa using m),λ_=>rfl⟩,λm=>?_,?_⟩
  ·have G:¬b<1:=by simpa using m
   refine⟨_,rfl,a,rfl,.inl ⟨⟨_,Aq.of B⟩,λC hC=>?_⟩⟩;refine Bz (K:=K) (a:=a) (xs:=g.map V.int) (λi f c=>f=((g.take i).map λx=>decide (x<b)).map V.bl/\c C=some (.lst f)/\A8 H c) ⟨rfl,A2,A8.upd hC⟩ (by rintro i f c _ ⟨_,_,s⟩;exact Aq.of (s _ _ B)) ?_ ?_
   ·rintro i y f c u ⟨rfl,J,S⟩ Qe M;rw[List.getElem?_map]at u;obtain⟨x,e,rfl⟩:=dI.mp u;refine⟨_,rfl,_,rfl,_,_,rfl,rfl,?_⟩;refine M _ _ J (As ?_) ⟨?_,A2,S.new hC⟩
    ·rw[List.length_map,List.length_map,List.length_take];omega
    ·rw[Ev e,List.map_append,List.map_append];rfl
   rintro f Y ⟨rfl,WX,o⟩;rw[List.length_map,List.take_length]at WX;refine⟨C,_,rfl,Aq.of WX,_,rfl,o,?_⟩;rw[List.any_map,List.any_eq_true];constructor
   ·rintro⟨x,e,n⟩;exact .inr ⟨x,e,by simpa using n⟩
   ·rintro(z|⟨x,e,n⟩)
    ·exact absurd z G
    ·exact⟨x,e,by simpa using n⟩
  rintro d Y ⟨o,n⟩;refine Fw (λm=>?_) (λm=>?_)
  ·exact⟨Er,λI U=>he (n.mp m) I (o.trans U)⟩
  have X:¬(b<1\/∃x∈g,x<b):=λz=>m (n.mpr z)
  have G:1<=b:=by
   rcases Int.lt_or_le b 1 with z|z
   ·exact absurd (.inl z) X
   ·exact z
  have r:∀x∈g,b<=x:=λx e=>by
   rcases Int.lt_or_le x b with z|z
   ·exact absurd (.inr ⟨x,e,z⟩) X
   ·exact z
  have e1:=o _ _ B;refine⟨_,rfl,a,rfl,.inl ⟨⟨_,Aq.of e1⟩,λD L=>?_⟩⟩;refine Bz (K:=K) (a:=a) (xs:=g.map V.int) (λi f c=>∃(l:qG),Fq (f=l.map V.int) (l.length=i) ((∀(j:Nat) (x y:Int),g[j]?=some x->l[j]?=some y->∃k:Nat,y=b*2^k/\b*2^k<=x/\x<2*(b*2^k))) (c D=some (.lst f)) (A8 Y c)) ⟨[],rfl,rfl,(λj x y _ z=>by cases z),A2,A8.upd L⟩ (by rintro i f c _ ⟨_,_,_,_,_,s⟩;exact Aq.of (s _ _ e1)) ?_ ?_
  ·rintro i y f c u ⟨l,rfl,v,N,mW,S⟩ Qe M;rw[List.getElem?_map]at u;obtain⟨x,e,rfl⟩:=dI.mp u;have hi:=(cb.mp e).1;have hm:=cI e;refine⟨_,rfl,_,rfl,_,_,rfl,G,r x hm,Z,nQ x hm,λk f1 f2=>?_⟩;refine M _ _ mW (As (by rw[List.length_map];omega)) ⟨l++[b*2^k],by rw[List.map_append];rfl,by rw[List.length_append,v];rfl,λj x' y' O p=>?_,A2,S.new L⟩;rcases i3 j l.length with z|z
   ·rw[List.getElem?_append_left z]at p;exact N j x' y' O p
   ·have hj:j=i:=by
     have:=(cb.mp p).1;rw[List.length_append,List.length_singleton]at this;omega
    subst hj;rw[e]at O;cases O;rw[<- v,List.getElem?_concat_length]at p;cases p;exact⟨k,rfl,f1,f2⟩
  rintro f I ⟨l,rfl,v,N,gQ,U⟩;rw[List.length_map]at v;exact q G r D l I (o.free L) (o.trans U) gQ v N
def ib(K:W.Frag):Sp:=λa H Q _=>Ld λ(w m:Int)=>Fp (a=[.int w,.int m]) (1<=w) (1<=m) (∀r,Ty w m r->Q (.int r) H)
theorem u6{g:q7}(F:D4 K "halved_down" "halved_down" du ad.kW g):B3 P w K mg base (CX1 P w) 1 ad.kW g ["wait","most"] (ib K):=by
 refine F.okN gf (λJ H Q E h=>?_) (λO A f s H J Q E S h=>?_)
 ·rcases h with⟨w,m,rfl,n,D,q⟩<;>rfl
 ·obtain⟨w,m,rfl,n,D,q⟩:=h;refine⟨_,(A3 (Nr ml (Ai Jh (pv 0) (pv 1) (Ag _)) (A5 (Ad (i:=0) gf.nd rfl (Or.inl rfl) (Al Cr (pv 0) A7)))) (A5 (Ab (pv 0)))),?_⟩;refine O4 (λa b=>Ld λ(c:Int) (j:Nat)=>Fq (a=[some (.int c),some (.int m)]) (1<=c) (c=w/2^j) ((∀i,i<j->m<w/2^i)) (b=H)) (λ(a:L2.St) (_:L2.Hp)=>match a[0]? with|some (some (V.int y))=>y.toNat|_=>0) ⟨w,0,rfl,n,by simp,(λi h=>absurd h (nU _)),rfl⟩ ?_ ?_
  ·rintro a b ⟨c,j,rfl,L,e,l,rfl⟩;refine⟨_,rfl,_,rfl,_,_,rfl,rfl,_,rfl,Fw (λd=>?_) (λd=>?_)⟩
   ·have o:m<c:=by simpa using d
    refine⟨_,rfl,_,_,rfl,rfl,⟨by decide,by decide⟩,⟨c/2,j+1,rfl,by omega,by rw[P8 (by omega),<- e],λi R=>?_,rfl⟩,?_⟩
    ·rcases i3 i j with z|z
     ·exact l i z
     ·rw[show i=j by omega,<- e];exact o
    ·show(c/2).toNat<c.toNat;omega
   ·have C:¬m<c:=by simpa using d
    exact⟨_,rfl,q c ⟨L,by omega,j,e,l⟩⟩
  ·rintro a b M N B ⟨v,p,I,G,i,j,r,u,c,x,z⟩;exact⟨v,p,I,G,i,j,r,u,c,x,B _ _ z⟩
def Vh(K:W.Frag)(aA aE aF aB aC aD aG:Addr):Sp:=λe H Q E=>Ld λ(a:Addr) (b:qG)=>Im (e=[.ref a]) (H a=some (.lst (b.map V.int))) (b.length<64) ((∀x∈b,x<2^400)) (((b=[]\/∃x∈b,x<1)->∀d,A8 H d->E (.ref aA) none d)) ((b≠[]->(∀x∈b,1<=x)->∀(r:qH) (c:Hp),A8 H c->Ip b r->Q (vO r) c))
theorem uk{fd MB sM nI:q7}(F:D4 K "best_base" "best_base" Tf ad.iR fd)(vB:Gk P w K mg base 1 ad.kW ["wait","most"] (ib K) MB)(mG:Gk P w K mg base 4 ad.iQ ["periods"] (Vg K) sM)(fS:Gk P w K mg base 2 ad.gS ["waits","base"] (Rj K aA aE aF aB aC aD aG) nI):B3 P w K mg base (CX1 P w) 5 ad.iR fd ["waits"] (Vh K aA aE aF aB aC aD aG):=by
 refine F.uN V7 (λvs H Q E h=>?_) (λbK A outer s H vs Q E o h=>?_)
 ·rcases h with⟨a,d,rfl,L,mF,nQ,he,q⟩<;>rfl
 ·obtain⟨a,d,rfl,L,mF,nQ,he,q⟩:=h;refine⟨_,(A3 (Az (PW.pt (Da (Ai C7 (Ak (Bs K) (by rfl) T.eK PySem.boot_len (A0 (pv 0) A4)) A7 (Ag _)) (Ee (Ai Fh (Ak (Hi rfl) (by rfl) T.oN boot_min (A0 (pv 0) A4)) A7 (Ag _))))) (A5 (Ds Hc rfl (by rfl) T.gK T.fI (A0 Ah A4))) Ae) (A3 (Ad (i:=1) V7.nd rfl (Or.inr rfl) (Ak (Hi rfl) (by rfl) T.oN boot_min (A0 (pv 0) A4))) (A3 (Ed (i:=2) V7.nd rfl (Cd (pv 0)) _ rfl Me rfl rfl (λ_ _ _ _=>(Aj (i:=0) N8 rfl (Or.inl rfl))) (λ_ _ _ _=>Bw) (λ_ _ _ _=>(Ac vB.g (o.mono (by decide)) rfl T.UL T.UM vB.b .nil Ap (A0 (pv 0) (A0 (pv 1) A4)))) rfl rfl) (A5 (Ab (mn rfl (by rfl) T.yU boot_max (A0 (Cc (Cd (Ux rfl (by rfl) T.jA (by rfl) T.WH (A0 (pv 2) A4))) _ rfl Mf rfl rfl (λ_ _ _ _=>(Aj (i:=0) N9 rfl (Or.inl rfl))) (λ_ _ _ _=>(R4 (Bk (Ac mG.g (o.mono (by decide)) rfl T.FP T.FQ mG.b .nil Ap (A0 (Ac fS.g (o.mono (by decide)) rfl T.yF T.yG fS.b .nil Ap (A0 (pv 1) (A0 (pv 0) A4))) A4))))) (λ_ _ _ _=>(pv 0))) A4) Bj)))))),?_⟩;refine⟨_,rfl,a,_,rfl,.inl (Aq.of L),rfl,_,rfl,decide (∃x∈d,x<1),λC Q' z=>?_,?_⟩
  ·have eJ:d≠[]:=by
    rintro rfl;simp at C
   refine⟨_,rfl,a,d,rfl,Aq.of L,nf.mpr eJ,λm N O=>?_⟩;refine⟨_,_,rfl,rfl,_,rfl,?_⟩
   have e:decide (m<1)=decide (∃x∈d,x<1):=by
    by_cases l:m<1
    ·rw[decide_eq_true l,decide_eq_true ⟨m,N,l⟩]
    ·rw[decide_eq_false l,decide_eq_false];rintro⟨x,f,h2⟩;have:=O x f;omega
   rw[e];exact z
  refine Fw (λC=>?_) (λC=>?_)
  ·refine⟨Er,λH2 s2=>he ?_ H2 s2⟩;rcases Bool.or_eq_true _ _▸C with l|l
   ·left;have:d.length=0:=by simpa using l
    exact List.length_eq_zero_iff.mp this
   ·exact .inr (of_decide_eq_true l)
  have J:=Bool.eq_false_iff.mpr C;rw[Bool.or_eq_false_iff]at J
  have eJ:d≠[]:=by
   rintro rfl;simp at J
  have l:∀x∈d,1<=x:=λx f=>by
   rcases Int.lt_or_le x 1 with z|z
   ·exact absurd ⟨x,f,z⟩ (of_decide_eq_false J.2)
   ·exact z
  have q:=q eJ l;clear C J he;refine⟨_,rfl,a,d,rfl,Aq.of L,nf.mpr eJ,λm N O=>?_⟩;have hm1:=l m N;refine⟨_,rfl,a,rfl,.inl ⟨⟨_,Aq.of L⟩,λD hD=>?_⟩⟩;refine Bz (K:=K) (a:=a) (xs:=d.map V.int) (λi I g=>∃(bs:qG),Fq (I=bs.map V.int) (bs.length=i) ((∀(j:Nat) (x b:Int),d[j]?=some x->bs[j]?=some b->Ty x m b)) (g D=some (.lst I)) (A8 H g)) ⟨[],rfl,rfl,(λj x y _ z=>by cases z),A2,A8.upd hD⟩ (by rintro i v g _ ⟨_,_,_,_,_,s⟩;exact Aq.of (s _ _ L)) ?_ ?_
  ·rintro i y I g u ⟨bs,rfl,CV,GV,mW,s'⟩ Qe X;rw[List.getElem?_map]at u;obtain⟨x,f,rfl⟩:=dI.mp u;have hi:=(cb.mp f).1;refine⟨_,rfl,_,rfl,x,m,rfl,l x (cI f),hm1,λr o=>?_⟩;refine X _ _ mW (As (by rw[List.length_map];omega)) ⟨bs++[r],by rw[List.map_append];rfl,by rw[List.length_append,CV];rfl,λj x' b' iC pG=>?_,A2,s'.new hD⟩;rcases i3 j bs.length with z|z
   ·rw[List.getElem?_append_left z]at pG;exact GV j x' b' iC pG
   ·have M:j=i:=by
     have:=(cb.mp pG).1;rw[List.length_append,List.length_singleton]at this;omega
    subst M;rw[f]at iC;cases iC;rw[<- CV,List.getElem?_concat_length]at pG;cases pG;exact o
  rintro I H1 ⟨bs,rfl,CV,GV,gF,s1⟩;rw[List.length_map]at CV
  have MC:∀w∈d,∃r∈bs,Ty w m r:=λw hw=>by
   obtain⟨j,M⟩:=gP.mp hw;have wW:=(cb.mp M).1;have n:bs[j]?=some (bs[j]'(by omega)):=d3 (by omega);exact⟨_,cI n,GV j _ _ M n⟩
  have Z:∀b∈bs,1<=b/\b<=m:=λb n=>by
   obtain⟨j,M⟩:=gP.mp n;have wW:=(cb.mp M).1;have f:d[j]?=some (d[j]'(by omega)):=d3 (by omega);have:=GV j _ _ f M;exact⟨this.1,this.2.1⟩
  refine⟨_,rfl,D,bs,rfl,Aq.of gF,by omega,λR v hR QY hym hysort=>?_⟩;have s2:A8 H1 (upd H1 R (.lst (v.map V.int))):=A8.upd hR;have e2:(upd H1 R (.lst (v.map V.int))) R=some (.lst (v.map V.int)):=A2;generalize upd H1 R (.lst (v.map V.int))=H2 at s2 e2⊢;have s02:=s1.trans s2
  have oU:∀w∈d,∃r∈v,Ty w m r:=λw hw=>by
   obtain⟨r,o,h⟩:=MC w hw;exact⟨r,(hym r).mpr o,h⟩
  have oZ:∀y∈v,1<=y/\y<=m:=λy u=>Z y ((hym y).mp u);refine⟨R,rfl,.inl ⟨⟨_,Aq.of e2⟩,λG hG=>?_⟩⟩;refine U5 (K:=K) (a:=R) (xs:=v.map V.int) (λi I g=>I=((v.take i).filter λy=>decide (Be (d.map (E7 y)))).map V.int/\g G=some (.lst I)/\A8 H2 g) ⟨rfl,A2,A8.upd hG⟩ (by rintro i I g _ ⟨_,_,s⟩;exact Aq.of (s _ _ e2)) ?_ ?_ ?_ ?_
  ·rintro i y I g u ⟨rfl,hG',s'⟩;rw[List.getElem?_map]at u;obtain⟨b,n,rfl⟩:=dI.mp u;have wQ:=cI n;have hi:=(cb.mp n).1;have MD:=oZ b wQ;have rJ:∀x∈d,b<=x:=λx f=>oD MD.2 (O x f);have ha':=s'.trans (A8.refl _) _ _ (s02 _ _ L);refine⟨_,rfl,_,rfl,a,d,b,rfl,ha',by omega,?_,nQ,λz=>?_,λ_ _ p zs H4 hp s4 e4 qI hz=>?_⟩
   ·have:=nQ m N;omega
   ·rcases z with z|⟨x,f,z⟩
    ·omega
    ·have:=rJ x f;omega
   have ez:=Vv MD.1 qI hz;subst ez;obtain⟨B,hB1,hB2,hB3⟩:=kf MD.1 λx f=>⟨rJ x f,nQ x f⟩;refine⟨p,_,B,rfl,Aq.of e4,by rw[List.length_map];omega,hB1,hB2,hB3,λH5 s5=>?_⟩;have s45:=s'.trans (s4.trans s5);have U:=s5 _ _ (s4 _ _ hG');refine⟨_,rfl,Fw (λC=>?_) (λC=>?_)⟩
   ·refine⟨_,rfl,U,As ?_,?_,A2,s45.new hG⟩
    ·rw[List.length_map];have:=List.length_filter_le (λy=>decide (Be (d.map (E7 y)))) (v.take i);rw[List.length_take]at this;omega
    ·rw[Ev n,List.filter_append,List.map_append,List.filter_cons,if_pos C];rfl
   ·refine⟨?_,U,s45⟩;rw[Ev n,List.filter_append,List.filter_cons,if_neg C,List.filter_nil,List.append_nil]
  ·rintro σ g Q1 Q2 X ⟨v1,f1,v2,f2,a',xs',b',f3,g1,g2,g3,g4,ge,hq⟩;refine⟨v1,f1,v2,f2,a',xs',b',f3,g1,g2,g3,g4,ge,λz1 z2 p CN H3 k1 k2 k3 k4 k5=>?_⟩;obtain⟨a2,xs2,B2,l1,l2,l3,l4,l5,l6,hq2⟩:=hq z1 z2 p CN H3 k1 k2 k3 k4 k5;refine⟨a2,xs2,B2,l1,l2,l3,l4,l5,l6,λH4 s4=>?_⟩;obtain⟨c,ec,hq3⟩:=hq2 H4 s4;exact⟨c,ec,X _ _ hq3⟩
  ·rintro σ g Q1 Q2 X ⟨v1,f1,z⟩;exact⟨v1,f1,X _ _ z⟩
  rintro I H3 ⟨rfl,S,s3⟩;rw[List.length_map,List.take_length]at S;have s03:=s02.trans s3;refine⟨G,_,rfl,rfl,Aq.of S,λzJ=>?_,λb n LQ=>?_⟩
  ·refine q none H3 s03 (Xg N O oU λy u o=>?_);have:y∈v.filter λy=>decide (Be (d.map (E7 y))):=pa.mpr ⟨u,decide_eq_true o⟩;rw[zJ]at this;cases this
  ·obtain⟨Y,RB⟩:=pa.mp n;refine q (some b) H3 s03 (Xh N O oU (oZ b Y).1 (oZ b Y).2 (of_decide_eq_true RB) λy u o=>LQ y (pa.mpr ⟨u,decide_eq_true o⟩))
def iq(K:W.Frag)(aA aE aF aB aC aD aG:Addr):Sp:=λh H Q E=>Ld λ(a:Addr) (c:qG)=>Rq (h=[.ref a]) (H a=some (.lst (c.map V.int))) (c.length<64) ((∀x∈c,x<2^400)) (H aG=some (.tab lamQ lamP)) (((c=[]\/∃x∈c,x<1)->∀f,A8 H f->E (.ref aA) none f)) ((c≠[]->(∀x∈c,1<=x)->Ip c none->∀d,A8 H d->Q .bN d)) ((c≠[]->(∀x∈c,1<=x)->∀(b:Int) (t p:Addr) (g:List V) (e:List (Int×Int)) (d:Hp),Ip c (some b)->A8 H d->H t=none->H p=none->d t=some (.tup [.int b,.ref p])->d p=some (.lst g)->An (Gq d) e g->e.map Prod.fst=c.map (E7 b)->ze (c.map (E7 b)) (e.map Prod.snd)->Q (.ref t) d))
theorem ul{J sO ME nI:q7}(F:D4 K "wheel_for" "wheel_for" f8 ad.kX J)(R:Gk P w K mg base 5 ad.iR ["waits"] (Vh K aA aE aF aB aC aD aG) sO)(Z:Gk P w K mg base 5 ad.gB ["periods"] (ia K aA aE aF aB aC aD aG) ME)(I:Gk P w K mg base 2 ad.gS ["waits","base"] (Rj K aA aE aF aB aC aD aG) nI):B3 P w K mg base (CX1 P w) 6 ad.kX J ["waits"] (iq K aA aE aF aB aC aD aG):=by
 refine F.uN gn (λvs H Q E h=>?_) (λbK A u s H vs Q E m h=>?_)
 ·rcases h with⟨a,c,rfl,l,q,d,M,N,S,U⟩<;>rfl
 ·obtain⟨a,c,rfl,l,q,d,M,N,S,U⟩:=h;refine⟨_,(A3 (Ad (i:=1) gn.nd rfl (Or.inl rfl) (Eb R.g (m.mono (by decide)) rfl T.FR T.FT R.b .nil Ji (A0 (pv 0) A4))) (A3 (Az (Ai Fy (pv 1) Bj (Ag _)) (A5 (Ab Bj)) Ae) (A5 (Ab (Cz (A0 (pv 1) (A0 (Eb Z.g (m.mono (by decide)) rfl T.UI T.uS Z.b .nil Ji (A0 (Eb I.g (m.mono (by decide)) rfl T.yF T.yG I.b .nil Ji (A0 (pv 0) (A0 (pv 1) A4))) A4)) A4))))))),?_⟩;refine⟨_,rfl,E,λ_ _ _ z=>z,a,c,rfl,l,q,d,N,λj L r H1 g D=>?_⟩;cases r with
  |none=>
   refine⟨_,rfl,rfl,_,rfl,Cm rfl ?_⟩;exact S j L D H1 g
  |some b=>
   refine⟨_,rfl,rfl,_,rfl,Ar rfl ?_⟩;have gU:=g _ _ l;obtain⟨o,B,RB,_⟩:=id D
   have LZ:b<2^400:=by
    cases c with
    |nil=>exact absurd rfl j
    |cons x c=>exact l7 (B x dm) (d x dm)
   refine⟨_,rfl,_,rfl,_,rfl,E,λ_ _ _ z=>z,a,c,b,rfl,gU,by omega,LZ,d,λz=>?_,λ_ _ p zs H2 hp X e2 qI hz=>?_⟩
   ·rcases z with z|⟨x,e,z⟩
    ·omega
    ·have:=B x e;omega
   have ez:=Vv o qI hz;subst ez
   have f:∀y∈c.map (E7 b),1<=y/\y<2^4000:=λy f=>by
    obtain⟨x,e,rfl⟩:=fx.mp f;have h2:=Qg (x:=x) o;have h3:=(Gu o (B x e)).1;have h4:=d x e;have k:(2:Int)^400<2^4000:=by decide+kernel
    exact⟨by omega,l7 h3 (Int.lt_trans h4 k)⟩
   have LY:=X _ _ (g _ _ M);refine⟨E,λ_ _ _ z=>z,p,_,rfl,e2,by rw[List.length_map];exact q,λy h=>(f y h).2,LY,(λ⟨y,h,z⟩=>absurd z (by have:=(f y h).1;omega)),(λ_ z=>absurd (Kb b c) z),(λ_ _ z=>absurd RB z),λ_ _ _ w us rs G hw Y e3 all mS n=>?_⟩;refine⟨B4,λt O=>?_⟩;have i:=g.trans X;have C:A8 G (upd G t (.tup [.int b,.ref w])):=A8.upd O;exact U j L b t w us rs _ D (i.trans (Y.trans C)) ((i.trans Y).free O) (i.free hw) A2 (C _ _ e3) (all.imp λr v z=>Gq.up (Ax.of C) z) mS n
def ja(K:W.Frag):Sp:=λf H Q _=>O5 λ(a:Addr) (b:qG) (e:qH)=>Jw (f=[.ref a,vO e]) (H a=some (.lst (b.map V.int))) (0<b.length) (b.length<=8) ((∀x∈b,1<=x)) ((∀c,e=some c->1<=c)) (∀(p:Addr) (d:Hp),A8 H d->Bc d p b e->Q (.ref p) d)
theorem vo{j:q7}(F:O7 K "hall_of" "hall_of" Gg ad.gC j):B3 P w K mg base (CX1 P w) 1 ad.gC j ["waits","calm"] (ja K):=by
 refine F.okN xz (λC H Q E h=>?_) (λD A g s H C Q E G h=>?_)
 ·rcases h with⟨a,b,f,rfl,d,i,r,l,o,q⟩<;>rfl
 ·obtain⟨a,b,f,rfl,d,i,r,l,o,q⟩:=h;refine⟨_,(A3 (Az (PW.pt (Da (Ai Fh (Ak (Bs K) (by rfl) T.eK PySem.boot_len (A0 (pv 0) A4)) A7 (Ag _)) (Ee (Ai Jh (Ak (Bs K) (by rfl) T.eK PySem.boot_len (A0 (pv 0) A4)) (C5 (v:=.int 8) (by rfl) T.jU.choose_spec ⟨_,rfl⟩) (Ag _))))) (A5 D7) Ae) (A3 (Az (Ai Fh (Ak (Hi rfl) (by rfl) T.oN boot_min (A0 (pv 0) A4)) A7 (Ag _)) (A5 D7) Ae) (A3 (Az (PW.pt (Fz (Ai M3 (pv 1) Bj (Ag _)) (Et (Ai Fh (pv 1) A7 (Ag _))))) (A5 D7) Ae) (A5 (Ab (Cz (A0 (B5 Hv (by rfl) T.uT boot_tuple (A0 (pv 0) A4)) (A0 (pv 1) A4)))))))),?_⟩;refine⟨_,rfl,a,_,rfl,.inl (Aq.of d),_,_,rfl,rfl,_,rfl,false,λ_ u z=>⟨_,rfl,a,_,rfl,.inl (Aq.of d),_,_,rfl,rfl,_,rfl,?_⟩,Ar ?_ ?_⟩
  ·have e:decide (((b.map V.int).length:Int)>8)=false:=mr (by rw[List.length_map];omega)
   first|(rw[e];exact z)|(rw[show decide ((8:Int)<((b.map V.int).length:Int))=false from decide_eq_false (by rw[List.length_map];omega)];exact z)
  ·rw[decide_eq_false (show¬((b.map V.int).length:Int)<1 by rw[List.length_map];omega)];rfl
  refine⟨_,rfl,a,b,rfl,Aq.of d,i,λm v _=>⟨_,_,rfl,rfl,_,rfl,Ar ?_ ?_⟩⟩
  ·have:=l m v;exact mr (by omega)
  refine⟨_,rfl,rfl,_,rfl,false,λe u z=>?_,Ar ?_ ?_⟩
  ·cases f with
   |none=>simp[vO]at e
   |some c=>
    have:=o c rfl;refine⟨_,rfl,_,_,rfl,rfl,_,rfl,?_⟩;rw[decide_eq_false (show¬c<1 by omega)];exact z
  ·rw[Bool.and_false]
  refine⟨_,rfl,a,_,rfl,.inl ⟨Aq.of d,λt y=>⟨_,rfl,B4,λp x=>?_⟩⟩⟩;have B:A8 H (upd H t (.tup (b.map V.int))):=A8.upd y;have n:A8 (upd H t (.tup (b.map V.int))) (upd (upd H t (.tup (b.map V.int))) p (.tup [.ref t,vO f])):=A8.upd x;exact q p _ (B.trans n) ⟨t,A2,n _ _ A2⟩
def Vi(K:W.Frag):Sp:=λe H Q _=>O5 λ(a:Addr) (c:qG) (d:qH)=>Il (e=[.ref a]) (Bc H a c d) (∀(p:Addr) (b:Hp),A8 H b->Dh b p c 0->Q (.ref p) b)
theorem um{c:q7}(F:D4 K "beginning" "beginning" f9 ad.iT c):B3 P w K mg base (CX1 P w) 1 ad.iT c ["hall"] (Vi K):=by
 refine F.okN xt (λi H Q E h=>?_) (λl A b s H i Q E m h=>?_)
 ·rcases h with⟨a,j,g,rfl,⟨t,d,f⟩,q⟩<;>rfl
 ·obtain⟨a,j,g,rfl,⟨t,d,f⟩,q⟩:=h;refine⟨_,(A5 (Ab (Cz (A0 (Au (Aw K) (pv 0) A7 (λ_ _=>rfl)) (A0 A7 A4))))),?_⟩;refine⟨_,rfl,a,_,_,_,rfl,rfl,.inr (Cf.of d),rfl,?_⟩;exact⟨B4,λp e=>q p _ (A8.upd e) ⟨t,A2,A8.upd e _ _ f⟩⟩
def Ri(K:W.Frag):Sp:=λe H Q _=>yv λ(a b:Addr) (f d:qG) (c:qH) (q:Int)=>Fp (e=[.ref a,.ref b]) (Bc H a f c) (Dh H b d q) (Q (.bl (!decide (c=none)&&decide (q=0))) H)
theorem uy{e:q7}(F:D4 K "may_lose" "may_lose" ff ad.gT e):B3 P w K mg base (CX1 P w) 1 ad.gT e ["hall","standing"] (Ri K):=by
 refine F.okN xv (λl H Q E h=>?_) (λp A d s H l Q E r h=>?_)
 ·rcases h with⟨a,b,m,j,c,n,rfl,⟨t,f,_⟩,⟨u,g,_⟩,q⟩<;>rfl
 ·obtain⟨a,b,m,j,c,n,rfl,⟨t,f,_⟩,⟨u,g,_⟩,q⟩:=h;refine⟨_,(A5 (Ab (Hk (Bd M3 (Au (Aw K) (pv 0) A7 (λ_ _=>rfl)) Bj (Ag _)) (Hb (Bd C7 (Au (Aw K) (pv 1) A7 (λ_ _=>rfl)) A7 (Ag _)))))),?_⟩;refine⟨_,rfl,a,_,_,_,rfl,rfl,.inr (Cf.of f),rfl,rfl,_,decide (V.int n=V.int 0),rfl,λ_ o z=>⟨_,rfl,b,_,_,_,rfl,rfl,.inr (Cf.of g),rfl,rfl,z⟩,?_⟩;have i:decide (V.int n=V.int 0)=decide (n=0):=by simp
  rw[yt,i];exact q
def ie(K:W.Frag):Sp:=λe H Q _=>Zh λ(a:Addr) (d:qG) (c:qH) (b:Int)=>Il (e=[.ref a,.int b]) (Bc H a d c) (Q (.bl (decide (0<=b/\b<d.length))) H)
theorem u7{f:q7}(F:D4 K "is_listener" "is_listener" dv ad.kY f):B3 P w K mg base (CX1 P w) 1 ad.kY f ["hall","who"] (ie K):=by
 refine F.okN xp (λj H Q E h=>?_) (λm A e s H j Q E n h=>?_)
 ·rcases h with⟨a,d,c,b,rfl,⟨t,g,i⟩,q⟩<;>rfl
 ·obtain⟨a,d,c,b,rfl,⟨t,g,i⟩,q⟩:=h;refine⟨_,(A5 (Ab (Hk (Bd bz (pv 1) A7 (Ag _)) (Hb (Bd Fh (pv 1) (Ak (Bs K) (by rfl) T.eK PySem.boot_len (A0 (Au (Aw K) (pv 0) A7 (λ_ _=>rfl)) A4)) (Ag _)))))),?_⟩;refine⟨_,rfl,_,_,rfl,rfl,_,decide (b<(d.length:Int)),rfl,λ_ l z=>⟨_,rfl,_,rfl,a,_,_,_,rfl,rfl,.inr (Cf.of g),rfl,t,_,rfl,.inr (Cf.of i),_,_,rfl,rfl,?_⟩,?_⟩
  ·rw[List.length_map];exact z
  ·rw[show(decide (b>=0)&&decide (b<(d.length:Int)))=decide (0<=b/\b<(d.length:Int))by rw[Bool.decide_and]];exact q
def pd(K:W.Frag):Sp:=λh H Q _=>o7 λ(a b:Addr) (f g:qG) (c:qH) (q:Int) (e:Nat) (d:Bool)=>Im (h=[.ref a,.ref b,.int e,.bl d]) (Bc H a f c) (Dh H b g q) (e<f.length) (O8 c q d) (Q .bN H)
theorem A08{l v C:q7}(F:D4 K "refuse_wrong_turn" "refuse_wrong_turn" xc ad.qX l)(u:Gk P w K mg base 1 ad.kY ["hall","who"] (ie K) v)(j:Gk P w K mg base 1 ad.gT ["hall","standing"] (Ri K) C):B3 P w K mg base (CX1 P w) 2 ad.qX l ["hall","standing","who","lost"] (pd K):=by
 refine F.okN A0y (λD H Q E h=>?_) (λI A i s H D Q E p h=>?_)
 ·rcases h with⟨a,b,g,r,c,n,d,e,rfl,f,m,B,o,q⟩<;>rfl
 ·obtain⟨a,b,g,r,c,n,d,e,rfl,f,m,B,o,q⟩:=h;refine⟨_,(A3 (Az (D9 (Bk (Ac u.g (p.mono (by decide)) rfl T.UQ T.UR u.b .nil Ap (A0 (pv 0) (A0 (pv 2) A4))))) (A5 D7) Ae) (A5 (Az (PW.pt (Fz (Bk (pv 3)) (Et (D9 (Bk (Ac j.g (p.mono (by decide)) rfl T.yI T.yJ j.b .nil Ap (A0 (pv 0) (A0 (pv 1) A4)))))))) (A5 D7) Ae))),?_⟩;obtain⟨t,J,L⟩:=id f;refine⟨_,rfl,_,rfl,a,g,c,(d:Int),rfl,f,_,rfl,Ar ?_ ?_⟩
  ·rw[decide_eq_true (show(0:Int)<=(d:Int)/\(d:Int)<(g.length:Int)by omega)];rfl
  refine⟨_,rfl,_,rfl,!(!decide (c=none)&&decide (n=0)),λ_ G z=>⟨_,rfl,_,rfl,a,b,g,r,c,n,rfl,f,m,_,rfl,z⟩,Ar ?_ q⟩;cases e with
  |false=>rfl
  |true=>
   obtain⟨x,y⟩:=o rfl;simp[x,y]
def Vd(K:W.Frag):Sp:=λi H Q _=>o7 λ(a b:Addr) (f h:qG) (d:qH) (q:Int) (e:Nat) (c:Bool)=>Rq (i=[.ref a,.ref b,.int e,.bl c]) (Bc H a f d) (Dh H b h q) (e<f.length) (h.length=f.length) (f.length<=8) (O8 d q c) (∀(l:Addr) (g:Hp),H l=none->A8 H g->g l=some (.lst ((C6 f h e c).map V.int))->Q (.ref l) g)
theorem u8{M S:q7}(F:D4 K "left_behind" "left_behind" Wv ad.iU M)(J:Gk P w K mg base 2 ad.qX ["hall","standing","who","lost"] (pd K) S):B3 P w K mg base (CX1 P w) 3 ad.iU M ["hall","standing","who","lost"] (Vd K):=by
 refine F.okN gh (λvs H Q E h=>?_) (λbK A G s H vs Q E hr h=>?_)
 ·rcases h with⟨a,b,I,j,g,n,f,c,rfl,z,B,C,hl,Y,N,q⟩<;>rfl
 ·obtain⟨a,b,I,j,g,n,f,c,rfl,z,B,C,hl,Y,N,q⟩:=h;refine⟨_,(A3 (Cs (Ac J.g (hr.mono (by decide)) rfl T.m_x2 T.k_x2 J.b .nil Ap (A0 (pv 0) (A0 (pv 1) (A0 (pv 2) (A0 (pv 3) A4)))))) (A3 (Ed (i:=4) gh.nd rfl (Cd (Au (Aw K) (pv 1) A7 (λ_ _=>rfl))) _ rfl K6 rfl rfl (λ_ _ _ _=>(Aj (i:=0) Kk rfl (Or.inl rfl))) (λ_ _ _ _=>Bw) (λ_ _ _ _=>(Al Nk (pv 0) A7)) rfl rfl) (A3 (Di (D9 (Bk (pv 3))) (A5 (Ig (Au (Aw K) (Au (Aw K) (pv 0) A7 (λ_ _=>rfl)) (pv 2) (λ_ _=>rfl)) (No (pv 4) (pv 2) Hf))) Ae) (A5 (Ab (pv 4)))))),?_⟩;obtain⟨t,X,kB⟩:=id z;obtain⟨u,jB,L⟩:=id B;refine⟨_,rfl,_,rfl,_,rfl,_,rfl,a,b,I,j,g,n,f,c,rfl,z,B,C,N,?_⟩;refine⟨_,rfl,b,_,_,_,rfl,rfl,.inr (Cf.of jB),rfl,u,rfl,.inr ⟨⟨_,Cf.of L⟩,λD o=>?_⟩⟩;refine S1 (K:=K) (a:=u) (xs:=j.map V.int) (λi l d=>l=((j.take i).map (λx=>x-1)).map V.int/\d D=some (.lst l)/\A8 H d) ⟨rfl,A2,A8.upd o⟩ (by rintro i l d _ ⟨_,_,s⟩;exact Cf.of (s _ _ L)) ?_ ?_
  ·rintro i x l d O ⟨rfl,mW,s'⟩ Qe Z;rw[List.getElem?_map]at O;obtain⟨y,R,rfl⟩:=dI.mp O;have hi:=(cb.mp R).1;refine⟨_,rfl,_,_,rfl,rfl,Z _ _ mW (As (by simp;omega)) ⟨?_,A2,s'.new o⟩⟩;rw[List.take_add_one,R];simp
  rintro l H2 ⟨rfl,v,p⟩;rw[List.length_map,List.take_length]at v;refine⟨_,rfl,_,rfl,(λm d=>m=[some (.ref a),some (.ref b),some (.int (f:Nat)),some (.bl c),some (.ref D)]/\A8 H d/\d D=some (.lst ((C6 I j f c).map V.int))),λe=>?_,λe=>?_,?_⟩
  ·have r:c=false:=by simpa using e
   subst r;refine⟨_,rfl,a,_,_,_,rfl,rfl,.inr (Cf.of (p _ _ X)),rfl,_,rfl,t,_,_,_,rfl,rfl,.inr (Cf.of (p _ _ kB)),kt C,?_⟩;refine⟨_,rfl,_,rfl,D,_,_,_,rfl,rfl,v,Hj (by simp;omega),rfl,p.new o,?_⟩;rw[A2];unfold C6;simp
  ·have r:c=true:=by simpa using e
   subst r;exact⟨rfl,p,v⟩
  ·rintro m d ⟨rfl,s3,U⟩;exact⟨_,rfl,q D d o s3 U⟩
def i5(K:W.Frag):Sp:=λf H Q _=>yw λ(a b:Addr) (g e:qG) (c:qH) (q:Int) (d:Bool)=>Fq (f=[.ref a,.ref b,.bl d]) (Bc H a g c) (Dh H b e q) (O8 c q d) (Q (.int (F7 c q d)) H)
theorem sy{i:q7}(F:D4 K "quiet_behind" "quiet_behind" di ad.kZ i):B3 P w K mg base (CX1 P w) 1 ad.kZ i ["hall","standing","lost"] (i5 K):=by
 refine F.okN xl (λp H Q E h=>?_) (λv A g s H p Q E x h=>?_)
 ·rcases h with⟨a,b,r,o,d,n,f,rfl,⟨t,j,_⟩,⟨u,l,_⟩,m,q⟩<;>rfl
 ·obtain⟨a,b,r,o,d,n,f,rfl,⟨t,j,_⟩,⟨u,l,_⟩,m,q⟩:=h;refine⟨_,(A3 (Az (Bk (pv 2)) (A5 (Ab (Au (Aw K) (pv 0) A7 (λ_ _=>rfl)))) Ae) (A5 (Ab (Ak (Xj rfl) (by rfl) T.yU boot_max (A0 (Al Nk (Au (Aw K) (pv 1) A7 (λ_ _=>rfl)) A7) (A0 A7 A4)))))),?_⟩;refine⟨_,rfl,_,rfl,?_⟩;cases f with
  |true=>
   refine Cm rfl ?_;refine⟨_,rfl,a,_,_,_,rfl,rfl,.inr (Cf.of j),rfl,?_⟩;cases d with
   |none=>exact absurd rfl (m rfl).1
   |some c=>exact q
  |false=>
   refine Ar rfl ?_;refine⟨_,rfl,b,_,_,_,rfl,rfl,.inr (Cf.of l),rfl,_,_,rfl,rfl,_,_,rfl,?_⟩
   have e:(if(0:Int)>n-1 then(0:Int)else n-1)=F7 d n false:=by
    unfold F7;rw[if_neg Bool.false_ne_true];omega
   show Q (.int (if(0:Int)>n-1 then(0:Int)else n-1)) H;rw[e];exact q
def Rk(K:W.Frag):Sp:=λi H Q _=>o7 λ(a b:Addr) (f h:qG) (d:qH) (q:Int) (e:Nat) (c:Bool)=>Px (i=[.ref a,.ref b,.int e,.bl c]) (Bc H a f d) (Dh H b h q) (e<f.length) (h.length=f.length) (f.length<=8) (O8 d q c) (((0:Int)∈C6 f h e c->∀g,A8 H g->Q .bN g)) (((0:Int)∉C6 f h e c->∀(p:Addr) (g:Hp),A8 H g->Dh g p (C6 f h e c) (F7 d q c)->Q (.ref p) g))
theorem vv{z U O:q7}(F:O7 K "after" "after" Gh ad.fG z)(I:Gk P w K mg base 3 ad.iU ["hall","standing","who","lost"] (Vd K) U)(N:Gk P w K mg base 1 ad.kZ ["hall","standing","lost"] (i5 K) O):B3 P w K mg base (CX1 P w) 4 ad.fG z ["hall","standing","who","lost"] (Rk K):=by
 refine F.okN gu (λX H Q E h=>?_) (λY A v s H X Q E D h=>?_)
 ·rcases h with⟨a,b,j,g,d,n,f,c,rfl,o,q,G,C,B,r,J,L⟩<;>rfl
 ·obtain⟨a,b,j,g,d,n,f,c,rfl,o,q,G,C,B,r,J,L⟩:=h;refine⟨_,(A3 (Ad (i:=4) gu.nd rfl (Or.inl rfl) (Ac I.g (D.mono (by decide)) rfl T.FW T.FX I.b .nil Ap (A0 (pv 0) (A0 (pv 1) (A0 (pv 2) (A0 (pv 3) A4)))))) (A3 (Az (Ai (Qu K) A7 (pv 4) rfl) (A5 (Ab Bj)) Ae) (A5 (Ab (Cz (A0 (B5 Hv (by rfl) T.uT boot_tuple (A0 (pv 4) A4)) (A0 (Ac N.g (D.mono (by decide)) rfl T.US T.UT N.b .nil Ap (A0 (pv 0) (A0 (pv 1) (A0 (pv 3) A4)))) A4))))))),?_⟩;refine⟨_,rfl,_,rfl,_,rfl,_,rfl,a,b,j,g,d,n,f,c,rfl,o,q,G,C,B,r,λl y R x M=>?_⟩;refine⟨_,rfl,l,_,rfl,.inl (Aq.of M),rfl,P3 _,_,rfl,?_⟩;rw[Sf];refine Fw (λm=>?_) (λm=>?_)
  ·exact J (by simpa using m) y x
  ·refine⟨_,rfl,l,_,rfl,.inl ⟨Aq.of M,λt S=>?_⟩⟩;have i:A8 H (upd y t (.tup ((C6 j g f c).map V.int))):=x.new (x.free S);refine⟨_,rfl,_,rfl,_,rfl,a,b,j,g,d,n,c,rfl,o.same i,q.same i,r,B4,λp u=>?_⟩;refine L (by simpa using m) p _ (i.new (i.free u)) ⟨t,A2,?_⟩;rw[A9 (λe=>by rw[<- e,A2]at u;cases u),A2]
def Vf(K:W.Frag):Sp:=λi H Q _=>o7 λ(a b:Addr) (d f:qG) (g:qH) (q w:Int) (c:Nat)=>Rq (i=[.ref a,.ref b,.int w]) (w=(c:Int)) (Bc H a d g) (Dh H b f q) (c<d.length) (f.length=d.length) (d.length<=8) (∀(l:Addr) (h:List V) (e:Hp),H l=none->A8 H e->e l=some (.lst h)->An (Hw e) (Bg d f g q c) h->Q (.ref l) e)
theorem ue{fd gG nJ:q7}(F:D4 K "all_behind" "all_behind" eg ad.iV fd)(I:Gk P w K mg base 4 ad.fG ["hall","standing","who","lost"] (Rk K) gG)(cO:Cp K gG ["hall","standing","who","lost"] [Value.bool false])(fT:Gk P w K mg base 1 ad.gT ["hall","standing"] (Ri K) nJ):B3 P w K mg base (CX1 P w) 5 ad.iV fd ["hall","standing","who"] (Vf K):=by
 refine F.okN gk (λvs H Q E h=>?_) (λbK A X s H vs Q E S h=>?_)
 ·rcases h with⟨a,b,i,g,e,n,w0,c,rfl,rfl,C,D,U,O,M,q⟩<;>rfl
 ·obtain⟨a,b,i,g,e,n,w0,c,rfl,rfl,C,D,U,O,M,q⟩:=h;refine⟨_,(A3 (Ad (i:=3) gk.nd rfl (Or.inl rfl) (B6 (A0 (Yu (Ac I.g (S.mono (by decide)) rfl T.rG T.nD cO (Jt) Ap (A0 (pv 0) (A0 (pv 1) (A0 (pv 2) A4))))) A4))) (A3 (Di (Bk (Ac fT.g (S.mono (by decide)) rfl T.yI T.yJ fT.b .nil Ap (A0 (pv 0) (A0 (pv 1) A4)))) (A5 (Cs (Dr PySem.F.plainAttrs_list PySem.F.slot_list_append PySem.F.type_list_append D1 (pv 3) (A0 (Yu (Ac I.g (S.mono (by decide)) rfl T.rG T.nD I.b .nil Ap (A0 (pv 0) (A0 (pv 1) (A0 (pv 2) (A0 Fi A4)))))) A4)))) Ae) (A5 (Ab (pv 3))))),?_⟩;refine⟨(λv r=>Hw r (Fo i g e n c false) v/\A8 H r),⟨_,rfl,_,rfl,_,rfl,a,b,i,g,e,n,c,false,rfl,C,D,U,O,M,(λz=>nomatch z),(λf o d=>⟨by unfold Fo;rw[if_pos f];rfl,d⟩),λf p o d J=>⟨by unfold Fo;rw[if_neg f];exact⟨p,rfl,J⟩,d⟩⟩,?_⟩;rintro v y ⟨hv,Y⟩;refine⟨B4,λL N=>?_⟩;have d:A8 y (upd y L (.lst [v])):=A8.upd N;have B:(upd y L (.lst [v])) L=some (.lst [v]):=A2;generalize upd y L (.lst [v])=o at d B⊢;have j:=Y.trans d;refine⟨_,rfl,_,rfl,a,b,i,g,e,n,rfl,C.same j,D.same j,_,rfl,(λx m=>∃(G:List V),Fp (x=[some (.ref a),some (.ref b),some (.int c),some (.ref L)]) (m L=some (.lst G)) (An (Hw m) (Bg i g e n c) G) (A8 H m)),λR=>?_,λR=>?_,?_⟩
  ·have l:Lp e n=true:=R
   have MH:O8 e n true:=λ_=>by
    unfold Lp at l;simp only[Bool.and_eq_true,Bool.not_eq_true',decide_eq_false_iff_not,decide_eq_true_eq]at l;exact l
   refine⟨_,rfl,.inl ⟨rfl,_,Aq.of B⟩,(λv r=>Hw r (Fo i g e n c true) v/\A8 o r),⟨_,rfl,_,rfl,_,rfl,a,b,i,g,e,n,c,true,rfl,C.same j,D.same j,U,O,M,MH,(λf o d=>⟨by unfold Fo;rw[if_pos f];rfl,d⟩),λf p o d J=>⟨by unfold Fo;rw[if_neg f];exact⟨p,rfl,J⟩,d⟩⟩,?_⟩;rintro v2 H3 ⟨FL,Z⟩;have e3:=Z _ _ B;have tt:Ax H3 (upd H3 L (.lst ([v]++[v2]))):=Ax.lst e3;refine⟨L,_,_,rfl,rfl,e3,As (by simp),[v]++[v2],rfl,A2,?_,(j.trans Z).new (Y.free N)⟩;unfold Bg;rw[if_pos l];exact An.cons (hv.up (((Ax.of d).trans (Ax.of Z)).trans tt)) (An.one (FL.up tt))
  ·have l:¬Lp e n=true:=by
    rw[show Lp e n=false from R];exact fy
   refine⟨[v],rfl,B,?_,j⟩;unfold Bg;rw[if_neg l];exact An.one (hv.up (Ax.of d))
  rintro x m ⟨G,rfl,eL,u,s'⟩;exact⟨_,rfl,q L G m (Y.free N) s' eL u⟩
def ig(K:W.Frag):Sp:=λi H Q _=>o7 λ(a b:Addr) (f h:qG) (d:qH) (q:Int) (e:Nat) (c:Bool)=>Rq (i=[.ref a,.ref b,.int e,.bl c]) (Bc H a f d) (Dh H b h q) (e<f.length) (h.length=f.length) (f.length<=8) (O8 d q c) (∀(l:Addr) (g:Hp),H l=none->A8 H g->g l=some (.lst ((Du (C6 f h e c) f.length).map V.int))->Q (.ref l) g)
theorem u9{U sP:q7}(F:O7 K "broken_ones" "broken_ones" Fl ad.gD U)(mI:Gk P w K mg base 3 ad.iU ["hall","standing","who","lost"] (Vd K) sP):B3 P w K mg base (CX1 P w) 4 ad.gD U ["hall","standing","who","lost"] (ig K):=by
 refine F.okN gi (λvs H Q E h=>?_) (λbK A O s H vs Q E hr h=>?_)
 ·rcases h with⟨a,b,m,r,f,n,e,d,rfl,Z,hb,hw,N,X,hm,q⟩<;>rfl
 ·obtain⟨a,b,m,r,f,n,e,d,rfl,Z,hb,hw,N,X,hm,q⟩:=h;refine⟨_,(A3 (Ad (i:=4) gi.nd rfl (Or.inl rfl) (Ac mI.g (hr.mono (by decide)) rfl T.FW T.FX mI.b .nil Ap (A0 (pv 0) (A0 (pv 1) (A0 (pv 2) (A0 (pv 3) A4)))))) (A5 (Ab (Cc (Sv (by rfl) T.mC (A0 (pv 4) A4)) _ rfl K3 rfl rfl (λ_ _ _ _=>(Dz K (n:=2) rfl (Ba (Aj (i:=0) Ff rfl (Or.inl rfl)) (Ba (Aj (i:=1) Ff rfl (Or.inl rfl)) Df)))) (λ_ _ _ _=>(R4 (Ai C7 (pv 1) A7 (Ag _)))) (λ_ _ _ _=>(pv 0)))))),?_⟩;refine⟨_,rfl,_,rfl,_,rfl,_,rfl,a,b,m,r,f,n,e,d,rfl,Z,hb,hw,N,X,hm,λl H1 hl0 s1 R=>?_⟩;have Y:(C6 m r e d).length=m.length:=by rw[Jb];exact N
  generalize C6 m r e d=L at R Y⊢q;refine⟨_,rfl,false,l,rfl,⟨_,Aq.of R⟩,λD J=>?_⟩;refine U3 (K:=K) (b1:=false) (c:=l) (xs:=L.map V.int) (λi o g=>o=(Du L i).map V.int/\g D=some (.lst o)/\A8 H1 g) ⟨rfl,A2,A8.upd J⟩ (by rintro i o g _ ⟨_,_,s⟩;exact Aq.of (s _ _ R)) ?_ ?_ ?_ ?_
  ·rintro i x T o p hx ⟨rfl,j,u⟩ hT;rw[List.getElem?_map]at hx;obtain⟨y,hy,rfl⟩:=dI.mp hx;have hi:=(cb.mp hy).1;have S:L.getD i 0=y:=by rw[List.getD_eq_getElem?_getD,hy];rfl
   have B:A8 p (upd p T (.tup [V.int (i:Nat),V.int y])):=A8.upd hT;have CV:=Ey L i;refine⟨_,rfl,rfl,_,rfl,?_⟩;refine Fw (λG=>?_) (λG=>?_)
   ·have I:y=0:=by simpa using G
    refine⟨_,rfl,B _ _ j,As (by rw[List.length_map];omega),?_,A2,(u.trans B).new J⟩;rw[Em,S,if_pos I,List.map_append];rfl
   ·have I:¬y=0:=by simpa using G
    refine⟨?_,B _ _ j,u.trans B⟩;rw[Em,S,if_neg I,List.append_nil]
  ·rintro σ g Q1 Q2 M ⟨v,C,e2,c,e3,z⟩;exact⟨v,C,e2,c,e3,M _ _ z⟩
  ·rintro σ g Q1 Q2 M ⟨v,C,z⟩;exact⟨v,C,M _ _ z⟩
  ·rintro o p ⟨rfl,j,u⟩;rw[List.length_map,Y]at j;exact q D p (s1.free J) (s1.trans u) j
def Vc(K:W.Frag):Sp:=λc H Q _=>O5 λ(a:Addr) (d:qG) (b:qH)=>Il (c=[.ref a]) (Bc H a d b) (Q (.int (qv b)) H)
theorem t9{f:q7}(F:D4 K "quiet_values" "quiet_values" dj ad.iW f):B3 P w K mg base (CX1 P w) 1 ad.iW f ["hall"] (Vc K):=by
 refine F.okN xm (λi H Q E h=>?_) (λl A d s H i Q E m h=>?_)
 ·rcases h with⟨a,j,e,rfl,⟨t,b,g⟩,q⟩<;>rfl
 ·obtain⟨a,j,e,rfl,⟨t,b,g⟩,q⟩:=h;refine⟨_,(A5 (Ab (Nm (Ai Fy (Au (Aw K) (pv 0) A7 (λ_ _=>rfl)) Bj (Ag _)) A7 (Al Co (Au (Aw K) (pv 0) A7 (λ_ _=>rfl)) A7)))),?_⟩;cases e with
  |none=>exact⟨_,rfl,a,_,_,_,rfl,rfl,.inr (Cf.of b),rfl,rfl,_,rfl,Cm rfl q⟩
  |some c=>exact⟨_,rfl,a,_,_,_,rfl,rfl,.inr (Cf.of b),rfl,rfl,_,rfl,Ar rfl ⟨_,rfl,a,_,_,_,rfl,rfl,.inr (Cf.of b),rfl,_,_,rfl,rfl,q⟩⟩
def j0(K:W.Frag):Sp:=λd H Q _=>O5 λ(a:Addr) (b:qG) (c:qH)=>Im (d=[.ref a]) (Bc H a b c) ((∀w∈b,intBits w<=256)) (intBits (qv c)<=256) (b.length<=8) (Q (.int (Bn (qv c) b)) H)
theorem uz{r G:q7}(F:D4 K "how_many" "how_many" fg ad.lA r)(v:Gk P w K mg base 1 ad.iW ["hall"] (Vc K) G):B3 P w K mg base (CX1 P w) 2 ad.lA r ["hall"] (j0 K):=by
 refine F.okN Ra (λI H Q E h=>?_) (λJ A o s H I Q E D h=>?_)
 ·rcases h with⟨a,b,c,rfl,⟨t,l,f⟩,m,z,C,q⟩<;>rfl
 ·obtain⟨a,b,c,rfl,⟨t,l,f⟩,m,z,C,q⟩:=h;refine⟨_,(A3 (Ad (i:=1) Ra.nd rfl (Or.inl rfl) (Ac v.g (D.mono (by decide)) rfl T.GA T.GB v.b .nil Ap (A0 (pv 0) A4))) (A3 (C1 ml rfl (Cd (Au (Aw K) (pv 0) A7 (λ_ _=>rfl))) (Aj (i:=2) Ra.nd rfl (Or.inl rfl)) (A5 (Ad (i:=1) Ra.nd rfl (Or.inl rfl) (Al D8 (pv 1) (pv 2))))) (A5 (Ab (pv 1))))),?_⟩;refine⟨_,rfl,a,b,c,rfl,⟨t,l,f⟩,?_⟩;refine⟨_,rfl,a,_,_,_,rfl,rfl,.inr (Cf.of l),rfl,t,rfl,.inr ⟨⟨_,Cf.of f⟩,?_⟩⟩;refine Wd (K:=K) (a:=t) (xs:=b.map V.int) (λi g d=>∃(p:Option V),g=[some (.ref a),some (.int (Bn (qv c) (b.take i))),p]/\d=H) ⟨none,rfl,rfl⟩ (by rintro i g d _ ⟨_,_,e⟩;exact(by rw[e];exact Cf.of f)) ?_ ?_
  ·rintro i y g d u ⟨p,rfl,j⟩;subst j;rw[List.getElem?_map]at u;obtain⟨x,n,rfl⟩:=dI.mp u;have L:=(cb.mp n).1;have B:=Pj z m i (by omega);refine⟨_,rfl,_,rfl,_,_,rfl,rfl,Pe B (m x (cI n)) (by omega),?_⟩;refine⟨some (.int x),?_,rfl⟩;have e:Bn (qv c) (b.take (i+1))=Bn (qv c) (b.take i)*x:=Fe _ _ _ n;rw[e];rfl
  ·rintro g d ⟨p,rfl,j⟩;subst j;rw[List.length_map,List.take_length];exact⟨_,rfl,q⟩
def j4(K:W.Frag):Sp:=λd H Q _=>Ld λ(t:Addr) (a:qG)=>Im (d=[.ref t]) (H t=some (.tup (a.map V.int))) ((∀w∈a,1<=w)) (Bn 1 a<=3000) (a.length<=8) (∀(l:Addr) (c:List V) (b:Hp),H l=none->A8 H b->b l=some (.lst c)->An (Ej b) (C9 a) c->Q (.ref l) b)
theorem va{fd:q7}(F:D4 K "all_left" "all_left" X2 ad.lB fd):B3 P w K mg base (CX1 P w) 1 ad.lB fd ["waits"] (j4 K):=by
 refine F.okN Kp (λvs H Q E h=>?_) (λbK A outer s H vs Q E hr h=>?_)
 ·rcases h with⟨t,c,rfl,ht,Y,hp,nW,q⟩<;>rfl
 ·obtain⟨t,c,rfl,ht,Y,hp,nW,q⟩:=h;refine⟨_,(A3 (Ad (i:=1) Kp.nd rfl (Or.inl rfl) (B6 (A0 (Cz A4) A4))) (A3 (C1 ml rfl (Cd (pv 0)) (Aj (i:=2) Kp.nd rfl (Or.inl rfl)) (A3 (Ad (i:=3) Kp.nd rfl (Or.inl rfl) (B6 A4)) (A3 (C1 ml rfl (Cd (pv 1)) (Aj (i:=4) Kp.nd rfl (Or.inr rfl)) (A5 (Cs (Dr PySem.F.plainAttrs_list PySem.F.slot_list_extend PySem.F.type_list_extend Pd (pv 3) (A0 (Cc (Yv (by rfl) T.fK (A0 A7 (A0 (Al Co (pv 2) A7) A4))) _ rfl Ob rfl rfl (λ_ _ _ _=>(Aj (i:=0) Og rfl (Or.inl rfl))) (λ_ _ _ _=>Bw) (λ_ _ _ _=>(Al (ma K) (pv 1) (Cz (A0 (pv 0) A4))))) A4))))) (A5 (Ad (i:=1) Kp.nd rfl (Or.inl rfl) (pv 3)))))) (A5 (Ab (pv 1))))),?_⟩;refine⟨B4,λE0 hE0=>⟨B4,λG u=>?_⟩⟩;have s0:A8 H (upd H E0 (.tup [])):=A8.upd hE0;have e0:(upd H E0 (.tup [])) E0=some (.tup (([]:qG).map V.int)):=A2;generalize upd H E0 (.tup [])=M at s0 e0 u⊢;have s1:A8 M (upd M G (.lst [.ref E0])):=A8.upd u;have e1:(upd M G (.lst [.ref E0])) G=some (.lst [.ref E0]):=A2;have r1:An (Ej (upd M G (.lst [.ref E0]))) (C9 (c.take 0)) [.ref E0]:=An.one ⟨E0,rfl,s1 _ _ e0⟩;generalize upd M G (.lst [.ref E0])=H1 at s1 e1 r1⊢;have O:=s0.trans s1;refine⟨_,rfl,t,rfl,.inr ⟨⟨_,Cf.of (O _ _ ht)⟩,?_⟩⟩
  refine Wd (K:=K) (a:=t) (xs:=c.map V.int) (λi g a=>o6 λ(L:Addr) (C:List V) (v2 v3 J:Option V)=>Fq (g=[some (.ref t),some (.ref L),v2,v3,J]) (a L=some (.lst C)) (A8 H a) (An (Ej a) (C9 (c.take i)) C) (H L=none))
   ⟨G,_,none,none,none,rfl,e1,O,r1,s0.free u⟩ (by rintro i g a _ ⟨_,_,_,_,_,_,_,s,_,_⟩;exact Cf.of (s _ _ ht)) ?_ ?_
  ·rintro i y g l X ⟨L,C,v2,v3,J,rfl,R,Z,o,hL⟩;rw[List.getElem?_map]at X;obtain⟨w,hw,rfl⟩:=dI.mp X;have hwi:=Y w (cI hw);have XD:=Pk Y hp i;have vF:=Pk Y hp (i+1);have MI:C9 (c.take (i+1))=C2 (C9 (c.take i)) w:=Fe _ _ _ hw;rw[MI,O2]at vF;have hiw:=(cb.mp hw).1
   have CU:∀r∈C9 (c.take i),r.length<=8:=λr hr=>by
    have:=(Jm c i (by omega) r hr).1;omega
   generalize C9 (c.take i)=b at o XD vF MI CU;refine⟨B4,λD U=>?_⟩;have s3:A8 l (upd l D (.lst [])):=A8.upd U;have e3:(upd l D (.lst [])) D=some (.lst []):=A2;have f3:=s3 _ _ R;have g3:=o.imp λr v z=>Ej.up (Ax.of s3) z;have nDL:L≠D:=Aa R U;generalize upd l D (.lst [])=H3 at s3 e3 f3 g3⊢;refine⟨_,rfl,L,rfl,.inl ⟨⟨_,Aq.of f3⟩,?_⟩⟩
   refine Cl (K:=K) (a:=L) (xs:=C) (λj g a=>Ld λ(f:List V) (J:Option V)=>Fq (g=[some (.ref t),some (.ref L),some (.int w),some (.ref D),J]) (a D=some (.lst f)) (a L=some (.lst C)) (A8 l a) (An (Ej a) (C2 (b.take j) w) f))
    ⟨[],J,rfl,e3,f3,s3,An.nil⟩ (by rintro j g a _ ⟨_,_,_,_,e,_⟩;exact Aq.of e) ?_ ?_
   ·rintro j y g H4 X ⟨f,v4',rfl,S,h2,s4,N⟩;have g4:=o.imp λr v z=>Ej.up (Ax.of s4) z;obtain⟨r,oS,p,rfl,XE⟩:=g4.get X;have hj:=(cb.mp oS).1;have hr8:=CU r (cI oS);have ezl:f.length=(b.take j).length*w.toNat:=by rw[N.1,O2]
    have qI:f.length<=3000:=by
     rw[ezl];refine ea (Nat.mul_le_mul_right _ ?_) vF;rw[List.length_take];omega
    have hw3:w.toNat<=3000:=ea (Nat.le_mul_of_pos_left _ (by omega)) vF;refine⟨_,rfl,.inl ⟨rfl,_,Aq.of S⟩,_,rfl,_,_,rfl,rfl,1,w+1,rfl,by omega,λB hB=>?_⟩;refine Ia (λm d a=>a B=some (.lst d)/\A8 H4 a/\An (Ej a) ((List.range m).map λt=>r++[1+((t:Nat):Int)]) d) ⟨A2,A8.upd hB,An.nil⟩ ?_ ?_
    ·rintro m d n hm ⟨k1,x,I⟩ Qe hQ;refine⟨_,rfl,_,rfl,B4,λP hP=>?_⟩;have s6:A8 n (upd n P (.tup [.int (1+(m:Int))])):=A8.upd hP;refine⟨p,P,_,_,rfl,rfl,Cf.of (s6 _ _ (x _ _ XE)),A2,by simp,nV (Fm (by simp;omega)),λp' H6 s7 e7=>?_⟩;generalize upd n P (.tup [.int (1+(m:Int))])=H5' at s6 s7;have xO:=s6.trans s7;have GX:=xO _ _ k1;have kl:d.length=m:=by rw[I.1];simp
     refine hQ _ _ GX (Fm (by omega)) ⟨A2,(x.trans xO).new hB,?_⟩;have tu:Ax n (upd H6 B (.lst (d++[.ref p']))):=(Ax.of xO).trans (Ax.lst GX);rw[List.range_succ,List.map_append];refine(I.imp λr v z=>Ej.up tu z).append (An.one ⟨p',rfl,?_⟩);refine Ax.lst GX _ _ ?_;rw[e7,List.map_append];rfl
    ·rintro d n ⟨k1,x,I⟩
     have eB:((List.range (w+1-1).toNat).map λt=>r++[1+((t:Nat):Int)])=Qm r w:=by
      rw[show w+1-1=w by omega];rfl
     rw[eB]at I;have XF:=x _ _ S;have kl:d.length=w.toNat:=by rw[I.1,Sj]
     refine⟨D,B,_,_,rfl,rfl,XF,k1,nV (Fm (by omega)),?_⟩;have tu:Ax n (upd n D (.lst (f++d))):=Ax.lst XF;refine⟨f++d,_,rfl,A2,by rw[A9 nDL];exact x _ _ h2,(s4.trans x).new U,?_⟩;have e:C2 (b.take (j+1)) w=C2 (b.take j) w++Qm r w:=P4 _ _ oS;rw[e];exact(N.imp λr v z=>Ej.up ((Ax.of x).trans tu) z).append (I.imp λr v z=>Ej.up tu z)
   ·rintro g H4 ⟨f,v4',rfl,S,h2,s4,N⟩;rw[o.1,List.take_length]at N;refine⟨_,rfl,D,f,_,_,_,rfl,S,Z.trans s4,?_,Z.free U⟩;rw[MI];exact N
  ·rintro g l ⟨L,C,v2,v3,J,rfl,R,Z,o,hL⟩;rw[List.length_map,List.take_length]at o;exact⟨_,rfl,q L C l hL Z R o⟩
def ir(K:W.Frag)(aA aE aF aB aC aD aG:Addr):Sp:=λg H Q E=>(O5 λ(a:Addr) (b:qG) (c:qH)=>Px (g=[.ref a]) (Bc H a b c) ((∀w∈b,1<=w)) (1<=qv c) ((∀w∈b,intBits w<=256)) (intBits (qv c)<=256) (b.length<=8) (Bn (qv c) b<=3000) (∀(l:Addr) (f:List V) (d:Hp),H l=none->A8 H d->d l=some (.lst f)->An (Kv d) (Bq b (qv c)) f->Q (.ref l) d))\/(O5 λ(a:Addr) (b:qG) (c:qH)=>Jw (g=[.ref a]) (Bc H a b c) ((∀w∈b,intBits w<=256)) (intBits (qv c)<=256) (b.length<=8) (3000<Bn (qv c) b) (∀e,A8 H e->E (.ref aB) none e))
theorem uo{fd MJ MK sR:q7}(F:D4 K "standings" "standings" Wy ad.lC fd)(vG:Gk P w K mg base 2 ad.lA ["hall"] (j0 K) MJ)(vH:Gk P w K mg base 1 ad.lB ["waits"] (j4 K) MK)(mJ:Gk P w K mg base 1 ad.iW ["hall"] (Vc K) sR):B3 P w K mg base (CX1 P w) 3 ad.lC fd ["hall"] (ir K aA aE aF aB aC aD aG):=by
 refine F.uN V8 (λvs H Q E h=>?_) (λbK A outer s H vs Q E hr h=>?_)
 ·rcases h with⟨a,b,c,rfl,⟨t,n,o⟩,C,zE,R,U,G,hp,q⟩|⟨a,b,c,rfl,_,_,_,_,_,_⟩<;>rfl
 ·obtain h:=h;refine⟨_,(A3 (Az (Ai Jh (Ac vG.g (hr.mono (by decide)) rfl T.UW T.UX vG.b .nil Ap (A0 (pv 0) A4)) (C5 (v:=.int 3000) (by rfl) T.jV.choose_spec ⟨_,rfl⟩) (Ag _)) (A5 (Ds Hc rfl (by rfl) T.oQ T.kA (A0 Ah A4))) Ae) (A3 (Ad (i:=1) V8.nd rfl (Or.inl rfl) (B6 A4)) (A3 (C1 Ys rfl (Cd (Ac vH.g (hr.mono (by decide)) rfl T.UY T.UZ vH.b .nil Ap (A0 (Au (Aw K) (pv 0) A7 (λ_ _=>rfl)) A4))) (Aj (i:=2) V8.nd rfl (Or.inr rfl)) (A5 (Cs (Dr PySem.F.plainAttrs_list PySem.F.slot_list_extend PySem.F.type_list_extend Pd (pv 1) (A0 (Cc (Fj (by rfl) T.fK (A0 (Ac mJ.g (hr.mono (by decide)) rfl T.GA T.GB mJ.b .nil Ap (A0 (pv 0) A4)) A4)) _ rfl Mj rfl rfl (λ_ _ _ _=>(Aj (i:=0) Ng rfl (Or.inl rfl))) (λ_ _ _ _=>Bw) (λ_ _ _ _=>(Cz (A0 (pv 1) (A0 (pv 0) A4))))) A4))))) (A5 (Ab (pv 1)))))),?_⟩;rcases h with⟨a,b,c,rfl,⟨t,n,o⟩,C,zE,R,U,G,hp,q⟩|⟨a,b,c,rfl,⟨t,n,o⟩,R,U,G,hp,he⟩
  ·have wV:Bn 1 b<=3000:=by
    have e:=Uy (qv c) b 1;rw[Int.mul_one]at e;have u:1<=Bn 1 b:=Jk b 1 (by decide) C;have O:=Int.mul_le_mul_of_nonneg_right zE (show 0<=Bn 1 b by omega);rw[Int.one_mul]at O;omega
   have hq3:qv c<=3000:=oD (Jk b _ (by omega) C) hp;refine⟨_,rfl,a,b,c,rfl,⟨t,n,o⟩,R,U,G,_,_,rfl,rfl,_,rfl,Ar (mr (by omega)) ?_⟩;refine⟨B4,λD hD=>?_⟩;have X:A8 H (upd H D (.lst [])):=A8.upd hD;have e1:(upd H D (.lst [])) D=some (.lst []):=A2;generalize upd H D (.lst [])=H1 at X e1⊢;refine⟨_,rfl,a,_,_,_,rfl,rfl,.inr (Cf.of (X _ _ n)),rfl,t,b,rfl,X _ _ o,C,wV,G,λL us H2 hL s2 f1 f2=>⟨L,rfl,.inl ⟨⟨_,Aq.of f1⟩,?_⟩⟩⟩;have s02:=X.trans s2;have e2:=s2 _ _ e1;have nDL:L≠D:=(Aa e1 hL).symm
   refine Cl (K:=K) (a:=L) (xs:=us) (λj Y d=>Ld λ(l:List V) (v2:Option V)=>Im (Y=[some (.ref a),some (.ref D),v2]) (d D=some (.lst l)) (d L=some (.lst us)) (A8 H d) (Ax H2 d) (An (Kv d) (((C9 b).take j).flatMap λr=>Fn r (qv c)) l))
    ⟨[],none,rfl,e2,f1,s02,Ax.of (A8.refl _),An.nil⟩ (by rintro j Y d _ ⟨_,_,_,_,e,_⟩;exact Aq.of e) ?_ ?_
   ·rintro j y Y Z hy ⟨l,v2,rfl,u,O,I,t4,x⟩;have g4:=f2.imp λr v z=>Ej.up t4 z;obtain⟨r,oS,p,rfl,XE⟩:=g4.get hy;have hj:=(cb.mp oS).1
    have qI:l.length<=3000:=by
     have e:=Po (ws:=b) (q:=qv c) C (by omega);rw[x.1]
     have e2:Bq b (qv c)=(((C9 b).take j).flatMap λr=>Fn r (qv c))++(((C9 b).drop j).flatMap λr=>Fn r (qv c)):=by
      rw[<- List.flatMap_append,List.take_append_drop];rfl
     rw[e2,List.length_append]at e;omega
    refine⟨_,rfl,.inl ⟨rfl,_,Aq.of u⟩,_,rfl,a,b,c,rfl,⟨t,I _ _ n,I _ _ o⟩,qv c,rfl,by omega,by omega,λB hB=>?_⟩;refine Ia (λm f d=>d B=some (.lst f)/\A8 Z d/\An (Kv d) ((List.range m).map λk=>(r,0+((k:Nat):Int))) f) ⟨A2,A8.upd hB,An.nil⟩ ?_ ?_
    ·rintro m f g hm ⟨k1,i,S⟩ Qe hQ;refine⟨_,rfl,_,rfl,B4,λP hP=>?_⟩;have J:A8 g (upd g P (.tup [.ref p,.int (0+(m:Int))])):=A8.upd hP;have e6:(upd g P (.tup [.ref p,.int (0+(m:Int))])) P=some (.tup [.ref p,.int (0+(m:Int))]):=A2;generalize upd g P (.tup [.ref p,.int (0+(m:Int))])=H6 at J e6;have N:=J _ _ k1;have kl:f.length=m:=by rw[S.1];simp
     refine hQ _ _ N (Fm (by omega)) ⟨A2,(i.trans J).new hB,?_⟩;have M:Ax g (upd H6 B (.lst (f++[.ref P]))):=(Ax.of J).trans (Ax.lst N);rw[List.range_succ,List.map_append];refine(S.imp λr v z=>Kv.up M z).append (An.one ⟨P,p,rfl,?_,?_⟩)
     ·exact Ax.lst N _ _ e6
     ·exact Ax.lst N _ _ (J _ _ (i _ _ XE))
    ·rintro f g ⟨k1,i,S⟩;have XF:=i _ _ u;have k3:An (Kv g) (Fn r (qv c)) f:=S;have kl:f.length=(qv c).toNat:=by rw[k3.1,Ps]
     refine⟨D,B,_,_,rfl,rfl,XF,k1,nV (Fm (by omega)),?_⟩;have M:Ax g (upd g D (.lst (l++f))):=Ax.lst XF;refine⟨l++f,_,rfl,A2,by rw[A9 nDL];exact i _ _ O,(I.trans i).new hD,(t4.trans (Ax.of i)).trans M,?_⟩;have e:(((C9 b).take (j+1)).flatMap λr=>Fn r (qv c))=(((C9 b).take j).flatMap λr=>Fn r (qv c))++Fn r (qv c):=P4 _ _ oS;rw[e];exact(x.imp λr v z=>Kv.up ((Ax.of i).trans M) z).append (k3.imp λr v z=>Kv.up M z)
   ·rintro Y Z ⟨l,v2,rfl,u,O,I,t4,x⟩;rw[f2.1,List.take_length]at x;exact⟨_,rfl,q D l Z hD I u x⟩
  ·refine⟨_,rfl,a,b,c,rfl,⟨t,n,o⟩,R,U,G,_,_,rfl,rfl,_,rfl,Cm (decide_eq_true (by omega)) ⟨Er,he⟩⟩
def pe(K:W.Frag)(aA aE aF aB aC aD aG:Addr):Sp:=λh H Q E=>(O5 λ(a:Addr) (d:qG) (e:qH)=>Px (h=[.ref a]) (Bc H a d e) ((∀w∈d,1<=w)) (1<=qv e) ((∀w∈d,intBits w<=256)) (intBits (qv e)<=256) (d.length<=8) (Bn (qv e) d<=3000) (∀(D:Addr) (b:pR) (f:Hp),H D=none->A8 H f->f D=some (.dT b)->Ck d e f b->b.map (·.1)=Bq d (qv e)->M9 d e f b->(∀i∈b,∀c,i.2=.ref c->H c=none)->b.length<=3000->Q (.ref D) f))\/(O5 λ(a:Addr) (d:qG) (e:qH)=>Jw (h=[.ref a]) (Bc H a d e) ((∀w∈d,intBits w<=256)) (intBits (qv e)<=256) (d.length<=8) (3000<Bn (qv e) d) (∀g,A8 H g->E (.ref aB) none g))
theorem A09{fd ML sS:q7}(F:D4 K "calls_by_standing" "calls_by_standing" xf ad.qY fd)(vI:Gk P w K mg base 3 ad.lC ["hall"] (ir K aA aE aF aB aC aD aG) ML)(mK:Gk P w K mg base 5 ad.iV ["hall","standing","who"] (Vf K) sS):B3 P w K mg base (CX1 P w) 6 ad.qY fd ["hall"] (pe K aA aE aF aB aC aD aG):=by
 refine F.uN Pn (λvs H Q E h=>?_) (λbK A outer s H vs Q E hr h=>?_)
 ·rcases h with⟨a,m,g,rfl,ha,mT,zE,jB,fW,GW,hp,q⟩|⟨a,m,g,rfl,_,_,_,_,_,_⟩<;>rfl
 ·obtain h:=h;refine⟨_,(A3 (Ad (i:=1) Pn.nd rfl (Or.inl rfl) Nl) (A3 (C1 Ys rfl (Cd (Eb vI.g (hr.mono (by decide)) rfl T.VA T.VB vI.b .nil Ji (A0 (pv 0) A4))) (Aj (i:=2) Pn.nd rfl (Or.inl rfl)) (A3 (Ad (i:=3) Pn.nd rfl (Or.inl rfl) ci) (A3 (C1 Ys rfl (Fj (by rfl) T.fK (A0 (Ak (Bs K) (by rfl) T.eK PySem.boot_len (A0 (Au (Aw K) (pv 0) A7 (λ_ _=>rfl)) A4)) A4)) (Aj (i:=4) Pn.nd rfl (Or.inl rfl)) (A3 (Ad (i:=5) Pn.nd rfl (Or.inl rfl) (Ac mK.g (hr.mono (by decide)) rfl T.FY T.FZ mK.b .nil Ap (A0 (pv 0) (A0 (pv 2) (A0 (pv 4) A4))))) (A5 (Di (Ai (Yq K hr) Bj (pv 5) rfl) (A5 (R0 (Kf hr) (pv 3) (pv 4) (pv 5) rfl)) Ae)))) (A5 (R0 (Kf hr) (pv 1) (pv 2) (pv 3) rfl))))) (A5 (Ab (pv 1))))),?_⟩;rcases h with⟨a,m,g,rfl,ha,mT,zE,jB,fW,GW,hp,q⟩|⟨a,m,g,rfl,ha,M,rM,nW,hp,he⟩
  ·refine λD hD=>?_;have R:A8 H (upd H D (.dT [])):=A8.upd hD;have I:(upd H D (.dT [])) D=some (.dT []):=A2;generalize upd H D (.dT [])=H1 at R I⊢;refine⟨_,rfl,E,λ_ _ _ z=>z,.inl ⟨a,m,g,rfl,ha.same R,mT,zE,jB,fW,GW,hp,λl us H2 hl s2 el O=>⟨l,rfl,.inl ⟨⟨_,Aq.of el⟩,?_⟩⟩⟩⟩
   have hlen:us.length<=3000:=by
    have h1:=O.1;have h2:=Po mT (show 0<=qv g by omega);omega
   have dH:=R.trans s2;have eD2:=s2 _ _ I
   refine Cl (K:=K) (a:=l) (xs:=us) (λi J r=>o6 λ(b:pR) (v2 v3 S U:Option V)=>Px (J=[some (.ref a),some (.ref D),v2,v3,S,U]) (A8 H r) (LT H2 r) (r D=some (.dT b)) (Ck m g r b) ((∀B∈b,∀c,B.2=.ref c->H c=none)) (b.length<=i) (b.map (·.1)=(Bq m (qv g)).take i) (M9 m g r b))
    ⟨[],_,_,_,_,rfl,dH,⟨λ_ _ z=>z,λ_ _ z=>z⟩,eD2,⟨(λB z=>by cases z),List.Pairwise.nil,List.Pairwise.nil⟩,(λB z=>by cases z),dr _,rfl,(λB z=>by cases z)⟩ (by rintro i J r _ ⟨_,_,_,_,_,_,_,t,_⟩;exact Aq.of (t.1 _ _ el)) ?_ ?_
   ·rintro i u J r hu ⟨b,v2,v3,S,U,rfl,s',t',mW,rS,qD,zD,mL,zL⟩;have hi:=(cb.mp hu).1;obtain⟨z,hz,p,w,rfl,hz1,hz2⟩:=O.get hu;obtain⟨m1,m2,m3,m4⟩:=Pp (cI hz);have XG:Dh r p z.1 z.2:=⟨w,t'.2 _ _ hz1,t'.2 _ _ hz2⟩;refine λc hc=>?_;have s3:A8 r (upd r c (.dK [])):=A8.upd hc;have e3:(upd r c (.dK [])) c=some (.dK []):=A2;generalize upd r c (.dK [])=H3 at s3 e3⊢;have s03:=s'.trans s3;obtain⟨wt,gU,kB⟩:=id (ha.same s03);refine⟨_,rfl,a,_,_,_,rfl,rfl,.inr (Cf.of gU),rfl,wt,_,rfl,.inr (Cf.of kB),_,rfl,by omega,by rw[List.length_map];omega,?_⟩
    refine Ke (n:=(m.map V.int).length) (λj J n=>O5 λ(o:List (E3×V)) (S U:Option V)=>Im (J=[some (.ref a),some (.ref D),some (.ref p),some (.ref c),S,U]) (A8 r n) (n c=some (.dK o)) (Go m g z n o) (o.length<=j) (∀f:Nat,f<j->none∉Bg m z.1 g z.2 f->(Av o (.inl (f:Int))).isSome=true))
     ⟨[],_,_,rfl,s3,e3,(λe z=>by cases z),dr _,(λf z=>absurd z (nU _))⟩ ?_ ?_
    ·rintro j J n hj ⟨o,S,U,rfl,x,C,yD,rQ,G⟩;rw[List.length_map]at hj;have XH:=s'.trans x;refine⟨_,rfl,_,rfl,_,rfl,a,p,m,z.1,g,z.2,_,j,rfl,by omega,ha.same XH,XG.same x,hj,m1,GW,λL qF H5 hL s5 eL wG=>?_⟩;refine⟨_,rfl,L,qF,.none,(Bg m z.1 g z.2 j).map qr,rfl,Aq.of eL,de,Pl wG,by decide,_,rfl,_,λM=>?_,λM=>?_,λ_ _ z=>z⟩
     ·rw[if_pos rfl,Q4]at M;have pH:none∉Bg m z.1 g z.2 j:=by simpa using M
      have X:=s5 _ _ C;refine⟨_,rfl,_,rfl,_,rfl,c,_,rfl,.inl ⟨o,.inl (j:Int),X,congrArg V.int (Int.zero_add _),As (by omega),rfl⟩,?_⟩;have t6:LT H5 (upd H5 c (.dK (Cg o (.inl (j:Int)) (.ref L)))):=LT.dK X;refine⟨Cg o (.inl (j:Int)) (.ref L),_,_,rfl,(x.trans s5).new hc,A2,?_,ea (Dp _ _ _) (by omega),λf hwho N=>Ui ?_⟩
      ·have hold:Go m g z (upd H5 c (.dK (Cg o (.inl (j:Int)) (.ref L)))) o:=yD.up ((LT.of s5).trans t6);intro e he;rcases cz he with y|y
       ·exact hold e y
       ·subst y;exact⟨j,L,qF,rfl,hj,pH,rfl,t6.1 _ _ eL,wG.imp λ_ _ y=>Hw.up t6.2 y⟩
      ·rcases i3 f j with y|y
       ·exact .inl (G f y N)
       ·have e:f=j:=by omega
        rw[e];exact .inr rfl
     ·rw[if_pos rfl,Q4]at M;have hyes:none∈Bg m z.1 g z.2 j:=by simpa using M
      refine⟨o,_,_,rfl,x.trans s5,s5 _ _ C,yD.up (LT.of s5),by omega,λf hwho N=>?_⟩;rcases i3 f j with y|y
      ·exact G f y N
      ·have e:f=j:=by omega
       rw[e]at N;exact absurd hyes N
    rintro J n ⟨o,S,U,rfl,x,C,yD,rQ,G⟩;rw[List.length_map]at rQ;have GY:=x _ _ mW;refine⟨_,rfl,_,rfl,_,rfl,D,_,rfl,Xa.t GY (show Iu n p z from XG.same x) (Dl (by omega)),?_⟩;have t5:LT n (upd n D (.dT (Cg b z (.ref c)))):=LT.dT GY
    have k5:∀Y pP,n Y=some (.dK pP)->(upd n D (.dT (Cg b z (.ref c)))) Y=some (.dK pP):=λY pP e=>by
     rw[A9 (Bf e GY (by intro z;cases z))];exact e
    have s05:=s'.trans x
    have hnz:Av b z=none:=by
     cases hv:Av b z with
     |none=>rfl
     |some v=>
      have:=List.mem_map_of_mem (f:=(·.1)) (Bb hv);rw[mL]at this;exact absurd this (Pg (L9 _ _) hz)
    have ep:Cg b z (.ref c)=b++[(z,.ref c)]:=Jl _ hnz;have sT:Ck m g (upd n D (.dT (Cg b z (.ref c)))) b:=(rS.keep (LT.of x) (λc o e=>x _ _ e)).keep t5 k5;have MM:M9 m g (upd n D (.dT (Cg b z (.ref c)))) b:=(zL.keep rS (λc o e=>x _ _ e)).keep (rS.keep (LT.of x) (λc o e=>x _ _ e)) k5;have X:=k5 _ _ C;have MN:=yD.up t5;have sN:A8 H (upd n D (.dT (Cg b z (.ref c)))):=s05.new hD;have tN:LT H2 (upd n D (.dT (Cg b z (.ref c)))):=(t'.trans (LT.of x)).trans t5;have eN:(upd n D (.dT (Cg b z (.ref c)))) D=some (.dT (Cg b z (.ref c))):=A2;rw[ep]at sT MM X MN sN tN eN⊢;generalize upd n D (.dT (b++[(z,.ref c)]))=H6 at sT MM X MN sN tN eN⊢
    have hnew:∀B∈b,B.2≠ .ref c:=λB cK e=>by
     obtain⟨d,ds,I,Z,_⟩:=rS.1 B cK;rw[e]at I;cases I;rw[hc]at Z;cases Z
    refine⟨b++[(z,.ref c)],_,_,_,_,rfl,sN,tN,eN,⟨N6 sT.1 ⟨c,o,rfl,X,by omega,MN⟩,?_,?_⟩,N6 qD (λY e=>by cases e;exact s'.free hc),by rw[List.length_append,List.length_singleton];omega,?_,?_⟩
    ·rw[List.map_append];refine Ep sT.2.1 (λy=>?_);rw[mL]at y;exact Pg (L9 _ _) hz y
    ·rw[List.map_append];refine Ep sT.2.2 (λy=>?_);obtain⟨B,cK,e⟩:=fx.mp y;exact hnew B cK e
    ·rw[List.map_append,mL,List.take_add_one,hz];rfl
    ·intro B cK Y pP I Z;rcases fF.mp cK with y|y
     ·exact MM B y Y pP I Z
     ·cases k8.mp y;cases I;rw[X]at Z;cases Z;exact λf hw N=>G f (by rw[List.length_map];exact hw) N
   rintro J r ⟨b,v2,v3,S,U,rfl,s',t',mW,rS,qD,zD,mL,zL⟩;rw[O.1,List.take_length]at mL;exact⟨_,rfl,q D b r hD s' mW rS mL zL qD (by omega)⟩
  ·refine λD hD=>?_;have R:A8 H (upd H D (.dT [])):=A8.upd hD;generalize upd H D (.dT [])=H1 at R⊢;exact⟨_,rfl,E,λ_ _ _ z=>z,.inr ⟨a,m,g,rfl,ha.same R,M,rM,nW,hp,λH2 s2=>he H2 (R.trans s2)⟩⟩
def jb(K:PySem.W.Frag):Sp:=λh H Q _=>Zh λ(D:Addr) (a:pR) (g:qG) (f:qH)=>Fq (h=[.ref D]) (H D=some (.dT a)) (Ck g f H a) (a.length<=3000) (∀(W:Addr) (e:pR) (d:Hp),H W=none->A8 H d->d W=some (.dT e)->F9 g f H a 48000 d e->(∀k c b,Ao H a k c->some b∈Bg g k.1 f k.2 c->Ce d e b k c)->e.length<=48000->Q (.ref W) d)
theorem vp{fd:q7}(F:D4 K "ways_to" "ways_to" fu ad.lD fd):B3 P w K mg base (CX1 P w) 1 ad.lD fd ["pending"] (jb K):=by
 refine F.okN Ij (λvs H Q E h=>?_) (λbK A outer s H vs Q E hr h=>?_)
 ·rcases h with⟨D,f,R,O,rfl,hD,rN,zD,q⟩<;>rfl
 ·obtain⟨D,f,R,O,rfl,hD,rN,zD,q⟩:=h;refine⟨_,(A3 (Ad (i:=1) Ij.nd rfl (Or.inl rfl) Nl) (A3 (R1 (C1 ml rfl (Np (pv 0)) (Dz K (n:=2) rfl (Ba (Aj (i:=2) Ij.nd rfl (Or.inl rfl)) (Ba (Aj (i:=3) Ij.nd rfl (Or.inl rfl)) Df))) (A5 (R1 (C1 ml rfl (Np (pv 3)) (Dz K (n:=2) rfl (Ba (Aj (i:=4) Ij.nd rfl (Or.inl rfl)) (Ba (Aj (i:=5) Ij.nd rfl (Or.inl rfl)) Df))) (A5 (C1 ml rfl (Cd (pv 5)) (Aj (i:=6) Ij.nd rfl (Or.inl rfl)) (A5 (Cs (Dr PySem.F.plainAttrs_list PySem.F.slot_list_append PySem.F.type_list_append D1 (Yu (mm (Kf hr) (pv 1) (pv 6) (B6 A4) ⟨rfl,rfl,rfl,rfl⟩)) (A0 (Cz (A0 (pv 2) (A0 (pv 4) A4))) A4))))))))))) (A5 (Ab (pv 1))))),?_⟩;have rS:=rN.ok;refine λW hW=>?_;have s1:A8 H (upd H W (.dT [])):=A8.upd hW;have e1:(upd H W (.dT [])) W=some (.dT []):=A2;generalize upd H W (.dT [])=H1 at s1 e1⊢;have gF:=s1 _ _ hD;have hWD:W≠D:=(Aa hD hW).symm;refine⟨D,.dT f,trivial,gF,_,rfl,D,.dT f,rfl,trivial,gF,λo=>?_⟩
  refine P5 (d:=D) (o:=o) (u:=.dT f) (λi Z U=>yv λ(C:pR) (v2 v3 v4 v5 v6:Option V)=>Jw (Z=[some (.ref D),some (.ref W),v2,v3,v4,v5,v6]) (U D=some (.fB o (.dT f))) ((∀b p,b≠D->H b=some p->U b=some p)) (U W=some (.dT C)) (F9 R O H f (16*i) U C) (C.length<=16*i) (∀k d a,(∃v,(k,v)∈f.take i)->Ao H f k d->some a∈Bg R k.1 O k.2 d->Ce U C a k d))
   ⟨[],_,_,_,_,_,rfl,A2,(λb p n e=>(A9 n).trans (s1 _ _ e)),(A9 hWD).trans e1,⟨(λkv z=>by cases z),List.Pairwise.nil⟩,mu _,(λk d a z=>by obtain⟨v,z⟩:=z;rw[List.take_zero]at z;cases z)⟩ (by rintro i Z U _ ⟨_,_,_,_,_,_,_,e,_⟩;exact e) ?_ ?_
  ·rintro i x y T Z U hi hit ⟨C,v2,v3,v4,v5,v6,rfl,mW,k',GZ,xP,QT,FJ⟩ hT;have hi3:i<3000:=fC hi zD;obtain⟨I,bb,cK,rfl,hkk⟩:=hit;have iL:(I,y)∈f:=cI cK;obtain⟨kw,hkw⟩:=Lb iL;obtain⟨c,S,ey,hc,rQ,yD⟩:=rN.1 _ iL;have SO:y=.ref c:=ey;subst SO;have s2:A8 U (upd U T (.tup [.ref bb,.ref c])):=A8.upd hT;have e2:(upd U T (.tup [.ref bb,.ref c])) T=some (.tup [.ref bb,.ref c]):=A2;generalize upd U T (.tup [.ref bb,.ref c])=H2 at s2 e2⊢;refine⟨T,_,rfl,Cf.of e2,rfl,_,_,rfl,_,_,rfl,rfl,?_⟩;have RX:c≠D:=Bf hc hD (by intro z;cases z);have hcW:c≠W:=Aa hc hW;have xK:=s2 _ _ (k' c _ RX hc);refine⟨c,.dK S,trivial,xK,_,rfl,c,.dK S,rfl,trivial,xK,λo2=>?_⟩;have t2c:LT H2 (upd H2 c (.fB o2 (.dK S))):=LT.dK xK
   refine P5 (d:=c) (o:=o2) (u:=.dK S) (λj Z M=>Zh λ(C:pR) (v4 v5 v6:Option V)=>M7 (Z=[some (.ref D),some (.ref W),some (.ref bb),some (.ref c),v4,v5,v6]) (M c=some (.fB o2 (.dK S))) (M D=some (.fB o (.dT f))) ((∀b p,b≠D->b≠c->H b=some p->M b=some p)) (Ax H2 M) (M W=some (.dT C)) (F9 R O H f (16*i+2*j) M C) (C.length<=16*i+2*j) ((∀k d a,(∃v,(k,v)∈f.take i)->Ao H f k d->some a∈Bg R k.1 O k.2 d->Ce M C a k d)) (∀d a,(∃e∈S.take j,e.1=.inl ((d:Nat):Int))->some a∈Bg R I.1 O I.2 d->Ce M C a I d))
    ⟨C,_,_,_,rfl,A2,(A9 RX.symm).trans (s2 _ _ mW),(λb p n1 n2 e=>(A9 n2).trans (s2 _ _ (k' b p n1 e))),t2c.2,(A9 hcW.symm).trans (s2 _ _ GZ),xP.up ((LT.of s2).trans t2c) (by omega),by omega,(λk d a B g Y=>(FJ k d a B g Y).up ((LT.of s2).trans t2c)),(λd a z=>by obtain⟨e,z,_⟩:=z;rw[List.take_zero]at z;cases z)⟩ (by rintro j Z M _ ⟨_,_,_,_,_,e,_⟩;exact e) ?_ ?_
   ·rintro j x2 y2 T2 Z M hj hit2 ⟨wv3,v4,v5,v6,rfl,HC,qJ,k3,t3,hW3,MO,XI,hs3,MP⟩ LY;have hj8:j<8:=fC hj rQ;obtain⟨kk2,XJ,rfl⟩:=hit2;obtain⟨L,l,qF,ei,hw2,hno2,el,hl,MQ⟩:=yD _ (cI XJ)
    have CM:qF.length<=2:=by
     rw[MQ.1];unfold Bg;split<;>simp
    have ei':kk2=.inl (L:Int):=ei;subst ei';have el':y2=.ref l:=el;subst el';have s4:A8 M (upd M T2 (.tup [kV (.inl (L:Int)),.ref l])):=A8.upd LY;have e4:(upd M T2 (.tup [kV (.inl (L:Int)),.ref l])) T2=some (.tup [kV (.inl (L:Int)),.ref l]):=A2;generalize upd M T2 (.tup [kV (.inl (L:Int)),.ref l])=H4 at s4 e4⊢;refine⟨T2,_,rfl,Cf.of e4,rfl,_,_,rfl,_,_,rfl,rfl,?_⟩;have hlD:l≠D:=Bf hl hD (by intro z;cases z);have hlc:l≠c:=Bf hl hc (by intro z;cases z);refine⟨_,rfl,l,rfl,.inl ⟨⟨_,Aq.of (s4 _ _ (k3 l _ hlD hlc hl))⟩,?_⟩⟩
    refine Cl (K:=K) (a:=l) (xs:=qF) (λm Z G=>Ld λ(C:pR) (v6:Option V)=>Vz (Z=[some (.ref D),some (.ref W),some (.ref bb),some (.ref c),some (kV (.inl (L:Int))),some (.ref l),v6]) (G c=some (.fB o2 (.dK S))) (G D=some (.fB o (.dT f))) ((∀b p,b≠D->b≠c->H b=some p->G b=some p)) (Ax H2 G) (G W=some (.dT C)) (F9 R O H f (16*i+2*j+m) G C) (C.length<=16*i+2*j+m) ((∀k d a,(∃v,(k,v)∈f.take i)->Ao H f k d->some a∈Bg R k.1 O k.2 d->Ce G C a k d)) ((∀d a,(∃e∈S.take j,e.1=.inl ((d:Nat):Int))->some a∈Bg R I.1 O I.2 d->Ce G C a I d)) (∀a,some a∈(Bg R I.1 O I.2 L).take m->Ce G C a I L))
     ⟨wv3,_,rfl,s4 _ _ HC,s4 _ _ qJ,(λb p n1 n2 e=>s4 _ _ (k3 b p n1 n2 e)),t3.trans (Ax.of s4),s4 _ _ hW3,MO.up (LT.of s4) (dr _),XI,(λk d a B g Y=>(hs3 k d a B g Y).up (LT.of s4)),(λd a B g=>(MP d a B g).up (LT.of s4)),(λa z=>by rw[List.take_zero]at z;cases z)⟩ (by rintro m Z G _ ⟨_,_,_,_,_,k5,_⟩;exact Aq.of (k5 l _ hlD hlc hl)) ?_ ?_
    ·rintro m u Z G hu ⟨MR,v6,rfl,wZ,sU,k5,t5,hW5,sV,hwl5,hs5,DX,DY⟩;have hm2:m<2:=fC (cb.mp hu).1 CM;obtain⟨r0,kC,oS⟩:=MQ.get hu
     obtain⟨lk,er⟩:∃lk,r0=some lk:=by
      cases r0 with
      |none=>exact absurd (cI kC) hno2
      |some r=>exact⟨r,rfl⟩
     subst er;obtain⟨lb,rfl,DZ⟩:=oS;have RC:Iu H lb lk:=DZ;have tH5:Ax H G:=λb xs e=>k5 b _ (Bf e hD (by intro z;cases z)) (Bf e hc (by intro z;cases z)) e;have hlk5:=RC.up tH5
     have XM:∀E,G E=none->H E=none:=λE hE=>by
      cases hHE:H E with
      |none=>rfl
      |some p=>
       by_cases B:E=D
       ·rw[B,sU]at hE;cases hE
       by_cases g:E=c
       ·rw[g,wZ]at hE;cases hE
       rw[k5 E p B g hHE]at hE;cases hE
     refine⟨(λv N=>O5 λ(EA:pR) (X:Addr) (MS:List V)=>o4 (v=.ref X) (Av EA lk=some (.ref X)) (H X=none) (N X=some (.lst MS)) (MS.length<=16*i+2*j+m) ((∀u∈MS,Q0 R O f N lk u)) (N c=some (.fB o2 (.dK S))) (N D=some (.fB o (.dT f))) ((∀b p,b≠D->b≠c->H b=some p->N b=some p)) (Ax G N) (N W=some (.dT EA)) (F9 R O H f (16*i+2*j+m) N EA) (EA.length<=16*i+2*j+m+1) ((∀k d a,(∃v,(k,v)∈f.take i)->Ao H f k d->some a∈Bg R k.1 O k.2 d->Ce N EA a k d)) ((∀d a,(∃e∈S.take j,e.1=.inl ((d:Nat):Int))->some a∈Bg R I.1 O I.2 d->Ce N EA a I d)) ((∀a,some a∈(Bg R I.1 O I.2 L).take m->Ce N EA a I L))),⟨_,rfl,W,rfl,.inr ⟨MR,.inl hW5⟩,_,rfl,B4,λE hE=>?_⟩,?_⟩
     ·have J:A8 G (upd G E (.lst [])):=A8.upd hE;have e6:(upd G E (.lst [])) E=some (.lst []):=A2;generalize upd G E (.lst [])=H6 at J e6⊢;have hW6:=J _ _ hW5;refine⟨MR,lk,lb,rfl,hlk5.up (Ax.of J),hW6,Dl (by omega),λv hv=>?_,λhv=>?_⟩
      ·obtain⟨X,MS,e7,h0,h1,h2,h3⟩:=sV.1 _ (Bb hv);have e7':v=.ref X:=e7;exact⟨MR,X,MS,e7,by rw[hv,e7'],h0,J _ _ h1,h2,(λu hu=>(h3 u hu).up (Ax.of J)),J _ _ wZ,J _ _ sU,(λb p n1 n2 e=>J _ _ (k5 b p n1 n2 e)),Ax.of J,hW6,sV.up (LT.of J) (dr _),by omega,(λk d a B g Y=>(hs5 k d a B g Y).up (LT.of J)),(λd a B g=>(DX d a B g).up (LT.of J)),(λa z=>(DY a z).up (LT.of J))⟩
      ·have t7:LT H6 (upd H6 W (.dT (Cg MR lk (.ref E)))):=LT.dT hW6;have nE:=XM E hE;have MT:=(LT.of J).trans t7;refine⟨Cg MR lk (.ref E),E,[],rfl,by rw[Js,if_pos rfl],nE,t7.1 _ _ e6,mu _,(λu hu=>by cases hu),(A9 hcW).trans (J _ _ wZ),(A9 hWD.symm).trans (J _ _ sU),(λb p n1 n2 e=>(A9 (Aa e hW)).trans (J _ _ (k5 b p n1 n2 e))),(Ax.of J).trans t7.2,A2,?_,ea (Dp _ _ _) (by omega),(λk d a B g Y=>((hs5 k d a B g Y).up MT).put hv),(λd a B g=>((DX d a B g).up MT).put hv),(λa z=>((DY a z).up MT).put hv)⟩;refine⟨λkv cK=>?_,?_⟩
       ·rcases cz cK with y|y
        ·exact(sV.up MT (dr _)).1 kv y
        ·subst y;exact⟨E,[],rfl,nE,t7.1 _ _ e6,mu _,λu hu=>by cases hu⟩
       ·rw[Jl _ hv,List.map_append];refine Ep sV.2 (λy=>?_);obtain⟨kv,cK,e⟩:=fx.mp y;obtain⟨l9,us9,e9,_,h9,_⟩:=sV.1 kv cK;have e':kv.2=.ref E:=e;rw[e']at e9;cases e9;rw[hE]at h9;cases h9
     rintro v N ⟨EA,X,MS,rfl,hv7,n7,RE,hul7,XN,hc7,hD7,k7,t7,hW7,hwo7,hwl7,hs7,hs72,hs73⟩;refine⟨.inl ⟨rfl,_,Aq.of RE⟩,_,rfl,_,rfl,B4,λT3 hT3=>?_⟩;have s8:A8 N (upd N T3 (.tup [.ref bb,kV (.inl (L:Int))])):=A8.upd hT3;have e8:(upd N T3 (.tup [.ref bb,kV (.inl (L:Int))])) T3=some (.tup [.ref bb,kV (.inl (L:Int))]):=A2;generalize upd N T3 (.tup [.ref bb,kV (.inl (L:Int))])=H8 at s8 e8⊢;have nW:=s8 _ _ RE;refine⟨X,_,_,rfl,rfl,nW,Dl (by omega),?_⟩;have hl7D:X≠D:=(Aa hD n7).symm;have hl7c:X≠c:=(Aa hc n7).symm;have hl7W:X≠W:=Bf RE hW7 (by intro z;cases z);have XO:Iu H8 bb I:=(((hkk.up (Ax.of s2)).up t5).up t7).up (Ax.of s8);have hway:Q0 R O f H8 lk (.ref T3):=⟨T3,bb,L,I,rfl,e8,XO,⟨kw,hkw⟩,cI kC⟩;refine⟨EA,_,rfl,(A9 hl7c.symm).trans (s8 _ _ hc7),(A9 hl7D.symm).trans (s8 _ _ hD7),(λb p n1 n2 e=>(A9 (Aa e n7)).trans (s8 _ _ (k7 b p n1 n2 e))),((t5.trans t7).trans (Ax.of s8)).trans (Ax.lst nW),(A9 hl7W.symm).trans (s8 _ _ hW7),?_,by omega,(λk d a B g Y=>((hs7 k d a B g Y).up (LT.of s8)).app nW),(λd a B g=>((hs72 d a B g).up (LT.of s8)).app nW),(λa z=>?_)⟩
     ·exact F9.app (hwo7.up (LT.of s8) (dr _)) (Bb hv7) nW hul7 (λu hu=>(XN u hu).up (Ax.of s8)) hway
     ·rw[List.take_add_one,kC]at z;rcases fF.mp z with y|y
      ·exact((hs73 a y).up (LT.of s8)).app nW
      ·have ey:a=lk:=by simpa using y
       subst ey;have tt:Ax H8 (upd H8 X (.lst (MS++[.ref T3]))):=Ax.lst nW;exact⟨X,_,T3,bb,hv7,A2,by simp,tt _ _ e8,XO.up tt⟩
    rintro Z G ⟨MR,v6,rfl,wZ,sU,k5,t5,hW5,sV,hwl5,hs5,DX,DY⟩;refine⟨MR,_,_,_,rfl,wZ,sU,k5,t5,hW5,sV.up ⟨λ_ _ z=>z,λ_ _ z=>z⟩ (by omega),by omega,hs5,λd a B g=>?_⟩;obtain⟨e,he,ew⟩:=B;rw[List.take_add_one,XJ]at he;rcases fF.mp he with y|y
    ·exact DX d a ⟨e,y,ew⟩ g
    ·have ey:e=(.inl (L:Int),.ref l):=by simpa using y
     subst ey;have ew2:(L:Int)=(d:Int):=Sum.inl.inj ew;have ew3:L=d:=by omega
     subst ew3;refine DY a ?_;rw[MQ.1,List.take_length];exact g
   rintro Z M ⟨wv3,v4,v5,v6,rfl,HC,qJ,k3,t3,hW3,MO,XI,hs3,MP⟩;have hll:Dd (.dK S)<=8:=rQ;have tz:LT M (upd M c (.dK S)):=⟨λb xs e=>by rw[A9 (Bf e HC (by intro z;cases z))];exact e,λb xs e=>by rw[A9 (Bf e HC (by intro z;cases z))];exact e⟩;refine⟨o2,HC,wv3,_,_,_,_,_,rfl,(A9 RX.symm).trans qJ,(λb p n1 e=>?_),(A9 hcW.symm).trans hW3,MO.up tz (show 16*i+2*Dd (.dK S)<=16*(i+1)by omega),by omega,λk d a B g Y=>?_⟩
   ·by_cases z:b=c
    ·subst z;rw[hc]at e;cases e;exact A2
    ·exact(A9 z).trans (k3 b p n1 z e)
   ·obtain⟨v,hv⟩:=B;rw[List.take_add_one,cK]at hv;rcases fF.mp hv with y|y
    ·exact(hs3 k d a ⟨v,y⟩ g Y).up tz
    ·have ey:(k,v)=(I,.ref c):=by simpa using y
     cases ey;obtain⟨c',pP,g1,g2,g3⟩:=g;rw[Db rN.2.1 iL]at g1;cases g1;rw[hc]at g2;cases g2;obtain⟨w',LO⟩:=Option.isSome_iff_exists.mp g3;refine(MP d a ⟨(.inl (d:Int),w'),?_,rfl⟩ Y).up tz;show _∈S.take S.length;rw[List.take_length];exact Bb LO
  rintro Z U ⟨C,v2,v3,v4,v5,v6,rfl,mW,k',GZ,xP,QT,FJ⟩;have hkl':Dd (.dT f)<=3000:=zD;have tD:LT U (upd U D (.dT f)):=⟨λb xs e=>by rw[A9 (Bf e mW (by intro z;cases z))];exact e,λb xs e=>by rw[A9 (Bf e mW (by intro z;cases z))];exact e⟩;refine⟨o,mW,_,rfl,q W C _ hW (λb p e=>?_) ((A9 hWD).trans GZ) (xP.up tD (show 16*Dd (.dT f)<=48000 by omega)) (λk d a g Y=>?_) (by omega)⟩
  ·by_cases z:b=D
   ·subst z;rw[hD]at e;cases e;exact A2
   ·exact(A9 z).trans (k' b p z e)
  ·obtain⟨c',pP,g1,g2,g3⟩:=id g;refine(FJ k d a ⟨.ref c',?_⟩ g Y).up tD;show _∈f.take f.length;rw[List.take_length];exact Bb g1
def pc(K:PySem.W.Frag):Sp:=λm H Q _=>Xb λ(D W R:Addr) (a h:pR) (j:List V) (i:List (qG×Int)) (l:Hp) (g:qG) (f:qH)=>M7 (m=[.ref D,.ref W,.ref R]) (H D=some (.dT a)) (Ck g f H a) (H W=some (.dT h)) (F9 g f l a 48000 H h) ((∀k b c,Ao H a k b->some c∈Bg g k.1 f k.2 b->Ce H h c k b)) (H R=some (.lst j)) (An (Kv H) i j) (Ch H a<=24000) (∀(B:Addr) (bs:List V) (e:List (qG×Int)) (d:Hp),H B=none->Ei a H d->Ck g f d a->d B=some (.lst bs)->An (Kv d) e bs->Ch d a+bs.length<=Ch H a->
  (∀k b,Ao d a k b↔(Ao H a k b/\∀c∈i,some c∉Bg g k.1 f k.2 b))->(∀k,k∈e↔((∃b,Ao H a k b)/\∀b,¬Ao d a k b))->Q (.ref B) d)
theorem A07{fd:q7}(F:D4 K "without_calls_left" "without_calls_left" wz ad.qZ fd):B3 P w K mg base (CX1 P w) 1 ad.qZ fd ["pending","ways","ranked"] (pc K):=by
 refine F.okN Pm (λvs H Q E h=>?_) (λbK A outer s H vs Q E hr h=>?_)
 ·rcases h with⟨D,W,R,d,wv,rs,eZ,H0,X,O,rfl,hD,rN,hW,xP,wO,hR,mS,hle,q⟩<;>rfl
 ·obtain⟨D,W,R,d,wv,rs,eZ,H0,X,O,rfl,hD,rN,hW,xP,wO,hR,mS,hle,q⟩:=h;refine⟨_,(A3 (Ad (i:=3) Pm.nd rfl (Or.inl rfl) (B6 A4)) (A3 (C1 ml rfl (Cd (pv 2)) (Aj (i:=4) Pm.nd rfl (Or.inl rfl)) (A5 (C1 ml rfl (Cd (Yu (cg (Kf hr) (pv 1) (pv 4) (B6 A4) ⟨rfl,rfl,rfl,rfl⟩))) (Dz K (n:=2) rfl (Ba (Aj (i:=5) Pm.nd rfl (Or.inl rfl)) (Ba (Aj (i:=6) Pm.nd rfl (Or.inl rfl)) Df))) (A3 (Ad (i:=7) Pm.nd rfl (Or.inl rfl) (M4 (Kf hr) (pv 0) (pv 5) (λ_ _=>rfl))) (A5 (Di (R3 (Qx (Kf hr) (pv 6) (pv 7)) rfl) (A3 (Cs (cj (pv 7) (pv 6) ⟨rfl,rfl,rfl,rfl⟩)) (A5 (Di (D9 (Wn (pv 7))) (A5 (Cs (Dr PySem.F.plainAttrs_list PySem.F.slot_list_append PySem.F.type_list_append D1 (pv 3) (A0 (pv 5) A4)))) Ae))) Ae)))))) (A5 (Ab (pv 3))))),?_⟩;have rS:=rN.ok;refine⟨B4,λB hB=>?_⟩;have s1:A8 H (upd H B (.lst [])):=A8.upd hB;have e1:(upd H B (.lst [])) B=some (.lst []):=A2;generalize upd H B (.lst [])=H1 at s1 e1⊢;have c1:∀c p,H c=some (.dK p)->H1 c=some (.dK p):=λc p e=>s1 _ _ e;refine⟨_,rfl,R,rfl,.inl ⟨⟨_,Aq.of (s1 _ _ hR)⟩,?_⟩⟩
  refine Cl (K:=K) (a:=R) (xs:=rs) (λi σ G=>yv λ(bs:List V) (o:List (qG×Int)) (v4 v5 v6 v7:Option V)=>Vz (σ=[some (.ref D),some (.ref W),some (.ref R),some (.ref B),v4,v5,v6,v7]) (Ei d H G) (Ck X O G d) (G B=some (.lst bs)) (An (Kv G) o bs) (Ch G d+bs.length<=Ch H d) (Xf B G d) ((∀k a,Ao G d k a->Ao H d k a)) ((∀k a,Ao H d k a->(∀f∈eZ.take i,some f∉Bg X k.1 O k.2 a)->Ao G d k a)) ((∀f∈eZ.take i,∀k a,some f∈Bg X k.1 O k.2 a->¬Ao G d k a)) ((∀k,k∈o↔((∃a,Ao H d k a)/\∀a,¬Ao G d k a))))
   ⟨[],[],_,_,_,_,rfl,Ei.of s1,rN.keep (LT.of s1) c1,e1,An.nil,by rw[Ea rS c1];exact dr _,(Xf.start rS hB).keep rS c1,(λk a z=>(Ao.keep rN c1).mp z),(λk a z _=>(Ao.keep rN c1).mpr z),(λf z=>by rw[List.take_zero]at z;cases z),λk=>⟨(λz=>by cases z),λz=>?_⟩⟩ (by rintro i σ G _ ⟨_,_,_,_,_,_,_,ch,_⟩;exact Aq.of (ch.keep rS hR (λp z=>nomatch z))) ?_ ?_
  ·obtain⟨⟨a,C⟩,r⟩:=z;exact absurd ((Ao.keep rN c1).mpr C) (r a)
  ·rintro i u σ G hu ⟨bs,o,v4,v5,v6,v7,rfl,ch,kD,hB',GV,hlf,nb,l1,l2,l3,l4⟩;obtain⟨lk,DZ,lb,lu,rfl,hlk1,hlk2⟩:=mS.get hu;have RC:Iu H lb lk:=⟨lu,hlk1,hlk2⟩;have EB:=kD.ok;have lt':=ch.lt rS;have GZ:=ch.keep rS hW (λp z=>nomatch z);have hwo':=xP.up lt' (dr _);refine⟨(λv L=>Ld λ(N:Addr) (qF:List V)=>Im (v=.ref N) (L N=some (.lst qF)) (N≠B) ((∀u∈qF,Q0 X O d L lk u)) ((∀lx,Av wv lk=some (.ref lx)->lx=N)) (A8 G L)),⟨_,rfl,W,rfl,.inr ⟨wv,.inl GZ⟩,_,rfl,B4,λE hE=>?_⟩,?_⟩
   ·have s6:A8 G (upd G E (.lst [])):=A8.upd hE;refine⟨_,E5.t (s6 _ _ GZ) ((RC.up lt'.2).up (Ax.of s6)),?_⟩;cases hv:Av wv lk with
    |none=>exact⟨E,[],rfl,A2,(Aa hB' hE).symm,(λu hu=>by cases hu),(λlx z=>by cases z),s6⟩
    |some v=>
     obtain⟨N,qF,e2,h0,h1,h2,h3⟩:=xP.1 _ (Bb hv);obtain⟨lc,us3,e3,_,J,_,g3⟩:=hwo'.1 _ (Bb hv);have e23:V.ref N=V.ref lc:=e2.symm.trans e3;cases e23;have e3':v=.ref N:=e3;exact⟨N,us3,e3,s6 _ _ J,Aa h1 hB,(λu hu=>(g3 u hu).up (Ax.of s6)),(λlx z=>by rw[e3']at z;cases z;rfl),s6⟩
   rintro v L ⟨N,qF,rfl,hla,hlaB,hus2,hlx,s7⟩;refine⟨N,rfl,.inl ⟨⟨_,Aq.of hla⟩,?_⟩⟩;have c7:∀c p,G c=some (.dK p)->L c=some (.dK p):=λc p e=>s7 _ _ e;have hps7:=kD.keep (LT.of s7) c7;have lt7:LT H L:=lt'.trans (LT.of s7)
   refine Cl (K:=K) (a:=N) (xs:=qF) (λj σ m=>o6 λ(bs:List V) (o:List (qG×Int)) (v5 v6 v7:Option V)=>o0 (σ=[some (.ref D),some (.ref W),some (.ref R),some (.ref B),some (.ref lb),v5,v6,v7]) (Ei d H m) (Ck X O m d) (m B=some (.lst bs)) (An (Kv m) o bs) (Ch m d+bs.length<=Ch H d) (Xf B m d) ((∀k a,Ao m d k a->Ao H d k a)) ((∀k a,Ao H d k a->(∀f∈eZ.take (i+1),some f∉Bg X k.1 O k.2 a)->Ao m d k a)) ((∀f∈eZ.take i,∀k a,some f∈Bg X k.1 O k.2 a->¬Ao m d k a)) ((∀k,k∈o↔((∃a,Ao H d k a)/\∀a,¬Ao m d k a))) (Ax L m) (m N=some (.lst qF)) ((∀k a,Ao m d k a->Ao L d k a)) (∀t b a k,V.ref t∈qF.take j->L t=some (.tup [.ref b,.int ((a:Nat):Int)])->Iu L b k->¬Ao m d k a))
    ⟨bs,o,_,_,_,rfl,ch.trans (Ei.of s7),hps7,s7 _ _ hB',GV.imp (λ_ _ z=>Kv.up (Ax.of s7) z),by rw[Ea EB c7];exact hlf,nb.keep EB c7,(λk a z=>l1 k a ((Ao.keep kD c7).mp z)),(λk a C r=>(Ao.keep kD c7).mpr (l2 k a C λf M=>r f (List.take_subset_take_left _ (Nat.le_succ i) M))),(λf M k a C r=>l3 f M k a C ((Ao.keep kD c7).mp r)),(λk=>(l4 k).trans ⟨λz=>⟨z.1,λa y=>z.2 a ((Ao.keep kD c7).mp y)⟩,λz=>⟨z.1,λa y=>z.2 a ((Ao.keep kD c7).mpr y)⟩⟩),(λ_ _ z=>z),hla,(λk a z=>z),(λt b a k z=>by rw[List.take_zero]at z;cases z)⟩ (by rintro j σ m _ ⟨_,_,_,_,_,_,_,_,_,_,_,_,_,_,_,_,_,e,_⟩;exact Aq.of e) ?_ ?_
   ·rintro j u σ m XQ ⟨Y,oV,v5,v6,v7,rfl,RF,sW,hB8,zM,MU,nb8,m1,m2,m3,m4,RG,EC,m5,m6⟩;have hpo8:=sW.ok;obtain⟨t,b,a,k,rfl,ht7,hb7,⟨v,cK⟩,hbeh⟩:=hus2 u (cI XQ);have ht:=RG _ _ ht7;have hb:=hb7.up RG;refine⟨t,_,rfl,Cf.of ht,rfl,_,_,rfl,_,_,rfl,rfl,?_⟩;have RA:=RF.keep rS hD (λp z=>nomatch z);have iL:=Bb cK;obtain⟨c,p,ev,Z,rQ,yD⟩:=sW.1 _ iL;have ev':v=.ref c:=ev;subst ev'
    have U:∀(HX:Hp),(∀l g,Ao HX d l g->Ao m d l g)->¬Ao HX d k a->∀t' b' g l,V.ref t'∈qF.take (j+1)->L t'=some (.tup [.ref b',.int ((g:Nat):Int)])->Iu L b' l->¬Ao HX d l g:=λHX eX fU t' b' g l C r z3 z4=>by
     rw[List.take_add_one,XQ]at C;rcases fF.mp C with y|y
     ·exact m6 t' b' g l y r z3 (eX _ _ z4)
     ·have e1:t'=t:=by simpa using y
      subst e1;rw[ht7]at r;cases r;obtain⟨u1,f1,f2⟩:=hb7;obtain⟨u2,J,g2⟩:=z3;rw[f1]at J;injection J with J;injection J with J;injection J with g1a XR;injection XR with XR;injection g1a with g1a;injection XR with XR;subst g1a;rw[f2]at g2
      have ek:k=l:=by
       have h1:k.1=l.1:=by
        have:=en g2;injection this with this;exact L3 this
       exact Prod.ext h1 XR
      subst ek;exact fU z4
    refine⟨_,rfl,_,rfl,D,.ref c,rfl,(by rw[<- cK];exact E5.t RA hb),?_⟩;refine⟨_,rfl,_,rfl,c,_,rfl,E5.k (k:=.inl (a:Int)) Z,_,rfl,_,λoZ=>?_,λoZ=>?_,λ_ _ z=>z⟩
    ·obtain⟨w',hw⟩:=Option.isSome_iff_exists.mp oZ;have HD:Ao m d k a:=⟨c,p,cK,Z,by rw[hw];rfl⟩;refine⟨_,rfl,c,rfl,.inl ⟨p,.inl Z⟩,_,rfl,p,.inl (a:Int),w',Z,rfl,hw,?_⟩;have ch9:Ei d m (upd m c (.dK (Bx p (.inl (a:Int))))):=Ei.pop iL rfl;have zN:Ck X O (upd m c (.dK (Bx p (.inl (a:Int))))) d:=sW.pop Z;have ED:LT m (upd m c (.dK (Bx p (.inl (a:Int))))):=LT.dK Z;have hc9:(upd m c (.dK (Bx p (.inl (a:Int))))) c=some (.dK (Bx p (.inl (a:Int)))):=A2;have nb9:Xf B (upd m c (.dK (Bx p (.inl (a:Int))))) d:=nb8.pop Z;have hl9:=(Pb Z (ki hw) (kvs:=d)).2 ⟨_,iL,rfl⟩;have MV:∀l g,Ao (upd m c (.dK (Bx p (.inl (a:Int))))) d l g↔Ao m d l g/\¬(l=k/\g=a):=λl g=>Ao.pop sW cK Z;generalize upd m c (.dK (Bx p (.inl (a:Int))))=I at ch9 zN ED hc9 nb9 hl9 MV⊢;have XS:=zN.ok;have XT:=ED.1 _ _ hB8;have RH:=hb.up ED.2;have n1:∀l g,Ao I d l g->Ao H d l g:=λl g z=>m1 _ _ ((MV l g).mp z).1
     have n2:∀l g,Ao H d l g->(∀f∈eZ.take (i+1),some f∉Bg X l.1 O l.2 g)->Ao I d l g:=λl g C r=>(MV l g).mpr ⟨m2 _ _ C r,λe=>by
      refine r lk ?_ (by rw[e.1,e.2];exact hbeh);rw[List.take_add_one,DZ];simp⟩
     have n3:∀f∈eZ.take i,∀l g,some f∈Bg X l.1 O l.2 g->¬Ao I d l g:=λf M l g C r=>m3 f M l g C ((MV l g).mp r).1;have n5:∀l g,Ao I d l g->Ao m d l g:=λl g z=>((MV l g).mp z).1;have n6:=U I n5 (λz=>((MV k a).mp z).2 ⟨rfl,rfl⟩);have S:∀l,l≠k->((∀g,¬Ao I d l g)↔∀g,¬Ao m d l g):=λl pD=>⟨λz g y=>z g ((MV l g).mpr ⟨y,λe=>pD e.1⟩),λz g y=>z g (n5 _ _ y)⟩;have hkb:k∉oV:=λz=>((m4 k).mp z).2 a HD;refine⟨_,rfl,c,_,rfl,.inl hc9,_,λhe=>?_,λhe=>?_,λ_ _ z=>z⟩
     ·have zO:Bx p (.inl (a:Int))=[]:=by
       have:(Bx p (.inl (a:Int))).isEmpty=true:=by simpa using he
       exact List.isEmpty_iff.mp this
      have XU:∀g,¬Ao I d k g:=λg z=>by
       obtain⟨c',pP,J,g2,g3⟩:=z;rw[cK]at J;cases J;rw[hc9]at g2;cases g2;rw[zO]at g3;cases g3
      refine⟨_,rfl,.inl ⟨rfl,_,Aq.of XT⟩,_,rfl,B,_,_,rfl,rfl,XT,Dl (by omega),?_⟩;have XW:Ax I (upd I B (.lst (Y++[.ref b]))):=Ax.lst XT
      have k10:∀c' pP,I c'=some (.dK pP)->(upd I B (.lst (Y++[.ref b]))) c'=some (.dK pP):=λc' pP e=>by
       rw[A9 (Bf e XT (by intro z;cases z))];exact e
      have kl:∀x xs,x≠B->I x=some (.lst xs)->(upd I B (.lst (Y++[.ref b]))) x=some (.lst xs):=λx xs n e=>(A9 n).trans e;have sX:∀l g,Ao (upd I B (.lst (Y++[.ref b]))) d l g↔Ao I d l g:=λl g=>Ao.keep zN k10;obtain⟨ub,hb91,hb92⟩:=RH;refine⟨Y++[.ref b],oV++[k],_,_,_,rfl,(RF.trans ch9).new hB,zN.WS nb9 XW kl k10,A2,(zM.imp λ_ _ z=>Kv.up XW (Kv.up ED.2 z)).append (An.one ⟨b,ub,rfl,XW _ _ hb91,XW _ _ hb92⟩),?_,nb9.keep XS k10,(λl g z=>n1 _ _ ((sX l g).mp z)),(λl g C r=>(sX l g).mpr (n2 _ _ C r)),(λf M l g C r=>n3 f M l g C ((sX l g).mp r)),(λl=>?_),(RG.trans ED.2).trans XW,kl _ _ hlaB (ED.1 _ _ EC),(λl g z=>m5 _ _ (n5 _ _ ((sX l g).mp z))),(λt' b' g l C r z3 z4=>n6 t' b' g l C r z3 ((sX l g).mp z4))⟩
      ·rw[Ea XS k10,List.length_append,List.length_singleton];omega
      ·have LX:(∀g,¬Ao (upd I B (.lst (Y++[.ref b]))) d l g)↔∀g,¬Ao I d l g:=⟨λz g y=>z g ((sX l g).mpr y),λz g y=>z g ((sX l g).mp y)⟩;rw[LX];by_cases pD:l=k
       ·subst pD;exact⟨λ_=>⟨⟨a,m1 _ _ HD⟩,XU⟩,λ_=>by simp⟩
       ·rw[S l pD,<- m4 l];simp[pD]
     ·have eJ:Bx p (.inl (a:Int))≠[]:=λz=>by
       rw[z]at he;exact absurd he (by decide)
      refine⟨Y,oV,_,_,_,rfl,RF.trans ch9,zN,XT,zM.imp (λ_ _ z=>Kv.up ED.2 z),by omega,nb9,n1,n2,n3,(λl=>?_),RG.trans ED.2,ED.1 _ _ EC,(λl g z=>m5 _ _ (n5 _ _ z)),n6⟩;by_cases pD:l=k
      ·subst pD;refine⟨λz=>absurd z hkb,λz=>?_⟩;obtain⟨x,hx⟩:=List.exists_mem_of_ne_nil _ eJ;obtain⟨zB,l9,us9,J,_⟩:=yD x (Mu hx)
       have hs:(Av (Bx p (.inl (a:Int))) (.inl (zB:Int))).isSome=true:=by
        obtain⟨y,hy⟩:=Lb (k:=x.1) (v:=x.2) hx;rw[<- J,hy];rfl
       exact absurd ⟨c,_,cK,hc9,hs⟩ (z.2 zB)
      ·rw[S l pD];exact m4 l
    ·have pH:¬Ao m d k a:=λz=>by
      obtain⟨c',pP,J,g2,g3⟩:=z;rw[cK]at J;cases J;rw[Z]at g2;cases g2;rw[oZ]at g3;cases g3
     exact⟨Y,oV,_,_,_,rfl,RF,sW,hB8,zM,MU,nb8,m1,m2,m3,m4,RG,EC,m5,U m (λ_ _ z=>z) pH⟩
   rintro σ m ⟨Y,oV,v5,v6,v7,rfl,RF,sW,hB8,zM,MU,nb8,m1,m2,m3,m4,RG,EC,m5,m6⟩;refine⟨Y,oV,_,_,_,_,rfl,RF,sW,hB8,zM,MU,nb8,m1,m2,(λf M k a C r=>?_),m4⟩;rw[List.take_add_one,DZ]at M;rcases fF.mp M with y|y
   ·exact m3 f y k a C r
   ·have e1:f=lk:=by simpa using y
    subst e1;obtain⟨lx,ux,tx,bx,f1,f2,f3,f4,f5⟩:=(wO k a f (m1 _ _ r) C).up lt7;have ex:=hlx lx f1;subst ex;rw[hla]at f2;cases f2;refine m6 tx bx a k ?_ f4 f5 r;rw[List.take_length];exact f3
  rintro σ G ⟨bs,o,v4,v5,v6,v7,rfl,ch,kD,hB',GV,hlf,nb,l1,l2,l3,l4⟩;rw[mS.1,List.take_length]at l2 l3;exact⟨_,rfl,q B bs o G hB ch kD hB' GV hlf (λk a=>⟨λz=>⟨l1 k a z,λf M y=>l3 f M k a y z⟩,λz=>l2 k a z.1 z.2⟩) l4⟩
def jd(K:W.Frag)(aA aE aF aB aC aD aG:Addr):Sp:=λg H Q E=>(O5 λ(a:Addr) (b:qG) (c:qH)=>Px (g=[.ref a]) (Bc H a b c) ((∀w∈b,1<=w)) (1<=qv c) ((∀w∈b,intBits w<=256)) (intBits (qv c)<=256) (b.length<=8) (Bn (qv c) b<=3000) (∀(T:Addr) (d:pR) (e:Hp),H T=none->A8 H e->e T=some (.dT d)->Fs b c d->(d.map (·.1)).Nodup->d.length<=60000->Q (.ref T) e))\/(O5 λ(a:Addr) (b:qG) (c:qH)=>Jw (g=[.ref a]) (Bc H a b c) ((∀w∈b,intBits w<=256)) (intBits (qv c)<=256) (b.length<=8) (3000<Bn (qv c) b) (∀f,A8 H f->E (.ref aB) none f))
theorem vw{fd XX MW XY:q7}(F:D4 K "ranks" "ranks" X4 ad.lF fd)(EE:Gk P w K mg base 6 ad.qY ["hall"] (pe K aA aE aF aB aC aD aG) XX)(vJ:Gk P w K mg base 1 ad.lD ["pending"] (jb K) MW)(EF:Gk P w K mg base 1 ad.qZ ["pending","ways","ranked"] (pc K) XY):B3 P w K mg base (CX1 P w) 7 ad.lF fd ["hall"] (jd K aA aE aF aB aC aD aG):=by
 refine F.uN Ga (λvs H Q E h=>?_) (λbK A outer s H vs Q E hr h=>?_)
 ·rcases h with⟨a,U,S,rfl,ha,mT,zE,jB,fW,GW,hp,q⟩|⟨a,U,S,rfl,_,_,_,_,_,_⟩<;>rfl
 ·obtain h:=h;refine⟨_,(A3 (Ad (i:=1) Ga.nd rfl (Or.inl rfl) (Eb EE.g (hr.mono (by decide)) rfl T.m_x3 T.k_x3 EE.b .nil Ji (A0 (pv 0) A4))) (A3 (Ad (i:=2) Ga.nd rfl (Or.inl rfl) (Ac vJ.g (hr.mono (by decide)) rfl T.VC T.VD vJ.b .nil Ap (A0 (pv 1) A4))) (A3 (Ad (i:=3) Ga.nd rfl (Or.inl rfl) Nl) (A3 (Ad (i:=4) Ga.nd rfl (Or.inl rfl) A7) (A3 (R1 (Ed (i:=5) Ga.nd rfl (Np (pv 1)) _ rfl U6 rfl rfl (λ_ _ _ _=>(Dz K (n:=2) rfl (Ba (Aj (i:=0) Nf rfl (Or.inl rfl)) (Ba (Aj (i:=1) Nf rfl (Or.inl rfl)) Df)))) (λ_ _ _ _=>(R4 (D9 (Wn (pv 1))))) (λ_ _ _ _=>(pv 0)) rfl rfl)) (A3 (Nr Ys (Sy (pv 5) (by intro _;rfl)) (A3 (C1 Ys rfl (Cd (pv 5)) (Aj (i:=6) Ga.nd rfl (Or.inl rfl)) (A5 (R0 (Kf hr) (pv 3) (pv 6) (pv 4) rfl))) (A3 (Ad (i:=5) Ga.nd rfl (Or.inl rfl) (Ac EF.g (hr.mono (by decide)) rfl T.m_x1 T.k_x1 EF.b .nil Ap (A0 (pv 1) (A0 (pv 2) (A0 (pv 5) A4))))) (A5 (Ad (i:=4) Ga.nd rfl (Or.inl rfl) (Al Co (pv 4) A7)))))) (A5 (Ab (pv 3))))))))),?_⟩;rcases h with⟨a,U,S,rfl,ha,mT,zE,jB,fW,GW,hp,q⟩|⟨a,U,S,rfl,ha,hb,rM,nW,hp,he⟩
  ·refine⟨_,rfl,E,λ_ _ _ z=>z,.inl ⟨a,U,S,rfl,ha,mT,zE,jB,fW,GW,hp,λD d H1 hD s1 eD rN mL zL qD zD=>?_⟩⟩;have rS:=rN.ok;refine⟨_,rfl,D,d,U,S,rfl,eD,rN,zD,λW wv H2 hW s2 eW xP SW QT=>?_⟩;refine λT hT=>?_;have s3:A8 H2 (upd H2 T (.dT [])):=A8.upd hT;have e3:(upd H2 T (.dT [])) T=some (.dT []):=A2;generalize upd H2 T (.dT [])=Y at s3 e3⊢;have wY:=s2.trans s3;have RI:=wY _ _ eD;have hTD:T≠D:=(Aa (s2 _ _ eD) hT).symm;refine⟨D,.dT d,trivial,RI,_,rfl,D,.dT d,rfl,trivial,RI,λo=>?_⟩;have EG:=rN.keep (LT.of wY) (λc l e=>wY _ _ e);have hpo3:=EG.ok;have XZ:=zL.keep rN (λc l e=>wY _ _ e);have tF:LT Y (upd Y D (.fB o (.dT d))):=LT.dT RI
   have kF:∀c l,Y c=some (.dK l)->(upd Y D (.fB o (.dT d))) c=some (.dK l):=λc l e=>by
    rw[A9 (Bf e RI (by intro z;cases z))];exact e
   have bF:∀b C,b≠D->Y b=some C->(upd Y D (.fB o (.dT d))) b=some C:=λb C n e=>(A9 n).trans e;have dF:(upd Y D (.fB o (.dT d))) D=some (.fB o (.dT d)):=A2;have EH:=EG.keep tF kF;have HE:=XZ.keep EG kF;generalize upd Y D (.fB o (.dT d))=HF at tF kF bF dF EH HE⊢;refine λR hR=>?_;refine U4 (K:=K) (d:=D) (o:=o) (u:=.dT d) (λi zs j=>∃(J:List (qG×Int)),Fq (j R=some (.lst zs)) (zs.length<=i) (An (Kv j) J zs) (A8 HF j) (∀k,k∈J↔∃v,(k,v)∈d.take i/\Zg HF v)) ⟨[],A2,dr _,An.nil,A8.upd hR,λk=>⟨(λz=>by cases z),λ⟨v,z,_⟩=>by rw[List.take_zero]at z;cases z⟩⟩ (by rintro i zs j _ ⟨_,_,_,_,s,_⟩;exact s _ _ dF) ?_ ?_ ?_ ?_
   ·rintro i x y T2 zs j hi hit ⟨J,HH,qI,CY,s',YA⟩ LY;have hi3:i<3000:=fC hi zD;obtain⟨kk,bb,O,rfl,hkk⟩:=hit;obtain⟨c,l,ey,hc,rQ,yD⟩:=EH.1 _ (cI O);have SO:y=.ref c:=ey;subst SO;have s4:A8 j (upd j T2 (.tup [.ref bb,.ref c])):=A8.upd LY;have e4:(upd j T2 (.tup [.ref bb,.ref c])) T2=some (.tup [.ref bb,.ref c]):=A2;generalize upd j T2 (.tup [.ref bb,.ref c])=N at s4 e4⊢;have RJ:=s4 _ _ HH;refine⟨_,rfl,c,l,rfl,.inl (s4 _ _ (s' _ _ hc)),?_⟩;obtain⟨ku,SN,DF⟩:=hkk.up (Ax.of s4);refine Fw (λDL=>?_) (λDL=>?_)
    ·have zO:l=[]:=by
      have:l.isEmpty=true:=by simpa using DL
      exact List.isEmpty_iff.mp this
     subst zO;have tt:Ax N (upd N R (.lst (zs++[.ref bb]))):=Ax.lst RJ;refine⟨_,rfl,RJ,Dl (by omega),J++[kk],A2,by rw[List.length_append,List.length_singleton];omega,(CY.imp λ_ _ z=>Kv.up tt (Kv.up (Ax.of s4) z)).append (An.one ⟨bb,ku,rfl,tt _ _ SN,tt _ _ DF⟩),(s'.trans s4).new hR,λk=>?_⟩;rw[List.mem_append,YA,List.mem_singleton,List.take_add_one,O];constructor
     ·rintro(⟨v,z1,X⟩|z)
      ·exact⟨v,gy _ z1,X⟩
      ·subst z;exact⟨.ref c,by simp,c,rfl,hc⟩
     ·rintro⟨v,z1,X⟩;rcases fF.mp z1 with y|y
      ·exact .inl ⟨v,y,X⟩
      ·have G:(k,v)=(kk,.ref c):=by simpa using y
       cases G;exact .inr rfl
    ·have eJ:l≠[]:=λz=>by
      rw[z]at DL;exact absurd DL (by decide)
     refine⟨J,RJ,by omega,CY.imp λ_ _ z=>Kv.up (Ax.of s4) z,s'.trans s4,λk=>?_⟩;rw[YA,List.take_add_one,O];constructor
     ·rintro⟨v,z1,X⟩;exact⟨v,gy _ z1,X⟩
     ·rintro⟨v,z1,X⟩;rcases fF.mp z1 with y|y
      ·exact⟨v,y,X⟩
      ·have G:(k,v)=(kk,.ref c):=by simpa using y
       cases G;obtain⟨c',M,e3⟩:=X;cases M;rw[hc]at e3;cases e3;exact absurd rfl eJ
   ·rintro σ H1 Q1 Q2 hQ ⟨v,G,c,l,M,r,z⟩;exact⟨v,G,c,l,M,r,hQ _ _ z⟩
   ·rintro σ H1 Q1 Q2 hQ ⟨v,G,z⟩;exact⟨v,G,hQ _ _ z⟩
   rintro zs HG ⟨MX,hRG,qI,CY,sG,HI⟩;rw[show d.take (Dd (.dT d))=d from List.take_length]at HI;have hst0:=Ge.start EH mL HE HI;have YB:=sG _ _ dF;have hkl':Dd (.dT d)<=3000:=zD;have tG:LT HG (upd HG D (.dT d)):=⟨λb xs e=>by rw[A9 (Bf e YB (by intro z;cases z))];exact e,λb xs e=>by rw[A9 (Bf e YB (by intro z;cases z))];exact e⟩
   have xA:A8 Y (upd HG D (.dT d)):=λb C e=>by
    by_cases z:b=D
    ·subst z;rw[RI]at e;cases e;exact A2
    ·exact(A9 z).trans (sG _ _ (bF b C z e))
   refine⟨o,YB,?_⟩;have RJ:=tG.1 _ _ hRG;have YC:An (Kv (upd HG D (.dT d))) MX zs:=CY.imp λ_ _ z=>Kv.up tG.2 z
   have cG:∀c l,HF c=some (.dK l)->(upd HG D (.dT d)) c=some (.dK l):=λc l e=>by
    rw[A9 (Bf (sG _ _ e) YB (by intro z;cases z))];exact sG _ _ e
   have hR3:Y R=none:=by
    cases hx:Y R with
    |none=>rfl
    |some C=>
     by_cases z:R=D
     ·rw[z,dF]at hR;cases hR
     ·rw[bF R C z hx]at hR;cases hR
   generalize upd HG D (.dT d)=N at tG xA RJ YC cG⊢;clear tG hRG CY sG YB;have YD:=EG.keep (LT.of xA) (λc l e=>xA _ _ e);have MY:=YD.ok
   have hst4:Ge U S [] MX 1 (Ao N d):=by
    have e:Ao N d=Ao HF d:=by
     funext k f;exact propext (Ao.keep EH cG)
    rw[e];exact hst0
   have hcm4:∀k f p,Ao N d k f->some p∈Bg U k.1 S k.2 f->Ce N wv p k f:=λk f p z1 X=>((SW k f p ((Ao.keep rN (λc l e=>xA _ _ (wY _ _ e))).mp z1) X).up (LT.of s3)).up (LT.of xA);have eD4:=xA _ _ RI;have eW4:=xA _ _ (s3 _ _ eW);have eT4:=xA _ _ e3;have hwo4:=xP.up ((LT.of s3).trans (LT.of xA)) (dr _)
   have hl4:Ch N d<=24000:=by
    have:=N0 MY;omega
   have hTv:∀I∈d,I.2≠ .ref T:=λI O z=>by
    obtain⟨c,l,G,M,_⟩:=hpo3 I O;rw[z]at G;cases G;rw[e3]at M;cases M
   dsimp only
   refine O4 (λσ' j=>yv λ(R:Addr) (Z:List V) (J:List (qG×Int)) (tv:pR) (g:Int) (v6:Option V)=>M7 (σ'=[some (.ref a),some (.ref D),some (.ref W),some (.ref T),some (.int g),some (.ref R),v6]) ((∀b C,b≠T->N b=some C->(∀I∈d,I.2≠ .ref b)->j b=some C)) (Ck U S j d) (j T=some (.dT tv)) ((tv.map (·.1)).Nodup) (j R=some (.lst Z)) (An (Kv j) J Z) (Ge U S tv J g (Ao j d)) ((∀k f,Ao j d k f->Ao N d k f)) (tv.length+Z.length+Ch j d<=27000))
    (λσ' j=>2*Ch j d+match σ' with
     |[_,_,_,_,_,some (.ref R),_]=>(match j R with
      |some (.lst [])=>0
      |_=>1)
     |_=>0) ⟨R,zs,MX,[],1,_,rfl,(λb C _ e _=>e),YD,eT4,List.Pairwise.nil,RJ,YC,hst4,(λ_ _ z=>z),by show 0+zs.length+_<=_;omega⟩ ?_ ?_
   ·rintro σ' j ⟨R,Z,J,tv,g,v6,rfl,kp,kD,HJ,htv,HH,mS,oW,wN,hsum⟩;have EB:=kD.ok;refine⟨_,rfl,_,.inl ⟨_,Aq.of HH,rfl⟩,?_⟩
    have mW:=kp D _ hTD.symm eD4 (λI O z=>by
     obtain⟨c,l,G,M,_⟩:=MY I O;rw[z]at G;cases G;rw[eD4]at M;cases M)
    refine Fw (λeJ=>?_) (λzO=>?_)
    ·have hrs0:0<Z.length:=by
      cases Z with
      |nil=>exact absurd eJ (by decide)
      |cons x xs=>simp
     have hRT:R≠T:=Bf HH HJ (by intro z;cases z)
     have mu0:(match j R with
      |some (.lst [])=>0
      |_=>1)=1:=by
      rw[HH];cases Z with
      |nil=>exact absurd hrs0 (by decide)
      |cons x xs=>rfl
     refine⟨_,rfl,R,rfl,.inl ⟨⟨_,Aq.of HH⟩,?_⟩⟩
     refine Cl (K:=K) (a:=R) (xs:=Z) (λi σ L=>Ld λ(zQ:pR) (v6:Option V)=>Jw (σ=[some (.ref a),some (.ref D),some (.ref W),some (.ref T),some (.int g),some (.ref R),v6]) ((∀b,b≠T->L b=j b)) (L T=some (.dT zQ)) ((zQ.map (·.1)).Nodup) ((∀I∈zQ,∃n:Int,I.2=.int n/\1<=n/\n<g+1)) ((∀k,Av zQ k=if k∈J.take i then some (.int g)else Av tv k)) (zQ.length<=tv.length+i))
      ⟨tv,_,rfl,(λ_ _=>rfl),HJ,htv,(λI O=>by obtain⟨n,G,M,e3⟩:=oW.2.1 I O;exact⟨n,G,M,by omega⟩),(λk=>by rw[List.take_zero,if_neg (by simp)]),dr _⟩ (by rintro i σ L _ ⟨_,_,_,e,_⟩;exact Aq.of ((e R hRT).trans HH)) ?_ ?_
     ·rintro i u σ L hu ⟨zQ,v6,rfl,k5,hT5,MZ,NA,EI,hl5⟩;have hi:=(cb.mp hu).1;obtain⟨k,hk0,b,u1,rfl,jB,fW⟩:=mS.get hu;have hbk:Iu L b k:=⟨u1,(k5 b (Bf jB HJ (by intro z;cases z))).trans jB,(k5 u1 (Bf fW HJ (by intro z;cases z))).trans fW⟩;refine⟨_,rfl,_,rfl,_,rfl,T,_,rfl,Xa.t hT5 hbk (Dl (by omega)),?_⟩;refine⟨Cg zQ k (.int g),_,rfl,(λx n=>(A9 n).trans (k5 x n)),A2,sr MZ,Sz (P:=λv=>∃n:Int,v=.int n/\1<=n/\n<g+1) NA ⟨g,rfl,oW.1,by omega⟩,(λk'=>?_),ea (Dp _ _ _) (by omega)⟩;rw[Js,EI,List.take_add_one,hk0];by_cases z:k'=k
      ·rw[if_pos z,if_pos (by rw[z];simp)]
      ·rw[if_neg z];have e:(k'∈J.take i++(some k).toList)↔k'∈J.take i:=by simp[z]
       by_cases y:k'∈J.take i
       ·rw[if_pos y,if_pos (e.mpr y)]
       ·rw[if_neg y,if_neg (λx=>y (e.mp x))]
     rintro σ L ⟨zQ,v65,rfl,k5,hT5,MZ,NA,EI,hl5⟩;rw[mS.1,List.take_length]at EI;have c5:∀c l,j c=some (.dK l)->L c=some (.dK l):=λc l e=>(k5 c (Bf e HJ (by intro z;cases z))).trans e;have t5:LT j L:=⟨λb xs e=>(k5 b (Bf e HJ (by intro z;cases z))).trans e,λb xs e=>(k5 b (Bf e HJ (by intro z;cases z))).trans e⟩;have YE:=kD.keep t5 c5;have sT:=YE.ok;have lp5:∀k f,Ao L d k f↔Ao j d k f:=λk f=>Ao.keep kD c5
     have elp5:Ao L d=Ao j d:=by
      funext k f;exact propext (lp5 k f)
     have hl5e:=Ea EB c5;have kp5:∀b C,b≠T->N b=some C->(∀I∈d,I.2≠ .ref b)->L b=some C:=λb C n e m=>(k5 b n).trans (kp b C n e m)
     have zR:∀b C,b≠T->N b=some C->(∀l,C≠ .dK l)->L b=some C:=λb C n e m=>kp5 b C n e λI O z=>by
      obtain⟨c,l,G,M,_⟩:=MY I O;rw[z]at G;cases G;rw[e]at M;exact m l (en M)
     have hWT:W≠T:=Aa eW hT;have t45:LT N L:=⟨λb xs e=>zR b _ (Bf e eT4 (by intro z;cases z)) e (λl z=>nomatch z),λb xs e=>zR b _ (Bf e eT4 (by intro z;cases z)) e (λl z=>nomatch z)⟩;refine⟨_,rfl,_,rfl,_,rfl,D,W,R,d,wv,Z,J,H1,U,S,rfl,(k5 D hTD.symm).trans mW,YE,zR W _ hWT eW4 (λl z=>nomatch z),hwo4.up t45 (dr _),(λk f p z1 X=>(hcm4 k f p (wN k f ((lp5 k f).mp z1)) X).up t45),(k5 R hRT).trans HH,mS.imp (λ_ _ z=>Kv.up t5.2 z),ea (N0 sT) (by omega),λB bs beta H6 hB ch6 hps6 hB6 hbs6 YF YG hbt6=>?_⟩;have hri6:Ge U S zQ beta (g+1) (Ao H6 d):=Ge.step oW EI NA (λk f=>by rw[YG,lp5]) (λk=>by rw[hbt6,elp5]);have hT6:H6 T=some (.dT zQ):=ch6 T _ hT5 hTv;refine⟨_,rfl,_,_,rfl,rfl,⟨B,bs,beta,zQ,g+1,_,rfl,(λb C n e m=>ch6 b C (kp5 b C n e m) m),hps6,hT6,MZ,hB6,hbs6,hri6,(λk f z=>wN k f ((lp5 k f).mp ((YG k f).mp z).1)),by omega⟩,?_⟩
     show 2*Ch H6 d+(match H6 B with
      |some (.lst [])=>0
      |_=>1)<2*Ch j d+(match j R with
      |some (.lst [])=>0
      |_=>1)
     rw[mu0,hB6];cases bs with
     |nil=>
      show 2*Ch H6 d+0<_;have:Ch H6 d+0<=Ch L d:=YF;omega
     |cons x xs=>
      show 2*Ch H6 d+1<_;rw[List.length_cons]at YF;omega
    ·have hrs1:Z=[]:=by
      cases Z with
      |nil=>rfl
      |cons x xs=>exact absurd rfl zO
     have YH:J=[]:=by
      have:=mS.1;rw[hrs1]at this;exact List.length_eq_zero_iff.mp this.symm
     rw[YH]at oW;refine⟨_,rfl,q T tv j (s1.free (s2.free hT)) (λb C e=>?_) HJ oW.done htv (by omega)⟩;have e4:=xA _ _ (wY _ _ (s1 _ _ e));refine kp b C (λz=>?_) e4 (λI O z=>?_)
     ·have:=s1.free (s2.free hT);rw[z,this]at e;cases e
     ·rw[qD I O b z]at e;cases e
   ·intro σ H0 Q1 Q2 z h1;obtain⟨_,e,k,t,h2⟩:=h1;exact⟨_,e,k,t,z _ _ h2⟩
  ·exact⟨_,rfl,E,λ_ _ _ z=>z,.inr ⟨a,U,S,rfl,ha,hb,rM,nW,hp,he⟩⟩
def Vl(K:W.Frag):Sp:=λd H Q _=>Zh λ(c:Addr) (v:V) (o:Option (qG×Int)) (a:pR)=>Fq (d=[.ref c,v]) (H c=some (.dT a)) (Hw H o v) (Rt a) (∀(p:Addr) (b:Hp),A8 H b->b p=some (.tup [.int (told a o).1,.int (told a o).2])->Q (.ref p) b)
theorem vx{r:q7}(F:D4 K "worth" "worth" fz ad.iX r):B3 P w K mg base (CX1 P w) 1 ad.iX r ["table","behind"] (Vl K):=by
 refine F.okN y8 (λB H Q E h=>?_) (λC A j s H B Q E u h=>?_)
 ·rcases h with⟨c,v,o,b,rfl,i,a,x,q⟩<;>rfl
 ·obtain⟨c,v,o,b,rfl,i,a,x,q⟩:=h;refine⟨_,(A3 (Az (Ai Fy (pv 1) Bj (Ag _)) (A5 (Ab (Cz (A0 A7 (A0 A7 A4))))) Ae) (A3 (Az (R3 (Qx (Kf u) (pv 1) (pv 0)) rfl) (A5 (Ab (Cz (A0 A7 (A0 (M4 (Kf u) (pv 0) (pv 1) (λ_ _=>rfl)) A4))))) Ae) (A5 (Ab (Cz (A0 A7 (A0 A7 A4))))))),?_⟩;cases o with
  |none=>
   have g:v=.bN:=a;subst g;exact⟨_,rfl,rfl,_,rfl,Cm rfl ⟨B4,λp z=>q p _ (A8.upd z) A2⟩⟩
  |some k=>
   obtain⟨p,g,n⟩:=a;subst g;refine⟨_,rfl,rfl,_,rfl,Ar rfl ?_⟩;refine⟨_,rfl,_,rfl,c,_,rfl,E5.t i (show Iu H p k from n),_,rfl,Fw (λd=>?_) (λd=>?_)⟩
   ·obtain⟨v,a⟩:=Option.isSome_iff_exists.mp d;obtain⟨m,e⟩:=x k v a;subst e
    have y:E5 H c (.ref p) (some (.int m)):=by
     rw[<- a];exact E5.t i n
    refine⟨_,rfl,_,rfl,c,_,rfl,y,B4,λl f=>q l _ (A8.upd f) ?_⟩
    have e:told b (some k)=(0,m):=by
     show Tp (Av b k)=_;rw[a];rfl
    rw[e];exact A2
   ·refine⟨B4,λl f=>q l _ (A8.upd f) ?_⟩
    have e:told b (some k)=(1,0):=by
     show Tp (Av b k)=_;cases a:Av b k with
     |none=>rfl
     |some v=>rw[a]at d;exact absurd rfl d
    rw[e];exact A2
def ij(K:W.Frag):Sp:=λj H Q _=>Xb λ(a i b:Addr) (d e:qG) (h:qH) (q w:Int) (c:Nat) (f:pR)=>Vz (j=[.ref a,.ref i,.ref b,.int w]) (w=(c:Int)) (Bc H a d h) (Dh H b e q) (H i=some (.dT f)) (Rt f) (c<d.length) (e.length=d.length) (d.length<=8) ((∀x∈d,1<=x)) (∀(p:Addr) (g:Hp),A8 H g->g p=some (.tup [.int (Ro f d e h q c).1,.int (Ro f d e h q c).2])->Q (.ref p) g)
theorem uf{X sY sS:q7}(F:D4 K "call_worth" "call_worth" Ww ad.lG X)(Y:Gk P w K mg base 1 ad.iX ["table","behind"] (Vl K) sY)(mK:Gk P w K mg base 5 ad.iV ["hall","standing","who"] (Vf K) sS):B3 P w K mg base (CX1 P w) 6 ad.lG X ["hall","table","standing","who"] (ij K):=by
 refine F.okN xq (λvs H Q E h=>?_) (λbK A O s H vs Q E L h=>?_)
 ·rcases h with⟨a,S,b,f,e,d,n,w0,c,g,rfl,rfl,ha,hb,hT,qK,hw,hl,Z,mT,q⟩<;>rfl
 ·obtain⟨a,S,b,f,e,d,n,w0,c,g,rfl,rfl,ha,hb,hT,qK,hw,hl,Z,mT,q⟩:=h;refine⟨_,(A5 (Ab (Ak (Xm K L rfl) (by rfl) T.oN boot_min (A0 (Cc (Cd (Ac mK.g (L.mono (by decide)) rfl T.FY T.FZ mK.b .nil Ap (A0 (pv 0) (A0 (pv 2) (A0 (pv 3) A4))))) _ rfl Li rfl rfl (λ_ _ _ _=>(Aj (i:=0) Lq rfl (Or.inl rfl))) (λ_ _ _ _=>Bw) (λ_ _ _ _=>(Ac Y.g (L.mono (by decide)) rfl T.yL T.yM Y.b .nil Ap (A0 (pv 1) (A0 (pv 0) A4))))) A4)))),?_⟩
  have CV:(Bg f e d n c).length<=2:=by
   unfold Bg;split<;>simp
  refine⟨_,rfl,_,rfl,_,rfl,a,b,f,e,d,n,_,c,rfl,rfl,ha,hb,hw,hl,Z,λl us H1 sQ s1 U wG=>⟨l,rfl,.inl ⟨⟨_,Aq.of U⟩,λW hW=>?_⟩⟩⟩;have hul:=wG.1;refine Bz (K:=K) (a:=l) (xs:=us) (λi m r=>m.length=i/\U0 r (λj=>told g ((Bg f e d n c).getD j none)) m/\r W=some (.lst m)/\A8 H1 r) ⟨rfl,(λj u h=>by simp at h),A2,A8.upd hW⟩ (by rintro i m r _ ⟨_,_,_,s⟩;exact Aq.of (s _ _ U)) ?_ ?_
  ·rintro i y m r hy ⟨qI,C,GZ,R⟩ Qe hQ;obtain⟨o,ho,M⟩:=wG.get hy;have hi:=(cb.mp hy).1;refine⟨_,rfl,_,rfl,S,y,o,g,rfl,(s1.trans R) _ _ hT,M.up (Ax.of R),qK,λp x B I=>?_⟩;have D:=B _ _ GZ;have tt:Ax x (upd x W (.lst (m++[.ref p]))):=Ax.lst D;refine hQ _ _ D (As (by omega)) ⟨by rw[List.length_append,List.length_singleton];omega,C.snoc ((Ax.of B).trans tt) qI (tt _ _ ?_),A2,(R.trans B).new hW⟩;have eo:(Bg f e d n c).getD i none=o:=by rw[List.getD_eq_getElem?_getD,ho];rfl
   show x p=some (.tup [.int (told g ((Bg f e d n c).getD i none)).1,.int (told g ((Bg f e d n c).getD i none)).2]);rw[eo];exact I
  rintro m x ⟨qI,C,D,B⟩;have z:m.length=(Bg f e d n c).length:=by omega
  have dH:=s1.trans B
  have jB:0<(Bg f e d n c).length:=by
   unfold Bg;simp
  refine⟨W,_,_,rfl,Aq.of D,C.rp z,by omega,W6 _ _,W9 _ _,λv hv=>?_⟩;obtain⟨p,e1,I⟩:=C _ v hv;subst e1;refine q p x dH ?_;rw[I]
  have N:told g ((Bg f e d n c).getD (Lw ((List.range (Bg f e d n c).length).map λi=>wd (told g ((Bg f e d n c).getD i none)))) none)=Ro g f e d n c:=by
   by_cases G:Lp d n=true
   ·have J:Bg f e d n c=[Fo f e d n c false,Fo f e d n c true]:=by
     unfold Bg;rw[if_pos G]
    rw[J];unfold Ro A03;rw[if_pos G]
    have HK:Lw ((List.range [Fo f e d n c false,Fo f e d n c true].length).map λi=>wd (told g ([Fo f e d n c false,Fo f e d n c true].getD i none)))=if P6 (told g (Fo f e d n c false)) (told g (Fo f e d n c true))=true then 1 else 0:=by
     rw[<- bo];unfold Lw;rw[show((List.range [Fo f e d n c false,Fo f e d n c true].length).map λi=>wd (told g ([Fo f e d n c false,Fo f e d n c true].getD i none))).length-1=0+1 from rfl,E4];rfl
    rw[HK];by_cases y:P6 (told g (Fo f e d n c false)) (told g (Fo f e d n c true))=true
    ·rw[if_pos y,if_pos y];rfl
    ·rw[if_neg y,if_neg y];rfl
   ·have J:Bg f e d n c=[Fo f e d n c false]:=by
     unfold Bg;rw[if_neg G]
    rw[J];unfold Ro;rw[if_neg G];rfl
  rw[<- N]
def iu(K:W.Frag):Sp:=λl H Q _=>o7 λ(a g b:Addr) (c d:qG) (h:qH) (q:Int) (e:pR)=>M7 (l=[.ref a,.ref g,.ref b]) (Bc H a c h) (Dh H b d q) (H g=some (.dT e)) (Rt e) (0<c.length) (d.length=c.length) (c.length<=8) ((∀x∈c,1<=x)) (∀(j:Nat) (f:Hp),A8 H f->M8 (λi=>Ro e c d h q i) c.length j->Q (.int (j:Int)) f)
theorem uq{S NB:q7}(F:D4 K "best_call" "best_call" Wz ad.lH S)(vK:Gk P w K mg base 6 ad.lG ["hall","table","standing","who"] (ij K) NB):B3 P w K mg base (CX1 P w) 7 ad.lH S ["hall","table","standing"] (iu K):=by
 refine F.okN gp (λvs H Q E h=>?_) (λbK A G s H vs Q E C h=>?_)
 ·rcases h with⟨a,O,b,c,f,d,n,g,rfl,B,Z,Y,qK,uP,hl,U,mT,q⟩<;>rfl
 ·obtain⟨a,O,b,c,f,d,n,g,rfl,B,Z,Y,qK,uP,hl,U,mT,q⟩:=h;refine⟨_,(A3 (Ed (i:=3) gp.nd rfl (Fj (by rfl) T.fK (A0 (Ak (Bs K) (by rfl) T.eK PySem.boot_len (A0 (Au (Aw K) (pv 0) A7 (λ_ _=>rfl)) A4)) A4)) _ rfl Mg rfl rfl (λ_ _ _ _=>(Aj (i:=0) Na rfl (Or.inl rfl))) (λ_ _ _ _=>Bw) (λ_ _ _ _=>(Ac vK.g (C.mono (by decide)) rfl T.VG T.VH vK.b .nil Ap (A0 (pv 1) (A0 (pv 2) (A0 (pv 3) (A0 (pv 0) A4)))))) rfl rfl) (A5 (Ab (Dr PySem.F.plainAttrs_list PySem.F.slot_list_index PySem.F.type_list_index (Yk C) (pv 3) (A0 (Ak (Xk K C rfl) (by rfl) T.yU boot_max (A0 (pv 3) A4)) A4))))),?_⟩;obtain⟨wt,gU,kB⟩:=id B;refine⟨_,rfl,a,_,_,_,rfl,rfl,.inr (Cf.of gU),rfl,wt,_,rfl,.inr (Cf.of kB),_,rfl,by omega,by rw[List.length_map];omega,λD X=>?_⟩;refine Ia (cnt:=((c.map V.int).length:Int).toNat) (λj l v=>l.length=j/\U0 v (λi=>Ro g c f d n i) l/\v D=some (.lst l)/\A8 H v) ⟨rfl,(λi u h=>by simp at h),A2,A8.upd X⟩ ?_ ?_
  ·rintro j l L hj ⟨x,p,r,o⟩ Qe hQ;rw[List.length_map]at hj;have wW:j<c.length:=by omega
   refine⟨_,rfl,_,rfl,_,rfl,_,rfl,a,O,b,c,f,d,n,_,j,g,rfl,Int.zero_add _,B.same o,Z.same o,o _ _ Y,qK,wW,hl,U,mT,λp2 M I e6=>?_⟩;have J:=I _ _ r;have tt:Ax M (upd M D (.lst (l++[.ref p2]))):=Ax.lst J;exact hQ _ _ J (As (by omega)) ⟨by rw[List.length_append,List.length_singleton];omega,p.snoc ((Ax.of I).trans tt) x (tt _ _ e6),A2,(o.trans I).new X⟩
  rintro l L ⟨x,p,r,o⟩
  have R:l.length=c.length:=by
   rw[x,List.length_map];omega
  refine⟨_,rfl,.inl ⟨rfl,_,Aq.of r⟩,_,rfl,D,_,_,rfl,Aq.of r,p.rp R,by omega,W6 _ _,W9 _ _,λvb yA=>?_⟩;obtain⟨pb,y,z⟩:=p _ vb yA;subst y;obtain⟨j,j1,j2,j3⟩:=least (Pr:=λm=>Ro g c f d n m=Ro g c f d n (Dm ((List.range c.length).map λi=>wd (Ro g c f d n i)))) _ rfl;have N:M8 (λi=>Ro g c f d n i) c.length j:=M8.of uP j1 j2 j3;refine⟨D,l,_,wd (Ro g c f d n (Dm ((List.range c.length).map λi=>wd (Ro g c f d n i)))),_,j,rfl,rfl,Aq.of r,Ws z,p.rp R,Ms _,⟨_,ky _ N.1,by rw[ah];exact decide_eq_true j2⟩,(λm e hm he=>by rw[au he,ah];exact mr (j3 m hm)),?_⟩;exact q j L o N
def i6(K:W.Frag):Sp:=λj H Q _=>Xb λ(a h b:Addr) (d e:qG) (i:qH) (q w:Int) (c:Nat) (f:pR)=>M7 (j=[.ref a,.ref h,.ref b,.int w]) (w=(c:Int)) (Bc H a d i) (Dh H b e q) (H h=some (.dT f)) (Rt f) (c<d.length) (e.length=d.length) (d.length<=8) (∀(g:Hp),A8 H g->Q (.bl (Lc f d e i q c)) g)
theorem tj{Y sY Z nJ:q7}(F:D4 K "worst_answer" "worst_answer" dk ad.lI Y)(y:Gk P w K mg base 1 ad.iX ["table","behind"] (Vl K) sY)(G:Gk P w K mg base 4 ad.fG ["hall","standing","who","lost"] (Rk K) Z)(cO:Cp K Z ["hall","standing","who","lost"] [Value.bool false])(X:Gk P w K mg base 1 ad.gT ["hall","standing"] (Ri K) nJ):B3 P w K mg base (CX1 P w) 5 ad.lI Y ["hall","table","standing","who"] (i6 K):=by
 refine F.okN gb (λvs H Q E h=>?_) (λbK A S s H vs Q E r h=>?_)
 ·rcases h with⟨a,D,b,g,f,d,n,w0,c,j,rfl,rfl,B,C,L,U,R,M,J,q⟩<;>rfl
 ·obtain⟨a,D,b,g,f,d,n,w0,c,j,rfl,rfl,B,C,L,U,R,M,J,q⟩:=h;refine⟨_,(A3 (Ad (i:=4) gb.nd rfl (Or.inl rfl) (Ac y.g (r.mono (by decide)) rfl T.yL T.yM y.b .nil Ap (A0 (pv 1) (A0 (Yu (Ac G.g (r.mono (by decide)) rfl T.rG T.nD cO (Jt) Ap (A0 (pv 0) (A0 (pv 2) (A0 (pv 3) A4))))) A4)))) (A3 (Az (D9 (Bk (Ac X.g (r.mono (by decide)) rfl T.yI T.yJ X.b .nil Ap (A0 (pv 0) (A0 (pv 2) A4))))) (A5 (Ab Fi)) Ae) (A5 (Ab (Bd (w8 r) (Ac y.g (r.mono (by decide)) rfl T.yL T.yM y.b .nil Ap (A0 (pv 1) (A0 (Yu (Ac G.g (r.mono (by decide)) rfl T.rG T.nD G.b .nil Ap (A0 (pv 0) (A0 (pv 2) (A0 (pv 3) (A0 Fi A4)))))) A4))) (pv 4) (Ag _)))))),?_⟩;refine⟨_,rfl,(λv x=>Hw x (Fo g f d n c false) v/\A8 H x),⟨_,rfl,_,rfl,_,rfl,a,b,g,f,d,n,c,false,rfl,B,C,R,M,J,(λz=>nomatch z),(λm o i=>⟨by unfold Fo;rw[if_pos m];rfl,i⟩),λm p o i I=>⟨by unfold Fo;rw[if_neg m];exact⟨p,rfl,I⟩,i⟩⟩,?_⟩;rintro v H1 ⟨hv,s1⟩;refine⟨D,v,_,j,rfl,s1 _ _ L,hv,U,λp1 o i e2=>?_⟩;have l:=s1.trans i;refine⟨_,rfl,_,rfl,a,b,g,f,d,n,rfl,B.same l,C.same l,_,rfl,?_⟩;have em:(!decide (d=none)&&decide (n=0))=Lp d n:=rfl;rw[em];refine Fw (λN=>?_) (λN=>?_)
  ·have u:Lp d n=false:=by simpa using N
   have e:Lc j g f d n c=false:=by
    unfold Lc;rw[u];rfl
   rw[<- e];exact q o l
  ·have u:Lp d n=true:=by simpa using N
   have MH:O8 d n true:=λ_=>by
    unfold Lp at u;simp only[Bool.and_eq_true,Bool.not_eq_true',decide_eq_false_iff_not,decide_eq_true_eq]at u;exact u
   refine⟨_,rfl,(λv x=>Hw x (Fo g f d n c true) v/\A8 o x),⟨_,rfl,_,rfl,_,rfl,a,b,g,f,d,n,c,true,rfl,B.same l,C.same l,R,M,J,MH,(λm o i=>⟨by unfold Fo;rw[if_pos m];rfl,i⟩),λm p o i I=>⟨by unfold Fo;rw[if_neg m];exact⟨p,rfl,I⟩,i⟩⟩,?_⟩;rintro v3 H3 ⟨O,s3⟩;refine⟨D,v3,_,j,rfl,s3 _ _ (l _ _ L),O,U,λp4 H4 s4 e4=>?_⟩;have xA:=s3.trans s4;refine⟨_,rfl,wd (told j (Fo g f d n c true)),wd (told j (Fo g f d n c false)),Ws e4,Ws (xA _ _ e2),Zq _ _,ea (Ms _) (by decide),?_⟩;rw[bo]
   have e:Lc j g f d n c=P6 (told j (Fo g f d n c false)) (told j (Fo g f d n c true)):=by
    unfold Lc;rw[u];rfl
   rw[<- e];exact q H4 (l.trans xA)
def je(K:W.Frag):Sp:=λd H Q _=>Zh λ(D:Addr) (c:List V) (b:List (Int×Int)) (t:Int)=>Im (d=[.ref D,.int t]) (H D=some (.lst c)) (An (Gq H) b c) ((∀r∈b,WF r.1 r.2)) (((∀r∈b,t%r.1≠r.2)->∀a,A8 H a->Q .bN a)) (∀(i:Nat) (r:Int×Int) (a:Hp),b[i]?=some r->t%r.1=r.2->A8 H a->Q (.int (i:Nat)) a)
theorem vy{I:q7}(F:D4 K "heard" "heard" g7 ad.lJ I):B3 P w K mg base (CX1 P w) 1 ad.lJ I ["wheel","turn"] (je K):=by
 refine F.okN V9 (λvs H Q E h=>?_) (λbK A q s H vs Q E J h=>?_)
 ·rcases h with⟨D,R,N,t,rfl,n,all,c,L,M⟩<;>rfl
 ·obtain⟨D,R,N,t,rfl,n,all,c,L,M⟩:=h;refine⟨_,(A3 (C1 ml rfl (Sv (by rfl) T.mC (A0 (pv 0) A4)) (Dz K (n:=2) rfl (Ba (Aj (i:=2) V9.nd rfl (Or.inl rfl)) (Ba (Aj (i:=3) V9.nd rfl (Or.inl rfl)) Df))) (A5 (Az (Ai C7 (Al C0 (pv 1) (Au (Aw K) (pv 3) A7 (λ_ _=>rfl))) (Au (Aw K) (pv 3) A7 (λ_ _=>rfl)) (Ag _)) (A5 (Ab (pv 2))) Ae))) (A5 (Ab Bj))),?_⟩;refine⟨_,rfl,false,D,rfl,⟨_,Aq.of n⟩,?_⟩
  refine Y3 (K:=K) (b:=false) (c:=D) (xs:=R) (λi f C=>Ld λ(x B:Option V)=>Il (f=[some (.ref D),some (.int t),x,B]) (A8 H C) (∀(j:Nat) (r:Int×Int),j<i->N[j]?=some r->t%r.1≠r.2))
   ⟨none,none,rfl,A8.refl H,λj r b=>absurd b (nU j)⟩ (by rintro i f C _ ⟨_,_,_,s,_⟩;exact Aq.of (s _ _ n)) ?_ ?_
  ·rintro i y T f a Y ⟨x,B,rfl,v,p⟩ U;obtain⟨r,l,u,rfl,X⟩:=all.get Y;obtain⟨p1,p2,a1,a2⟩:=c r (cI l);have O:A8 a (upd a T (.tup [V.int (i:Nat),V.ref u])):=A8.upd U;have d:=v.trans O;refine⟨T,_,rfl,Cf.of A2,rfl,_,_,rfl,_,_,rfl,rfl,?_⟩;generalize upd a T (.tup [V.int (i:Nat),V.ref u])=S at O d⊢;have G:=Cf.of (K:=K) (d _ _ X);refine⟨_,rfl,_,rfl,u,_,_,_,rfl,rfl,.inr G,rfl,_,_,rfl,rfl,(by omega),_,rfl,u,_,_,_,rfl,rfl,.inr G,rfl,rfl,_,rfl,?_⟩;rw[qy];refine Fw (λm=>⟨_,rfl,M i r S l (by simpa using m) d⟩) (λm=>?_);refine⟨_,_,rfl,d,λj Z b g=>?_⟩;rcases i3 j i with z|z
   ·exact p j Z z g
   ·have e:j=i:=by omega
    subst e;rw[l]at g;cases g;simpa using m
  ·rintro f a ⟨x,B,rfl,v,p⟩;refine L (λr J=>?_) a v;obtain⟨j,b⟩:=List.getElem?_of_mem J;have o:=(cb.mp b).1;exact p j r (by rw[all.1];exact o) b
def iw(K:W.Frag):Sp:=λb H Q _=>∃(x:Str),Il (b=[.str x]) (x.length<=100000) (∀a,A8 H a->Q (.bl (Gx x)) a)
theorem ur{u:q7}(F:D4 K "is_number" "is_number" X0 ad.lK u):B3 P w K mg base (CX1 P w) 1 ad.lK u ["word"] (iw K):=by
 refine F.okN xu (λO H Q E h=>?_) (λS A o s H O Q E X h=>?_)
 ·rcases h with⟨x,rfl,y,q⟩<;>rfl
 ·obtain⟨x,rfl,y,q⟩:=h;refine⟨_,(A3 (Az (D9 (Bk (Ak (Jz rfl) (by rfl) T.yS boot_all (A0 (Cc (cr (pv 0)) _ rfl Mh rfl rfl (λ_ _ _ _=>(Aj (i:=0) Nb rfl (Or.inl rfl))) (λ_ _ _ _=>Bw) (λ_ _ _ _=>(Bd Yp (pv 0) (C5 (v:=.str "0123456789") (by rfl) T.wR.choose_spec ⟨_,rfl⟩) rfl))) A4)))) (A5 (Ab Fi)) Ae) (A3 (Az (PW.pt (Da (Ai Fh (Ak K1 (by rfl) T.eK PySem.boot_len (A0 (pv 0) A4)) A7 (Ag _)) (Ee (Ai Jh (Ak K1 (by rfl) T.eK PySem.boot_len (A0 (pv 0) A4)) (C5 (v:=.int 100) (by rfl) T.nH.choose_spec ⟨_,rfl⟩) (Ag _))))) (A5 (Ab Fi)) Ae) (A5 (Ab (wc (Bd C7 (pv 0) Ah (Ag _)) (Hb (Bd L6 (Au bf (pv 0) A7 (λ_ _=>rfl)) Ah (Ag _)))))))),?_⟩;have p:x.cps.toList.length=x.length:=by simp[Str.length]
  refine⟨_,rfl,x,rfl,λD v=>?_⟩;refine Zs (λi l r=>l=((x.cps.toList.take i).map Ua).map V.bl/\r D=some (.lst l)/\A8 H r) ⟨rfl,A2,A8.upd v⟩ ?_ ?_
  ·rintro i c l f j ⟨rfl,g,d⟩ R L;have U:=(cb.mp j).1;refine⟨_,rfl,_,_,rfl,rfl,?_⟩;rw[ax];refine L _ _ g (ya (by rw[List.length_map,List.length_map,List.length_take];omega)) ⟨?_,A2,d.new v⟩;rw[Om j,List.map_append];rfl
  rintro l f ⟨rfl,g,d⟩;rw[List.take_length]at g;refine⟨D,_,rfl,Aq.of g,_,rfl,?_⟩;have b:(x.cps.toList.map Ua).all id=x.cps.toList.all Ua:=by rw[List.all_map];rfl
  rw[b];cases a:x.cps.toList.all Ua with
  |false=>
   refine Cm rfl ?_
   have e:Gx x=false:=by
    unfold Gx;rw[show(x.cps.toList.all λc=>decide (48<=c/\c<=57))=false from a];rfl
   have:=q f d;rw[e]at this;exact this
  |true=>
   refine Ar rfl ?_;have B:((x.length:Nat):Int)<2^63:=by omega
   refine⟨_,rfl,x,rfl,B,_,_,rfl,rfl,_,rfl,decide (((x.length:Nat):Int)>100),(λ_ C z=>⟨_,rfl,x,rfl,B,_,_,rfl,rfl,_,rfl,z⟩),?_⟩;refine Fw (λh=>?_) (λh=>?_)
   ·have e:Gx x=false:=by
     unfold Gx;rw[Bool.or_eq_true,decide_eq_true_iff,decide_eq_true_iff]at h;rw[decide_eq_false (show¬(1<=x.length/\x.length<=100)by omega)];simp
    have:=q f d;rw[e]at this;exact this
   ·have N:1<=x.length/\x.length<=100:=by
     rw[Bool.or_eq_true,decide_eq_true_iff,decide_eq_true_iff]at h;omega
    obtain⟨c,j,M⟩:=Wf (xs:=x.cps.toList) (λz=>by rw[z]at p;simp at p;omega);refine⟨_,rfl,rfl,decide (x=Str.ofString "0"),decide (c≠48),?_,(λ_ C z=>⟨_,rfl,x,0,c,rfl,rfl,ea y (by decide),Ek j,rfl,?_⟩),?_⟩
    ·rw[Qh];rfl
    ·have e:(!decide (V.str ⟨#[c]⟩=V.str (Str.ofString "0")))=decide (c≠48):=by
      rw[Bool.eq_iff_iff,Bool.not_eq_true',decide_eq_false_iff_not,decide_eq_true_iff];have G:Str.ofString "0"=⟨#[48]⟩:=by decide
      rw[G];constructor
      ·intro m n;exact m (by rw[n])
      ·intro m n;injection n with I;injection I with J;exact m (by simpa using J)
     rw[e];exact z
    ·have e:Gx x=(decide (x=Str.ofString "0")||decide (c≠48)):=by
      unfold Gx;rw[show(x.cps.toList.all λc=>decide (48<=c/\c<=57))=true from a,decide_eq_true N,M];simp
     have:=q f d;rw[e]at this;exact this
def ik(K:W.Frag):Sp:=λd H Q _=>Ld λ(a:Addr) (b:qG)=>Fq (d=[.ref a]) (H a=some (.lst ((b.map Bh).map V.str))) ((∀n∈b,0<=n/\n<10^100)) (b.length<=300) (∀(l:Addr) (c:Hp),H l=none->A8 H c->c l=some (.lst (b.map V.int))->Q (.ref l) c)
theorem ug{I O:q7}(F:D4 K "numbers_of" "numbers_of" Te ad.lL I)(N:Gk P w K mg base 1 ad.lK ["word"] (iw K) O):B3 P w K mg base (CX1 P w) 2 ad.lL I ["words"] (ik K):=by
 refine F.okN xr (λZ H Q E h=>?_) (λbK A C s H Z Q E X h=>?_)
 ·rcases h with⟨a,d,rfl,p,x,U,q⟩<;>rfl
 ·obtain⟨a,d,rfl,p,x,U,q⟩:=h;refine⟨_,(A3 (Az (D9 (Bk (Ak (Jz rfl) (by rfl) T.yS boot_all (A0 (Cc (Cd (pv 0)) _ rfl Lj rfl rfl (λ_ _ _ _=>(Aj (i:=0) Lr rfl (Or.inl rfl))) (λ_ _ _ _=>Bw) (λ_ _ _ _=>(Ac N.g (X.mono (by decide)) rfl T.VP T.VQ N.b .nil Ap (A0 (pv 0) A4)))) A4)))) (A5 D7) Ae) (A5 (Ab (Cc (Cd (pv 0)) _ rfl Lk rfl rfl (λ_ _ _ _=>(Aj (i:=0) Ls rfl (Or.inl rfl))) (λ_ _ _ _=>Bw) (λ_ _ _ _=>(B5 Ox (by rfl) T.rH boot_int (A0 (pv 0) A4))))))),?_⟩
  have get:∀{i:Nat}{v:V},((d.map Bh).map V.str)[i]?=some v->∃n,d[i]?=some n/\v=.str (Bh n)/\zn (Bh n) n/\i<d.length:=λ{i v} j=>by
   rw[List.getElem?_map,List.getElem?_map]at j;obtain⟨w,Y,rfl⟩:=dI.mp j;obtain⟨n,g,rfl⟩:=dI.mp Y;have M:=x n (cI g);exact⟨n,g,rfl,Cy M.1 M.2,(cb.mp g).1⟩
  refine⟨_,rfl,a,rfl,.inl ⟨⟨_,Aq.of p⟩,λD J=>?_⟩⟩;refine Bz (K:=K) (a:=a) (xs:=(d.map Bh).map V.str) (λi c f=>c=(List.replicate i true).map V.bl/\f D=some (.lst c)/\A8 H f) ⟨rfl,A2,A8.upd J⟩ (by rintro i c f _ ⟨_,_,s⟩;exact Aq.of (s _ _ p)) ?_ ?_
  ·rintro i v c G j ⟨rfl,z,l⟩ R B;obtain⟨n,g,rfl,W,S⟩:=get j;refine⟨_,rfl,Bh n,rfl,ea W.len (by decide),λy m=>?_⟩;rw[W.is];refine B _ _ (m _ _ z) (As (by rw[List.length_map,List.length_replicate];omega)) ⟨?_,A2,(l.trans m).new J⟩;rw[List.replicate_succ',List.map_append];rfl
  rintro c G ⟨rfl,z,l⟩;refine⟨D,_,rfl,Aq.of z,_,rfl,?_⟩;refine Ar (by rw[show(List.replicate ((d.map Bh).map V.str).length true).all id=true from List.all_eq_true.mpr λb x=>by rw[List.eq_of_mem_replicate x];rfl];rfl) ?_;refine⟨_,rfl,a,rfl,.inl ⟨⟨_,Aq.of (l _ _ p)⟩,λL u=>?_⟩⟩;refine Bz (K:=K) (a:=a) (xs:=(d.map Bh).map V.str) (λi c f=>c=(d.take i).map V.int/\f L=some (.lst c)/\A8 G f) ⟨rfl,A2,A8.upd u⟩ (by rintro i c f _ ⟨_,_,s⟩;exact Aq.of (s _ _ (l _ _ p))) ?_ ?_
  ·rintro i v c y j ⟨rfl,r,m⟩ R B;obtain⟨n,g,rfl,W,S⟩:=get j;refine⟨_,rfl,Bh n,n,rfl,W.val,ea W.len (by decide),B _ _ r (As (by rw[List.length_map,List.length_take];omega)) ⟨?_,A2,m.new u⟩⟩;rw[List.take_add_one,g,List.map_append];rfl
  rintro c y ⟨rfl,r,m⟩;rw[List.length_map,List.length_map,List.take_length]at r;refine q L y ?_ (l.trans m) r;cases e:H L with
  |none=>rfl
  |some o=>rw[l _ _ e]at u;cases u
def jf(K:W.Frag):Sp:=λa H Q _=>Ld λ(w:Str) (n:Int)=>a=[.str w,.int n]/\Q (.bl (Hg w n)) H
theorem vz{c:q7}(F:D4 K "takes" "takes" g8 ad.lM c):B3 P w K mg base (CX1 P w) 1 ad.lM c ["word","size"] (jf K):=by
 refine F.okN y9 (λd H Q E h=>?_) (λf A b s H d Q E g h=>?_)
 ·rcases h with⟨w,n,rfl,q⟩<;>rfl
 ·obtain⟨w,n,rfl,q⟩:=h;refine⟨_,(A3 (Az (Ai (Qu K) (pv 0) (C5 (v:=.ref bM) (by rfl) T.pM rfl) rfl) (A5 (Ab (Bd C7 (pv 1) A7 (Ag _)))) Ae) (A3 (Az (Ai (Qu K) (pv 0) (C5 (v:=.ref aQ) (by rfl) T.mR rfl) rfl) (A5 (Ab (Bd C7 (pv 1) A7 (Ag _)))) Ae) (A5 (Ab (Hk (Bd (Qu K) (pv 0) (C5 (v:=.ref aO) (by rfl) T.jW rfl) rfl) (Hb (Bd Jh (pv 1) A7 (Ag _)))))))),?_⟩;unfold Hg at q;refine⟨_,rfl,bM,_,rfl,.inr (T.fL H),rfl,rfl,_,rfl,?_⟩;refine Fw (λh=>?_) (λh=>?_)
  ·have a:Oe (.str w) [.str "best",.str "rank"]=true:=h;rw[if_pos a]at q;exact⟨_,rfl,rfl,q⟩
  have a:¬Oe (.str w) [.str "best",.str "rank"]=true:=h;rw[if_neg a]at q;refine⟨_,rfl,aQ,_,rfl,.inr (T.eM H),rfl,rfl,_,rfl,?_⟩;refine Fw (λh=>?_) (λh=>?_)
  ·have a:Oe (.str w) [.str "call",.str "lost",.str "answer",.str "join",.str "leave",.str "turn"]=true:=h;rw[if_pos a]at q;exact⟨_,rfl,rfl,q⟩
  have a:¬Oe (.str w) [.str "call",.str "lost",.str "answer",.str "join",.str "leave",.str "turn"]=true:=h;rw[if_neg a]at q;exact⟨_,rfl,aO,_,rfl,.inr (T.dJ H),rfl,rfl,_,decide (n>0),rfl,(λ_ e z=>⟨_,rfl,_,_,rfl,rfl,z⟩),q⟩
def j5(K:W.Frag):Sp:=λe H Q _=>Zh λ(x c:Str) (d:qG) (b:qH)=>Il (e=[.str x]) (E6 x c d b) (∀(p l:Addr) (a:Hp),A8 H a->a p=some (.tup [.str c,.ref l,vO b])->a l=some (.lst (d.map V.int))->Q (.ref p) a)
theorem vc{fd NF NG:q7}(F:D4 K "row_read" "row_read" fh ad.lN fd)(S:Gk P w K mg base 2 ad.lL ["words"] (ik K) NF)(vM:Gk P w K mg base 1 ad.lM ["word","size"] (jf K) NG):B3 P w K mg base (CX1 P w) 3 ad.lN fd ["row"] (j5 K):=by
 refine F.okN Kq (λvs H Q E h=>?_) (λbK A Y s H vs Q E R h=>?_)
 ·rcases h with⟨x,b,a,f,rfl,i,q⟩<;>rfl
 ·obtain⟨x,b,a,f,rfl,i,q⟩:=h;refine⟨_,(A3 (Az (D9 (Bk (Ak (Oy K) (by rfl) T.aP boot_isinstance (A0 (pv 0) (A0 (cp (by rfl) T.fH boot_str) A4))))) (A5 D7) Ae) (A3 (Ad (i:=1) Kq.nd rfl (Or.inl rfl) (Dr PySem.F.plainAttrs_str PySem.F.slot_str_split PySem.F.type_str_split N7 (pv 0) (A0 Ah A4))) (A3 (Ad (i:=2) Kq.nd rfl (Or.inl rfl) Bj) (A3 (Di (PW.pt (mz (Ai C7 (Au (Aw K) (pv 1) A7 (λ_ _=>rfl)) Ah (Ag _)) (Et (Ai (Qt R) (Ec (Ef K) (pv 1) (Es (Jj Gd A7)) (Es (Jj Gd A7))) (B6 (A0 Ah A4)) (Ag _))))) (A3 (Ad (i:=2) Kq.nd rfl (Or.inl rfl) (Au (Aw K) (Ac S.g (R.mono (by decide)) rfl T.GC T.GD S.b .nil Ap (A0 (Ec (Ef K) (pv 1) (Es (Jj Gd A7)) Hl) A4)) A7 (λ_ _=>rfl))) (A5 (Ad (i:=1) Kq.nd rfl (Or.inl rfl) (Ec (Ef K) (pv 1) Hl (Es (Jj Gd A7)))))) Ae) (A3 (Ad (i:=3) Kq.nd rfl (Or.inl rfl) (Ac S.g (R.mono (by decide)) rfl T.GC T.GD S.b .nil Ap (A0 (Ec (Ef K) (pv 1) (Es A7) Hl) A4))) (A3 (Az (D9 (Bk (Ac vM.g (R.mono (by decide)) rfl T.VR T.VS vM.b .nil Ap (A0 (Au (Aw K) (pv 1) A7 (λ_ _=>rfl)) (A0 (Ak (Bs K) (by rfl) T.eK PySem.boot_len (A0 (pv 3) A4)) A4))))) (A5 D7) Ae) (A5 (Ab (Cz (A0 (Au (Aw K) (pv 1) A7 (λ_ _=>rfl)) (A0 (pv 3) (A0 (pv 2) A4)))))))))))),?_⟩;refine⟨_,rfl,_,"str","str",true,rfl,.str x,Mz,_,rfl,Ar rfl ?_⟩;refine⟨_,rfl,rfl,x,_,rfl,rfl,by decide,i.len,λW hW=>?_⟩;rw[i.cut];have Z:A8 H (upd H W (.lst ((b::(a.map Bh++Dw f)).map V.str))):=A8.upd hW;have N:(upd H W (.lst ((b::(a.map Bh++Dw f)).map V.str))) W=some (.lst ((b::(a.map Bh++Dw f)).map V.str)):=A2;generalize upd H W (.lst ((b::(a.map Bh++Dw f)).map V.str))=B at Z N⊢
  have G:∀w∈b::(a.map Bh++Dw f),PyData.strOk w=true:=λw I=>by
   rcases eH.mp I with z|z
   ·rw[z];exact i.ok
   ·rcases fF.mp z with z|z
    ·obtain⟨n,r,rfl⟩:=fx.mp z;exact Kt (i.big n r)
    ·cases f with
     |none=>cases z
     |some c=>
      rcases eH.mp z with z|z
      ·rw[z];decide+kernel
      ·rw[List.mem_singleton.mp z];exact Kt (i.calm c rfl).1
  refine⟨_,rfl,W,_,_,.str b,rfl,rfl,.inl (Aq.of N),qi,rfl,_,rfl,(λd M=>d=f.isSome/\A8 B M),λX=>?_,λX=>?_,?_⟩
  ·have eJ:b≠Str.ofString "hall":=λz=>by simp[z]at X
   cases f with
   |none=>exact⟨rfl,A8.refl _⟩
   |some c=>exact absurd (i.calm c rfl).2 eJ
  ·have hh:b=Str.ofString "hall":=by simpa using X
   refine⟨_,rfl,_,rfl,_,rfl,_,rfl,_,rfl,W,_,rfl,Aq.of N,λg J=>?_⟩;rw[Fc];have v:A8 B (upd B g (.lst ((F0 (b::(a.map Bh++Dw f)) (some (-2)) (some (-1))).map V.str))):=A8.upd J;have o:(upd B g (.lst ((F0 (b::(a.map Bh++Dw f)) (some (-2)) (some (-1))).map V.str))) g=some (.lst ((F0 (b::(a.map Bh++Dw f)) (some (-2)) (some (-1))).map V.str)):=A2;generalize upd B g (.lst ((F0 (b::(a.map Bh++Dw f)) (some (-2)) (some (-1))).map V.str))=m at v o⊢;refine⟨B4,λcl rQ=>?_⟩;have j:A8 m (upd m cl (.lst [.str "calm"])):=A8.upd rQ;refine⟨_,_,Wr (j _ _ o) (λw I=>G w (List.mem_of_mem_drop (List.mem_of_mem_take I))),Wr (ss:=[Str.ofString "calm"]) A2 (λw I=>by rw[List.mem_singleton.mp I];decide+kernel),U9 _,_,rfl,?_,v.trans j⟩;show PyData.eqv _ _=_;rw[ag];cases f with
   |none=>
    refine mr (Xr λz=>?_);rcases eH.mp z with z|z
    ·rw[hh]at z;exact absurd z (by decide)
    ·rcases fF.mp z with z|z
     ·obtain⟨n,r,e⟩:=fx.mp z;exact Ym (i.big n r) (by decide) e
     ·cases z
   |some c=>
    refine decide_eq_true ?_;show F0 ((b::a.map Bh)++[Str.ofString "calm",Bh c]) _ _=_;exact(S4 _ _ _).1
  rintro d m ⟨rfl,v⟩;have o:=v _ _ N;refine⟨(λL M=>∃(u:Addr),Il (L=[some (.str x),some (.ref u),some (vO f),none]) (A8 H M) (M u=some (.lst ((b::a.map Bh).map V.str)))),λU=>?_,λU=>?_,?_⟩
  ·obtain⟨c,rfl⟩:∃c,f=some c:=Option.isSome_iff_exists.mp U;have DR:=S4 (b::a.map Bh) (Str.ofString "calm") (Bh c);refine⟨_,rfl,_,rfl,_,rfl,W,_,rfl,Aq.of o,λg J=>?_⟩;rw[Fc,show F0 (b::(a.map Bh++Dw (some c))) (some (-1)) none=[Bh c]from DR.2.1];have j:A8 m (upd m g (.lst ([Bh c].map V.str))):=A8.upd J;have D:(upd m g (.lst ([Bh c].map V.str))) g=some (.lst ([Bh c].map V.str)):=A2;generalize upd m g (.lst ([Bh c].map V.str))=C at j D⊢;refine⟨g,[c],rfl,D,(λn r=>by rw[List.mem_singleton.mp r];exact(i.calm c rfl).1),(by show 1<=300;decide),λl H4 hl y O=>?_⟩;refine⟨l,_,_,_,rfl,rfl,.inl (Aq.of O),rfl,?_⟩;refine⟨_,rfl,_,rfl,_,rfl,W,_,rfl,Aq.of (y _ _ (j _ _ o)),λW2 RK=>?_⟩;rw[Fc,show F0 (b::(a.map Bh++Dw (some c))) none (some (-2))=b::a.map Bh from DR.2.2];exact⟨W2,rfl,(((Z.trans v).trans j).trans y).trans (A8.upd RK),A2⟩
  ·have r:f=none:=by simpa using U
   subst r;refine⟨W,rfl,Z.trans v,?_⟩;rw[show a.map Bh++Dw none=a.map Bh from List.append_nil _]at o;exact o
  rintro L C ⟨u,rfl,j,D⟩;refine⟨_,rfl,_,rfl,u,_,rfl,Aq.of D,λg J=>?_⟩;rw[Fc,Zu];have y:A8 C (upd C g (.lst ((a.map Bh).map V.str))):=A8.upd J;have e4:(upd C g (.lst ((a.map Bh).map V.str))) g=some (.lst ((a.map Bh).map V.str)):=A2;generalize upd C g (.lst ((a.map Bh).map V.str))=H4 at y e4⊢;refine⟨g,a,rfl,e4,i.big,i.qV,λl H5 hl s5 O=>?_⟩;have e5:=s5 _ _ (y _ _ D);refine⟨_,rfl,u,_,_,.str b,rfl,rfl,.inl (Aq.of e5),qi,_,rfl,l,_,rfl,.inl (Aq.of O),b,_,rfl,_,rfl,?_⟩;refine Ar (by rw[List.length_map,i.tak];rfl) ?_;refine⟨_,rfl,u,_,_,.str b,rfl,rfl,.inl (Aq.of e5),qi,_,rfl,_,rfl,B4,λp hp=>?_⟩;exact q p l _ (((j.trans y).trans s5).trans (A8.upd hp)) A2 ((A8.upd hp) _ _ O)
def i7(K:W.Frag):Sp:=λd H Q _=>Ld λ(a:Addr) (b:qG)=>Fq (d=[.ref a]) ((H a=some (.lst (b.map V.int))\/H a=some (.tup (b.map V.int)))) ((∀n∈b,0<=n/\n<10^100)) (b.length<=300) (∀c,A8 H c->Q (.str (Jf b)) c)
theorem tm{y:q7}(F:D4 K "numbers_text" "numbers_text" Wu ad.lO y):B3 P w K mg base (CX1 P w) 1 ad.lO y ["numbers"] (i7 K):=by
 refine F.okN xn (λI H Q E h=>?_) (λJ A x s H I Q E L h=>?_)
 ·rcases h with⟨a,j,rfl,e,g,G,q⟩<;>rfl
 ·obtain⟨a,j,rfl,e,g,G,q⟩:=h;refine⟨_,(A5 (Ab (Dr PySem.F.plainAttrs_str PySem.F.slot_str_join PySem.F.type_str_join (Qq K) Ah (A0 (Cc (Cd (pv 0)) _ rfl Iy rfl rfl (λ_ _ _ _=>(Aj (i:=0) Je rfl (Or.inl rfl))) (λ_ _ _ _=>Bw) (λ_ _ _ _=>(B5 Bm (by rfl) T.fH boot_str (A0 (pv 0) A4)))) A4)))),?_⟩;rcases e with e|e
  ·refine⟨rfl,_,rfl,a,rfl,.inl ⟨⟨_,Aq.of e⟩,λD o=>?_⟩⟩;refine Bz (K:=K) (a:=a) (xs:=j.map V.int) (λi c f=>c=((j.take i).map Bh).map V.str/\f D=some (.lst c)/\A8 H f) ⟨rfl,A2,A8.upd o⟩ (by rintro i c f _ ⟨_,_,s⟩;exact Aq.of (s _ _ e)) ?_ ?_
   ·rintro i v c m p ⟨rfl,d,l⟩ B r;rw[List.getElem?_map]at p;obtain⟨n,b,rfl⟩:=dI.mp p;have C:=(cb.mp b).1;refine⟨_,rfl,n,rfl,Cq (g n (cI b)),r _ _ d (As (by rw[List.length_map,List.length_map,List.length_take];omega)) ⟨?_,A2,l.new o⟩⟩;rw[List.take_add_one,b,List.map_append,List.map_append];rfl
   rintro c m ⟨rfl,d,l⟩;rw[List.length_map,List.take_length]at d;refine⟨_,D,j.map Bh,rfl,rfl,Aq.of d,by rw[List.length_map];omega,(λz u=>?_),by decide,q m l⟩;obtain⟨n,b,rfl⟩:=fx.mp u;exact ea (Cy (g n b).1 (g n b).2).len (by decide)
  ·refine⟨rfl,_,rfl,a,rfl,.inr ⟨⟨_,Cf.of e⟩,λD o=>?_⟩⟩;refine S1 (K:=K) (a:=a) (xs:=j.map V.int) (λi c f=>c=((j.take i).map Bh).map V.str/\f D=some (.lst c)/\A8 H f) ⟨rfl,A2,A8.upd o⟩ (by rintro i c f _ ⟨_,_,s⟩;exact Cf.of (s _ _ e)) ?_ ?_
   ·rintro i v c m p ⟨rfl,d,l⟩ B r;rw[List.getElem?_map]at p;obtain⟨n,b,rfl⟩:=dI.mp p;have C:=(cb.mp b).1;refine⟨_,rfl,n,rfl,Cq (g n (cI b)),r _ _ d (As (by rw[List.length_map,List.length_map,List.length_take];omega)) ⟨?_,A2,l.new o⟩⟩;rw[List.take_add_one,b,List.map_append,List.map_append];rfl
   rintro c m ⟨rfl,d,l⟩;rw[List.length_map,List.take_length]at d;refine⟨_,D,j.map Bh,rfl,rfl,Aq.of d,by rw[List.length_map];omega,(λz u=>?_),by decide,q m l⟩;obtain⟨n,b,rfl⟩:=fx.mp u;exact ea (Cy (g n b).1 (g n b).2).len (by decide)
def im(K:W.Frag):Sp:=λb H Q _=>Ld λ(a:Addr) (r:Int×Int)=>Fq (b=[.ref a]) (H a=some (.tup [.int r.1,.int r.2])) ((0<=r.1/\r.1<10^100)) ((0<=r.2/\r.2<10^100)) (Q (.str (B1 r)) H)
theorem uh{d:q7}(F:D4 K "place_text" "place_text" f6 ad.lP d):B3 P w K mg base (CX1 P w) 1 ad.lP d ["place"] (im K):=by
 refine F.okN V6 (λg H Q E h=>?_) (λi A c s H g Q E j h=>?_)
 ·rcases h with⟨a,r,rfl,b,e,f,q⟩<;>rfl
 ·obtain⟨a,r,rfl,b,e,f,q⟩:=h;refine⟨_,(A3 (Ad (i:=1) V6.nd rfl (Or.inl rfl) (Au (Aw K) (pv 0) A7 (λ_ _=>rfl))) (A3 (Ad (i:=2) V6.nd rfl (Or.inl rfl) (Au (Aw K) (pv 0) A7 (λ_ _=>rfl))) (A5 (Ab (wb (pv 1) (pv 2)))))),?_⟩;refine⟨_,rfl,a,_,_,_,rfl,rfl,.inr (Cf.of b),rfl,?_⟩;refine⟨_,rfl,a,_,_,_,rfl,rfl,.inr (Cf.of b),rfl,?_⟩;exact⟨_,rfl,r.1,rfl,Cq e,by decide,_,rfl,r.2,rfl,Cq f,q⟩
def pp(K:W.Frag)(aA aE aF aB aC aD aG:Addr):Sp:=λc H Q _=>Ld λ(x b:Addr)=>Il (c=[.ref x]) (H x=some (.ins aD b [])) (∀a,Ct x H a->a x=some (.ins aD b (B7 .bN .bN .bN .bN))->Q .bN a)
theorem A0f{c:q7}(F:D4 K "__init__" "Desk.__init__" xj ad.rA c):B3 P w K mg base (CX1 P w) 1 ad.rA c ["self"] (pp K aA aE aF aB aC aD aG):=by
 refine F.okN A11 (λe H Q E h=>?_) (λf A b s H e Q E g h=>?_)
 ·rcases h with⟨x,a,rfl,d,q⟩<;>rfl
 ·obtain⟨x,a,rfl,d,q⟩:=h;refine⟨_,(A3 (F4 (pv 0) Bj rfl) (A3 (F4 (pv 0) Bj rfl) (A3 (F4 (pv 0) Bj rfl) (A5 (F4 (pv 0) Bj rfl))))),?_⟩;refine⟨_,rfl,x,_,a,_,rfl,d,T.aI,T.bP,(by show 0<1000;decide),?_⟩;refine⟨_,rfl,x,_,a,_,rfl,A2,T.aI,T.aJ,(by show 1<1000;decide),?_⟩;refine⟨_,rfl,x,_,a,_,rfl,A2,T.aI,T.bV,(by show 2<1000;decide),?_⟩;refine⟨_,rfl,x,_,a,_,rfl,A2,T.aI,T.bW,(by show 3<1000;decide),?_⟩;rw[Jr,Jr,Jr];exact q _ Ct.ins A2
def oz(K:W.Frag)(aA aE aF aB aC aD aG:Addr):Sp:=λh H Q E=>(yw λ(x c:Addr) (a d e b:V) (w:Str)=>Fq (h=[.ref x,.str w]) (H x=some (.ins aD c (B7 a d e b))) ((w=Str.ofString "turn"->b≠ .bN)) ((Oe (.str w) [.str "hall",.str "wheel",.str "turn"]=false->a≠ .bN)) (∀f,A8 H f->Q .bN f))\/(yw λ(x c:Addr) (a d e b:V) (w:Str)=>Fp (h=[.ref x,.str w]) (H x=some (.ins aD c (B7 a d e b))) ((w=Str.ofString "turn"/\b=.bN\/Oe (.str w) [.str "hall",.str "wheel",.str "turn"]=false/\a=.bN)) (∀g,A8 H g->E (.ref aC) none g))
theorem A06{v:q7}(F:D4 K "refuse_without_stand" "Desk.refuse_without_stand" wy ad.rB v):B3 P w K mg base (CX1 P w) 1 ad.rB v ["self","word"] (oz K aA aE aF aB aC aD aG):=by
 refine F.uN A0x (λG H Q E h=>?_) (λI A n s H G Q E J h=>?_)
 ·rcases h with⟨x,a,e,r,u,d,w,rfl,b,g,B,q⟩|⟨x,a,e,r,u,d,w,rfl,b,C,l⟩<;>rfl
 ·obtain h:=h;refine⟨_,(A3 (Az (PW.pt (Fz (Ai C7 (pv 1) Ah (Ag _)) (Et (Ai Fy (C8 (pv 0) rfl) Bj (Ag _))))) (A5 (Ds Hc rfl (by rfl) T.jX T.gL (A0 Ah A4))) Ae) (A5 (Az (PW.pt (Fz (Ai (Yr K) (pv 1) (Cz (A0 Ah (A0 Ah (A0 Ah A4)))) rfl) (Et (Ai Fy (C8 (pv 0) rfl) Bj (Ag _))))) (A5 (Ds Hc rfl (by rfl) T.jX T.gL (A0 Ah A4))) Ae))),?_⟩;rcases h with⟨x,a,e,r,u,d,w,rfl,b,g,B,q⟩|⟨x,a,e,r,u,d,w,rfl,b,C,l⟩
  ·refine⟨_,rfl,rfl,_,rfl,decide (d=.bN),(λ_ i z=>⟨_,rfl,x,_,a,_,d,rfl,b,T.aI,T.bW,rfl,rfl,_,rfl,z⟩),Ar ?_ ?_⟩
   ·rw[Bool.and_eq_false_iff,decide_eq_false_iff_not,decide_eq_false_iff_not];by_cases z:w=Str.ofString "turn"
    ·exact .inr (g z)
    ·exact .inl λy=>z (by injection y)
   refine⟨_,rfl,B4,λp m=>?_⟩;have c:A8 H (upd H p (.tup [.str "hall",.str "wheel",.str "turn"])):=A8.upd m;have f:(upd H p (.tup [.str "hall",.str "wheel",.str "turn"])) p=some (.tup [.str "hall",.str "wheel",.str "turn"]):=A2;generalize upd H p (.tup [.str "hall",.str "wheel",.str "turn"])=D at c f⊢;refine⟨p,_,rfl,.inr (Cf.of f),rfl,rfl,_,rfl,decide (e=.bN),(λ_ i z=>⟨_,rfl,x,_,a,_,e,rfl,c _ _ b,T.aI,T.bP,rfl,rfl,_,rfl,z⟩),Ar ?_ (q _ c)⟩;show(!Oe (.str w) [.str "hall",.str "wheel",.str "turn"]&&decide (e=.bN))=false;rw[Bool.and_eq_false_iff,Bool.not_eq_false',decide_eq_false_iff_not];cases z:Oe (.str w) [.str "hall",.str "wheel",.str "turn"]with
   |true=>exact .inl rfl
   |false=>exact .inr (B z)
  ·rcases C with⟨rfl,rfl⟩|⟨g,rfl⟩
   ·exact⟨_,rfl,rfl,_,rfl,true,(λ_ i z=>⟨_,rfl,x,_,a,_,_,rfl,b,T.aI,T.bW,rfl,rfl,_,rfl,z⟩),Cm (by decide) ⟨Er,λj o=>l j o⟩⟩
   refine⟨_,rfl,rfl,_,rfl,decide (d=.bN),(λ_ i z=>⟨_,rfl,x,_,a,_,d,rfl,b,T.aI,T.bW,rfl,rfl,_,rfl,z⟩),Ar ?_ ?_⟩
   ·rw[Bool.and_eq_false_iff];refine .inl (mr λz=>?_);injection z with z;subst z;exact absurd g (by decide)
   refine⟨_,rfl,B4,λp m=>?_⟩;have c:A8 H (upd H p (.tup [.str "hall",.str "wheel",.str "turn"])):=A8.upd m;have f:(upd H p (.tup [.str "hall",.str "wheel",.str "turn"])) p=some (.tup [.str "hall",.str "wheel",.str "turn"]):=A2;generalize upd H p (.tup [.str "hall",.str "wheel",.str "turn"])=D at c f⊢;refine⟨p,_,rfl,.inr (Cf.of f),rfl,rfl,_,rfl,true,(λ_ i z=>⟨_,rfl,x,_,a,_,_,rfl,c _ _ b,T.aI,T.bP,rfl,rfl,_,rfl,z⟩),Cm ?_ ⟨Er,λj o=>l j (c.trans o)⟩⟩;show(!Oe (.str w) [.str "hall",.str "wheel",.str "turn"]&&true)=true;rw[g];rfl
def j6(K:W.Frag)(aA aE aF aB aC aD aG:Addr):Sp:=λh H Q _=>yx λ(x a:Addr) (e f g w b c d:V)=>Il (h=[.ref x,b,c,d]) (H x=some (.ins aD a (B7 e f g w))) (Q .bN (upd H x (.ins aD a (B7 b c d w))))
theorem vd{c:q7}(F:D4 K "put" "Desk.put" fi ad.lQ c):B3 P w K mg base (CX1 P w) 1 ad.lQ c ["self","hall","standing","table"] (j6 K aA aE aF aB aC aD aG):=by
 refine F.okN xw (λm H Q E h=>?_) (λn A b s H m Q E o h=>?_)
 ·rcases h with⟨x,a,e,g,j,w,f,i,l,rfl,d,q⟩<;>rfl
 ·obtain⟨x,a,e,g,j,w,f,i,l,rfl,d,q⟩:=h;refine⟨_,(A3 (F4 (pv 0) (pv 1) rfl) (A3 (F4 (pv 0) (pv 2) rfl) (A5 (F4 (pv 0) (pv 3) rfl)))),?_⟩;refine⟨_,rfl,_,rfl,x,_,a,_,rfl,d,T.aI,T.bP,(by show 4<1000;decide),?_⟩;refine⟨_,rfl,_,rfl,x,_,a,_,rfl,A2,T.aI,T.aJ,(by show 4<1000;decide),?_⟩;refine⟨_,rfl,_,rfl,x,_,a,_,rfl,A2,T.aI,T.bV,(by show 4<1000;decide),?_⟩;rw[Jr,Jr];exact q
def i4(K:W.Frag)(aA aE aF aB aC aD aG:Addr):Sp:=λl H Q E=>(yx λ(x d a:Addr) (f g h w:V) (b:qG) (c:qH)=>Fq (l=[.ref x,.ref a]) (H x=some (.ins aD d (B7 f g h w))) (Bc H a b c) (Ir b c) (∀(i:pR) (e:Hp),Ct x H e->Bp aD e x d b c b 0 i w->Iv b c i->Q (.str (Mw i (b,0))) e))\/(yx λ(x d a:Addr) (f g h w:V) (b:qG) (c:qH)=>Rq (l=[.ref x,.ref a]) (H x=some (.ins aD d (B7 f g h w))) (Bc H a b c) ((∀w∈b,intBits w<=256)) (intBits (qv c)<=256) (b.length<=8) (3000<Bn (qv c) b) (∀j,A8 H j->E (.ref aB) none j))
theorem sx{fd NH NI tH:q7}(F:D4 K "new_hall" "Desk.new_hall" dh ad.lR fd)(vN:Gk P w K mg base 7 ad.lF ["hall"] (jd K aA aE aF aB aC aD aG) NH)(vP:Gk P w K mg base 1 ad.lQ ["self","hall","standing","table"] (j6 K aA aE aF aB aC aD aG) NI)(mM:Gk P w K mg base 1 ad.iT ["hall"] (Vi K) tH):B3 P w K mg base (CX1 P w) 8 ad.lR fd ["self","hall"] (i4 K aA aE aF aB aC aD aG):=by
 refine F.uN g9 (λvs H Q E h=>?_) (λbK A Z s H vs Q E p h=>?_)
 ·rcases h with⟨x,d,a,J,L,N,w,e,f,rfl,y,j,l,q⟩|⟨x,d,a,J,L,N,w,e,f,rfl,y,j,jB,fW,h8,hp,he⟩<;>rfl
 ·obtain h:=h;refine⟨_,(A3 (Ad (i:=2) g9.nd rfl (Or.inl rfl) (Eb vN.g (p.mono (by decide)) rfl T.VE T.VF vN.b .nil Ji (A0 (pv 1) A4))) (A3 (Cs (M5 (pv 0) T.aI T.WJ vP.g (p.mono (by decide)) vP.b .nil Ap (A0 (pv 1) (A0 (Ac mM.g (p.mono (by decide)) rfl T.FU T.FV mM.b .nil Ap (A0 (pv 1) A4)) (A0 (pv 2) A4))))) (A3 (Az (R3 (Qx (Kf p) (C8 (pv 0) rfl) (pv 2)) rfl) (A5 (Ab (Al Cj Ah (B5 Bm (by rfl) T.fH boot_str (A0 (M4 (Kf p) (pv 2) (C8 (pv 0) rfl) (λ_ _=>rfl)) A4))))) Ae) (A5 (Ab Ah))))),?_⟩;rcases h with⟨x,d,a,J,L,N,w,e,f,rfl,y,j,l,q⟩|⟨x,d,a,J,L,N,w,e,f,rfl,y,j,jB,fW,h8,hp,he⟩
  ·have U:1<=qv f/\qv f<=3001:=by
    cases f with
    |none=>exact⟨Int.le_refl _,by decide⟩
    |some c=>
     have:=l.2.1 c rfl;show 1<=c+1/\c+1<=3001;omega
   refine⟨_,rfl,E,λ_ _ _ z=>z,.inl ⟨a,e,f,rfl,j,(λw Y=>(l.1 w Y).1),U.1,(λw Y=>ea (El (n:=12) (by have:=l.1 w Y;omega)) (by decide)),ea (El (n:=12) (by omega)) (by decide),l.2.2.2.1,l.2.2.2.2,λg O H1 hTB C eT r S X=>?_⟩⟩;have eY:Iv e f O:=⟨r,S,X⟩;refine⟨_,rfl,x,d,_,rfl,C _ _ y,rfl,_,rfl,_,rfl,a,e,f,rfl,j.same C,λb D M hb=>?_⟩;have I:=M _ _ (C _ _ y);refine⟨_,rfl,x,d,J,L,N,w,_,_,_,rfl,I,?_⟩;have o:Ct x D (upd D x (.ins aD d (B7 (.ref a) (.ref b) (.ref g) w))):=Ct.ins;have G:(upd D x (.ins aD d (B7 (.ref a) (.ref b) (.ref g) w))) x=some (.ins aD d (B7 (.ref a) (.ref b) (.ref g) w)):=A2;generalize upd D x (.ins aD d (B7 (.ref a) (.ref b) (.ref g) w))=n at o G⊢;have R:=((j.same C).same M).but o I;have zS:=hb.but o I;have i:=o.dT I (M _ _ eT);have bb:=((Ct.of (x:=x) C).trans (Ct.of M)).trans o;have hD:Bp aD n x d e f e 0 O w:=⟨a,b,g,G,R,zS,i⟩;have B:=q O n bb hD eY;unfold Mw at B;refine⟨_,rfl,x,_,d,_,.ref b,rfl,G,T.aI,T.aJ,rfl,_,rfl,g,_,rfl,E5.t i (show Iu n b (e,0)from zS),_,rfl,?_⟩;cases u:Av O (e,0)with
   |none=>
    refine Ar rfl ?_;rw[u]at B;exact B
   |some v=>
    obtain⟨m,rfl,_⟩:=r.1 _ _ u;have hm:=Wo eY u
    have dg:E5 n g (.ref b) (some (.int m)):=by
     rw[<- u];exact E5.t i (show Iu n b (e,0)from zS)
    rw[u]at B;have hl:=(Cy (n:=m) (by omega) (by omega)).len;refine Cm rfl ⟨_,rfl,_,rfl,x,_,d,_,.ref b,rfl,G,T.aI,T.aJ,rfl,g,_,rfl,dg,m,rfl,Cq ⟨by omega,by omega⟩,_,_,rfl,rfl,?_,B⟩;show(Str.ofString "broken within ").length+(Bh m).length<=sizeLine;exact ea (la hl _) (by decide)
  ·exact⟨_,rfl,E,λ_ _ _ z=>z,.inr ⟨a,e,f,rfl,j,jB,fW,h8,hp,he⟩⟩
def pi(K:W.Frag)(aA aE aF aB aC aD aG:Addr):Sp:=λi H Q _=>yw λ(x d:Addr) (e f g w:V) (v:V)=>Il (i=[.ref x,v]) (H x=some (.ins aD d (B7 e f g w))) (((v=.bN/\Q (.str (Str.ofString "none")) H)\/
 ∃(t p:Addr) (b:Int) (h:List V) (a:List (Int×Int)),v=.ref t/\H t=some (.tup [.int b,.ref p])/\H p=some (.lst h)/\An (Gq H) a h/\(0<=b/\b<10^100)/\a.length<=300/\(∀r∈a,(0<=r.1/\r.1<10^100)/\(0<=r.2/\r.2<10^100))/\
  ∀c,Ct x H c->c x=some (.ins aD d (B7 e f g (.ref p)))->Q (.str (Ik b a)) c))
theorem A0c{fd NJ:q7}(F:D4 K "new_wheel" "Desk.new_wheel" nq ad.rC fd)(vQ:Gk P w K mg base 1 ad.lP ["place"] (im K) NJ):B3 P w K mg base (CX1 P w) 2 ad.rC fd ["self","found"] (pi K aA aE aF aB aC aD aG):=by
 refine F.okN A0z (λvs H Q E h=>?_) (λbK A U s H vs Q E hr h=>?_)
 ·rcases h with⟨x,d,B,G,I,w,v,rfl,C,hk⟩<;>rfl
 ·obtain⟨x,d,B,G,I,w,v,rfl,C,hk⟩:=h;refine⟨_,(A3 (Az (Ai Fy (pv 1) Bj (Ag _)) (A5 (Ab Ah)) Ae) (A3 (F4 (pv 0) (Au (Aw K) (pv 1) A7 (λ_ _=>rfl)) rfl) (A5 (Ab (Dr PySem.F.plainAttrs_str PySem.F.slot_str_join PySem.F.type_str_join (Qq K) Ah (A0 (Al w6 (B6 (A0 (Al Cj Ah (B5 Bm (by rfl) T.fH boot_str (A0 (Au (Aw K) (pv 1) A7 (λ_ _=>rfl)) A4))) A4)) (Cc (Cd (Au (Aw K) (pv 1) A7 (λ_ _=>rfl))) _ rfl Hr rfl rfl (λ_ _ _ _=>(Aj (i:=0) Ht rfl (Or.inl rfl))) (λ_ _ _ _=>Bw) (λ_ _ _ _=>(Ac vQ.g (hr.mono (by decide)) rfl T.VV T.VW vQ.b .nil Ap (A0 (pv 0) A4))))) A4)))))),?_⟩;rcases hk with⟨rfl,q⟩|⟨t,p,b,us,a,rfl,ht,hp,all,R,hl,oS,q⟩
  ·exact⟨_,rfl,rfl,_,rfl,Cm rfl q⟩
  refine⟨_,rfl,rfl,_,rfl,Ar rfl ?_⟩;refine⟨_,rfl,t,_,_,_,rfl,rfl,.inr (Cf.of ht),rfl,_,rfl,x,_,d,_,rfl,C,T.aI,T.bW,(by show 4<1000;decide),?_⟩;rw[Uz];have n:Ct x H (upd H x (.ins aD d (B7 B G I (.ref p)))):=Ct.ins;have e1:(upd H x (.ins aD d (B7 B G I (.ref p)))) x=some (.ins aD d (B7 B G I (.ref p))):=A2;generalize upd H x (.ins aD d (B7 B G I (.ref p)))=j at n e1⊢;have Z:=n.tup C ht;have wV:=n.lst C hp;have m:An (Gq j) a us:=all.imp λr v ⟨u,e,z⟩=>⟨u,e,n.tup C z⟩;have Y:=(Cy R.1 R.2).len;refine⟨rfl,_,rfl,t,_,_,_,rfl,rfl,.inr (Cf.of Z),rfl,b,rfl,Cq R,_,_,rfl,rfl,ea (la Y _) (by decide),B4,λL hL=>?_⟩;have c:A8 j (upd j L (.lst [.str (Str.ofString "base "++Str.ofString (toString b))])):=A8.upd hL;have e2:(upd j L (.lst [.str (Str.ofString "base "++Str.ofString (toString b))])) L=some (.lst [.str (Str.ofString "base "++Str.ofString (toString b))]):=A2;generalize upd j L (.lst [.str (Str.ofString "base "++Str.ofString (toString b))])=H2 at c e2⊢;refine⟨_,rfl,t,_,_,_,rfl,rfl,.inr (Cf.of (c _ _ Z)),rfl,p,rfl,.inl ⟨⟨_,Aq.of (c _ _ wV)⟩,λD hD=>?_⟩⟩;refine Bz (K:=K) (a:=p) (xs:=us) (λi J N=>J=((a.take i).map B1).map V.str/\N D=some (.lst J)/\A8 H2 N) ⟨rfl,A2,A8.upd hD⟩ (by rintro i J N _ ⟨_,_,s⟩;exact Aq.of (s _ _ (c _ _ wV))) ?_ ?_
  ·rintro i v J l JX ⟨rfl,M,f⟩ Qe hQ;obtain⟨r,o,u,rfl,hu⟩:=m.get JX;have y:=oS r (cI o);have hi:=(cb.mp o).1;refine⟨_,rfl,u,r,rfl,f _ _ (c _ _ hu),y.1,y.2,hQ _ _ M (As (by rw[List.length_map,List.length_map,List.length_take];omega)) ⟨?_,A2,f.new hD⟩⟩;rw[List.take_add_one,o,List.map_append,List.map_append];rfl
  rintro J l ⟨rfl,M,f⟩;rw[all.1,List.take_length]at M;refine⟨L,D,_,_,rfl,rfl,f _ _ e2,M,nV (As (by simp only[List.length_append,List.length_map,List.length_singleton];omega)),λg O=>?_⟩;have X:A8 l (upd l g (.lst ([.str (Str.ofString "base "++Str.ofString (toString b))]++(a.map B1).map V.str))):=A8.upd O;have e4:(upd l g (.lst ([.str (Str.ofString "base "++Str.ofString (toString b))]++(a.map B1).map V.str))) g=some (.lst ([.str (Str.ofString "base "++Str.ofString (toString b))]++(a.map B1).map V.str)):=A2;generalize upd l g (.lst ([.str (Str.ofString "base "++Str.ofString (toString b))]++(a.map B1).map V.str))=H4 at X e4⊢;refine⟨_,g,(Str.ofString "base "++Bh b)::a.map B1,rfl,rfl,Aq.of e4,by rw[List.length_cons,List.length_map];omega,(λz S=>?_),by decide,q H4 (n.trans (Ct.of (c.trans (f.trans X)))) (X _ _ (f _ _ (c _ _ e1)))⟩;rcases eH.mp S with rfl|S
  ·rw[E2];exact ea (la Y _) (by decide)
  ·obtain⟨r,o,rfl⟩:=fx.mp S;have y:=oS r o;exact ea (Kl y.1 y.2) (by decide)
def pj(K:W.Frag)(aA aE aF aB aC aD aG:Addr):Sp:=λf H Q _=>o7 λ(x e:Addr) (d c:qG) (b:qH) (q:Int) (a:pR) (w:V)=>Fp (f=[.ref x]) (Bp aD H x e d b c q a w) (Iv d b a) (Q (.str (Tb a (c,q))) H)
theorem A0d{l:q7}(F:D4 K "rank_text" "Desk.rank_text" xh ad.rD l):B3 P w K mg base (CX1 P w) 1 ad.rD l ["self"] (pj K aA aE aF aB aC aD aG):=by
 refine F.okN A10 (λC H Q E h=>?_) (λG A j s H C Q E u h=>?_)
 ·rcases h with⟨x,d,D,g,z,n,y,w,rfl,o,i,q⟩<;>rfl
 ·obtain⟨x,d,D,g,z,n,y,w,rfl,o,i,q⟩:=h;refine⟨_,(A3 (Az (R3 (Qx (Kf u) (C8 (pv 0) rfl) (C8 (pv 0) rfl)) rfl) (A5 (Ab (B5 Bm (by rfl) T.fH boot_str (A0 (M4 (Kf u) (C8 (pv 0) rfl) (C8 (pv 0) rfl) (λ_ _=>rfl)) A4)))) Ae) (A5 (Ab Ah))),?_⟩;obtain⟨a,b,c,f,I,r,p⟩:=o;unfold Tb at q;refine⟨_,rfl,x,_,d,_,.ref b,rfl,f,T.aI,T.aJ,rfl,_,rfl,x,_,d,_,.ref c,rfl,f,T.aI,T.bV,rfl,c,_,rfl,E5.t p (show Iu H b (g,n)from r),_,rfl,?_⟩;cases e:Av y (g,n)with
  |none=>
   rw[e]at q;exact Ar rfl q
  |some v=>
   obtain⟨m,rfl,_⟩:=i.1.1 _ _ e;have J:=Wo i e
   have B:E5 H c (.ref b) (some (.int m)):=by
    rw[<- e];exact E5.t p (show Iu H b (g,n)from r)
   rw[e]at q;exact Cm rfl ⟨_,rfl,x,_,d,_,.ref c,rfl,f,T.aI,T.bV,rfl,_,rfl,x,_,d,_,.ref b,rfl,f,T.aI,T.aJ,rfl,c,_,rfl,B,m,rfl,Cq ⟨by omega,by omega⟩,q⟩
def i8(K:W.Frag)(aA aE aF aB aC aD aG:Addr):Sp:=λi H Q _=>Xb λ(x g:Addr) (d e:qG) (c:qH) (q:Int) (h:pR) (w:V) (b:Nat) (a:Bool)=>Jw (i=[.ref x,.int b,.bl a]) (Bp aD H x g d c e q h w) (b<d.length) (Ir d c) ((e,q)∈Bq d (qv c)) (O8 c q a) (∀f,Ct x H f->Bp aD f x g d c (La d e c q b a).1 (La d e c q b a).2 h w->Q (.str (Pt d e c q b a)) f)
theorem u3{fd zT tH NK gG:q7}(F:D4 K "do_turn" "Desk.do_turn" dl ad.lS fd)(vR:Gk P w K mg base 4 ad.gD ["hall","standing","who","lost"] (ig K) zT)(fV:Cp K zT ["hall","standing","who","lost"] [Value.bool false])(mM:Gk P w K mg base 1 ad.iT ["hall"] (Vi K) tH)(oY:Gk P w K mg base 1 ad.lO ["numbers"] (i7 K) NK)(fA:Gk P w K mg base 4 ad.fG ["hall","standing","who","lost"] (Rk K) gG)(cO:Cp K gG ["hall","standing","who","lost"] [Value.bool false]):B3 P w K mg base (CX1 P w) 5 ad.lS fd ["self","who","lost"] (i8 K aA aE aF aB aC aD aG):=by
 refine F.okN gc (λvs H Q E h=>?_) (λbK A outer s H vs Q E hr h=>?_)
 ·rcases h with⟨x,j,g,o,I,n,tv,w,f,d,rfl,hD,hw,U,wU,hm,q⟩<;>rfl
 ·obtain⟨x,j,g,o,I,n,tv,w,f,d,rfl,hD,hw,U,wU,hm,q⟩:=h;refine⟨_,(A3 (Ad (i:=3) gc.nd rfl (Or.inl rfl) (Ac vR.g (hr.mono (by decide)) rfl T.UU T.yK vR.b .nil Ap (A0 (C8 (pv 0) rfl) (A0 (C8 (pv 0) rfl) (A0 (pv 1) (A0 (pv 2) A4)))))) (A3 (Az (Sy (pv 3) (by intro _;rfl)) (A3 (F4 (pv 0) (Ac mM.g (hr.mono (by decide)) rfl T.FU T.FV mM.b .nil Ap (A0 (C8 (pv 0) rfl) A4)) rfl) (A5 (Ab (Al Cj Ah (Ac oY.g (hr.mono (by decide)) rfl T.GF T.GG oY.b .nil Ap (A0 (pv 3) A4)))))) Ae) (A3 (F4 (pv 0) (Ac fA.g (hr.mono (by decide)) rfl T.rG T.nD fA.b .nil Ap (A0 (C8 (pv 0) rfl) (A0 (C8 (pv 0) rfl) (A0 (pv 1) (A0 (pv 2) A4))))) rfl) (A5 (Ab (Al Cj (Al Cj (Al Cj Ah (Ac oY.g (hr.mono (by decide)) rfl T.GF T.GG oY.b .nil Ap (A0 (Au (Aw K) (C8 (pv 0) rfl) A7 (λ_ _=>rfl)) A4))) Ah) (B5 Bm (by rfl) T.fH boot_str (A0 (Au (Aw K) (C8 (pv 0) rfl) A7 (λ_ _=>rfl)) A4)))))))),?_⟩;obtain⟨a,b,v,hx,Z,hb,hT⟩:=hD;obtain⟨m1,m2,m3,m4⟩:=Pp wU;have m1:o.length=g.length:=m1;have h8:=U.2.2.2.1;have hll:(C6 g o f d).length=g.length:=(Jb _ _ _ _).trans m1;refine⟨_,rfl,x,_,j,_,.ref a,rfl,hx,T.aI,T.bP,rfl,_,rfl,x,_,j,_,.ref b,rfl,hx,T.aI,T.aJ,rfl,_,rfl,_,rfl,a,b,g,o,I,n,f,d,rfl,Z,hb,hw,m1,h8,hm,λl H1 hl C el=>?_⟩;have zJ:=U2 (L:=C6 g o f d) (i:=g.length) (by omega);rw[show(C6 g o f d).take g.length=C6 g o f d from List.take_of_length_le (by omega)]at zJ;have Y:=C _ _ hx;refine⟨_,rfl,_,.inl ⟨_,Aq.of el,rfl⟩,?_⟩;refine Fw (λJ=>?_) (λJ=>?_)
  ·have M:(0:Int)∈C6 g o f d:=Classical.byContradiction λz=>by
    rw[zJ.mpr z]at J;exact absurd J (by decide)
   refine⟨_,rfl,x,_,j,_,.ref a,rfl,Y,T.aI,T.bP,rfl,a,g,I,rfl,Z.same C,λm G D fW=>?_⟩;have B:=D _ _ Y;refine⟨_,rfl,x,_,j,_,rfl,B,T.aI,T.aJ,(by show 4<1000;decide),?_⟩;rw[Nt];have p:Ct x G (upd G x (.ins aD j (B7 (.ref a) (.ref m) (.ref v) w))):=Ct.ins;have N:(upd G x (.ins aD j (B7 (.ref a) (.ref m) (.ref v) w))) x=some (.ins aD j (B7 (.ref a) (.ref m) (.ref v) w)):=A2;generalize upd G x (.ins aD j (B7 (.ref a) (.ref m) (.ref v) w))=H3 at p N⊢;have bb:=((Ct.of (x:=x) C).trans (Ct.of D)).trans p
   have RB:∀y∈Du (C6 g o f d) g.length,0<=y/\y<10^100:=λy L=>by
    unfold Du at L;obtain⟨i,hi,e⟩:=List.mem_filterMap.mp L;have jQ:=oM.mp hi;split at e
    ·have e':(i:Int)=y:=en e;omega
    ·cases e
   have CV:=Ey (C6 g o f d) g.length;have R:=λX (s:A8 H3 X)=>q X (bb.trans (Ct.of s));unfold La Pt at R;rw[if_pos M,if_pos M]at R;refine⟨_,rfl,l,_,rfl,.inl (p.lst B (D _ _ el)),RB,by omega,λH4 S=>?_⟩;refine⟨_,_,rfl,rfl,?_,R H4 S (Bp.same S ⟨a,m,v,N,((Z.same C).same D).but p B,fW.but p B,p.dT B (D _ _ (C _ _ hT))⟩)⟩;exact ea (la (Jg RB (by omega)) _) (by decide)
  ·have M:(0:Int)∉C6 g o f d:=zJ.mp (by
    cases NL:Du (C6 g o f d) g.length with
    |nil=>rfl
    |cons a r=>exact absurd (by rw[NL];rfl) J)
   have hlb:∀y∈C6 g o f d,0<=y/\y<10^100:=λy L=>by
    have key:0<=y/\y<=3000:=by
     have h1:∀y∈o.map (λx=>x-1),0<=y/\y<=3000:=λy L=>by
      obtain⟨z,M,rfl⟩:=fx.mp L;obtain⟨i,hi,e⟩:=List.getElem_of_mem M;have:=m2 i z g[i] (by rw[<- e];exact d3 hi) (d3 (by omega));have:=U.1 g[i] (oa _);omega
     unfold C6 at L;split at L
     ·exact h1 y L
     ·rcases List.mem_or_eq_of_mem_set L with z|z
      ·exact h1 y z
      ·rw[z,List.getD_eq_getElem?_getD,List.getElem?_eq_getElem hw];have:=U.1 g[f] (oa _);show 0<=g[f]/\g[f]<=3000;omega
    omega
   have rM:0<=F7 I n d/\F7 I n d<10^100:=by
    have h3:qv I<=3001:=by
     cases I with
     |none=>decide
     |some c=>
      have:=U.2.1 c rfl;show c+1<=3001;omega
    unfold F7;split
    ·cases I with
     |none=>exact⟨Int.le_refl _,by decide⟩
     |some c=>
      have:=U.2.1 c rfl;show 0<=c/\c<_;omega
    ·simp only at m4;omega
   refine⟨_,rfl,x,_,j,_,.ref a,rfl,Y,T.aI,T.bP,rfl,_,rfl,x,_,j,_,.ref b,rfl,Y,T.aI,T.aJ,rfl,_,rfl,_,rfl,a,b,g,o,I,n,f,d,rfl,Z.same C,hb.same C,hw,m1,h8,hm,(λz=>absurd z M),λ_ m G D fW=>?_⟩;have B:=D _ _ Y;refine⟨_,rfl,x,_,j,_,rfl,B,T.aI,T.aJ,(by show 4<1000;decide),?_⟩;rw[Nt];have p:Ct x G (upd G x (.ins aD j (B7 (.ref a) (.ref m) (.ref v) w))):=Ct.ins;have N:(upd G x (.ins aD j (B7 (.ref a) (.ref m) (.ref v) w))) x=some (.ins aD j (B7 (.ref a) (.ref m) (.ref v) w)):=A2;generalize upd G x (.ins aD j (B7 (.ref a) (.ref m) (.ref v) w))=H3 at p N⊢;have bb:=((Ct.of (x:=x) C).trans (Ct.of D)).trans p;have R:=λX (s:A8 H3 X)=>q X (bb.trans (Ct.of s));unfold La Pt at R;rw[if_neg M,if_neg M]at R;have zS:=fW.but p B;obtain⟨u,YK,hb32⟩:=id zS;refine⟨_,rfl,x,_,j,_,.ref m,rfl,N,T.aI,T.aJ,rfl,m,_,_,_,rfl,rfl,.inr (Cf.of YK),rfl,u,_,rfl,.inr hb32,hlb,by omega,λH4 S=>?_⟩;have O:=Jg hlb (by omega);have hql:=(Cy rM.1 rM.2).len;refine⟨_,_,rfl,rfl,?_,_,_,rfl,rfl,?_,_,rfl,x,_,j,_,.ref m,rfl,S _ _ N,T.aI,T.aJ,rfl,m,_,_,_,rfl,rfl,.inr (Cf.of (S _ _ YK)),rfl,_,rfl,Cq rM,_,_,rfl,rfl,?_,R H4 S (Bp.same S ⟨a,m,v,N,((Z.same C).same D).but p B,zS,p.dT B (D _ _ (C _ _ hT))⟩)⟩
   ·exact ea (la O _) (by decide)
   ·rw[E2];exact ea (Nat.add_le_add_right (la O _) _) (by decide)
   ·rw[E2,E2];exact ea (Nat.add_le_add (Nat.add_le_add_right (la O _) _) hql) (by decide)
def pf(K:W.Frag)(aA aE aF aB aC aD aG:Addr):Sp:=λv H Q _=>Zh λ(x l:Addr) (m:Str) (i:Int)=>v=[.ref x,.str m,.int i]/\((∃(c f:qG) (e:qH) (q:Int) (g:pR) (w:V) (a:Nat) (b:Bool),m=Rn b/\i=(a:Int)/\Bp aD H x l c e f q g w/\a<c.length/\Ir c e/\(f,q)∈Bq c (qv e)/\O8 e q b/\
 ∀d,Ct x H d->Bp aD d x l c e (La c f e q a b).1 (La c f e q a b).2 g w->Q (.str (Pt c f e q a b)) d)\/(∃(c f:qG) (e:qH) (q:Int) (g:pR) (w:V) (a:Nat),m=Str.ofString "answer"/\i=(a:Int)/\Bp aD H x l c e f q g w/\Rt g/\a<c.length/\f.length=c.length/\c.length<=8/\∀d,A8 H d->Q (.str (if Lc g c f e q a=true then Str.ofString "lost" else Str.ofString "reached")) d)\/(∃(o s u w:V),m=Str.ofString "turn"/\H x=some (.ins aD l (B7 o s u w))/\∃(p:Addr) (n:List V) (h:List (Int×Int)),w=.ref p/\H p=some (.lst n)/\An (Gq H) h n/\h.length<=300/\(∀r∈h,WF r.1 r.2)/\((∀r∈h,i%r.1≠r.2)->∀d,A8 H d->Q (.str (Str.ofString "nobody")) d)/\∀(j:Nat) (r:Int×Int) (d:Hp),h[j]?=some r->i%r.1=r.2->A8 H d->Q (.str (Bh (j:Int))) d))
theorem A0a{L NM NN NO:q7}(F:D4 K "told_of_one" "Desk.told_of_one" xg ad.rE L)(X:Gk P w K mg base 1 ad.lJ ["wheel","turn"] (je K) NM)(Y:Gk P w K mg base 5 ad.lI ["hall","table","standing","who"] (i6 K) NN)(Z:Gk P w K mg base 5 ad.lS ["self","who","lost"] (i8 K aA aE aF aB aC aD aG) NO):B3 P w K mg base (CX1 P w) 6 ad.rE L ["self","word","number"] (pf K aA aE aF aB aC aD aG):=by
 refine F.okN oy (λvs H Q E h=>?_) (λbK A J s H vs Q E D h=>?_)
 ·rcases h with⟨x,e,hd,i,rfl,S⟩<;>rfl
 ·obtain⟨x,e,hd,i,rfl,S⟩:=h;refine⟨_,(A3 (Az (Ai C7 (pv 1) Ah (Ag _)) (A3 (Ad (i:=3) oy.nd rfl (Or.inl rfl) (Ac X.g (D.mono (by decide)) rfl T.VN T.VO X.b .nil Ap (A0 (C8 (pv 0) rfl) (A0 (pv 2) A4)))) (A5 (Ab (Nm (Ai Fy (pv 3) Bj (Ag _)) Ah (B5 Bm (by rfl) T.fH boot_str (A0 (pv 3) A4)))))) Ae) (A3 (Az (Ai C7 (pv 1) Ah (Ag _)) (A5 (Ab (Nm (Bk (Ac Y.g (D.mono (by decide)) rfl T.VL T.VM Y.b .nil Ap (A0 (C8 (pv 0) rfl) (A0 (C8 (pv 0) rfl) (A0 (C8 (pv 0) rfl) (A0 (pv 2) A4)))))) Ah Ah))) Ae) (A3 (Az (Ai C7 (pv 1) Ah (Ag _)) (A5 D7) Ae) (A3 (Az (Ai C7 (pv 1) Ah (Ag _)) (A5 D7) Ae) (A5 (Ab (M5 (pv 0) T.aI T.WL Z.g (D.mono (by decide)) Z.b .nil Ap (A0 (pv 2) (A0 (Bd C7 (pv 1) Ah (Ag _)) A4))))))))),?_⟩;rcases S with⟨z,v,o,n,y,w,d,c,rfl,rfl,u,G,aK,wU,hm,q⟩|⟨z,v,o,n,y,w,d,rfl,rfl,u,qK,G,U,h8,q⟩|⟨hv,sv,tb,w,rfl,f,p,us,rs,rfl,hp,all,U,I,g,q1⟩
  ·obtain⟨a,b,B,f,N,O,M⟩:=id u;refine⟨_,rfl,rfl,_,rfl,Ar (by cases c<;>decide) ?_⟩;refine⟨_,rfl,rfl,_,rfl,Ar (by cases c<;>decide) ?_⟩;refine⟨_,rfl,rfl,_,rfl,Ar (by cases c<;>decide) ?_⟩;refine⟨_,rfl,rfl,_,rfl,Ar (by cases c<;>decide) ?_⟩;have el:decide (V.str (Rn c)=V.str (Str.ofString "lost"))=c:=by cases c<;>decide
   have e0:[V.ref x,V.int (d:Int),V.bl (decide (V.str (Rn c)=V.str (Str.ofString "lost")))]=[V.ref x,V.int (d:Int),V.bl c]:=by rw[el]
   exact⟨_,rfl,x,e,_,rfl,f,rfl,_,rfl,_,rfl,rfl,x,e,z,v,o,n,y,w,d,c,e0,u,G,aK,wU,hm,q⟩
  ·obtain⟨a,b,B,f,N,O,M⟩:=id u;refine⟨_,rfl,rfl,_,rfl,Ar (by decide) ?_⟩;refine⟨_,rfl,rfl,_,rfl,Cm (by decide) ?_⟩;refine⟨_,rfl,x,_,e,_,.ref a,rfl,f,T.aI,T.bP,rfl,_,rfl,x,_,e,_,.ref B,rfl,f,T.aI,T.bV,rfl,_,rfl,x,_,e,_,.ref b,rfl,f,T.aI,T.aJ,rfl,_,rfl,a,B,b,z,v,o,n,_,d,y,rfl,rfl,N,O,M,qK,G,U,h8,λl m=>⟨_,rfl,?_⟩⟩;have g:=q l m;cases xP:Lc y z v o n d with
   |true=>
    rw[xP]at g;exact Cm rfl g
   |false=>
    rw[xP]at g;exact Ar rfl g
  ·refine⟨_,rfl,rfl,_,rfl,Cm (by decide) ?_⟩;refine⟨_,rfl,x,_,e,_,.ref p,rfl,f,T.aI,T.bW,rfl,_,rfl,p,us,rs,i,rfl,hp,all,I,λpH l m=>?_,λj r l R C m=>?_⟩
   ·exact⟨_,rfl,rfl,_,rfl,Cm rfl (g pH l m)⟩
   ·have:=(cb.mp R).1;exact⟨_,rfl,rfl,_,rfl,Ar rfl ⟨_,rfl,j,rfl,Cq ⟨by omega,by omega⟩,q1 j r l R C m⟩⟩
def Rh(K:W.Frag)(aA aE aF aB aC aD aG:Addr):Sp:=λD H Q E=>Xb λ(x v:Addr) (y o:Str) (f:qG) (d:qH) (A B C w:V)=>Fp (D=[.ref x,.str y]) (H x=some (.ins aD v (B7 A B C w))) (E6 y o f d) ((((o=Str.ofString "turn"/\w=.bN\/Oe (.str o) [.str "hall",.str "wheel",.str "turn"]=false/\A=.bN)/\∀u,A8 H u->E (.ref aC) none u)\/(o=Str.ofString "turn"->w≠ .bN)/\(Oe (.str o) [.str "hall",.str "wheel",.str "turn"]=false->A≠ .bN)/\
 ((o=Str.ofString "hall"/\Ir f d/\∀(h:pR) (a:Hp),Ct x H a->Bp aD a x v f d f 0 h w->Iv f d h->Q (.str (Mw h (f,0))) a)\/(∃(e m:qG) (d:qH) (q:Int) (h:pR),o=Str.ofString "best"/\Bp aD H x v e d m q h w/\Rt h/\Ir e d/\m.length=e.length/\∀(j:Nat) (a:Hp),A8 H a->M8 (λi=>Ro h e m d q i) e.length j->Q (.str (Bh (j:Int))) a)\/(∃(e m:qG) (d:qH) (q:Int) (h:pR) (g:Nat) (l:Bool),o=Rn l/\f=[(g:Int)]/\Bp aD H x v e d m q h w/\g<e.length/\Ir e d/\(m,q)∈Bq e (qv d)/\O8 d q l/\
 ∀a,Ct x H a->Bp aD a x v e d (La e m d q g l).1 (La e m d q g l).2 h w->Q (.str (Pt e m d q g l)) a)\/(∃(e m:qG) (d:qH) (q:Int) (h:pR) (g:Nat),o=Str.ofString "answer"/\f=[(g:Int)]/\Bp aD H x v e d m q h w/\Rt h/\g<e.length/\m.length=e.length/\e.length<=8/\∀a,A8 H a->Q (.str (if Lc h e m d q g=true then Str.ofString "lost" else Str.ofString "reached")) a)\/(∃(e m:qG) (d:qH) (q:Int) (h:pR),o=Str.ofString "rank"/\Bp aD H x v e d m q h w/\Iv e d h/\∀a,A8 H a->Q (.str (Tb h (m,q))) a)\/(o=Str.ofString "hall"/\0<f.length/\f.length<=8/\(∀x∈f,1<=x/\intBits x<=256)/\(∀c,d=some c->1<=c)/\intBits (qv d)<=256/\3000<Bn (qv d) f/\∀u,A8 H u->E (.ref aB) none u)\/(o=Str.ofString "wheel"/\f.length<64/\H aG=some (.tab lamQ lamP)/\((∃n∈f,n<1)->∀u,A8 H u->E (.ref aA) none u)/\
 ((∀n∈f,1<=n)->Ip f none->∀a,A8 H a->Q (.str (Str.ofString "none")) a)/\
 ((∀n∈f,1<=n)->∀(b:Int) (p:Addr) (z:List V) (s:List (Int×Int)) (a:Hp),Ip f (some b)->Ct x H a->H p=none->a x=some (.ins aD v (B7 A B C (.ref p)))->a p=some (.lst z)->An (Gq a) s z->s.map Prod.fst=f.map (E7 b)->ze (f.map (E7 b)) (s.map Prod.snd)->Q (.str (Ik b s)) a))\/(∃t:Int,o=Str.ofString "turn"/\f=[t]/\∃(p:Addr) (z:List V) (s:List (Int×Int)),w=.ref p/\H p=some (.lst z)/\An (Gq H) s z/\s.length<=300/\(∀r∈s,WF r.1 r.2)/\((∀r∈s,t%r.1≠r.2)->∀a,A8 H a->Q (.str (Str.ofString "nobody")) a)/\∀(i:Nat) (r:Int×Int) (a:Hp),s[i]?=some r->t%r.1=r.2->A8 H a->Q (.str (Bh (i:Int))) a))))
theorem ut{fd NP YL NQ zU YM NR NS YN YO:q7}(F:D4 K "told" "Desk.told" fb ad.lU fd)(vV:Gk P w K mg base 3 ad.lN ["row"] (j5 K) NP)(EJ:Gk P w K mg base 1 ad.rB ["self","word"] (oz K aA aE aF aB aC aD aG) YL)(vW:Gk P w K mg base 8 ad.lR ["self","hall"] (i4 K aA aE aF aB aC aD aG) NQ)(vX:Gk P w K mg base 1 ad.gC ["waits","calm"] (ja K) zU)(mO:Cp K zU ["waits","calm"] [Value.none])(EK:Gk P w K mg base 2 ad.rC ["self","found"] (pi K aA aE aF aB aC aD aG) YM)(vY:Gk P w K mg base 6 ad.kX ["waits"] (iq K aA aE aF aB aC aD aG) NR)(vZ:Gk P w K mg base 7 ad.lH ["hall","table","standing"] (iu K) NS)(EL:Gk P w K mg base 1 ad.rD ["self"] (pj K aA aE aF aB aC aD aG) YN)(EM:Gk P w K mg base 6 ad.rE ["self","word","number"] (pf K aA aE aF aB aC aD aG) YO):B3 P w K mg base (CX1 P w) 9 ad.lU fd ["self","row"] (Rh K aA aE aF aB aC aD aG):=by
 refine F.uN R9 (λvs H Q E h=>?_) (λbK A outer s H vs Q E G h=>?_)
 ·rcases h with⟨x,d,row,hd,C,Z,L,M,N,w,rfl,hx,fP,hk⟩<;>rfl
 ·obtain⟨x,d,row,hd,C,Z,L,M,N,w,rfl,hx,fP,hk⟩:=h;refine⟨_,(A3 (Ad (i:=2) R9.nd rfl (Or.inl rfl) (Ac vV.g (G.mono (by decide)) rfl T.VT T.VU vV.b .nil Ap (A0 (pv 1) A4))) (A3 (Ad (i:=3) R9.nd rfl (Or.inl rfl) (Au (Aw K) (pv 2) A7 (λ_ _=>rfl))) (A3 (Ad (i:=4) R9.nd rfl (Or.inl rfl) (Au (Aw K) (pv 2) A7 (λ_ _=>rfl))) (A3 (Cs (Nn (pv 0) T.aI T.M_x0 EJ.g (G.mono (by decide)) EJ.b .nil Ji (A0 (pv 3) A4))) (A3 (Az (Ai C7 (pv 3) Ah (Ag _)) (A5 (Ab (Nn (pv 0) T.aI T.WK vW.g (G.mono (by decide)) vW.b .nil Ji (A0 (Ac vX.g (G.mono (by decide)) rfl T.UP T.yH vX.b .nil Ap (A0 (pv 4) (A0 (Au (Aw K) (pv 2) A7 (λ_ _=>rfl)) A4))) A4)))) Ae) (A3 (Az (Ai C7 (pv 3) Ah (Ag _)) (A5 (Ab (M5 (pv 0) T.aI T.M_x6 EK.g (G.mono (by decide)) EK.b .nil Ap (A0 (Eb vY.g (G.mono (by decide)) rfl T.UN T.UO vY.b .nil Ji (A0 (pv 4) A4)) A4)))) Ae) (A3 (Az (Ai C7 (pv 3) Ah (Ag _)) (A5 (Ab (B5 Bm (by rfl) T.fH boot_str (A0 (Ac vZ.g (G.mono (by decide)) rfl T.VI T.VJ vZ.b .nil Ap (A0 (C8 (pv 0) rfl) (A0 (C8 (pv 0) rfl) (A0 (C8 (pv 0) rfl) A4)))) A4)))) Ae) (A3 (Az (Ai C7 (pv 3) Ah (Ag _)) (A5 (Ab (ck (pv 0) T.aI T.M_x7 EL.g (G.mono (by decide)) EL.b .nil Ap))) Ae) (A5 (Ab (M5 (pv 0) T.aI T.M_x4 EM.g (G.mono (by decide)) EM.b .nil Ap (A0 (pv 3) (A0 (Au (Aw K) (pv 4) A7 (λ_ _=>rfl)) A4))))))))))))),?_⟩;refine⟨_,rfl,row,hd,C,Z,rfl,fP,λp l H1 S ep el=>?_⟩;refine⟨_,rfl,p,_,_,_,rfl,rfl,.inr (Cf.of ep),rfl,?_⟩;refine⟨_,rfl,p,_,_,_,rfl,rfl,.inr (Cf.of ep),rfl,?_⟩;rcases hk with⟨pH,he⟩|⟨RL,CZ,hk⟩
  ·exact⟨_,rfl,x,d,_,rfl,S _ _ hx,rfl,_,rfl,E,λ_ _ _ z=>z,.inr ⟨x,d,L,M,N,w,hd,rfl,S _ _ hx,pH,λH2 s2=>he H2 (S.trans s2)⟩⟩
  refine⟨_,rfl,x,d,_,rfl,S _ _ hx,rfl,_,rfl,E,λ_ _ _ z=>z,.inl ⟨x,d,L,M,N,w,hd,rfl,S _ _ hx,RL,CZ,λH2 s2=>?_⟩⟩;have g:=S.trans s2;have B:=g _ _ hx;have NT:=s2 _ _ ep;have Y:=s2 _ _ el;clear S s2 ep el;rcases hk with⟨rfl,o,q⟩|⟨X,R,O,n,J,rfl,D,qK,o,hl,q⟩|⟨X,R,O,n,J,U,i,rfl,rfl,D,hw,o,wU,hm,q⟩|⟨X,R,O,n,J,U,rfl,rfl,D,qK,hw,hl,h8,q⟩|⟨X,R,O,n,J,rfl,D,eY,q⟩|⟨rfl,uP,hn8,tJ,wX,rM,hp,he⟩|⟨rfl,hn64,hT,he,q0,q1⟩|⟨t,rfl,rfl,p0,us,rs,rfl,hp,all,hl,hwf,q0,q1⟩
  ·refine⟨_,rfl,rfl,_,rfl,Cm (by decide) ?_⟩;refine⟨_,rfl,x,d,_,rfl,B,rfl,_,rfl,_,rfl,p,_,_,_,rfl,rfl,.inr (Cf.of NT),rfl,l,C,Z,rfl,Y,o.2.2.1,o.2.2.2.1,(λy I=>(o.1 y I).1),(λc hc=>(o.2.1 c hc).1),λa m f ha=>?_⟩;exact⟨E,λ_ _ _ z=>z,.inl ⟨x,d,a,L,M,N,w,C,Z,rfl,f _ _ B,ha,o,λJ H4 b4 D eY=>q J H4 ((Ct.of (g.trans f)).trans b4) D eY⟩⟩
  ·obtain⟨a,b,TB,NL,ha,hb,hT⟩:=Bp.same g D;refine⟨_,rfl,rfl,_,rfl,Ar (by decide) ?_⟩;refine⟨_,rfl,rfl,_,rfl,Ar (by decide) ?_⟩;refine⟨_,rfl,rfl,_,rfl,Cm (by decide) ?_⟩;refine⟨_,rfl,x,_,d,_,.ref a,rfl,NL,T.aI,T.bP,rfl,_,rfl,x,_,d,_,.ref TB,rfl,NL,T.aI,T.bV,rfl,_,rfl,x,_,d,_,.ref b,rfl,NL,T.aI,T.aJ,rfl,a,TB,b,X,R,O,n,J,rfl,ha,hb,hT,qK,o.2.2.1,hl,o.2.2.2.1,(λy I=>(o.1 y I).1),λj m f NC=>?_⟩;have hj:=NC.1;have h8:=o.2.2.2.1;exact⟨_,rfl,Cq ⟨by omega,by omega⟩,q j m (g.trans f) NC⟩
  ·refine⟨_,rfl,rfl,_,rfl,Ar (by cases i<;>decide) ?_⟩;refine⟨_,rfl,rfl,_,rfl,Ar (by cases i<;>decide) ?_⟩;refine⟨_,rfl,rfl,_,rfl,Ar (by cases i<;>decide) ?_⟩;refine⟨_,rfl,rfl,_,rfl,Ar (by cases i<;>decide) ?_⟩;exact⟨_,rfl,x,d,_,rfl,B,rfl,_,rfl,_,rfl,l,_,_,_,rfl,rfl,.inl (Aq.of Y),qi,x,d,_,_,rfl,.inl ⟨X,R,O,n,J,w,U,i,rfl,rfl,Bp.same g D,hw,o,wU,hm,λm b3 qJ=>q m ((Ct.of g).trans b3) qJ⟩⟩
  ·refine⟨_,rfl,rfl,_,rfl,Ar (by decide) ?_⟩;refine⟨_,rfl,rfl,_,rfl,Ar (by decide) ?_⟩;refine⟨_,rfl,rfl,_,rfl,Ar (by decide) ?_⟩;refine⟨_,rfl,rfl,_,rfl,Ar (by decide) ?_⟩;exact⟨_,rfl,x,d,_,rfl,B,rfl,_,rfl,_,rfl,l,_,_,_,rfl,rfl,.inl (Aq.of Y),qi,x,d,_,_,rfl,.inr (.inl ⟨X,R,O,n,J,w,U,rfl,rfl,Bp.same g D,qK,hw,hl,h8,λm f=>q m (g.trans f)⟩)⟩
  ·refine⟨_,rfl,rfl,_,rfl,Ar (by decide) ?_⟩;refine⟨_,rfl,rfl,_,rfl,Ar (by decide) ?_⟩;refine⟨_,rfl,rfl,_,rfl,Ar (by decide) ?_⟩;refine⟨_,rfl,rfl,_,rfl,Cm (by decide) ?_⟩;obtain⟨a,b,TB,NL,_⟩:=Bp.same g D;exact⟨_,rfl,x,d,_,rfl,NL,rfl,x,d,X,R,O,n,J,w,rfl,Bp.same g D,eY,q _ g⟩
  ·refine⟨_,rfl,rfl,_,rfl,Cm (by decide) ?_⟩;refine⟨_,rfl,x,d,_,rfl,B,rfl,_,rfl,_,rfl,p,_,_,_,rfl,rfl,.inr (Cf.of NT),rfl,l,C,Z,rfl,Y,uP,hn8,(λy I=>(tJ y I).1),wX,λa m f ha=>?_⟩;exact⟨E,λ_ _ _ z=>z,.inr ⟨x,d,a,L,M,N,w,C,Z,rfl,f _ _ B,ha,(λy I=>(tJ y I).2),rM,hn8,hp,λH4 s4=>he H4 ((g.trans f).trans s4)⟩⟩
  ·refine⟨_,rfl,rfl,_,rfl,Ar (by decide) ?_⟩;refine⟨_,rfl,rfl,_,rfl,Cm (by decide) ?_⟩;refine⟨_,rfl,x,d,_,rfl,B,rfl,_,rfl,E,λ_ _ _ z=>z,l,C,rfl,Y,hn64,(λy I=>Int.lt_trans (fP.big y I).2 (by decide+kernel)),g _ _ hT,λzV m f=>?_,λeJ h1 hb m f=>?_,λeJ h1 b t p' us rs m hb f ht hp et wH all mS hw=>?_⟩
   ·rcases zV with rfl|zV
    ·exact absurd fP.tak (by decide)
    ·exact he zV m (g.trans f)
   ·exact⟨x,d,L,M,N,w,_,rfl,f _ _ B,.inl ⟨rfl,q0 h1 hb m (g.trans f)⟩⟩
   ·obtain⟨b1,b2,b3,_⟩:=id hb
    have bb:b<10^100:=by
     cases C with
     |nil=>exact absurd rfl eJ
     |cons n C=>exact l7 (b2 n dm) (fP.big n dm).2
    have CU:rs.length=C.length:=by
     have:=congrArg List.length mS;rw[List.length_map,List.length_map]at this;exact this
    refine⟨x,d,L,M,N,w,_,rfl,f _ _ B,.inr ⟨t,p',b,us,rs,rfl,et,wH,all,⟨by omega,bb⟩,by omega,λr gM=>?_,λH4 b4 nQ=>?_⟩⟩
    ·obtain⟨j,hj⟩:=gP.mp gM;have g1:(C.map (E7 b))[j]?=some r.1:=by rw[<- mS,List.getElem?_map,hj];rfl
     have g2:=hw.2.1 j r.1 r.2 g1 (by rw[List.getElem?_map,hj];rfl);obtain⟨n,hn,e⟩:=fx.mp (cI g1);have g3:=(Gu b1 (b2 n hn)).1;have g4:=(fP.big n hn).2;rw[e]at g3;exact⟨⟨by omega,by omega⟩,g2.1,by omega⟩
    ·have hx3:=f _ _ B;exact q1 h1 b p' us rs H4 hb ((Ct.of (g.trans f)).trans b4) ((g).free hp) nQ (b4.lst hx3 wH) (all.imp λr v ⟨u,e,z⟩=>⟨u,e,b4.tup hx3 z⟩) mS hw
  ·refine⟨_,rfl,rfl,_,rfl,Ar (by decide) ?_⟩;refine⟨_,rfl,rfl,_,rfl,Ar (by decide) ?_⟩;refine⟨_,rfl,rfl,_,rfl,Ar (by decide) ?_⟩;refine⟨_,rfl,rfl,_,rfl,Ar (by decide) ?_⟩;exact⟨_,rfl,x,d,_,rfl,B,rfl,_,rfl,_,rfl,l,_,_,_,rfl,rfl,.inl (Aq.of Y),qi,x,d,_,_,rfl,.inr (.inr ⟨L,M,N,_,rfl,B,p0,us,rs,rfl,g _ _ hp,(all.imp λr v z=>Gq.up (Ax.of g) z),hl,hwf,(λh m f=>q0 h m (g.trans f)),λj r m a1 a2 f=>q1 j r m a1 a2 (g.trans f)⟩)⟩
def Vk(K:W.Frag):Sp:=λa H Q _=>∃(c:Int),Il (a=[.int c]) (intBits c<=2^20) (∀r:Int,0<=r->r<2^200->Q (.int r) H)
theorem vq{b:q7}(F:D4 K "_law_big" "_law_big" fw ad.iY b):B3 P w K mg base (CX1 P w) 1 ad.iY b ["cell"] (Vk K):=by
 refine F.okN y6 (λe H Q E h=>?_) (λf A a s H e Q E g h=>?_)
 ·rcases h with⟨c,rfl,d,q⟩<;>rfl
 ·obtain⟨c,rfl,d,q⟩:=h;refine⟨_,(A5 (Ab (Al C0 (Al D8 (pv 0) A7) (Al c9 A7 A7)))),?_⟩;refine⟨_,rfl,_,_,rfl,rfl,Pe d kb (by decide),_,_,rfl,rfl,⟨by decide,by decide,by decide⟩,_,_,rfl,rfl,oq,?_⟩;have h:=Bo (c*618033988749894848204586834365638117720309179805762862137) oq;exact q _ h.1 (Int.lt_trans h.2 A1z)
def ix(K:W.Frag):Sp:=λc H Q _=>Ld λ(n:Int) (wd:Bool)=>Fp (c=[.int n,.bl wd]) (0<=n) (n<2^200) (∀(p:Addr) (a:qG) (b:Hp),H p=none->A8 H b->b p=some (.lst (a.map V.int))->1<=a.length->a.length<=30->(∀x∈a,0<=x/\x<=2^200)->Q (.ref p) b)
theorem uu{fd tK:q7}(F:D4 K "_law_waits" "_law_waits" fc ad.lV fd)(mP:Gk P w K mg base 1 ad.iY ["cell"] (Vk K) tK):B3 P w K mg base (CX1 P w) 2 ad.lV fd ["number","wide"] (ix K):=by
 refine F.okN He (λvs H Q E h=>?_) (λbK A outer s H vs Q E hr h=>?_)
 ·rcases h with⟨n,wd,rfl,uP,tJ,q⟩<;>rfl
 ·obtain⟨n,wd,rfl,uP,tJ,q⟩:=h;refine⟨_,(A3 (Ad (i:=2) He.nd rfl (Or.inl rfl) (Al Co A7 (Al C0 (pv 0) A7))) (A3 (Di (PW.pt (Fz (Bk (pv 1)) (Et (Ai C7 (Al C0 (Al Cr (pv 0) A7) A7) A7 (Ag _))))) (A5 (Ad (i:=2) He.nd rfl (Or.inl rfl) (Al Co A7 (Al C0 (Al Cr (pv 0) A7) A7)))) Ae) (A3 (Ad (i:=3) He.nd rfl (Or.inl rfl) (B6 A4)) (A3 (C1 ml rfl (Fj (by rfl) T.fK (A0 (pv 2) A4)) (Aj (i:=4) He.nd rfl (Or.inl rfl)) (A3 (Ad (i:=0) He.nd rfl (Or.inl rfl) (Al Cr (pv 0) A7)) (A3 (Ad (i:=5) He.nd rfl (Or.inl rfl) (Ac mP.g (hr.mono (by decide)) rfl T.GH T.GI mP.b .nil Ap (A0 (Al Co (pv 0) (pv 4)) A4))) (A3 (Ad (i:=6) He.nd rfl (Or.inl rfl) (B6 (A0 (Al Co A7 (Al C0 (pv 0) A7)) (A0 (Al Co (Al Co (Al Cr (Al D8 A7 (pv 2)) A7) A7) (Al C0 (pv 0) (Al D8 A7 (pv 2)))) (A0 (Al Co (Al Co (Al Cr (Al D8 A7 (pv 2)) A7) A7) (Al C0 (pv 5) (Al D8 A7 (pv 2)))) (A0 (Al Co A7 (pv 5)) A4)))))) (A3 (Di (Ai Jh (pv 2) A7 (Ag _)) (A5 (Ig (Al Co (pv 2) (Al C0 (pv 0) A7)) (No (pv 6) A7 Hf))) Ae) (A5 (Cs (Dr PySem.F.plainAttrs_list PySem.F.slot_list_append PySem.F.type_list_append D1 (pv 3) (A0 (Au (Aw K) (pv 6) (Al C0 (Al Cr (pv 0) A7) A7) (λ_ _=>rfl)) A4))))))))) (A3 (Di (Ai C7 (Al C0 (pv 0) A7) A7 (Ag _)) (A5 (Ig A7 (No (pv 3) (Al C0 (Al Cr (pv 0) A7) (pv 2)) Hf))) Ae) (A5 (Ab (pv 3)))))))),?_⟩;have h7:=Bo n (show(0:Int)<7 by decide);have h23:=Bo (n/56) (show(0:Int)<23 by decide);refine⟨_,rfl,_,_,rfl,rfl,by simp,_,_,rfl,rfl,?_⟩;refine⟨_,rfl,_,rfl,decide (V.int (n/7%8)=V.int 1),(λ_ Q' z=>⟨_,rfl,_,_,rfl,rfl,⟨by decide,by decide⟩,_,_,rfl,rfl,by simp,rfl,_,rfl,z⟩),(λa f=>∃(m:Int),Fp (a=[some (.int n),some (.bl wd),some (.int m),none,none,none,none]) (f=H) (1<=m) (m<=30)),(λ_=>⟨_,rfl,_,_,rfl,rfl,⟨by decide,by decide⟩,_,_,rfl,rfl,by simp,_,_,rfl,rfl,_,rfl,rfl,by omega,by omega⟩),(λ_=>⟨_,rfl,rfl,by omega,by omega⟩),?_⟩;rintro a H ⟨m,rfl,rfl,hm1,hm2⟩;refine⟨B4,λD J=>?_⟩;have s1:A8 H (upd H D (.lst [])):=A8.upd J;have e1:(upd H D (.lst [])) D=some (.lst []):=A2;generalize upd H D (.lst [])=H1 at s1 e1⊢;refine⟨_,rfl,m,rfl,by omega,by omega,?_⟩;refine Ke (n:=m.toNat) (λi σ f=>o6 λ(c:Int) (d:qG) (O R S:Option V)=>Jw (σ=[some (.int c),some (.bl wd),some (.int m),some (.ref D),O,R,S]) (0<=c) (c<2^200) (d.length=i) ((∀x∈d,0<=x/\x<=2^200)) (f D=some (.lst (d.map V.int))) (A8 H f)) ⟨n,[],_,_,_,rfl,uP,tJ,rfl,(λ_ z=>nomatch z),e1,s1⟩ ?_ ?_
  ·rintro i σ o hi ⟨c,d,O,R,S,rfl,DL,wX,I,y,u,N⟩;have jQ:i<m.toNat:=hi;have xK:0<=c/12/\c/12<=c:=⟨by omega,by omega⟩;refine⟨_,rfl,_,_,rfl,rfl,⟨by decide,by decide⟩,?_⟩;dsimp only;generalize c/12=b at xK⊢;have HC:0<=b/\b<2^200:=by omega
   clear xK DL wX;refine⟨_,rfl,_,rfl,_,_,rfl,rfl,b+(0+(i:Int)),rfl,ea (El (n:=201) (by omega)) (by decide),λr kC oS=>?_⟩;have hm9:=Bo b (show(0:Int)<9 by decide);have hmA:=Bo b (show(0:Int)<2*m by omega);have hmB:=Bo r (show(0:Int)<2*m by omega);refine⟨_,rfl,_,_,rfl,rfl,by simp,_,_,rfl,rfl,_,rfl,_,_,rfl,rfl,Dn (by decide) (by decide),_,_,rfl,rfl,⟨by decide,by decide⟩,_,_,rfl,rfl,_,rfl,_,rfl,_,_,rfl,rfl,Dn (by decide) (by decide),_,_,rfl,rfl,(by show(0:Int)<2*m;omega),_,_,rfl,rfl,_,rfl,_,_,rfl,rfl,Dn (by decide) (by decide),_,_,rfl,rfl,⟨by decide,by decide⟩,_,_,rfl,rfl,_,rfl,_,rfl,_,_,rfl,rfl,Dn (by decide) (by decide),_,_,rfl,rfl,(by show(0:Int)<2*m;omega),_,_,rfl,rfl,_,rfl,_,_,rfl,rfl,B4,λP L=>?_⟩;dsimp only;have X:0<=1+b%9/\1+b%9<=2^200:=by omega
   have b2:0<=3*m/4+1+b%(2*m)/\3*m/4+1+b%(2*m)<=2^200:=by omega
   have b3:0<=3*m/4+1+r%(2*m)/\3*m/4+1+r%(2*m)<=2^200:=by omega
   have b4:0<=1+r/\1+r<=2^200:=by omega
   generalize 1+b%9=g at X⊢;generalize 3*m/4+1+b%(2*m)=B at b2⊢;generalize 3*m/4+1+r%(2*m)=C at b3⊢;generalize 1+r=G at b4⊢;have l:A8 o (upd o P (.lst [.int g,.int B,.int C,.int G])):=A8.upd L;have p:(upd o P (.lst [.int g,.int B,.int C,.int G])) P=some (.lst [.int g,.int B,.int C,.int G]):=A2;generalize upd o P (.lst [.int g,.int B,.int C,.int G])=U at l p⊢;have Y:P≠D:=λe=>by rw[e,u]at L;cases L
   refine⟨_,rfl,_,_,rfl,rfl,_,rfl,(λa f=>∃(g:Int),Fq (a=[some (.int b),some (.bl wd),some (.int m),some (.ref D),some (.int (0+(i:Int))),some (.int r),some (.ref P)]) (f P=some (.lst [.int g,.int B,.int C,.int G])) ((0<=g/\g<=2^200)) (f D=some (.lst (d.map V.int))) (A8 o f)),λ_=>?_,(λ_=>⟨g,rfl,p,X,l _ _ u,l⟩),?_⟩
   ·refine⟨_,rfl,_,rfl,_,_,rfl,rfl,by simp,_,_,rfl,rfl,_,rfl,P,_,_,_,rfl,rfl,p,Hj (n:=4) (k:=0) (by decide),m+b%9,rfl,A2,by omega,(A9 (Ne.symm Y)).trans (l _ _ u),l.new L⟩
   clear p l;rintro a U ⟨g,rfl,p,X,M,l⟩;obtain⟨v,hv,Z⟩:=at4 (a:=g) (b:=B) (c:=C) (d:=G) (Bo (b/9) (show(0:Int)<4 by decide)).1 (Bo (b/9) (show(0:Int)<4 by decide)).2;have bv:0<=v/\v<=2^200:=by rcases Z with z|z|z|z<;>rw[z]<;>assumption
   refine⟨_,rfl,.inl ⟨rfl,_,Aq.of M⟩,_,rfl,_,rfl,_,_,rfl,rfl,⟨by decide,by decide⟩,_,_,rfl,rfl,by simp,P,_,_,_,rfl,rfl,.inl (Aq.of p),hv,D,_,_,rfl,rfl,M,As (by rw[List.length_map];omega),?_⟩;refine⟨b,d++[v],_,_,_,rfl,HC.1,HC.2,by rw[List.length_append,I];rfl,λx iC=>?_,by rw[A2,List.map_append];rfl,(N.trans l).new J⟩;rcases fF.mp iC with z|z
   ·exact y x z
   ·rw[List.mem_singleton.mp z];exact bv
  rintro σ o ⟨c,d,O,R,S,rfl,DL,wX,I,y,u,N⟩;have hmm:=Bo (c/8) (show(0:Int)<m by omega);refine⟨_,rfl,_,_,rfl,rfl,by simp,rfl,_,rfl,(λa f=>Ld λ(d:qG) (v0:Option V)=>Fq (a=[v0,some (.bl wd),some (.int m),some (.ref D),O,R,S]) (d.length=m.toNat) ((∀x∈d,0<=x/\x<=2^200)) (f D=some (.lst (d.map V.int))) (A8 H f)),λ_=>?_,(λ_=>⟨d,_,rfl,I,y,u,N⟩),?_⟩
  ·obtain⟨j,hj⟩:∃j:Nat,c/8%m=j:=⟨(c/8%m).toNat,by omega⟩;refine⟨_,rfl,_,rfl,_,_,rfl,rfl,⟨by decide,by decide⟩,_,rfl,_,_,rfl,rfl,(by show(0:Int)<m;omega),D,_,_,j,rfl,rfl,u,?_,?_⟩
   ·rw[hj];exact Hj (by rw[List.length_map];omega)
   rw[gz];refine⟨d.set j 0,_,rfl,by rw[List.length_set];exact I,λx iC=>?_,A2,N.new J⟩;rcases List.mem_or_eq_of_mem_set iC with z|z
   ·exact y x z
   ·rw[z];decide
  rintro a U ⟨d,v0,rfl,I,y,M,l⟩;exact⟨_,rfl,q D d U J l M (by omega) (by omega) y⟩
def Ve(K:W.Frag):Sp:=λa H Q _=>∃(n:Int),Fp (a=[.str (Bh n)]) (0<=n) (n<10^100) (Q (.int n) H)
theorem uc{r:q7}(F:D4 K "_law_figures" "_law_figures" dw ad.iZ r):B3 P w K mg base (CX1 P w) 1 ad.iZ r ["word"] (Ve K):=by
 refine F.okN gj (λN H Q E h=>?_) (λZ A j s H N Q E hr h=>?_)
 ·rcases h with⟨n,rfl,u,v,q⟩<;>rfl
 ·obtain⟨n,rfl,u,v,q⟩:=h;refine⟨_,(A3 (Az (PW.pt (Da (Ai C7 (pv 0) Ah (Ag _)) (Da (Ai Jh (Ak K1 (by rfl) T.eK PySem.boot_len (A0 (pv 0) A4)) A7 (Ag _)) (Ee (PW.pt (Fz (Ai C7 (Au bf (pv 0) A7 (λ_ _=>rfl)) Ah (Ag _)) (Et (Ai L6 (pv 0) Ah (Ag _))))))))) (A5 (Ab (Jj Gd A7))) Ae) (A3 (C1 ml rfl (cr (pv 0)) (Aj (i:=1) gj.nd rfl (Or.inl rfl)) (A5 (Az (Ai Qw (pv 1) Ah rfl) (A5 (Ab (Jj Gd A7))) Ae))) (A5 (Ab (B5 Ox (by rfl) T.rH boot_int (A0 (pv 0) A4)))))),?_⟩;have W:=Cy u v;have a:=W.len
  obtain⟨i1,f,g⟩:(Bh n).cps.toList.all (λc=>decide (48<=c/\c<=57))=true/\(1<=(Bh n).length/\(Bh n).length<=100)/\(Bh n=Str.ofString "0"\/(Bh n).cps.toList.head? ≠some 48):=by
   have:=W.is;unfold Gx at this;rw[Bool.and_eq_true,Bool.and_eq_true,Bool.or_eq_true,decide_eq_true_iff,decide_eq_true_iff,decide_eq_true_iff]at this;exact this
  have b:(Bh n).cps.toList.length=(Bh n).length:=by simp[Str.length]
  obtain⟨c,y,L⟩:=Wf (xs:=(Bh n).cps.toList) (λz=>by rw[z]at b;simp at b;omega);rw[L]at g;have o:=W.sgn;have p:=W.val;generalize Bh n=x at a f g y b o p⊢;have M:((x.length:Nat):Int)<2^63:=by omega
  have I:x≠Str.ofString "":=λe=>by
   rw[e]at f;exact absurd f.1 (by decide)
  have D:(decide (V.str ⟨#[c]⟩=V.str (Str.ofString "0"))&& !decide (V.str x=V.str (Str.ofString "0")))=false:=by
   rw[Bool.and_eq_false_iff];rcases g with z|z
   ·rw[z];exact .inr (by decide)
   ·refine .inl (mr λe=>z ?_);have G:Str.ofString "0"=⟨#[48]⟩:=by decide
    rw[G]at e;injection e with e;injection e with e;have:c=48:=by simpa using e
    rw[this]
  refine⟨_,rfl,rfl,_,rfl,false,(λ_ U O=>⟨_,rfl,x,rfl,M,_,_,rfl,rfl,_,rfl,false,(λ_ X R=>⟨_,rfl,x,0,c,rfl,rfl,ea a (by decide),Ek y,rfl,_,rfl,!decide (V.str x=V.str (Str.ofString "0")),(λ_ Y S=>⟨_,rfl,rfl,_,rfl,S⟩),?_⟩),?_⟩),Ar ?_ ?_⟩
  ·rw[D];exact R
  ·rw[decide_eq_false (show¬((x.length:Nat):Int)>100 by omega)];exact O
  ·rw[decide_eq_false (λe=>I (by injection e))];rfl
  refine⟨_,rfl,x,rfl,?_⟩;refine kr (x:=x) (λi m B=>∃(l:Option V),m=[some (.str x),l]/\B=H) ⟨_,rfl,rfl⟩ ?_ ?_
  ·rintro i d m C J ⟨l,rfl,rfl⟩;refine⟨_,rfl,_,_,rfl,rfl,_,rfl,Ar ?_ ⟨_,rfl,rfl⟩⟩;rw[ax];have:=o d (cI J);unfold Ua;rw[decide_eq_true this];rfl
  rintro m C ⟨l,rfl,rfl⟩;exact⟨_,rfl,x,n,rfl,p,by omega,q⟩
def j7(K:W.Frag):Sp:=λd H Q _=>O5 λ(p l:Addr) (a:List (Int×Int))=>Jw (d=[.ref p,.ref l]) (H p=some (.lst ((a.map B1).map V.str))) (H l=some (.lst ((a.map Prod.fst).map V.int))) ((∀r∈a,1<=r.1/\r.1<10^100)) (ze (a.map Prod.fst) (a.map Prod.snd)) (a.length<=63) (∀(D:Addr) (c:List V) (b:Hp),H D=none->A8 H b->b D=some (.lst c)->An (Gq b) a c->Q (.ref D) b)
theorem ve{fd tL:q7}(F:D4 K "_law_rows" "_law_rows" fj ad.lW fd)(R:Gk P w K mg base 1 ad.iZ ["word"] (Ve K) tL):B3 P w K mg base (CX1 P w) 2 ad.lW fd ["words","periods"] (j7 K):=by
 refine F.okN Ih (λvs H Q E h=>?_) (λbK A outer s H vs Q E hr h=>?_)
 ·rcases h with⟨p,l,b,rfl,C,B,oS,hw,CU,q⟩<;>rfl
 ·obtain⟨p,l,b,rfl,C,B,oS,hw,CU,q⟩:=h;refine⟨_,(A3 (Ad (i:=2) Ih.nd rfl (Or.inl rfl) (B6 A4)) (A3 (C1 ml rfl (Qy (by rfl) T.yT (A0 (pv 0) (A0 (pv 1) A4))) (Dz K (n:=2) rfl (Ba (Aj (i:=3) Ih.nd rfl (Or.inl rfl)) (Ba (Aj (i:=4) Ih.nd rfl (Or.inl rfl)) Df))) (A3 (Ad (i:=5) Ih.nd rfl (Or.inl rfl) (Dr PySem.F.plainAttrs_str PySem.F.slot_str_split PySem.F.type_str_split N7 (pv 3) (A0 Ah A4))) (A3 (Az (PW.pt (Da (Ai L6 (Ak (Bs K) (by rfl) T.eK PySem.boot_len (A0 (pv 5) A4)) A7 (Ag _)) (Ee (Ai L6 (Ac R.g (hr.mono (by decide)) rfl T.yN T.yO R.b .nil Ap (A0 (Au (Aw K) (pv 5) A7 (λ_ _=>rfl)) A4)) (pv 4) (Ag _))))) (A5 (Ab Bj)) Ae) (A3 (Ad (i:=6) Ih.nd rfl (Or.inl rfl) (Ac R.g (hr.mono (by decide)) rfl T.yN T.yO R.b .nil Ap (A0 (Au (Aw K) (pv 5) A7 (λ_ _=>rfl)) A4))) (A3 (Az (PW.pt (Da (Ai Fh (pv 6) A7 (Ag _)) (Ee (Ai bz (pv 6) (pv 4) (Ag _))))) (A5 (Ab Bj)) Ae) (A3 (C1 ml rfl (Cd (pv 2)) (Aj (i:=7) Ih.nd rfl (Or.inl rfl)) (A5 (Az (Ai C7 (Al C0 (Al Nk (Au (Aw K) (pv 7) A7 (λ_ _=>rfl)) (pv 6)) (Ak (Xl rfl) (by rfl) T.oN boot_min (A0 (Au (Aw K) (pv 7) A7 (λ_ _=>rfl)) (A0 (pv 4) A4)))) A7 (Ag _)) (A5 (Ab Bj)) Ae))) (A5 (Cs (Dr PySem.F.plainAttrs_list PySem.F.slot_list_append PySem.F.type_list_append D1 (pv 2) (A0 (Cz (A0 (pv 4) (A0 (pv 6) A4))) A4)))))))))) (A5 (Ab (pv 2))))),?_⟩;refine⟨B4,λD y=>?_⟩;have S:A8 H (upd H D (.lst [])):=A8.upd y;have e1:(upd H D (.lst [])) D=some (.lst []):=A2;generalize upd H D (.lst [])=H1 at S e1⊢;have wV:=S _ _ C;have sQ:=S _ _ B;have npD:p≠D:=λe=>by rw[e,y]at C;cases C
  have nlD:l≠D:=λe=>by rw[e,y]at B;cases B
  refine⟨_,rfl,_,rfl,false,false,p,l,rfl,⟨_,Aq.of wV⟩,⟨_,Aq.of sQ⟩,?_⟩;refine Sd (K:=K) (b1:=false) (b2:=false) (c:=p) (d:=l) (xs:=(b.map B1).map V.str) (ys:=(b.map Prod.fst).map V.int) (by simp) (λi c g=>yv λ(f:List V) (v3 v4 v5 v6 J:Option V)=>Fp (c=[some (.ref p),some (.ref l),some (.ref D),v3,v4,v5,v6,J]) (g D=some (.lst f)) (An (Gq g) (b.take i) f) (A8 H g)) ⟨[],_,_,_,_,_,rfl,e1,An.nil,S⟩ (by rintro i c g _ ⟨_,_,_,_,_,_,_,_,_,s⟩;exact⟨Aq.of (s _ _ C),Aq.of (s _ _ B)⟩) ?_ ?_
  ·rintro i u0 y0 T c m o Y ⟨f,v3,v4,v5,v6,J,rfl,gQ,a,s2⟩ hT;rw[List.getElem?_map,List.getElem?_map]at o Y
   have hi:i<b.length:=by
    rcases i3 i b.length with z|z
    ·exact z
    ·rw[List.getElem?_eq_none z]at o;cases o
   have d:b[i]?=some (b[i]'hi):=d3 hi;generalize b[i]'hi=r at d;rw[d]at o Y;have WU:u0=.str (B1 r):=(en o).symm;have GL:y0=.int r.1:=(en Y).symm;subst WU GL;have jB:=oS r (cI d);obtain⟨f0,f1⟩:=hw.2.1 i r.1 r.2 (by rw[List.getElem?_map,d];rfl) (by rw[List.getElem?_map,d];rfl);have O:0<=r.1/\r.1<10^100:=by omega
   have X:0<=r.2/\r.2<10^100:=by omega
   have s3:A8 m (upd m T (.tup [V.str (B1 r),V.int r.1])):=A8.upd hT;have e3:(upd m T (.tup [V.str (B1 r),V.int r.1])) T=some (.tup [V.str (B1 r),V.int r.1]):=A2;generalize upd m T (.tup [V.str (B1 r),V.int r.1])=M at s3 e3⊢;refine⟨T,_,rfl,Cf.of e3,rfl,_,_,rfl,_,_,rfl,rfl,?_⟩;refine⟨_,rfl,rfl,B1 r,_,rfl,rfl,by decide,ea (Kl O X) (by decide),λW hW=>?_⟩;rw[Sx O X];have s4:A8 M (upd M W (.lst ([Bh r.1,Bh r.2].map V.str))):=A8.upd hW;have N:(upd M W (.lst ([Bh r.1,Bh r.2].map V.str))) W=some (.lst ([Bh r.1,Bh r.2].map V.str)):=A2;generalize upd M W (.lst ([Bh r.1,Bh r.2].map V.str))=H4 at s4 N⊢;have zW:=s3.trans s4;have L:=zW _ _ gQ;have Z:An (Gq H4) (b.take i) f:=a.imp λr v z=>Gq.up (Ax.of zW) z;refine⟨_,rfl,W,_,rfl,.inl (Aq.of N),rfl,_,rfl,false,(λ_ Q1 z1=>⟨_,rfl,W,_,_,_,rfl,rfl,.inl (Aq.of N),rfl,r.1,rfl,O.1,O.2,_,rfl,rfl,_,rfl,?_⟩),Ar rfl ?_⟩
   ·rw[qy,decide_eq_true rfl];exact z1
   refine⟨_,rfl,W,_,_,_,rfl,rfl,.inl (Aq.of N),rfl,r.2,rfl,X.1,X.2,?_⟩;refine⟨_,rfl,_,_,rfl,rfl,_,rfl,false,(λ_ Q1 z1=>⟨_,rfl,_,rfl,_,_,rfl,rfl,_,rfl,?_⟩),Ar ?_ ?_⟩
   ·rw[decide_eq_false (by omega)];exact z1
   ·rw[decide_eq_false (by omega)];rfl
   refine⟨_,rfl,D,rfl,.inl ⟨⟨_,Aq.of L⟩,?_⟩⟩;refine Cl (K:=K) (a:=D) (xs:=f) (λj c g=>∃(J:Option V),c=[some (.ref p),some (.ref l),some (.ref D),some (.str (B1 r)),some (.int r.1),some (.ref W),some (.int r.2),J]/\g=H4) ⟨_,rfl,rfl⟩ (by rintro j c g _ ⟨_,_,e⟩;exact(by rw[e];exact Aq.of L)) ?_ ?_
   ·rintro j u c n hu ⟨v7',rfl,rfl⟩;obtain⟨I,x,t,rfl,ht⟩:=Z.get hu
    have hji:j<i:=by
     have:=(cb.mp x).1;rw[List.length_take]at this;omega
    rw[List.getElem?_take_of_lt hji]at x;have eJ:=hw.2.2 j i I.1 r.1 I.2 r.2 (by omega) (by rw[List.getElem?_map,x];rfl) (by rw[List.getElem?_map,d];rfl) (by rw[List.getElem?_map,x];rfl) (by rw[List.getElem?_map,d];rfl);have LZ:=oS I (cI x);have G:=Cf.of (K:=K) ht;refine⟨_,rfl,t,_,_,_,rfl,rfl,.inr G,rfl,_,rfl,_,_,rfl,rfl,_,rfl,t,_,_,_,rfl,rfl,.inr G,rfl,_,rfl,_,_,rfl,_,_,rfl,rfl,?_,rfl,_,rfl,Ar ?_ ⟨_,rfl,rfl⟩⟩
    ·show(0:Int)<if r.1<I.1 then r.1 else I.1
     split<;>omega
    ·dsimp only;rw[qy,sk];exact mr eJ
   rintro c n ⟨v7',rfl,rfl⟩;refine⟨_,rfl,.inl ⟨rfl,_,Aq.of L⟩,_,rfl,_,rfl,B4,λt ht=>?_⟩;have U:A8 n (upd n t (.tup [.int r.1,.int r.2])):=A8.upd ht;have e6:(upd n t (.tup [.int r.1,.int r.2])) t=some (.tup [.int r.1,.int r.2]):=A2;generalize upd n t (.tup [.int r.1,.int r.2])=H6 at U e6⊢;have GS:=U _ _ L;refine⟨D,_,_,rfl,rfl,GS,As (by rw[Z.1,List.length_take];omega),?_⟩;refine⟨f++[.ref t],_,_,_,_,_,rfl,A2,?_,(s2.trans (zW.trans U)).new y⟩;rw[Ev d];refine(An.append (Z.imp λr v z=>Gq.up (Ax.of U) z) (An.one (P:=Gq H6) (r:=r) ⟨t,rfl,e6⟩)).imp λr v z=>Gq.up (Ax.lst GS) z
  rintro c m ⟨f,v3,v4,v5,v6,J,rfl,gQ,a,s2⟩;rw[List.length_map,List.length_map,List.take_length]at a;exact⟨_,rfl,q D f m y s2 gQ a⟩
def j8(K:W.Frag)(aA aE aF aB aC aD aG:Addr):Sp:=λa H Q _=>O5 λ(x C:Addr) (k:Int)=>Fp (a=[.ref x]) (H x=some (.ext (Eo x (.ref C)))) (((aC=C/\k=1)\/(aA=C/\k=2)\/(aB=C/\k=4))) (Q (.int k) H)
theorem vf{j:q7}(F:D4 K "_law_kind" "_law_kind" fk ad.lX j):B3 P w K mg base (CX1 P w) 1 ad.lX j ["e"] (j8 K aA aE aF aB aC aD aG):=by
 refine F.okN xx (λm H Q E h=>?_) (λn A i s H m Q E o h=>?_)
 ·rcases h with⟨x,C,k,rfl,a,l,q⟩<;>rfl
 ·obtain⟨x,C,k,rfl,a,l,q⟩:=h;refine⟨_,(A3 (Az (PW.pt (Da (Bk (Ak (Ca K) (by rfl) T.aP boot_isinstance (A0 (pv 0) (A0 (C5 (v:=.ref bR) (by rfl) T.yW rfl) A4)))) (Da (Bk (Ak (Ca K) (by rfl) T.aP boot_isinstance (A0 (pv 0) (A0 (C5 (v:=.ref aR) (by rfl) T.pO rfl) A4)))) (Da (Bk (Ak (Ca K) (by rfl) T.aP boot_isinstance (A0 (pv 0) (A0 (C5 (v:=.ref bS) (by rfl) T.yX rfl) A4)))) (Ee (Bk (Ak (Ca K) (by rfl) T.aP boot_isinstance (A0 (pv 0) (A0 (C5 (v:=.ref bT) (by rfl) T.yY rfl) A4))))))))) (A5 (Ab A7)) Ae) (A3 (Az (PW.pt (Da (Bk (Ak (Ca K) (by rfl) T.aP boot_isinstance (A0 (pv 0) (A0 (C5 (v:=.ref aE) (by rfl) T.oO rfl) A4)))) (Da (Bk (Ak (Ca K) (by rfl) T.aP boot_isinstance (A0 (pv 0) (A0 (C5 (v:=.ref aF) (by rfl) T.oP rfl) A4)))) (Da (Bk (Ak (Ca K) (by rfl) T.aP boot_isinstance (A0 (pv 0) (A0 (C5 (v:=.ref bU) (by rfl) T.yZ rfl) A4)))) (Ee (Bk (Ak (Ca K) (by rfl) T.aP boot_isinstance (A0 (pv 0) (A0 (C5 (v:=.ref cL) (by rfl) T.DQ rfl) A4))))))))) (A5 (Ab A7)) Ae) (A3 (Az (D9 (Bk (Ak (Ca K) (by rfl) T.aP boot_isinstance (A0 (pv 0) (A0 (cp (by rfl) T.pL PyProof.Rows.Boot.«ValueError») A4))))) (A5 (Ab A7)) Ae) (A5 (Ab (Al Co (Al Co (B5 K0 (by rfl) T.rH boot_int (A0 (Ak (Ca K) (by rfl) T.aP boot_isinstance (A0 (pv 0) (A0 (C5 (v:=.ref aC) (by rfl) T.jX rfl) A4))) A4)) (Al D8 A7 (B5 K0 (by rfl) T.rH boot_int (A0 (Ak (Ca K) (by rfl) T.aP boot_isinstance (A0 (pv 0) (A0 (C5 (v:=.ref aA) (by rfl) T.gK rfl) A4))) A4)))) (Al D8 A7 (B5 K0 (by rfl) T.rH boot_int (A0 (Ak (Ca K) (by rfl) T.aP boot_isinstance (A0 (pv 0) (A0 (C5 (v:=.ref aB) (by rfl) T.oQ rfl) A4))) A4))))))))),?_⟩;rcases l with⟨rfl,rfl⟩|⟨rfl,rfl⟩|⟨rfl,rfl⟩
  ·refine⟨_,rfl,x,aC,_,_,_,rfl,a,(λ_ z=>z),⟨T.aS,T.aU,T.aV,T.fQ,T.fR,T.aW,T.aX⟩,T.dM,_,rfl,false,λ_ e b=>⟨_,rfl,x,aC,_,_,_,rfl,a,(λ_ z=>z),⟨T.aS,T.aU,T.aV,T.fQ,T.fR,T.aW,T.aX⟩,T.cA,_,rfl,false,λ_ f c=>⟨_,rfl,x,aC,_,_,_,rfl,a,(λ_ z=>z),⟨T.aS,T.aU,T.aV,T.fQ,T.fR,T.aW,T.aX⟩,T.dN,_,rfl,false,λ_ g d=>⟨_,rfl,x,aC,_,_,_,rfl,a,(λ_ z=>z),⟨T.aS,T.aU,T.aV,T.fQ,T.fR,T.aW,T.aX⟩,T.dQ,_,rfl,d⟩,c⟩,b⟩,Ar rfl ?_⟩;refine⟨_,rfl,x,aC,_,_,_,rfl,a,(λ_ z=>z),⟨T.aS,T.aU,T.aV,T.fQ,T.fR,T.aW,T.aX⟩,T.cR,_,rfl,false,λ_ e b=>⟨_,rfl,x,aC,_,_,_,rfl,a,(λ_ z=>z),⟨T.aS,T.aU,T.aV,T.fQ,T.fR,T.aW,T.aX⟩,T.cS,_,rfl,false,λ_ f c=>⟨_,rfl,x,aC,_,_,_,rfl,a,(λ_ z=>z),⟨T.aS,T.aU,T.aV,T.fQ,T.fR,T.aW,T.aX⟩,T.dR,_,rfl,false,λ_ g d=>⟨_,rfl,x,aC,_,_,_,rfl,a,(λ_ z=>z),⟨T.aS,T.aU,T.aV,T.fQ,T.fR,T.aW,T.aX⟩,T.eP,_,rfl,d⟩,c⟩,b⟩,Ar rfl ?_⟩;refine⟨_,rfl,x,aC,_,_,_,rfl,a,(λ_ z=>z),⟨T.aS,T.aU,T.aV,T.fQ,T.fR,T.aW,T.aX⟩,T.cB,_,rfl,Ar rfl ?_⟩;exact⟨_,rfl,x,aC,_,_,_,rfl,a,(λ_ z=>z),⟨T.aS,T.aU,T.aV,T.fQ,T.fR,T.aW,T.aX⟩,T.cT,.inr ⟨_,rfl,_,rfl,x,aC,_,_,_,rfl,a,(λ_ z=>z),⟨T.aS,T.aU,T.aV,T.fQ,T.fR,T.aW,T.aX⟩,T.cV,.inr ⟨_,rfl,_,_,rfl,rfl,Dn (by decide) (by decide),_,_,rfl,rfl,_,rfl,x,aC,_,_,_,rfl,a,(λ_ z=>z),⟨T.aS,T.aU,T.aV,T.fQ,T.fR,T.aW,T.aX⟩,T.cU,.inr ⟨_,rfl,_,_,rfl,rfl,Dn (by decide) (by decide),_,_,rfl,rfl,q⟩⟩⟩⟩
  ·refine⟨_,rfl,x,aA,_,_,_,rfl,a,(λ_ z=>z),⟨T.aY,T.aZ,T.bA,T.fQ,T.fR,T.bB,T.bC⟩,T.dU,_,rfl,false,λ_ e b=>⟨_,rfl,x,aA,_,_,_,rfl,a,(λ_ z=>z),⟨T.aY,T.aZ,T.bA,T.fQ,T.fR,T.bB,T.bC⟩,T.cD,_,rfl,false,λ_ f c=>⟨_,rfl,x,aA,_,_,_,rfl,a,(λ_ z=>z),⟨T.aY,T.aZ,T.bA,T.fQ,T.fR,T.bB,T.bC⟩,T.dW,_,rfl,false,λ_ g d=>⟨_,rfl,x,aA,_,_,_,rfl,a,(λ_ z=>z),⟨T.aY,T.aZ,T.bA,T.fQ,T.fR,T.bB,T.bC⟩,T.dX,_,rfl,d⟩,c⟩,b⟩,Ar rfl ?_⟩;refine⟨_,rfl,x,aA,_,_,_,rfl,a,(λ_ z=>z),⟨T.aY,T.aZ,T.bA,T.fQ,T.fR,T.bB,T.bC⟩,T.cW,_,rfl,false,λ_ e b=>⟨_,rfl,x,aA,_,_,_,rfl,a,(λ_ z=>z),⟨T.aY,T.aZ,T.bA,T.fQ,T.fR,T.bB,T.bC⟩,T.cX,_,rfl,false,λ_ f c=>⟨_,rfl,x,aA,_,_,_,rfl,a,(λ_ z=>z),⟨T.aY,T.aZ,T.bA,T.fQ,T.fR,T.bB,T.bC⟩,T.dY,_,rfl,false,λ_ g d=>⟨_,rfl,x,aA,_,_,_,rfl,a,(λ_ z=>z),⟨T.aY,T.aZ,T.bA,T.fQ,T.fR,T.bB,T.bC⟩,T.eS,_,rfl,d⟩,c⟩,b⟩,Ar rfl ?_⟩;refine⟨_,rfl,x,aA,_,_,_,rfl,a,(λ_ z=>z),⟨T.aY,T.aZ,T.bA,T.fQ,T.fR,T.bB,T.bC⟩,T.cE,_,rfl,Ar rfl ?_⟩;exact⟨_,rfl,x,aA,_,_,_,rfl,a,(λ_ z=>z),⟨T.aY,T.aZ,T.bA,T.fQ,T.fR,T.bB,T.bC⟩,T.cY,.inr ⟨_,rfl,_,rfl,x,aA,_,_,_,rfl,a,(λ_ z=>z),⟨T.aY,T.aZ,T.bA,T.fQ,T.fR,T.bB,T.bC⟩,T.dA,.inr ⟨_,rfl,_,_,rfl,rfl,Dn (by decide) (by decide),_,_,rfl,rfl,_,rfl,x,aA,_,_,_,rfl,a,(λ_ z=>z),⟨T.aY,T.aZ,T.bA,T.fQ,T.fR,T.bB,T.bC⟩,T.cZ,.inr ⟨_,rfl,_,_,rfl,rfl,Dn (by decide) (by decide),_,_,rfl,rfl,q⟩⟩⟩⟩
  ·refine⟨_,rfl,x,aB,_,_,_,rfl,a,(λ_ z=>z),⟨T.bD,T.bE,T.bG,T.fQ,T.fR,T.bH,T.bI⟩,T.dZ,_,rfl,false,λ_ e b=>⟨_,rfl,x,aB,_,_,_,rfl,a,(λ_ z=>z),⟨T.bD,T.bE,T.bG,T.fQ,T.fR,T.bH,T.bI⟩,T.cH,_,rfl,false,λ_ f c=>⟨_,rfl,x,aB,_,_,_,rfl,a,(λ_ z=>z),⟨T.bD,T.bE,T.bG,T.fQ,T.fR,T.bH,T.bI⟩,T.eC,_,rfl,false,λ_ g d=>⟨_,rfl,x,aB,_,_,_,rfl,a,(λ_ z=>z),⟨T.bD,T.bE,T.bG,T.fQ,T.fR,T.bH,T.bI⟩,T.eE,_,rfl,d⟩,c⟩,b⟩,Ar rfl ?_⟩;refine⟨_,rfl,x,aB,_,_,_,rfl,a,(λ_ z=>z),⟨T.bD,T.bE,T.bG,T.fQ,T.fR,T.bH,T.bI⟩,T.dB,_,rfl,false,λ_ e b=>⟨_,rfl,x,aB,_,_,_,rfl,a,(λ_ z=>z),⟨T.bD,T.bE,T.bG,T.fQ,T.fR,T.bH,T.bI⟩,T.dC,_,rfl,false,λ_ f c=>⟨_,rfl,x,aB,_,_,_,rfl,a,(λ_ z=>z),⟨T.bD,T.bE,T.bG,T.fQ,T.fR,T.bH,T.bI⟩,T.eG,_,rfl,false,λ_ g d=>⟨_,rfl,x,aB,_,_,_,rfl,a,(λ_ z=>z),⟨T.bD,T.bE,T.bG,T.fQ,T.fR,T.bH,T.bI⟩,T.eV,_,rfl,d⟩,c⟩,b⟩,Ar rfl ?_⟩;refine⟨_,rfl,x,aB,_,_,_,rfl,a,(λ_ z=>z),⟨T.bD,T.bE,T.bG,T.fQ,T.fR,T.bH,T.bI⟩,T.cJ,_,rfl,Ar rfl ?_⟩;exact⟨_,rfl,x,aB,_,_,_,rfl,a,(λ_ z=>z),⟨T.bD,T.bE,T.bG,T.fQ,T.fR,T.bH,T.bI⟩,T.dD,.inr ⟨_,rfl,_,rfl,x,aB,_,_,_,rfl,a,(λ_ z=>z),⟨T.bD,T.bE,T.bG,T.fQ,T.fR,T.bH,T.bI⟩,T.dG,.inr ⟨_,rfl,_,_,rfl,rfl,Dn (by decide) (by decide),_,_,rfl,rfl,_,rfl,x,aB,_,_,_,rfl,a,(λ_ z=>z),⟨T.bD,T.bE,T.bG,T.fQ,T.fR,T.bH,T.bI⟩,T.dE,.inr ⟨_,rfl,_,_,rfl,rfl,Dn (by decide) (by decide),_,_,rfl,rfl,q⟩⟩⟩⟩
def O0(K:W.Frag)(aA aE aF aB aC aD aG:Addr):Sp:=λc H Q _=>Zh λ(x b:Addr) (a:Str) (fs:List (Str×V))=>Fp (c=[.ref x,.str a]) (H x=some (.ins aD b fs)) (fs.lookup (Str.ofString "told")=none) (Rh K aA aE aF aB aC aD aG [.ref x,.str a] H (oh Q) (Zk aC aA aB Q))
theorem vg{fd NW NX:q7}(F:D4 K "_law_told" "_law_told" fm ad.gE fd)(wA:Gk P w K mg base 9 ad.lU ["self","row"] (Rh K aA aE aF aB aC aD aG) NW)(wB:Gk P w K mg base 1 ad.lX ["e"] (j8 K aA aE aF aB aC aD aG) NX):B3 P w K mg base (CX1 P w) 10 ad.gE fd ["desk","row"] (O0 K aA aE aF aB aC aD aG):=by
 refine F.okN Kr (λvs H Q E h=>?_) (λbK A outer s H vs Q E hr h=>?_)
 ·rcases h with⟨x,dx,Y,fs,rfl,hx,RC,wJ⟩<;>rfl
 ·obtain⟨x,dx,Y,fs,rfl,hx,RC,wJ⟩:=h;refine⟨_,(A3 (Ad (i:=2) Kr.nd rfl (Or.inl rfl) Bj) (A3 (Ad (i:=3) Kr.nd rfl (Or.inl rfl) Bj) (A3 (mw K (i:=4) rfl rfl (λW pn R I=>(A5 (Ad (i:=3) Kr.nd rfl (Or.inl rfl) (Nn (pv 0) T.aI T.WI wA.g (hr.mono (by decide)) wA.b .nil I (A0 (pv 1) A4))))) (by rfl) T.pN T.fM T.fN Kr.nd rfl rfl (λA=>(A5 (Ad (i:=2) Kr.nd rfl (Or.inl rfl) (pv 4))))) (A3 (Az (Ai M3 (pv 2) Bj (Ag _)) (A5 (Ab (B6 (A0 Ah (A0 (Ac wB.g (hr.mono (by decide)) rfl T.WB T.WC wB.b .nil Ap (A0 (pv 2) A4)) A4))))) Ae) (A3 (Az (Bk (Ak (Oy K) (by rfl) T.aP boot_isinstance (A0 (pv 3) (A0 (cp (by rfl) T.fH boot_str) A4)))) (A5 (Ab (B6 (A0 Ah (A0 (pv 3) A4))))) Ae) (A5 (Ab (B6 (A0 Ah (A0 A7 A4)))))))))),?_⟩
  have u:∀{N:VK}{s:Str}{d:Hp},(∀(s:Str) (d:Hp),(∀(p:Addr) (G:Hp),d p=none->A8 d G->G p=some (.lst [.str "told",.str s])->Q (.ref p) G)->N (.str s) d)->(oh Q) (V.str s) d->N (.str s) d:=λm ⟨_,e,z⟩=>by
   cases e;exact m _ _ z
  have mono:∀N:VK,(∀(s:Str) (d:Hp),(∀(p:Addr) (G:Hp),d p=none->A8 d G->G p=some (.lst [.str "told",.str s])->Q (.ref p) G)->N (.str s) d)->Rh K aA aE aF aB aC aD aG [.ref x,.str Y] H N (Zk aC aA aB Q):=λN m=>by
   obtain⟨x',dx',Z,hd,ns,cm,hv,sv,tb,w,e,h1,h2,O⟩:=wJ;refine⟨x',dx',Z,hd,ns,cm,hv,sv,tb,w,e,h1,h2,?_⟩;rcases O with O|⟨h3,h4,O⟩
   ·exact .inl O
   refine .inr ⟨h3,h4,?_⟩;rcases O with⟨f,g,l⟩|⟨M,J,q,n,D,f,g,l,o,v,B⟩|⟨M,J,q,n,D,L,X,f,g,l,o,v,B,S,U⟩|⟨M,J,q,n,D,L,f,g,l,o,v,B,S,U⟩|⟨M,J,q,n,D,f,g,l,o⟩|k|⟨f,g,l,o,v,B⟩|⟨t,f,g,p,us,rs,l,o,v,B,S,U,k9⟩
   ·exact .inl ⟨f,g,λD d a b c=>u m (l D d a b c)⟩
   ·exact .inr (.inl ⟨M,J,q,n,D,f,g,l,o,v,λj d a b=>u m (B j d a b)⟩)
   ·exact .inr (.inr (.inl ⟨M,J,q,n,D,L,X,f,g,l,o,v,B,S,λd a b=>u m (U d a b)⟩))
   ·exact .inr (.inr (.inr (.inl ⟨M,J,q,n,D,L,f,g,l,o,v,B,S,λd a=>u m (U d a)⟩)))
   ·exact .inr (.inr (.inr (.inr (.inl ⟨M,J,q,n,D,f,g,l,λd a=>u m (o d a)⟩))))
   ·exact .inr (.inr (.inr (.inr (.inr (.inl k)))))
   ·exact .inr (.inr (.inr (.inr (.inr (.inr (.inl ⟨f,g,l,o,(λa b d c=>u m (v a b d c)),λa b p us rs d c1 q c3 c4 c5 c6 c7 c8=>u m (B a b p us rs d c1 q c3 c4 c5 c6 c7 c8)⟩))))))
   ·exact .inr (.inr (.inr (.inr (.inr (.inr (.inr ⟨t,f,g,p,us,rs,l,o,v,B,S,(λa d b=>u m (U a d b)),λi r d a b c=>u m (k9 i r d a b c)⟩))))))
  refine⟨_,rfl,x,dx,fs,rfl,hx,RC,_,rfl,(Zk aC aA aB Q),?_,mono _ ?_⟩
  ·rintro cls H2 ⟨C,k,rfl,hC,hq⟩;refine⟨C,rfl,by rcases hC with⟨rfl,_⟩|⟨rfl,_⟩|⟨rfl,_⟩;exact T.bX;exact T.cC;exact T.cF,λy hy=>?_⟩;refine⟨_,rfl,?_⟩;refine⟨_,rfl,rfl,_,rfl,Cm rfl ?_⟩;refine⟨_,rfl,y,C,k,rfl,hy,hC,B4,λp I=>hq p _ I (A8.upd I) A2⟩
  ·intro s H2 hq;refine⟨_,rfl,rfl,_,rfl,Ar rfl ?_⟩;exact⟨_,rfl,_,"str","str",true,rfl,.str s,Mz,_,rfl,Cm rfl ⟨_,rfl,B4,λp I=>hq p _ I (A8.upd I) A2⟩⟩
def iy(K:W.Frag)(aA aE aF aB aC aD aG:Addr):Sp:=λm H Q _=>yx λ(x d:Addr) (f h i w g:V) (l:Addr) (b:qG)=>Px (m=[.ref x,g,.ref l]) (H x=some (.ins aD d (B7 f h i w))) (H l=some (.lst (b.map V.int))) (1<=b.length) (b.length<=30) ((∀x∈b,0<=x/\x<=2^200)) (H aG=some (.tab lamQ lamP)) ((∀(r:Addr) (a:Hp),A8 H a->a r=some (.lst [.bl true,g])->Q (.ref r) a)) (∀(r k p:Addr) (j e:List V) (c:List (Int×Int)) (a:Hp),Ct x H a->H k=none->H p=none->Zi c->a x=some (.ins aD d (B7 f h i (.ref p)))->a p=some (.lst j)->An (Gq a) c j->a k=some (.lst e)->An (Gq a) c e->a r=some (.lst [.bl true,.ref k])->Q (.ref r) a)
theorem uv{fd hV sO tL NY nI:q7}(F:D4 K "_law_wheel" "_law_wheel" X1 ad.lY fd)(cM:Gk P w K mg base 10 ad.gE ["desk","row"] (O0 K aA aE aF aB aC aD aG) hV)(mH:Gk P w K mg base 5 ad.iR ["waits"] (Vh K aA aE aF aB aC aD aG) sO)(gX:Gk P w K mg base 1 ad.iZ ["word"] (Ve K) tL)(wC:Gk P w K mg base 2 ad.lW ["words","periods"] (j7 K) NY)(fS:Gk P w K mg base 2 ad.gS ["waits","base"] (Rj K aA aE aF aB aC aD aG) nI):B3 P w K mg base (CX1 P w) 11 ad.lY fd ["desk","kept","waits"] (iy K aA aE aF aB aC aD aG):=by
 refine F.okN Ko (λvs H Q E h=>?_) (λbK A outer s H vs Q E o h=>?_)
 ·rcases h with⟨x,dx,hv,sv,tb,w,kp,l,a,rfl,hx,hl,tJ,QQ,L,hT,qn,qs⟩<;>rfl
 ·obtain⟨x,dx,hv,sv,tb,w,kp,l,a,rfl,hx,hl,tJ,QQ,L,hT,qn,qs⟩:=h;refine⟨_,(A3 (Ig (Ac cM.g (o.mono (by decide)) rfl T.nF T.nG cM.b .nil Ap (A0 (pv 0) (A0 (Al Cj Ah (Dr PySem.F.plainAttrs_str PySem.F.slot_str_join PySem.F.type_str_join (Qq K) Ah (A0 (Cc (Cd (pv 2)) _ rfl Mi rfl rfl (λ_ _ _ _=>(Aj (i:=0) Nd rfl (Or.inl rfl))) (λ_ _ _ _=>Bw) (λ_ _ _ _=>(B5 Bm (by rfl) T.fH boot_str (A0 (pv 0) A4)))) A4))) A4))) (Wl K (n:=2) rfl (Ba (Aj (i:=3) Ko.nd rfl (Or.inl rfl)) (Ba (Aj (i:=4) Ko.nd rfl (Or.inl rfl)) Df)))) (A3 (Az (Ai Fh (Ak (Hi rfl) (by rfl) T.oN boot_min (A0 (pv 2) A4)) A7 (Ag _)) (A5 (Ab (B6 (A0 (Hk (Bd C7 (pv 3) Ah (Ag _)) (Hb (Bd C7 (pv 4) A7 (Ag _)))) (A0 (pv 1) A4))))) Ae) (A3 (Ad (i:=5) Ko.nd rfl (Or.inl rfl) (Ac mH.g (o.mono (by decide)) rfl T.FR T.FT mH.b .nil Ap (A0 (B5 Iw (by rfl) T.yV boot_list (A0 (pv 2) A4)) A4))) (A3 (Az (Ai Fy (pv 5) Bj (Ag _)) (A5 (Ab (B6 (A0 (Hk (Bd C7 (pv 3) Ah (Ag _)) (Hb (Bd C7 (pv 4) Ah (Ag _)))) (A0 (pv 1) A4))))) Ae) (A3 (Az (Ai L6 (pv 3) Ah (Ag _)) (A5 (Ab (B6 (A0 Fi (A0 (pv 1) A4))))) Ae) (A3 (Ad (i:=6) Ko.nd rfl (Or.inl rfl) (Dr PySem.F.plainAttrs_str PySem.F.slot_str_split PySem.F.type_str_split N7 (pv 4) (A0 Ah A4))) (A3 (Az (PW.pt (Da (Ai L6 (Ak (Bs K) (by rfl) T.eK PySem.boot_len (A0 (pv 6) A4)) (Al Co A7 (Ak (Bs K) (by rfl) T.eK PySem.boot_len (A0 (pv 2) A4))) (Ag _)) (Da (Ai L6 (Au (Aw K) (pv 6) A7 (λ_ _=>rfl)) Ah (Ag _)) (Ee (Ai L6 (Ac gX.g (o.mono (by decide)) rfl T.yN T.yO gX.b .nil Ap (A0 (Au (Aw K) (pv 6) A7 (λ_ _=>rfl)) A4)) (pv 5) (Ag _)))))) (A5 (Ab (B6 (A0 Fi (A0 (pv 1) A4))))) Ae) (A3 (Ad (i:=7) Ko.nd rfl (Or.inl rfl) (Ac wC.g (o.mono (by decide)) rfl T.VZ T.WA wC.b .nil Ap (A0 (Ec (Ef K) (pv 6) (Es A7) Hl) (A0 (Ac fS.g (o.mono (by decide)) rfl T.yF T.yG fS.b .nil Ap (A0 (B5 Iw (by rfl) T.yV boot_list (A0 (pv 2) A4)) (A0 (pv 5) A4))) A4)))) (A5 (Ab (B6 (A0 (Bd M3 (pv 7) Bj (Ag _)) (A0 (pv 7) A4))))))))))))),?_⟩;have eX:∀n∈a,0<=n/\n<10^100:=λn h=>⟨(L n h).1,l7 (L n h).2 Qz⟩;have nQ:∀n∈a,n<2^400:=λn h=>l7 (L n h).2 cu;have M:a≠[]:=λe=>by rw[e]at tJ;cases tJ
  refine⟨_,rfl,rfl,_,rfl,l,rfl,.inl ⟨⟨_,Aq.of hl⟩,λD hD=>?_⟩⟩;refine Bz (K:=K) (a:=l) (xs:=a.map V.int) (λi ys H'=>ys=((a.take i).map Bh).map V.str/\H' D=some (.lst ys)/\A8 H H') ⟨rfl,A2,A8.upd hD⟩ (by rintro i ys H' _ ⟨_,_,s⟩;exact Aq.of (s _ _ hl)) ?_ ?_
  ·rintro i v ys H1 hv ⟨rfl,gF,f⟩ Qe hQ;rw[List.getElem?_map]at hv;obtain⟨n,c,rfl⟩:=dI.mp hv;have hi:=(cb.mp c).1;refine⟨_,rfl,n,rfl,Cq (eX n (cI c)),hQ _ _ gF (As (by rw[List.length_map,List.length_map,List.length_take];omega)) ⟨?_,A2,f.new hD⟩⟩;rw[List.take_add_one,c,List.map_append,List.map_append];rfl
  rintro ys H1 ⟨rfl,gF,f⟩;rw[List.length_map,List.take_length]at gF;refine⟨_,D,a.map Bh,rfl,rfl,Aq.of gF,by rw[List.length_map];omega,(λz hz=>?_),by decide,_,_,rfl,rfl,ea (la (Jg eX (by omega)) _) (by decide),x,dx,_,_,rfl,f _ _ hx,rfl,?_⟩
  ·obtain⟨n,c,rfl⟩:=fx.mp hz;exact ea (Cy (eX n c).1 (eX n c).2).len (by decide)
  have sQ:=f _ _ hl;have hT1:=f _ _ hT;refine⟨x,dx,Str.ofString "wheel "++Jf a,Str.ofString "wheel",a,none,hv,sv,tb,w,rfl,f _ _ hx,Z1 eX tJ (by omega),.inr ⟨λz=>absurd z (by decide),λz=>absurd z (by decide),.inr (.inr (.inr (.inr (.inr (.inr (.inl ⟨rfl,by omega,hT1,λzV H2 s2=>⟨_,_,rfl,.inr (.inl ⟨rfl,rfl⟩),λp g hp B ep=>?_⟩,λh1 hb H2 s2=>⟨_,rfl,λp g hp B ep=>?_⟩,λh1 b pw us d H2 hb b2 DN fU epw all mS hw=>⟨_,rfl,λp g hp B ep=>?_⟩⟩))))))⟩⟩
  ·have u:=B _ _ (s2 _ _ sQ);refine⟨p,_,rfl,Aq.of ep,rfl,_,_,rfl,_,_,rfl,rfl,?_⟩;refine⟨_,rfl,l,a,rfl,Aq.of u,nf.mpr M,λm hm fO=>?_⟩;refine⟨_,_,rfl,rfl,_,rfl,Cm ?_ ?_⟩
   ·obtain⟨n,c,z⟩:=zV;have:=fO n c;exact decide_eq_true (show m<1 by omega)
   refine⟨_,rfl,rfl,true,true,by decide,λ_ Q1 z1=>⟨_,rfl,rfl,?_⟩,_,rfl,B4,λr kC=>?_⟩
   ·exact z1
   ·exact qn r _ (((f.trans s2).trans B).trans (A8.upd kC)) A2
  ·have u:=B _ _ (s2 _ _ sQ);refine⟨p,_,rfl,Aq.of ep,rfl,_,_,rfl,_,_,rfl,rfl,?_⟩;refine⟨_,rfl,l,a,rfl,Aq.of u,nf.mpr M,λm hm fO=>?_⟩;refine⟨_,_,rfl,rfl,_,rfl,Ar (mr (by have:=h1 m hm;omega)) ?_⟩;refine⟨_,rfl,l,_,rfl,.inl (Aq.of u),λG hG=>?_⟩;have O:A8 g (upd g G (.lst (a.map V.int))):=A8.upd hG;have Y:(upd g G (.lst (a.map V.int))) G=some (.lst (a.map V.int)):=A2;generalize upd g G (.lst (a.map V.int))=H5 at O Y⊢;refine⟨G,a,rfl,Y,by omega,nQ,(λz=>?_),λ_ _ r S s6 o=>?_⟩
   ·rcases z with z|⟨n,c,z⟩
    ·exact(M z).elim
    ·have:=h1 n c;omega
   obtain rfl:=Op o hb;refine⟨_,rfl,rfl,_,rfl,Cm rfl ?_⟩;refine⟨_,rfl,rfl,true,true,by decide,λ_ Q1 z1=>⟨_,rfl,rfl,?_⟩,_,rfl,B4,λr kC=>?_⟩
   ·exact z1
   ·exact qn r _ ((((f.trans s2).trans B).trans (O.trans s6)).trans (A8.upd kC)) A2
  have zX:=f _ _ hx;have u:=B _ _ (b2.lst zX sQ);refine⟨p,_,rfl,Aq.of ep,rfl,_,_,rfl,_,_,rfl,rfl,?_⟩;refine⟨_,rfl,l,a,rfl,Aq.of u,nf.mpr M,λm hm fO=>?_⟩;refine⟨_,_,rfl,rfl,_,rfl,Ar (mr (by have:=h1 m hm;omega)) ?_⟩;refine⟨_,rfl,l,_,rfl,.inl (Aq.of u),λG hG=>?_⟩;have O:A8 g (upd g G (.lst (a.map V.int))):=A8.upd hG;have Y:(upd g G (.lst (a.map V.int))) G=some (.lst (a.map V.int)):=A2;generalize upd g G (.lst (a.map V.int))=H5 at O Y⊢
  have YT:(a=[]\/∃x∈a,x<1)->False:=λz=>by
   rcases z with z|⟨n,c,z⟩
   ·exact M z
   ·have:=h1 n c;omega
  refine⟨G,a,rfl,Y,by omega,nQ,(λz=>(YT z).elim),λ_ _ r S s6 o=>?_⟩;obtain rfl:=Op o hb;obtain⟨jB,rJ,_,_⟩:=id hb;have s36:=B.trans (O.trans s6)
  have CU:d.length=a.length:=by
   have:=congrArg List.length mS;rw[List.length_map,List.length_map]at this;exact this
  have wQ:b<=2^200:=by
   cases a with
   |nil=>exact absurd rfl M
   |cons n a=>exact oD (rJ n dm) (L n dm).2
  have RH:0<=b/\b<10^100:=⟨by omega,l7 wQ Qz⟩;have C:∀{j:Nat}{r:Int×Int},d[j]?=some r->(a.map (E7 b))[j]?=some r.1/\(d.map Prod.snd)[j]?=some r.2:=λ{j r} h=>⟨by rw[<- mS,List.getElem?_map,h];rfl,by rw[List.getElem?_map,h];rfl⟩
  have GL:∀y∈a.map (E7 b),1<=y/\y<=2^200:=λy hy=>by
   obtain⟨n,c,rfl⟩:=fx.mp hy;have h2:=Qg (x:=n) jB;have h3:=(Gu jB (rJ n c)).1;have h4:=(L n c).2;exact⟨by omega,by omega⟩
  have k600:(2:Int)^200<2^600:=by decide+kernel
  have NZ:Zi d:=by
   refine⟨λe=>by rw[e]at CU;simp at CU;omega,by omega,λr N=>?_,λi j r r' t hi hj e1 e2=>?_⟩
   ·obtain⟨j,hj⟩:=gP.mp N;obtain⟨g1,g2⟩:=C hj;have h2:=GL _ (cI g1);have h3:=hw.2.1 j _ _ g1 g2;exact⟨⟨h2.1,by omega,h3.1,h3.2⟩,h2.2⟩
   ·obtain⟨g1,g2⟩:=C hi;obtain⟨g3,g4⟩:=C hj;exact Z2 (λy hy=>(GL y hy).1) (Kb b a) hw g1 g3 g2 g4 e1 e2
  have I:∀r∈d,(0<=r.1/\r.1<10^100)/\(0<=r.2/\r.2<10^100):=λr N=>by
   obtain⟨⟨a1,a2,a3,a4⟩,a5⟩:=NZ.2.2.1 r N;have:=Qz;exact⟨⟨by omega,by omega⟩,by omega,by omega⟩
  refine⟨_,rfl,rfl,_,rfl,Ar rfl ?_⟩;refine⟨_,rfl,rfl,_,rfl,Ar (by decide) ?_⟩;refine⟨_,rfl,rfl,Ik b d,_,rfl,rfl,by decide,Z7 RH (by omega) I,λW hW=>?_⟩;rw[Tt RH I];have s7:A8 S (upd S W (.lst ((Str.ofString "base"::Bh b::d.map B1).map V.str))):=A8.upd hW;have Z:(upd S W (.lst ((Str.ofString "base"::Bh b::d.map B1).map V.str))) W=some (.lst ((Str.ofString "base"::Bh b::d.map B1).map V.str)):=A2;generalize upd S W (.lst ((Str.ofString "base"::Bh b::d.map B1).map V.str))=U at s7 Z⊢;have RE:=s7 _ _ (s6 _ _ (O _ _ u));refine⟨_,rfl,W,_,rfl,.inl (Aq.of Z),_,rfl,l,_,rfl,.inl (Aq.of RE),_,_,rfl,rfl,rfl,_,rfl,false,(λ_ Q1 z1=>⟨_,rfl,W,_,_,_,rfl,rfl,.inl (Aq.of Z),qi,rfl,_,rfl,false,(λ_ Q2 z2=>⟨_,rfl,W,_,_,_,rfl,rfl,.inl (Aq.of Z),at1,b,rfl,RH.1,RH.2,_,rfl,rfl,_,rfl,?_⟩),?_⟩),Ar ?_ ?_⟩
  ·show Q2 (!decide (V.int b=V.int b)) U;rw[qy,decide_eq_true rfl];exact z2
  ·exact z1
  ·rw[qy,decide_eq_true ?_]
   ·rfl
   ·simp only[List.length_map,List.length_cons];omega
  refine⟨_,rfl,_,rfl,W,_,rfl,Aq.of Z,λsl xN=>?_⟩;rw[Fc,kd];have s8:A8 U (upd U sl (.lst ((d.map B1).map V.str))):=A8.upd xN;have e8:(upd U sl (.lst ((d.map B1).map V.str))) sl=some (.lst ((d.map B1).map V.str)):=A2;generalize upd U sl (.lst ((d.map B1).map V.str))=H8 at s8 e8⊢;have nW:=s8 _ _ RE;refine⟨_,rfl,l,_,rfl,.inl (Aq.of nW),λR SJ=>?_⟩;have s9:A8 H8 (upd H8 R (.lst (a.map V.int))):=A8.upd SJ;have e9:(upd H8 R (.lst (a.map V.int))) R=some (.lst (a.map V.int)):=A2;generalize upd H8 R (.lst (a.map V.int))=H9 at s9 e9⊢;refine⟨_,rfl,R,a,b,rfl,e9,by omega,l7 wQ cu,nQ,(λz=>?_),λ_ _ LA zs HA hLA sA eA qI hz=>?_⟩
  ·rcases z with z|⟨n,c,z⟩
   ·omega
   ·have:=rJ n c;omega
  have ez:=Vv jB qI hz;subst ez;rw[<- mS]at eA hw;have J:=s9.trans sA;refine⟨sl,LA,d,rfl,J _ _ e8,eA,(λr N=>⟨(NZ.2.2.1 r N).1.1,(I r N).1.2⟩),hw,by omega,λk hJ HB hk sB ek X=>?_⟩;refine⟨_,rfl,rfl,_,rfl,B4,λr kC=>?_⟩;have s3B:=s36.trans (s7.trans (s8.trans (J.trans sB)));have sZ:A8 HB (upd HB r (.lst [.bl true,.ref k])):=A8.upd kC;have q:=s3B.trans sZ;have bZ:Ct x H (upd HB r (.lst [.bl true,.ref k])):=((Ct.of f).trans b2).trans (Ct.of q);refine qs r k pw us hJ d _ bZ ?_ (f.free DN) NZ (q _ _ fU) (q _ _ epw) (all.imp λr v z=>Gq.up (Ax.of q) z) (sZ _ _ ek) (X.imp λr v z=>Gq.up (Ax.of sZ) z) A2;have DF:H2 k=none:=(s36.trans (s7.trans (s8.trans J))).free hk;exact f.free (b2.free fU DF)
def j9(K:W.Frag)(aA aE aF aB aC aD aG:Addr):Sp:=λh H Q _=>yx λ(x c e:Addr) (d f g w b:V) (n:Int)=>Im (h=[.ref x,b,.int n]) (H x=some (.ins aD c (B7 d f g w))) (W4 H e b w) (0<=n) (n<2^200) (∀a,A8 H a->Q (.bl true) a)
theorem vh{fd hV:q7}(F:D4 K "_law_turn" "_law_turn" fo ad.lZ fd)(cM:Gk P w K mg base 10 ad.gE ["desk","row"] (O0 K aA aE aF aB aC aD aG) hV):B3 P w K mg base (CX1 P w) 11 ad.lZ fd ["desk","kept","number"] (j9 K aA aE aF aB aC aD aG):=by
 refine F.okN Ii (λvs H Q E h=>?_) (λbK A outer s H vs Q E hr h=>?_)
 ·rcases h with⟨x,R,ka,hv,sv,tb,w,kp,n,rfl,Y,hW,uP,tJ,q⟩<;>rfl
 ·obtain⟨x,R,ka,hv,sv,tb,w,kp,n,rfl,Y,hW,uP,tJ,q⟩:=h;refine⟨_,(A3 (Az (Ai Fy (pv 1) Bj (Ag _)) (A5 (Ab (Bd (Qt hr) (Ac cM.g (hr.mono (by decide)) rfl T.nF T.nG cM.b .nil Ap (A0 (pv 0) (A0 (Al Cj Ah (B5 Bm (by rfl) T.fH boot_str (A0 (pv 2) A4))) A4))) (B6 (A0 Ah (A0 A7 A4))) (Ag _)))) Ae) (A3 (Ad (i:=3) Ii.nd rfl (Or.inl rfl) (Al Cr (pv 2) A7)) (A3 (Ad (i:=4) Ii.nd rfl (Or.inl rfl) (Au (Aw K) (pv 1) (Al C0 (Al Cr (pv 2) A7) (Ak (Bs K) (by rfl) T.eK PySem.boot_len (A0 (pv 1) A4))) (λ_ _=>rfl))) (A3 (Di (Ai Fh (Al C0 (pv 2) A7) A7 (Ag _)) (A5 (Ad (i:=3) Ii.nd rfl (Or.inl rfl) (Al Co (Al Co (Au (Aw K) (pv 4) A7 (λ_ _=>rfl)) (Al D8 (Au (Aw K) (pv 4) A7 (λ_ _=>rfl)) (Al C0 (Al Cr (pv 2) A7) (Al c9 A7 A7)))) (Al C0 (pv 2) A7)))) Ae) (A3 (Ad (i:=5) Ii.nd rfl (Or.inl rfl) Ah) (A3 (C1 ml rfl (Fj (by rfl) T.fK (A0 (Ak (Bs K) (by rfl) T.eK PySem.boot_len (A0 (pv 1) A4)) A4)) (Aj (i:=6) Ii.nd rfl (Or.inl rfl)) (A5 (Di (PW.pt (Fz (Ai bz (pv 3) (Au (Aw K) (Au (Aw K) (pv 1) (pv 6) (λ_ _=>rfl)) A7 (λ_ _=>rfl)) (Ag _)) (Et (Ai C7 (Al C0 (Al Nk (pv 3) (Au (Aw K) (Au (Aw K) (pv 1) (pv 6) (λ_ _=>rfl)) A7 (λ_ _=>rfl))) (Au (Aw K) (Au (Aw K) (pv 1) (pv 6) (λ_ _=>rfl)) A7 (λ_ _=>rfl))) A7 (Ag _))))) (A5 (Ad (i:=5) Ii.nd rfl (Or.inl rfl) (B5 Bm (by rfl) T.fH boot_str (A0 (pv 6) A4)))) Ae))) (A5 (Ab (Bd (Qt hr) (Ac cM.g (hr.mono (by decide)) rfl T.nF T.nG cM.b .nil Ap (A0 (pv 0) (A0 (Al Cj Ah (B5 Bm (by rfl) T.fH boot_str (A0 (pv 3) A4))) A4))) (B6 (A0 Ah (A0 (pv 5) A4))) (Ag _)))))))))),?_⟩;have o:0<=n/\n<10^100:=⟨uP,Int.lt_trans tJ Qz⟩;rcases hW with⟨rfl,rfl⟩|⟨k,p,us,c,b,rfl,rfl,_,_,hp,all,O,OA,NZ⟩
  ·refine⟨_,rfl,rfl,_,rfl,Cm rfl ?_⟩;refine⟨_,rfl,_,rfl,n,rfl,Cq o,_,_,rfl,rfl,ea (la (Cy o.1 o.2).len _) (by decide),x,R,_,_,rfl,Y,rfl,?_⟩;refine⟨x,R,Str.ofString "turn "++Bh n,Str.ofString "turn",[n],none,hv,sv,tb,_,rfl,Y,d9 o,.inl ⟨.inl ⟨rfl,rfl⟩,λH2 s2=>⟨_,_,rfl,.inl ⟨rfl,rfl⟩,λp H3 hp s3 G=>?_⟩⟩⟩;refine⟨B4,λr D=>?_⟩;refine⟨_,_,Jn ((A8.upd D) _ _ G),Jn A2,(by show 1<=60;decide),?_⟩;show Q (.bl (PyData.eqv (.list [.str (Str.ofString "refused"),.int 1]) (.list [.str (Str.ofString "refused"),.int 1]))) _;rw[Sc];exact q _ ((s2.trans s3).trans (A8.upd D))
  obtain⟨g1,g2,g3,g4⟩:=NZ;have hvl:c.length=b.length:=OA.1;have hlp:0<b.length:=nf.mpr g1;refine⟨_,rfl,rfl,_,rfl,Ar rfl ?_⟩;refine⟨_,rfl,_,_,rfl,rfl,⟨by decide,by decide⟩,?_⟩;have hm:=Bo (n/3) (m:=(c.length:Int)) (by omega);obtain⟨j,hj⟩:∃j:Nat,n/3%(c.length:Int)=j:=⟨(n/3%(c.length:Int)).toNat,by omega⟩;have J:j<b.length:=by omega
  have L:b[j]?=some (b[j]'J):=d3 J;generalize b[j]'J=r at L
  obtain⟨u,ev,hu⟩:∃u,c[j]?=some (.ref u)/\H u=some (.tup [.int r.1,.int r.2]):=by
   have m:c[j]?=some (c[j]'(by omega)):=d3 (by omega);obtain⟨u,e,f⟩:=OA.2 j r _ L m;exact⟨u,by rw[m,e],f⟩
  have qE:Oa c (n/3%(c.length:Int))=some (.ref u):=by rw[hj];exact Ek ev
  refine⟨_,rfl,_,rfl,_,_,rfl,rfl,⟨by decide,by decide⟩,_,rfl,k,_,rfl,.inl (Aq.of O),_,_,rfl,rfl,(by show(0:Int)<(c.length:Int);omega),k,_,_,_,rfl,rfl,.inl (Aq.of O),qE,?_⟩;have X:=Cf.of (K:=K) hu;obtain⟨⟨w1,w2,w3,w4⟩,w5⟩:=g3 r (cI L);have hq:=Bo (n/21) (show(0:Int)<10^30 by decide+kernel);have hm3:=Bo n (show(0:Int)<3 by decide);refine⟨_,rfl,_,_,rfl,rfl,by simp,_,_,rfl,rfl,_,rfl,(λl M=>∃(t:Int),Fp (l=[some (.ref x),some (.ref k),some (.int n),some (.int t),some (.ref u),none,none]) (M=H) (0<=t) (t<10^100)),λ_=>?_,(λ_=>⟨_,rfl,rfl,by omega,by omega⟩),?_⟩
  ·have hmul:0<=r.1*(n/21%10^30)/\r.1*(n/21%10^30)<=2^200*10^30:=⟨oI (by omega) hq.1,Int.mul_le_mul w5 (by omega) hq.1 (by decide+kernel)⟩;have:=cw;have hB1:intBits r.1<=202:=El (by omega);have hB2:intBits (n/21%10^30)<=102:=El (by omega);exact⟨_,rfl,u,_,_,_,rfl,rfl,.inr X,rfl,_,rfl,u,_,_,_,rfl,rfl,.inr X,rfl,_,rfl,_,_,rfl,rfl,⟨by decide,by decide⟩,_,_,rfl,rfl,⟨by decide,by decide,by decide⟩,_,_,rfl,rfl,(by show(0:Int)<10^30;decide+kernel),_,_,rfl,rfl,Pe (m:=202) (n:=102) hB1 hB2 (by decide),_,_,rfl,rfl,_,rfl,_,_,rfl,rfl,by simp,_,_,rfl,rfl,r.2+r.1*(n/21%10^30)+n%3,rfl,rfl,by omega,by omega⟩
  rintro l H ⟨t,rfl,rfl,U,RL⟩;have v:0<=t/\t<10^100:=⟨U,RL⟩;refine⟨_,rfl,k,_,rfl,.inl (Aq.of O),_,rfl,by omega,by omega,?_⟩;refine Ke (n:=c.length) (λi σ M=>Ld λ(d:Str) (v6:Option V)=>Il (σ=[some (.ref x),some (.ref k),some (.int n),some (.int t),some (.ref u),some (.str d),v6]) (M=H) (((d=Str.ofString "nobody"/\∀(j:Nat) (r:Int×Int),j<i->b[j]?=some r->t%r.1≠r.2)\/∃(j:Nat) (r:Int×Int),j<i/\b[j]?=some r/\t%r.1=r.2/\d=Bh (j:Int)))) ⟨_,_,rfl,rfl,.inl ⟨rfl,λj r h=>absurd h (nU j)⟩⟩ ?_ ?_
  ·rintro i σ H1 hi ⟨d,v6,rfl,rfl,S⟩;have I:i<b.length:=by omega
   have Z:b[i]?=some (b[i]'I):=d3 I;generalize b[i]'I=a at Z
   obtain⟨u1,ev1,WU⟩:∃u,c[i]?=some (.ref u)/\H1 u=some (.tup [.int a.1,.int a.2]):=by
    have m:c[i]?=some (c[i]'(by omega)):=d3 (by omega);obtain⟨u,e,f⟩:=OA.2 i a _ Z m;exact⟨u,by rw[m,e],f⟩
   have zI:Oa c (0+(i:Int))=some (.ref u1):=by rw[Int.zero_add];exact Ek ev1
   have OB:=Cf.of (K:=K) WU;obtain⟨⟨y1,y2,y3,y4⟩,y5⟩:=g3 a (cI Z);have g:=l0 (t:=t) y3 y4 U;refine⟨_,rfl,_,rfl,_,rfl,k,_,_,_,rfl,rfl,.inl (Aq.of O),zI,u1,_,_,_,rfl,rfl,.inr OB,rfl,_,_,rfl,rfl,_,rfl,decide ((t-a.2)%a.1=0),(λ_ Q1 z1=>⟨_,rfl,_,rfl,_,rfl,k,_,_,_,rfl,rfl,.inl (Aq.of O),zI,u1,_,_,_,rfl,rfl,.inr OB,rfl,_,_,rfl,rfl,_,rfl,_,rfl,k,_,_,_,rfl,rfl,.inl (Aq.of O),zI,u1,_,_,_,rfl,rfl,.inr OB,rfl,_,_,rfl,rfl,(by show(0:Int)<a.1;omega),rfl,_,rfl,?_⟩),(λl M=>∃(d:Str),Il (l=[some (.ref x),some (.ref k),some (.int n),some (.int t),some (.ref u),some (.str d),some (.int (0+(i:Int)))]) (M=H1) (((d=Str.ofString "nobody"/\∀(j:Nat) (r:Int×Int),j<i+1->b[j]?=some r->t%r.1≠r.2)\/∃(j:Nat) (r:Int×Int),j<i+1/\b[j]?=some r/\t%r.1=r.2/\d=Bh (j:Int)))),λz=>?_,λz=>?_,?_⟩
   ·show Q1 (decide (V.int ((t-a.2)%a.1)=V.int 0)) _;rw[qy];exact z1
   ·have z':a.2<=t/\(t-a.2)%a.1=0:=by
     rw[Bool.and_eq_true,decide_eq_true_iff,decide_eq_true_iff]at z;exact z
    exact⟨_,rfl,_,rfl,Cq ⟨by omega,by omega⟩,_,rfl,rfl,.inr ⟨i,a,by omega,Z,g.mp z',by rw[Int.zero_add];rfl⟩⟩
   ·have z':t%a.1≠a.2:=λe=>by
     have e':=g.mpr e;rw[decide_eq_true (show t>=a.2 from e'.1),decide_eq_true e'.2]at z;cases z
    refine⟨d,rfl,rfl,?_⟩;rcases S with⟨e,h⟩|⟨B,C,m,f,N,h4⟩
    ·refine .inl ⟨e,λB C m f=>?_⟩;rcases i3 B i with y|y
     ·exact h B C y f
     ·rw[show B=i by omega,Z]at f;cases f;exact z'
    ·exact .inr ⟨B,C,by omega,f,N,h4⟩
   ·rintro l M ⟨d',rfl,rfl,h⟩;exact⟨d',_,rfl,rfl,h⟩
  rintro σ H1 ⟨d,v6,rfl,rfl,S⟩;have h63:b.length<=300:=by omega
  have aK:PyData.strOk d=true:=by
   rcases S with⟨rfl,_⟩|⟨B,C,m,f,N,rfl⟩
   ·decide+kernel
   ·exact Kt ⟨by omega,by omega⟩
  refine⟨_,rfl,_,rfl,t,rfl,Cq v,_,_,rfl,rfl,ea (la (Cy v.1 v.2).len _) (by decide),x,R,_,_,rfl,Y,rfl,?_⟩;refine⟨x,R,Str.ofString "turn "++Bh t,Str.ofString "turn",[t],none,hv,sv,tb,_,rfl,Y,d9 v,.inr ⟨(λ_ z=>by cases z),(λz=>absurd z (by decide)),.inr (.inr (.inr (.inr (.inr (.inr (.inr ⟨t,rfl,rfl,p,us,b,rfl,hp,all,h63,λr gM=>(g3 r gM).1,λpH H2 s2=>⟨_,rfl,λp' H3 hp' s3 G=>?_⟩,λi C H2 hi g s2=>⟨_,rfl,λp' H3 hp' s3 G=>?_⟩⟩))))))⟩⟩
  ·have ed:d=Str.ofString "nobody":=by
    rcases S with⟨e,_⟩|⟨B,C,m,f,N,_⟩
    ·exact e
    ·exact absurd N (pH C (cI f))
   refine⟨_,rfl,B4,λr D=>?_⟩;rw[<- ed]at G;refine⟨_,_,D2 ((A8.upd D) _ _ G) aK,D2 A2 aK,(by show 1<=60;decide),?_⟩;show Q (.bl (PyData.eqv (.list [.str (Str.ofString "told"),.str d]) (.list [.str (Str.ofString "told"),.str d]))) _;rw[J1];exact q _ ((s2.trans s3).trans (A8.upd D))
  ·have ed:d=Bh (i:Int):=by
    rcases S with⟨_,h⟩|⟨B,r2,m,f,N,e⟩
    ·exact absurd g (h i C (by have:=(cb.mp hi).1;omega) hi)
    ·rw[e,g4 B i r2 C t f hi N g]
   refine⟨_,rfl,B4,λr D=>?_⟩;rw[<- ed]at G;refine⟨_,_,D2 ((A8.upd D) _ _ G) aK,D2 A2 aK,(by show 1<=60;decide),?_⟩;show Q (.bl (PyData.eqv (.list [.str (Str.ofString "told"),.str d]) (.list [.str (Str.ofString "told"),.str d]))) _;rw[J1];exact q _ ((s2.trans s3).trans (A8.upd D))
def ph(K:W.Frag)(aA aE aF aB aC aD aG:Addr):Sp:=λg H Q _=>Zh λ(x b:Addr) (c:pR) (w:V)=>Fp (g=[.ref x]) (Bp aD H x b [3,2] none [3,2] 0 c w) (Iv [3,2] none c) (∀(d e f:V) (a:Hp),Ct x H a->a x=some (.ins aD b (B7 d e f w))->Q (.bl true) a)
theorem A0b{fd hV:q7}(F:D4 K "_law_hall_stands" "_law_hall_stands" nl ad.rF fd)(cM:Gk P w K mg base 10 ad.gE ["desk","row"] (O0 K aA aE aF aB aC aD aG) hV):B3 P w K mg base (CX1 P w) 11 ad.rF fd ["desk"] (ph K aA aE aF aB aC aD aG):=by
 refine F.okN gr (λvs H Q E h=>?_) (λbK A outer s H vs Q E hr h=>?_)
 ·rcases h with⟨x,l,tv,w,rfl,hD,eY,q⟩<;>rfl
 ·obtain⟨x,l,tv,w,rfl,hD,eY,q⟩:=h;refine⟨_,(A3 (Ad (i:=1) gr.nd rfl (Or.inl rfl) (B6 (A0 Ah (A0 Ah (A0 Ah (A0 Ah (A0 Ah (A0 Ah A4)))))))) (A3 (Ad (i:=2) gr.nd rfl (Or.inl rfl) (B6 (A0 (B6 (A0 Ah (A0 A7 A4))) (A0 (B6 (A0 Ah (A0 Ah A4))) (A0 (B6 (A0 Ah (A0 Ah A4))) (A0 (B6 (A0 Ah (A0 Ah A4))) (A0 (B6 (A0 Ah (A0 Ah A4))) A4))))))) (A3 (Cs (Dr PySem.F.plainAttrs_list PySem.F.slot_list_append PySem.F.type_list_append D1 (pv 2) (A0 (B6 (A0 Ah (A0 Ah A4))) A4))) (A5 (Ab (Bd (Qt hr) (Cc (Cd (pv 1)) _ rfl Gr rfl rfl (λ_ _ _ _=>(Aj (i:=0) Ha rfl (Or.inl rfl))) (λ_ _ _ _=>Bw) (λ_ _ _ _=>(Ac cM.g (hr.mono (by decide)) rfl T.nF T.nG cM.b .nil Ap (A0 (pv 1) (A0 (pv 0) A4))))) (pv 2) (Ag _))))))),?_⟩;refine⟨B4,λR hR=>?_⟩;have t0:A8 H (upd H R (.lst [.str "hall 9 9 9 9",.str "rank",.str "best",.str "answer 0",.str "answer 1",.str "call 0"])):=A8.upd hR;have eR:(upd H R (.lst [.str "hall 9 9 9 9",.str "rank",.str "best",.str "answer 0",.str "answer 1",.str "call 0"])) R=some (.lst [.str "hall 9 9 9 9",.str "rank",.str "best",.str "answer 0",.str "answer 1",.str "call 0"]):=A2;generalize upd H R (.lst [.str "hall 9 9 9 9",.str "rank",.str "best",.str "answer 0",.str "answer 1",.str "call 0"])=G0 at t0 eR⊢;refine⟨B4,λm hp0=>?_⟩;have t1:A8 G0 (upd G0 m (.lst [.str "refused",.int 4])):=A8.upd hp0;have Z:(upd G0 m (.lst [.str "refused",.int 4])) m=some (.lst [.str "refused",.int 4]):=A2;generalize upd G0 m (.lst [.str "refused",.int 4])=G1 at t1 Z⊢;refine⟨B4,λo wV=>?_⟩;have t2:A8 G1 (upd G1 o (.lst [.str "told",.str "safe"])):=A8.upd wV;have ep1:(upd G1 o (.lst [.str "told",.str "safe"])) o=some (.lst [.str "told",.str "safe"]):=A2;generalize upd G1 o (.lst [.str "told",.str "safe"])=G2 at t2 ep1⊢;refine⟨B4,λr KY=>?_⟩;have t3:A8 G2 (upd G2 r (.lst [.str "told",.str "0"])):=A8.upd KY;have NT:(upd G2 r (.lst [.str "told",.str "0"])) r=some (.lst [.str "told",.str "0"]):=A2;generalize upd G2 r (.lst [.str "told",.str "0"])=G3 at t3 NT⊢;refine⟨B4,λB hp3=>?_⟩;have Y:A8 G3 (upd G3 B (.lst [.str "told",.str "reached"])):=A8.upd hp3;have ep3:(upd G3 B (.lst [.str "told",.str "reached"])) B=some (.lst [.str "told",.str "reached"]):=A2;generalize upd G3 B (.lst [.str "told",.str "reached"])=G4 at Y ep3⊢;refine⟨B4,λC XE=>?_⟩;have X:A8 G4 (upd G4 C (.lst [.str "told",.str "reached"])):=A8.upd XE;have ep4:(upd G4 C (.lst [.str "told",.str "reached"])) C=some (.lst [.str "told",.str "reached"]):=A2;generalize upd G4 C (.lst [.str "told",.str "reached"])=G5 at X ep4⊢;refine⟨B4,λU hU=>?_⟩;have n0:m≠U:=Aa (X _ _ (Y _ _ (t3 _ _ (t2 _ _ (Z))))) hU;have n1:o≠U:=Aa (X _ _ (Y _ _ (t3 _ _ (ep1)))) hU;have n2:r≠U:=Aa (X _ _ (Y _ _ (NT))) hU;have n3:B≠U:=Aa (X _ _ (ep3)) hU;have n4:C≠U:=Aa (ep4) hU;have t6:A8 G5 (upd G5 U (.lst [.ref m,.ref o,.ref r,.ref B,.ref C])):=A8.upd hU;have eU:(upd G5 U (.lst [.ref m,.ref o,.ref r,.ref B,.ref C])) U=some (.lst [.ref m,.ref o,.ref r,.ref B,.ref C]):=A2;generalize upd G5 U (.lst [.ref m,.ref o,.ref r,.ref B,.ref C])=G6 at t6 eU⊢;refine⟨_,rfl,.inl ⟨rfl,_,Aq.of eU⟩,B4,λS hp5=>?_⟩;have n5:S≠U:=Ne.symm (Aa eU hp5);have t7:A8 G6 (upd G6 S (.lst [.str "told",.str "left 3 1 quiet 0"])):=A8.upd hp5;have ep5:(upd G6 S (.lst [.str "told",.str "left 3 1 quiet 0"])) S=some (.lst [.str "told",.str "left 3 1 quiet 0"]):=A2;generalize upd G6 S (.lst [.str "told",.str "left 3 1 quiet 0"])=G7 at t7 ep5⊢;refine⟨U,_,_,rfl,rfl,t7 _ _ eU,As (by show 5<=1000;decide),?_⟩;have sH7:=t0.trans (t1.trans (t2.trans (t3.trans (Y.trans (X.trans (t6.trans t7))))));have b8:A8 H (upd G7 U (.lst ([.ref m,.ref o,.ref r,.ref B,.ref C]++[.ref S]))):=sH7.new ((t0.trans (t1.trans (t2.trans (t3.trans (Y.trans X))))).free hU);have eU8:(upd G7 U (.lst ([.ref m,.ref o,.ref r,.ref B,.ref C]++[.ref S]))) U=some (.lst [.ref m,.ref o,.ref r,.ref B,.ref C,.ref S]):=A2
  have YU:An (qc (upd G7 U (.lst ([.ref m,.ref o,.ref r,.ref B,.ref C]++[.ref S]))) U) X8 [.ref m,.ref o,.ref r,.ref B,.ref C,.ref S]:=by
   have t67:=t6.trans t7;have MT:=X.trans t67;have t47:=Y.trans MT;have t37:=t3.trans t47;have t27:=t2.trans t37;refine An.cons ⟨m,rfl,n0,(A9 n0).trans (t27 _ _ Z)⟩ (An.cons ⟨o,rfl,n1,(A9 n1).trans (t37 _ _ ep1)⟩ (An.cons ⟨r,rfl,n2,(A9 n2).trans (t47 _ _ NT)⟩ (An.cons ⟨B,rfl,n3,(A9 n3).trans (MT _ _ ep3)⟩ (An.cons ⟨C,rfl,n4,(A9 n4).trans (t67 _ _ ep4)⟩ (An.one ⟨S,rfl,n5,(A9 n5).trans ep5⟩)))))
  have nRU:R≠U:=Aa ((t1.trans (t2.trans (t3.trans (Y.trans X)))) _ _ eR) hU;have eR8:(upd G7 U (.lst ([.ref m,.ref o,.ref r,.ref B,.ref C]++[.ref S]))) R=some (.lst [.str "hall 9 9 9 9",.str "rank",.str "best",.str "answer 0",.str "answer 1",.str "call 0"]):=(A9 nRU).trans ((t1.trans (t2.trans (t3.trans (Y.trans (X.trans (t6.trans t7)))))) _ _ eR);generalize upd G7 U (.lst ([.ref m,.ref o,.ref r,.ref B,.ref C]++[.ref S]))=H8 at b8 eU8 YU eR8⊢;clear t0 t1 t2 t3 Y X t6 t7 sH7 Z ep1 NT ep3 ep4 ep5 eU eR;have RA:=hD.same b8;obtain⟨a0,b0,TB0,hx8,_⟩:=id RA;obtain⟨v1,v2,v3⟩:=V5 eY.1;have aK:Ir [3,2] none:=Uf (by decide) (by decide);refine⟨_,rfl,R,rfl,.inl ⟨⟨_,Aq.of eR8⟩,λD rR=>?_⟩⟩;have nUD:U≠D:=Aa eU8 rR;refine Bz (K:=K) (a:=R) (xs:=[.str "hall 9 9 9 9",.str "rank",.str "best",.str "answer 0",.str "answer 1",.str "call 0"]) (λi ys H'=>An (qc H' D) (X8.take i) ys/\H' D=some (.lst ys)/\Ct x H8 H'/\(i<6->Bp aD H' x l [3,2] none [3,2] 0 tv w)/\∃hv sv tb,H' x=some (.ins aD l (B7 hv sv tb w))) ⟨An.nil,A2,(Ct.refl _ _).new rR,(λ_=>RA.same (A8.upd rR)),_,_,_,(A8.upd rR) _ _ hx8⟩ (by rintro i ys H' _ ⟨_,_,b,_,_⟩;exact Aq.of (b.lst hx8 eR8)) ?_ ?_
  ·rintro i u ys H1 hu ⟨M,gF,b1,jP,hv,sv,tb,a⟩ Qe hQ
   have hi:i<6:=by
    have:=(cb.mp hu).1;exact this
   have L:=jP hi
   have N:∀(d:List V) (p:Addr) (g I:Hp) (hv sv tb:V),X8[i]?=some d->Ct x H1 g->g p=none->A8 g I->I p=some (.lst d)->g x=some (.ins aD l (B7 hv sv tb w))->(i+1<6->Bp aD g x l [3,2] none [3,2] 0 tv w)->Qe (.ref p) I:=λd p g I hv sv tb hd b2 O G J fU hS2=>by
    have gQ:=b2.lst a gF;have npD:p≠D:=Ne.symm (Aa gQ O);have qJ:=G _ _ gQ;refine hQ _ _ qJ (As (by have:=M.1;rw[List.length_take]at this;omega)) ⟨?_,A2,((b1.trans b2).trans (Ct.of G)).new rR,λh=>?_,hv,sv,tb,(A9 (Bf fU gQ HO.noConfusion)).trans (G _ _ fU)⟩
    ·rw[Ev hd];refine An.append (M.imp λd v ⟨p',e,n,z⟩=>⟨p',e,n,(A9 n).trans (G _ _ (b2.lst a z))⟩) (An.one ⟨p,rfl,npD,(A9 npD).trans J⟩)
    ·exact((hS2 h).same G).GN (og.put qJ)
   have h06:i=0\/i=1\/i=2\/i=3\/i=4\/i=5:=by omega
   rcases h06 with rfl|rfl|rfl|rfl|rfl|rfl
   ·obtain rfl:=en hu;obtain⟨a1,FG,YV,a,_⟩:=id L;refine⟨_,rfl,_,rfl,x,l,_,_,rfl,a,rfl,x,l,_,Str.ofString "hall",[9,9,9,9],none,_,_,_,_,rfl,a,A0t,.inr ⟨(λz=>absurd z (by decide)),(λz=>absurd z (by decide)),.inr (.inr (.inr (.inr (.inr (.inl ⟨rfl,by decide,by decide,(λy hy=>?_),(λc hc=>by cases hc),by decide,by decide,λg f=>⟨_,_,rfl,.inr (.inr ⟨rfl,rfl⟩),λp I O G J=>N _ p g I _ _ _ rfl (Ct.of f) O G J (f _ _ a) (λ_=>L.same f)⟩⟩)))))⟩⟩;simp only[List.mem_cons,List.not_mem_nil,or_false,or_self]at hy;subst hy;exact⟨by decide,by decide⟩
   ·obtain rfl:=en hu;obtain⟨a1,FG,YV,a,_⟩:=id L;refine⟨_,rfl,_,rfl,x,l,_,_,rfl,a,rfl,x,l,_,Str.ofString "rank",[],none,_,_,_,_,rfl,a,Tc,.inr ⟨(λz=>absurd z (by decide)),(λ_ z=>by cases z),.inr (.inr (.inr (.inr (.inl ⟨[3,2],[3,2],none,0,tv,rfl,L,eY,λg f=>⟨_,rfl,λp I O G J=>?_⟩⟩))))⟩⟩
    have e:Tb tv ([3,2],0)=Str.ofString "safe":=by
     unfold Tb;rw[v1]
    rw[e]at J;exact N _ p g I _ _ _ rfl (Ct.of f) O G J (f _ _ a) (λ_=>L.same f)
   ·obtain rfl:=en hu;obtain⟨a1,FG,YV,a,_⟩:=id L;refine⟨_,rfl,_,rfl,x,l,_,_,rfl,a,rfl,x,l,_,Str.ofString "best",[],none,_,_,_,_,rfl,a,d8,.inr ⟨(λz=>absurd z (by decide)),(λ_ z=>by cases z),.inr (.inl ⟨[3,2],[3,2],none,0,tv,rfl,L,Nu eY.1,aK,rfl,λj g f NC=>⟨_,rfl,λp I O G J=>?_⟩⟩)⟩⟩
    have e:Bh (j:Int)=Str.ofString "0":=by
     rw[qk eY.1 NC];decide+kernel
    rw[e]at J;exact N _ p g I _ _ _ rfl (Ct.of f) O G J (f _ _ a) (λ_=>L.same f)
   ·obtain rfl:=en hu;obtain⟨a1,FG,YV,a,_⟩:=id L;refine⟨_,rfl,_,rfl,x,l,_,_,rfl,a,rfl,x,l,_,Str.ofString "answer",[0],none,_,_,_,_,rfl,a,wo,.inr ⟨(λz=>absurd z (by decide)),(λ_ z=>by cases z),.inr (.inr (.inr (.inl ⟨[3,2],[3,2],none,0,tv,0,rfl,rfl,L,Nu eY.1,by decide,rfl,by decide,λg f=>⟨_,rfl,λp I O G J=>?_⟩⟩)))⟩⟩;exact N _ p g I _ _ _ rfl (Ct.of f) O G J (f _ _ a) (λ_=>L.same f)
   ·obtain rfl:=en hu;obtain⟨a1,FG,YV,a,_⟩:=id L;refine⟨_,rfl,_,rfl,x,l,_,_,rfl,a,rfl,x,l,_,Str.ofString "answer",[1],none,_,_,_,_,rfl,a,wq,.inr ⟨(λz=>absurd z (by decide)),(λ_ z=>by cases z),.inr (.inr (.inr (.inl ⟨[3,2],[3,2],none,0,tv,1,rfl,rfl,L,Nu eY.1,by decide,rfl,by decide,λg f=>⟨_,rfl,λp I O G J=>?_⟩⟩)))⟩⟩;exact N _ p g I _ _ _ rfl (Ct.of f) O G J (f _ _ a) (λ_=>L.same f)
   ·obtain rfl:=en hu;obtain⟨a1,FG,YV,a,_⟩:=id L;refine⟨_,rfl,_,rfl,x,l,_,_,rfl,a,rfl,x,l,_,Str.ofString "call",[0],none,_,_,_,_,rfl,a,wu,.inr ⟨(λz=>absurd z (by decide)),(λ_ z=>by cases z),.inr (.inr (.inl ⟨[3,2],[3,2],none,0,tv,0,false,rfl,rfl,L,by decide,aK,Tl aK,(λz=>nomatch z),λg b2 gQ=>⟨_,rfl,λp I O G J=>?_⟩⟩))⟩⟩;rw[yn]at J;obtain⟨_,_,_,fU,_⟩:=id gQ;exact N _ p g I _ _ _ rfl b2 O G J fU (λz=>absurd z (by decide))
  rintro ys H1 ⟨M,gF,b1,_,hv,sv,tb,a⟩;refine⟨_,rfl,_,_,dc gF M,dc (b1.lst hx8 eU8) (YU.imp λd v ⟨p,e,n,z⟩=>⟨p,e,n,b1.lst hx8 z⟩),(by decide),?_⟩;show Q (.bl (PyData.eqv (.list O1) (.list O1))) H1;rw[show PyData.eqv (.list O1) (.list O1)=true by decide+kernel];exact q hv sv tb H1 ((Ct.of b8).trans b1) a
def sp_law(K:W.Frag)(aG:Addr):Sp:=λd H Q _=>Ld λ(a:Addr) (b:qG)=>Im (d=[.ref a]) (Aq K H a (b.map V.int)) (b.length<=63) ((∀z∈b,intBits z<=2^20)) (H aG=some (.tab lamQ lamP)) (∀c,c aG=some (.tab lamQ lamP)->Q (.bl true) c)
theorem sw{fd YW hV tK OC OD OE YX:q7}(F:D4 K "law" "law" Jo ad.mB fd)(xB:Gk P w K mg base 1 ad.rA ["self"] (pp K aA aE aF aB aC aD aG) YW)(cM:Gk P w K mg base 10 ad.gE ["desk","row"] (O0 K aA aE aF aB aC aD aG) hV)(mP:Gk P w K mg base 1 ad.iY ["cell"] (Vk K) tK)(wD:Gk P w K mg base 2 ad.lV ["number","wide"] (ix K) OC)(wF:Gk P w K mg base 11 ad.lY ["desk","kept","waits"] (iy K aA aE aF aB aC aD aG) OD)(mQ:Gk P w K mg base 11 ad.lZ ["desk","kept","number"] (j9 K aA aE aF aB aC aD aG) OE)(EN:Gk P w K mg base 11 ad.rF ["desk"] (ph K aA aE aF aB aC aD aG) YX):B3 P w K mg base (CX1 P w) 12 ad.mB fd ["script"] (sp_law K aG):=by
 refine F.okN Dj (λvs H Q E h=>?_) (λbK A outer s H vs Q E v h=>?_)
 ·rcases h with⟨a,ns,rfl,hS,hlen,tE,hT,q⟩<;>rfl
 ·obtain⟨a,ns,rfl,hS,hlen,tE,hT,q⟩:=h;refine⟨_,(A3 (Ad (i:=1) Dj.nd rfl (Or.inl rfl) (B6 (A0 (Su T.uU xB.g (v.mono (by decide)) (by rfl) T.zA xB.b .nil Ap) (A0 (Su T.uU xB.g (v.mono (by decide)) (by rfl) T.zA xB.b .nil Ap) A4)))) (A3 (Ad (i:=2) Dj.nd rfl (Or.inl rfl) (B6 (A0 Bj (A0 Bj A4)))) (A3 (Az (Ai (Uu v) (Ac cM.g (v.mono (by decide)) rfl T.nF T.nG cM.b .nil Ap (A0 (Au (Aw K) (pv 1) A7 (λ_ _=>rfl)) (A0 Ah A4))) (B6 (A0 Ah (A0 Ah A4))) (Ag _)) (A5 (Ab Fi)) Ae) (A3 (Ad (i:=3) Dj.nd rfl (Or.inl rfl) Fi) (A3 (C1 ml rfl (Cd (Ec (Ef K) (pv 0) Hl (Es A7))) (Aj (i:=4) Dj.nd rfl (Or.inl rfl)) (A3 (Ad (i:=5) Dj.nd rfl (Or.inl rfl) (Ac mP.g (v.mono (by decide)) rfl T.GH T.GI mP.b .nil Ap (A0 (pv 4) A4))) (A3 (Ad (i:=6) Dj.nd rfl (Or.inl rfl) (Al C0 (pv 5) A7)) (A3 (Ad (i:=7) Dj.nd rfl (Or.inl rfl) Fi) (A3 (Di (Ai C7 (Al C0 (Al Cr (pv 5) A7) A7) A7 (Ag _)) (A3 (Ad (i:=8) Dj.nd rfl (Or.inl rfl) (Ac wD.g (v.mono (by decide)) rfl T.VX T.VY wD.b .nil Ap (A0 (Al Cr (pv 5) A7) (A0 (pv 3) A4)))) (A3 (Ad (i:=3) Dj.nd rfl (Or.inl rfl) (Hk (pv 3) (Hb (Bd Fh (Ak (Bs K) (by rfl) T.eK PySem.boot_len (A0 (pv 8) A4)) A7 (Ag _))))) (A3 (Ig (Ac wF.g (v.mono (by decide)) rfl T.WD T.WE wF.b .nil Ap (A0 (Au (Aw K) (pv 1) (pv 6) (λ_ _=>rfl)) (A0 (Au (Aw K) (pv 2) (pv 6) (λ_ _=>rfl)) (A0 (pv 8) A4)))) (Wl K (n:=2) rfl (Ba (Aj (i:=7) Dj.nd rfl (Or.inl rfl)) (Ba (Aj (i:=9) Dj.nd rfl (Or.inl rfl)) Df)))) (A5 (Ig (pv 9) (No (pv 2) (pv 6) Hf)))))) (A5 (Ad (i:=7) Dj.nd rfl (Or.inl rfl) (Ac mQ.g (v.mono (by decide)) rfl T.yP T.yQ mQ.b .nil Ap (A0 (Au (Aw K) (pv 1) (pv 6) (λ_ _=>rfl)) (A0 (Au (Aw K) (pv 2) (pv 6) (λ_ _=>rfl)) (A0 (Al Cr (pv 5) A7) A4))))))) (A5 (Az (D9 (Bk (pv 7))) (A5 (Ab Fi)) Ae))))))) (A3 (Az (PW.pt (d4 (D9 (Bk (Ac EN.g (v.mono (by decide)) rfl T.m_x5 T.k_x5 EN.b .nil Ap (A0 (Au (Aw K) (pv 1) A7 (λ_ _=>rfl)) A4)))) (Ee (Ai (Uu v) (Ac cM.g (v.mono (by decide)) rfl T.nF T.nG cM.b .nil Ap (A0 (Au (Aw K) (pv 1) A7 (λ_ _=>rfl)) (A0 Ah A4))) (B6 (A0 Ah (A0 A7 A4))) (Ag _))))) (A5 (Ab Fi)) Ae) (A3 (Az (Ai (Uu v) (Ac cM.g (v.mono (by decide)) rfl T.nF T.nG cM.b .nil Ap (A0 (Au (Aw K) (pv 1) A7 (λ_ _=>rfl)) (A0 Ah A4))) (B6 (A0 Ah (A0 Ah A4))) (Ag _)) (A5 (Ab Fi)) Ae) (A5 (Ab (mi (Ac mQ.g (v.mono (by decide)) rfl T.yP T.yQ mQ.b .nil Ap (A0 (Au (Aw K) (pv 1) A7 (λ_ _=>rfl)) (A0 (Au (Aw K) (pv 2) A7 (λ_ _=>rfl)) (A0 A7 A4)))) (Hb (Ac mQ.g (v.mono (by decide)) rfl T.yP T.yQ mQ.b .nil Ap (A0 (Au (Aw K) (pv 1) A7 (λ_ _=>rfl)) (A0 (Au (Aw K) (pv 2) A7 (λ_ _=>rfl)) (A0 A7 A4))))))))))))))),?_⟩;refine λg x hx0 YY hne0=>⟨g,x,rfl,A2,λH1 b1 e1=>⟨rfl,?_⟩⟩;have s1:A8 H H1:=λb o e=>b1 b o (Aa e hx0) (by rw[A9 (Aa e hx0),A9 (Aa e YY)];exact e);refine λn L X YZ hne1=>⟨n,L,rfl,A2,λH2 b2 e2=>⟨rfl,?_⟩⟩;have s2:A8 H1 H2:=λb o e=>b2 b o (Aa e X) (by rw[A9 (Aa e X),A9 (Aa e YZ)];exact e);have OF:g≠n:=Aa e1 X;have LX:=s2 _ _ e1;clear b1 b2 hx0 YY hne0 X YZ hne1 e1;refine⟨B4,λm hds=>?_⟩;have s3:A8 H2 (upd H2 m (.lst [.ref g,.ref n])):=A8.upd hds;have e3:(upd H2 m (.lst [.ref g,.ref n])) m=some (.lst [.ref g,.ref n]):=A2;generalize upd H2 m (.lst [.ref g,.ref n])=H3 at s3 e3⊢;refine⟨B4,λf hka=>?_⟩;have ndk:m≠f:=Aa e3 hka;have s4:A8 H3 (upd H3 f (.lst [.bN,.bN])):=A8.upd hka;have e4:(upd H3 f (.lst [.bN,.bN])) f=some (.lst [.bN,.bN]):=A2;generalize upd H3 f (.lst [.bN,.bN])=H4 at s4 e4⊢;have XH:=((s1.trans s2).trans s3).trans s4;have OG:=s4 _ _ (s3 _ _ LX);have ex1:=s4 _ _ (s3 _ _ e2);have ed4:=s4 _ _ e3;have hT4:=XH _ _ hT;have hS4:=XH.seq hS;clear LX e2 s1 s2 s3 s4 e3 XH;refine⟨_,rfl,m,_,_,_,rfl,rfl,.inl (Aq.of ed4),rfl,g,x,_,_,rfl,OG,rfl,g,x,_,Str.ofString "hall",[3,2],none,_,_,_,_,rfl,OG,wn,.inr ⟨(λz=>absurd z (by decide)),(λz=>absurd z (by decide)),.inl ⟨rfl,Uf (by decide) (by decide),λtv H5 b5 sU eY=>⟨_,rfl,λp H6 hp s6 C=>?_⟩⟩⟩⟩
  have eh:Mw tv ([3,2],0)=Str.ofString "kept":=by
   unfold Mw;rw[(V5 eY.1).1]
  rw[eh]at C;refine⟨B4,λr kC=>?_⟩;have s7:A8 H6 (upd H6 r (.lst [.str "told",.str "kept"])):=A8.upd kC;refine⟨_,_,D2 (s7 _ _ C) (by decide+kernel),D2 A2 (by decide+kernel),(by show 1<=60;decide),_,rfl,Ar ?_ ?_⟩
  ·show(!PyData.eqv (.list [.str (Str.ofString "told"),.str (Str.ofString "kept")]) (.list [.str (Str.ofString "told"),.str (Str.ofString "kept")]))=false;rw[J1];rfl
  generalize upd H6 r (.lst [.str "told",.str "kept"])=H7 at s7⊢;have xO:=s6.trans s7;have hT7:=xO _ _ (b5 _ _ (Bf hT4 OG HO.noConfusion) hT4);have hS7:=xO.seq (b5.seq OG hS4)
  have ZA:jt aD H7 g n x L m f:=by
   refine⟨.bN,.bN,.bN,.bN,xO _ _ (b5.lst OG ed4),xO _ _ (b5.lst OG e4),λj B=>?_⟩;have h1:j=0\/j=1:=by omega
   rcases h1 with rfl|rfl
   ·obtain⟨_,_,_,hx5,_⟩:=id sU;exact⟨⟨_,_,_,xO _ _ hx5,(λ_=>⟨tv,sU.same xO,eY⟩),λz=>by cases z⟩,.inl ⟨rfl,rfl⟩⟩
   ·exact⟨⟨_,_,_,xO _ _ (b5 _ _ (Ne.symm OF) ex1),(λz=>by cases z),λ_=>rfl⟩,.inl ⟨rfl,rfl⟩⟩
  clear sU eY b5 s6 s7 xO C OG ex1 ed4 e4 hS4 hT4 eh;refine⟨_,rfl,_,rfl,a,_,rfl,hS7,λR xN=>?_⟩;rw[P0];have hcb:∀c∈U7 ns none (some 40),intBits c<=2^20:=λc hc=>tE c (Zt hc);generalize U7 ns none (some 40)=cs at hcb⊢
  have nlk:R≠f:=by
   obtain⟨_,_,_,_,_,h,_⟩:=ZA;exact Ne.symm (Aa h xN)
  have s8:A8 H7 (upd H7 R (.lst (cs.map V.int))):=A8.upd xN;have e8:(upd H7 R (.lst (cs.map V.int))) R=some (.lst (cs.map V.int)):=A2;generalize upd H7 R (.lst (cs.map V.int))=H8 at s8 e8⊢;refine⟨R,rfl,.inl ⟨⟨_,Aq.of e8⟩,?_⟩⟩;refine Cl (K:=K) (a:=R) (xs:=cs.map V.int) (λi σ y=>yw λ(wd:Bool) (v4 v5 v6 v7 v8 v9:Option V)=>Fp (σ=[some (.ref a),some (.ref m),some (.ref f),some (.bl wd),v4,v5,v6,v7,v8,v9]) (y R=some (.lst (cs.map V.int))) (y aG=some (.tab lamQ lamP)) (jt aD y g n x L m f)) ⟨true,_,_,_,_,_,_,rfl,e8,s8 _ _ hT7,ZA.same s8⟩ (by rintro i σ y _ ⟨_,_,_,_,_,_,_,_,e,_⟩;exact Aq.of e) ?_ ?_
  ·rintro i u σ H9 hu ⟨wd,v4,v5,v6,v7,v8,v9,rfl,el,M,FK⟩;rw[List.getElem?_map]at hu;obtain⟨c,hc,rfl⟩:=dI.mp hu;refine⟨_,rfl,c,rfl,hcb c (cI hc),λr kC oS=>?_⟩;have LP:=Bo r (show(0:Int)<2 by decide);refine⟨_,rfl,_,_,rfl,rfl,by simp,?_⟩;dsimp only;generalize r%2=tI at LP⊢;obtain⟨t,rfl⟩:∃t:Nat,tI=t:=⟨tI.toNat,by omega⟩;have U:t<2:=by omega
   obtain⟨k0,k1,S,w1,Y,Z,I⟩:=id FK;obtain⟨⟨hv,sv,tb,D,hdk⟩,hWt⟩:=I t U;have ZC:Oa [V.ref g,V.ref n] (t:Int)=some (.ref (tw g n t)):=by rw[Zl U,yo]
   have ZD:Oa [k0,k1] (t:Int)=some (tw k0 k1 t):=Zl U;refine⟨_,rfl,_,_,rfl,rfl,⟨by decide,by decide⟩,_,_,rfl,rfl,by simp,rfl,_,rfl,(λσ' y=>O5 λ(wd:Bool) (v8 v9:Option V)=>Fp (σ'=[some (.ref a),some (.ref m),some (.ref f),some (.bl wd),some (.int c),some (.int r),some (.int (t:Int)),some (.bl true),v8,v9]) (y R=some (.lst (cs.map V.int))) (y aG=some (.tab lamQ lamP)) (jt aD y g n x L m f)),λ_=>?_,λ_=>?_,?_⟩
   ·refine⟨_,rfl,_,_,rfl,rfl,⟨by decide,by decide⟩,_,rfl,r/6,wd,rfl,by omega,by omega,λp xs xM hp l C sQ CM HL=>?_⟩;have J:=l _ _ D;refine⟨_,rfl,wd,decide ((xs.length:Int)<8),rfl,(λ_ Q1 z1=>⟨_,rfl,p,_,rfl,.inl (Aq.of C),_,_,rfl,rfl,?_⟩),?_⟩
    ·rw[List.length_map];exact z1
    refine⟨_,rfl,_,rfl,m,_,_,_,rfl,rfl,.inl (Aq.of (l _ _ Y)),ZC,_,rfl,_,rfl,f,_,_,_,rfl,rfl,.inl (Aq.of (l _ _ Z)),ZD,_,rfl,tw g n t,tw x L t,hv,sv,tb,tw S w1 t,tw k0 k1 t,p,xs,rfl,J,C,sQ,CM,HL,l _ _ M,λr0 KN G er=>?_,λr0 k pw us hJ rs KN OH hk DN NZ N epw all ekk all2 er=>?_⟩
    ·have s9:=l.trans G;have O:=s9 _ _ Z;refine⟨r0,_,rfl,Aq.of er,rfl,_,_,rfl,_,_,rfl,rfl,?_⟩;refine⟨_,rfl,_,rfl,_,rfl,f,_,_,_,rfl,rfl,O,Hj (by simpa using U),?_⟩;rw[Gb U];refine⟨_,_,_,rfl,(A9 nlk).trans (s9 _ _ el),(A9 (Bf (s9 _ _ M) O HO.noConfusion)).trans (s9 _ _ M),jt.put (w0:=S) (w1:=w1) (s9 _ _ Y) O ndk λj B=>?_⟩;rw[Vt B];refine⟨(I j B).1.same s9,?_⟩;by_cases e:j=t
     ·subst e;rw[if_pos rfl];exact(I j B).2.same s9
     ·rw[if_neg e];exact(I j B).2.same s9
    ·have O:=OH.lst J (l _ _ Z);have zY:=OH _ _ (Bf (l _ _ M) J HO.noConfusion) (l _ _ M);refine⟨r0,_,rfl,Aq.of er,rfl,_,_,rfl,_,_,rfl,rfl,?_⟩;refine⟨_,rfl,_,rfl,_,rfl,f,_,_,_,rfl,rfl,O,Hj (by simpa using U),?_⟩;rw[Gb U];refine⟨_,_,_,rfl,(A9 nlk).trans (OH.lst J (l _ _ el)),(A9 (Bf zY O HO.noConfusion)).trans zY,jt.put (w0:=if 0=t then .ref pw else S) (w1:=if 1=t then .ref pw else w1) (OH.lst J (l _ _ Y)) O ndk λj B=>?_⟩;rw[Vt B,Vt B];by_cases e:j=t
     ·subst e;rw[if_pos rfl,if_pos rfl];have nk:k≠f:=Ne.symm (Aa (l _ _ Z) hk);have np:pw≠f:=Ne.symm (Aa (l _ _ Z) DN);exact⟨((I j B).1.same l).wheel OH J N,.inr ⟨k,pw,us,hJ,rs,rfl,rfl,nk,np,epw,all,ekk,all2,NZ⟩⟩
     ·rw[if_neg e,if_neg e];exact⟨((I j B).1.same l).but OH J (A1k OF B U e),((I j B).2.same l).but OH J⟩
   ·refine⟨_,rfl,_,rfl,m,_,_,_,rfl,rfl,.inl (Aq.of Y),ZC,_,rfl,_,rfl,f,_,_,_,rfl,rfl,.inl (Aq.of Z),ZD,_,rfl,_,_,rfl,rfl,⟨by decide,by decide⟩,tw g n t,tw x L t,f,hv,sv,tb,tw S w1 t,tw k0 k1 t,r/6,rfl,D,hWt,by omega,by omega,λxM l=>?_⟩;exact⟨wd,_,_,rfl,l _ _ el,l _ _ M,FK.same l⟩
   rintro σ' xM ⟨wd,v8,v9,rfl,el,hT10,FK⟩;exact⟨_,rfl,_,rfl,Ar rfl ⟨wd,_,_,_,_,_,_,rfl,el,hT10,FK⟩⟩
  rintro σ H9 ⟨wd,v4,v5,v6,v7,v8,v9,rfl,_,M,FK⟩;obtain⟨k0,k1,S,w1,Y,Z,I⟩:=id FK;obtain⟨⟨hv,sv,tb,D,hdk,_⟩,hW0⟩:=I 0 (by decide);obtain⟨⟨hv1,sv1,tb1,X,_,tJ⟩,hW1⟩:=I 1 (by decide);obtain rfl:=tJ rfl;obtain⟨tv,hD,eY⟩:=hdk rfl;have D:H9 g=some (.ins aD x (B7 hv sv tb S)):=D;have X:H9 n=some (.ins aD L (B7 .bN sv1 tb1 w1)):=X;have hW0:W4 H9 f k0 S:=hW0;have hW1:W4 H9 f k1 w1:=hW1;have n10:n≠g:=Ne.symm OF;refine⟨_,rfl,m,_,_,_,rfl,rfl,.inl (Aq.of Y),rfl,g,x,tv,S,rfl,hD,eY,λJX sv' tb' xM OI J=>?_⟩;have zX:=OI _ _ n10 X;refine⟨_,rfl,(λd y=>d=false/\A8 xM y),(λz=>nomatch z),λ_=>?_,?_⟩
  ·refine⟨_,rfl,m,_,_,_,rfl,rfl,.inl (Aq.of (OI.lst D Y)),rfl,n,L,_,_,rfl,zX,rfl,n,L,_,Str.ofString "rank",[],none,_,_,_,_,rfl,zX,Tc,.inl ⟨.inr ⟨by decide,rfl⟩,λKN G=>⟨_,_,rfl,.inl ⟨rfl,rfl⟩,λp H12 hp dH C=>?_⟩⟩⟩;refine⟨B4,λr kC=>?_⟩;refine⟨_,_,Jn ((A8.upd kC) _ _ C),Jn A2,(by show 1<=60;decide),_,rfl,?_,(G.trans dH).trans (A8.upd kC)⟩;show(!PyData.eqv (.list [.str (Str.ofString "refused"),.int 1]) (.list [.str (Str.ofString "refused"),.int 1]))=false;rw[Sc];rfl
  rintro d KN ⟨rfl,G⟩;refine Ar rfl ?_;have N:=G _ _ J;have ZE:=G _ _ (OI.lst D Y);have O:=G _ _ (OI.lst D Z);have ZF:=G _ _ zX;have hW01:=(hW0.but OI D).same G;have hW11:=(hW1.but OI D).same G;have zY:=G _ _ (OI _ _ (Bf M D HO.noConfusion) M);refine⟨_,rfl,m,_,_,_,rfl,rfl,.inl (Aq.of ZE),rfl,g,x,_,_,rfl,N,rfl,g,x,_,Str.ofString "hall",[2,3],none,_,_,_,_,rfl,N,wm,.inr ⟨(λz=>absurd z (by decide)),(λz=>absurd z (by decide)),.inl ⟨rfl,Uf (by decide) (by decide),λtv2 H12 RM hD12 ZG=>⟨_,rfl,λp H13 hp wY C=>?_⟩⟩⟩⟩
  have eh:Mw tv2 ([2,3],0)=Str.ofString "kept":=by
   unfold Mw;rw[xk ZG.1]
  rw[eh]at C;refine⟨B4,λr kC=>?_⟩;have s14:A8 H13 (upd H13 r (.lst [.str "told",.str "kept"])):=A8.upd kC;refine⟨_,_,D2 (s14 _ _ C) (by decide+kernel),D2 A2 (by decide+kernel),(by show 1<=60;decide),_,rfl,Ar ?_ ?_⟩
  ·show(!PyData.eqv (.list [.str (Str.ofString "told"),.str (Str.ofString "kept")]) (.list [.str (Str.ofString "told"),.str (Str.ofString "kept")]))=false;rw[J1];rfl
  generalize upd H13 r (.lst [.str "told",.str "kept"])=H14 at s14⊢;have zW:=wY.trans s14;obtain⟨_,_,_,hx12,_⟩:=id hD12;have hx14:=zW _ _ hx12;have ZH:=zW _ _ (RM.lst N ZE);have ZI:=zW _ _ (RM.lst N O);have ZJ:=zW _ _ (RM _ _ n10 ZF);have hW04:=(hW01.but RM N).same zW;have hW14:=(hW11.but RM N).same zW;have hT14:=zW _ _ (RM _ _ (Bf zY N HO.noConfusion) zY);refine⟨_,rfl,m,_,_,_,rfl,rfl,.inl (Aq.of ZH),rfl,_,rfl,f,_,_,_,rfl,rfl,.inl (Aq.of ZI),rfl,g,x,f,_,_,_,S,k0,0,rfl,hx14,hW04,by decide,by decide,λH15 DU=>?_⟩;refine⟨true,(λd y=>d=true/\A8 H15 y),rfl,(λz=>nomatch z),λ_=>?_,?_⟩
  ·refine⟨_,rfl,m,_,_,_,rfl,rfl,.inl (Aq.of (DU _ _ ZH)),rfl,_,rfl,f,_,_,_,rfl,rfl,.inl (Aq.of (DU _ _ ZI)),rfl,n,L,f,_,_,_,w1,k1,7,rfl,DU _ _ ZJ,hW14.same DU,by decide,by decide,λH16 QZ=>?_⟩;exact⟨true,rfl,rfl,QZ⟩
  ·rintro d H16 ⟨rfl,QZ⟩;exact q _ (QZ _ _ (DU _ _ hT14))
end
structure Dx(K:W.Frag)(n:Str)(st:Stmt)(f:Addr):Prop where
 a:W.nsIn K mainGlobals n=some (some (.ref f))
 e:∃fd,D4 K n n st f fd
 k:W.keepIn K (.ref f)=true
structure Zf(K:W.Frag)(x n:Str)(st:Stmt)(f:Addr):Prop where
 a:W.isFn K (.ref f)=true
 e:∃fd,D4 K x n st f fd
 k:W.keepIn K (.ref f)=true
theorem Dx.m0{K:W.Frag}{n:Str}{st:Stmt}{f:Addr}{h:q3}{i e:Option Addr}{g:Array (Option q3)}{kV b j d ct:q3}(a:W.nsIn K mainGlobals n=some (some (.ref f)))(l:K.lookup f=some ⟨h,i,.func (W.fnOf n n (Bv st) (Bi st) (A6 st) .none kV b j e d ct),g⟩)(c:W.codeIn K d n=true)(k:W.keepIn K (.ref f)=true):Dx K n st f:=⟨a,⟨_,Qk l c k⟩,k⟩
theorem Zf.m1{K:W.Frag}{x n:Str}{st:Stmt}{f:Addr}{h:q3}{i e:Option Addr}{g:Array (Option q3)}{kV b j d ct:q3}(a:W.isFn K (.ref f)=true)(l:K.lookup f=some ⟨h,i,.func (W.fnOf x n (Bv st) (Bi st) (A6 st) .none kV b j e d ct),g⟩)(c:W.codeIn K d n=true)(k:W.keepIn K (.ref f)=true):Zf K x n st f:=⟨a,⟨_,Qk l c k⟩,k⟩
local macro_rules | `(tactic| trivial)=>`(tactic| (intro _ _ _ _ _ _ us hl; first | (obtain e:=A1l hl; subst e; rfl) | (obtain ⟨_,e⟩ := yp hl; subst e; rfl) | (obtain ⟨_,_,e⟩ := yq hl; subst e; rfl) | (obtain ⟨_,_,_,e⟩ := nz hl; subst e; rfl) | (obtain ⟨_,_,_,_,e⟩ := yr hl; subst e; rfl)))
theorem all_mk{l:W.OpenLaw}{w:ra}{K:W.Frag}{h:Heap}{mg:Str->Option q3}{fa:Addr}(X:K.In h)(G:h.Ns mainGlobals mg)(hfa:mg "law"=some (.ref fa)){iP kQ kR kS iQ kT qW gB kU gS kW iR kX gC iT gT kY qX iU kZ fG iV gD iW lA lB lC qY lD qZ lF iX lG lH lI lJ lK lL lM lN lO lP rA rB lQ lR rC rD lS rE lU iY lV iZ lW lX gE lY lZ rF mB a aE aF b d aM bR aR bS bT bU cL f aG rK bM aQ aO:Addr}{OJ OK OL tM OM tO ON tP OO zZ:Option Addr}{OP OQ OS OT OU:Array (Option q3)}{OV OW OX OY tQ OZ PB tR tS tT pS tU PD tV tW tX pT tY PF tZ uA uB pU uC PH AA AB AD uD AE:q3}{pV:Addr}{PJ:q3}{PL:Option Addr}{PM:Nat}{PN:Array (Option q3)}{pW:Addr}{PQ:q3}{PR:Option Addr}{PU:Nat}{PV:Array (Option q3)}{pX:Addr}{PX:q3}{PY:Option Addr}{PZ:Nat}{QA:Array (Option q3)}
  (AF:Dx K "divisor" fq iP)
  (AG:Dx K "least_round" dq kQ)
  (AH:Dx K "shares" X3 kR)
  (AI:Dx K "are_chain" Wx kS)
  (AJ:Dx K "have_room" f7 iQ)
  (AK:Dx K "free_first" dz kT)
  (QB:Dx K "rising_firsts" xi qW)
  (ZK:W.nsIn K mainGlobals "chain_wheel"=some (some (.ref gB)))(ZL:K.lookup gB=some ⟨OV,OJ,.func (W.fnOf "chain_wheel" "chain_wheel" (Bv Jp) (Bi Jp) (A6 Jp) .none OW OX OY OK tQ OZ),OP⟩)(ZM:W.codeIn K tQ "chain_wheel"=true)(uS:W.keepIn K (.ref gB)=true)
  (AL:Dx K "doubling" fe kU)
  (AM:Dx K "doubled" Tg gS)
  (AN:Dx K "halved_down" du kW)
  (AO:Dx K "best_base" Tf iR)
  (AQ:Dx K "wheel_for" f8 kX)
  (ZN:W.nsIn K mainGlobals "hall_of"=some (some (.ref gC)))(ZO:K.lookup gC=some ⟨PB,OL,.func (W.fnOf "hall_of" "hall_of" (Bv Gg) (Bi Gg) (A6 Gg) (.ref pV) tR tS tT tM pS tU),OQ⟩)(ZP:W.codeIn K pS "hall_of"=true)(yH:W.keepIn K (.ref gC)=true)(HN:K.lookup pV=some ⟨PJ,PL,.seq #[Value.none] PM,PN⟩)
  (AR:Dx K "beginning" f9 iT)
  (AS:Dx K "may_lose" ff gT)
  (AU:Dx K "is_listener" dv kY)
  (QC:Dx K "refuse_wrong_turn" xc qX)
  (AV:Dx K "left_behind" Wv iU)
  (AW:Dx K "quiet_behind" di kZ)
  (ZQ:W.nsIn K mainGlobals "after"=some (some (.ref fG)))(ZR:K.lookup fG=some ⟨PD,OM,.func (W.fnOf "after" "after" (Bv Gh) (Bi Gh) (A6 Gh) (.ref pW) tV tW tX tO pT tY),OS⟩)(ZS:W.codeIn K pT "after"=true)(nD:W.keepIn K (.ref fG)=true)(HP:K.lookup pW=some ⟨PQ,PR,.seq #[Value.bool false] PU,PV⟩)
  (AX:Dx K "all_behind" eg iV)
  (ZT:W.nsIn K mainGlobals "broken_ones"=some (some (.ref gD)))(ZU:K.lookup gD=some ⟨PF,ON,.func (W.fnOf "broken_ones" "broken_ones" (Bv Fl) (Bi Fl) (A6 Fl) (.ref pX) tZ uA uB tP pU uC),OT⟩)(ZV:W.codeIn K pU "broken_ones"=true)(yK:W.keepIn K (.ref gD)=true)(HQ:K.lookup pX=some ⟨PX,PY,.seq #[Value.bool false] PZ,QA⟩)
  (AY:Dx K "quiet_values" dj iW)
  (AZ:Dx K "how_many" fg lA)
  (BA:Dx K "all_left" X2 lB)
  (BB:Dx K "standings" Wy lC)
  (QD:Dx K "calls_by_standing" xf qY)
  (BC:Dx K "ways_to" fu lD)
  (QE:Dx K "without_calls_left" wz qZ)
  (BD:Dx K "ranks" X4 lF)
  (BE:Dx K "worth" fz iX)
  (BF:Dx K "call_worth" Ww lG)
  (BG:Dx K "best_call" Wz lH)
  (BH:Dx K "worst_answer" dk lI)
  (BI:Dx K "heard" g7 lJ)
  (BJ:Dx K "is_number" X0 lK)
  (BK:Dx K "numbers_of" Te lL)
  (BL:Dx K "takes" g8 lM)
  (BM:Dx K "row_read" fh lN)
  (BN:Dx K "numbers_text" Wu lO)
  (BO:Dx K "place_text" f6 lP)
  (ZW:Zf K "__init__" "Desk.__init__" xj rA)
  (QF:Zf K "refuse_without_stand" "Desk.refuse_without_stand" wy rB)
  (BP:Zf K "put" "Desk.put" fi lQ)
  (BQ:Zf K "new_hall" "Desk.new_hall" dh lR)
  (QG:Zf K "new_wheel" "Desk.new_wheel" nq rC)
  (QH:Zf K "rank_text" "Desk.rank_text" xh rD)
  (BR:Zf K "do_turn" "Desk.do_turn" dl lS)
  (QI:Zf K "told_of_one" "Desk.told_of_one" xg rE)
  (BS:Zf K "told" "Desk.told" fb lU)
  (BU:Dx K "_law_big" fw iY)
  (BV:Dx K "_law_waits" fc lV)
  (BW:Dx K "_law_figures" dw iZ)
  (BX:Dx K "_law_rows" fj lW)
  (BZ:Dx K "_law_kind" fk lX)
  (CA:Dx K "_law_told" fm gE)
  (CB:Dx K "_law_wheel" X1 lY)
  (CC:Dx K "_law_turn" fo lZ)
  (QJ:Dx K "_law_hall_stands" nl rF)
  (HR:W.nsIn K mainGlobals "law"=some (some (.ref mB)))(ZX:K.lookup mB=some ⟨PH,OO,.func (W.fnOf "law" "law" (Bv Jo) (Bi Jo) (A6 Jo) .none AA AB AD zZ uD AE),OU⟩)(ZY:W.codeIn K uD "law"=true)(yR:W.keepIn K (.ref mB)=true)
  (ER:W.plainGet K f Str.empty=true)(ES:W.hasDictIn K f=true)(ET:W.plainOver K f=true)(EU:W.findIn K (.ref f) "__setattr__"=some (some (.builtin "object.__setattr__")))(EV:W.makesIn K f=true)(EW:W.keepIn K (.ref f)=true)(fm_x9:W.findIn K (.ref f) "__init__"=some (some (.ref rA)))(q:W.findIn K (.ref f) "told"=some (some (.ref lU)))(fm_x4:W.findIn K (.ref f) "told_of_one"=some (some (.ref rE)))(fm_x0:W.findIn K (.ref f) "refuse_without_stand"=some (some (.ref rB)))(r:W.findIn K (.ref f) "put"=some (some (.ref lQ)))(o:W.findIn K (.ref f) "new_hall"=some (some (.ref lR)))(fm_x6:W.findIn K (.ref f) "new_wheel"=some (some (.ref rC)))(fm_x7:W.findIn K (.ref f) "rank_text"=some (some (.ref rD)))(p:W.findIn K (.ref f) "do_turn"=some (some (.ref lS)))(pY:W.findIn K (.ref f) "hall"=some none)(kE:W.findIn K (.ref f) "standing"=some none)(nY:W.findIn K (.ref f) "table"=some none)(nZ:W.findIn K (.ref f) "wheel"=some none)
  {uE:Nat}(xC:W.nsIn K mainGlobals "FIGURES"=some (some (.str "0123456789" uE))){nK nL oA:Nat}{oB:Option Addr}{oC:Array (Option q3)}(pZ:W.nsIn K mainGlobals "ROWS_ALONE"=some (some (.ref bM)))(fL:K.lookup bM=some ⟨.type "tuple",oB,.seq #[.str "best" nK,.str "rank" nL] oA,oC⟩){jC jD jE jF jG jH kG:Nat}{kH:Option Addr}{kI:Array (Option q3)}(mU:W.nsIn K mainGlobals "ROWS_WITH_ONE"=some (some (.ref aQ)))(eM:K.lookup aQ=some ⟨.type "tuple",kH,.seq #[.str "call" jC,.str "lost" jD,.str "answer" jE,.str "join" jF,.str "leave" jG,.str "turn" jH] kG,kI⟩){hX iA jI:Nat}{jJ:Option Addr}{jK:Array (Option q3)}(kJ:W.nsIn K mainGlobals "ROWS_WITH_SOME"=some (some (.ref aO)))(dJ:K.lookup aO=some ⟨.type "tuple",jJ,.seq #[.str "hall" hX,.str "wheel" iA] jI,jK⟩)
  {jL:Nat}(kK:W.nsIn K mainGlobals "MOST_LISTENERS"=some (some (.int 8 jL))){jM:Nat}(kL:W.nsIn K mainGlobals "MOST_STANDINGS"=some (some (.int 3000 jM))){mV:Nat}(nM:W.nsIn K mainGlobals "MOST_FIGURES"=some (some (.int 100 mV)))(ZZ:W.nsIn K mainGlobals "sum"=some none)(CD:W.nsIn K mainGlobals "sorted"=some none)(z_all:W.nsIn K mainGlobals "all"=some none)(z_zip:W.nsIn K mainGlobals "zip"=some none)(z_any:W.nsIn K mainGlobals "any"=some none)(EX:W.nsIn K mainGlobals "range"=some none)(z_len:W.nsIn K mainGlobals "len"=some none)(z_min:W.nsIn K mainGlobals "min"=some none)(z_max:W.nsIn K mainGlobals "max"=some none)(z_set:W.nsIn K mainGlobals "set"=some none)(EY:W.nsIn K mainGlobals "tuple"=some none)(rO:W.nsIn K mainGlobals "enumerate"=some none)(z_int:W.nsIn K mainGlobals "int"=some none)(qA:W.nsIn K mainGlobals "isinstance"=some none)(z_str:W.nsIn K mainGlobals "str"=some none)(qB:W.nsIn K mainGlobals "ValueError"=some none)(QK:W.nsIn K mainGlobals "list"=some none)(uF:W.nsIn K mainGlobals "NoWheel"=some (some (.ref a)))(uG:W.nsIn K mainGlobals "NoChain"=some (some (.ref aE)))(uH:W.nsIn K mainGlobals "TooMuch"=some (some (.ref aF)))(uI:W.nsIn K mainGlobals "TooMany"=some (some (.ref b)))(uJ:W.nsIn K mainGlobals "NoStand"=some (some (.ref d)))(oE:W.nsIn K mainGlobals "RoundError"=some (some (.ref aM)))(xD:W.nsIn K mainGlobals "NoHall"=some (some (.ref bR)))(oF:W.nsIn K mainGlobals "NoListener"=some (some (.ref aR)))(xE:W.nsIn K mainGlobals "NoLoss"=some (some (.ref bS)))(xF:W.nsIn K mainGlobals "Unsafe"=some (some (.ref bT)))(xG:W.nsIn K mainGlobals "NoPart"=some (some (.ref bU)))(CF:W.nsIn K mainGlobals "NoRow"=some (some (.ref cL)))(g:W.nsIn K mainGlobals "Desk"=some (some (.ref f)))(fI:W.excIn K a [.type "ValueError",.type "Exception",.type "BaseException",.type "object"] "ValueError.__new__"=true)(jY:W.excIn K aE [.type "ValueError",.type "Exception",.type "BaseException",.type "object"] "ValueError.__new__"=true)(jZ:W.excIn K aF [.type "ValueError",.type "Exception",.type "BaseException",.type "object"] "ValueError.__new__"=true)(kA:W.excIn K b [.type "ValueError",.type "Exception",.type "BaseException",.type "object"] "ValueError.__new__"=true)(gL:W.excIn K d [.type "ValueError",.type "Exception",.type "BaseException",.type "object"] "ValueError.__new__"=true)(fM:W.excIn K aM [.type "ValueError",.type "Exception",.type "BaseException",.type "object"] "ValueError.__new__"=true)(fN:W.subIn K (.ref aM) (.type "BaseException")=some true)(fQ:W.specialIn K (.builtin "object.__class__") "__get__"=some (some (.builtin "getset_descriptor.__get__")))(fR:W.takesIn K (.builtin "object.__class__")=some true)(aS:W.findIn K (.ref d) "__getattribute__"=some (some (.builtin "BaseException.__getattribute__")))(aU:W.findIn K (.ref d) "__getattr__"=some none)(aV:W.findIn K (.ref d) "__class__"=some (some (.builtin "object.__class__")))(aW:W.mroIn K d (.type "object")=some true)(aX:W.subIn K (.ref d) (.type "BaseException")=some true)(bX:W.subIn K (.ref d) (.ref aM)=some true)(dM:W.kitOne K (.ref d) (.ref bR)=some false)(cA:W.kitOne K (.ref d) (.ref aR)=some false)(dN:W.kitOne K (.ref d) (.ref bS)=some false)(dQ:W.kitOne K (.ref d) (.ref bT)=some false)(cR:W.kitOne K (.ref d) (.ref aE)=some false)(cS:W.kitOne K (.ref d) (.ref aF)=some false)(dR:W.kitOne K (.ref d) (.ref bU)=some false)(eP:W.kitOne K (.ref d) (.ref cL)=some false)(cB:W.kitOne K (.ref d) (.type "ValueError")=some true)(cT:W.kitOne K (.ref d) (.ref d)=some true)(cU:W.kitOne K (.ref d) (.ref b)=some false)(cV:W.kitOne K (.ref d) (.ref a)=some false)(aY:W.findIn K (.ref a) "__getattribute__"=some (some (.builtin "BaseException.__getattribute__")))(aZ:W.findIn K (.ref a) "__getattr__"=some none)(bA:W.findIn K (.ref a) "__class__"=some (some (.builtin "object.__class__")))(bB:W.mroIn K a (.type "object")=some true)(bC:W.subIn K (.ref a) (.type "BaseException")=some true)(cC:W.subIn K (.ref a) (.ref aM)=some true)(dU:W.kitOne K (.ref a) (.ref bR)=some false)(cD:W.kitOne K (.ref a) (.ref aR)=some false)(dW:W.kitOne K (.ref a) (.ref bS)=some false)(dX:W.kitOne K (.ref a) (.ref bT)=some false)(cW:W.kitOne K (.ref a) (.ref aE)=some false)(cX:W.kitOne K (.ref a) (.ref aF)=some false)(dY:W.kitOne K (.ref a) (.ref bU)=some false)(eS:W.kitOne K (.ref a) (.ref cL)=some false)(cE:W.kitOne K (.ref a) (.type "ValueError")=some true)(cY:W.kitOne K (.ref a) (.ref d)=some false)(cZ:W.kitOne K (.ref a) (.ref b)=some false)(dA:W.kitOne K (.ref a) (.ref a)=some true)(bD:W.findIn K (.ref b) "__getattribute__"=some (some (.builtin "BaseException.__getattribute__")))(bE:W.findIn K (.ref b) "__getattr__"=some none)(bG:W.findIn K (.ref b) "__class__"=some (some (.builtin "object.__class__")))(bH:W.mroIn K b (.type "object")=some true)(bI:W.subIn K (.ref b) (.type "BaseException")=some true)(cF:W.subIn K (.ref b) (.ref aM)=some true)(dZ:W.kitOne K (.ref b) (.ref bR)=some false)(cH:W.kitOne K (.ref b) (.ref aR)=some false)(eC:W.kitOne K (.ref b) (.ref bS)=some false)(eE:W.kitOne K (.ref b) (.ref bT)=some false)(dB:W.kitOne K (.ref b) (.ref aE)=some false)(dC:W.kitOne K (.ref b) (.ref aF)=some false)(eG:W.kitOne K (.ref b) (.ref bU)=some false)(eV:W.kitOne K (.ref b) (.ref cL)=some false)(cJ:W.kitOne K (.ref b) (.type "ValueError")=some true)(dD:W.kitOne K (.ref b) (.ref d)=some false)(dE:W.kitOne K (.ref b) (.ref b)=some true)(dG:W.kitOne K (.ref b) (.ref a)=some false)(rQ:tQ=.ref rK)(CG:W.codeHdIn K rK aG=true)(QL:K.lookup aG=none):
  (K.lookup aG=none/\∃c,W.codeHdIn K c aG=true)/\∃fd:q7,(∀(s:qU) (v:q3),BindsTo s fd ⟨[v],[]⟩ [("script",v)])/\∀base:Heap,K.In base->base.Ns mainGlobals mg->Tv base mg->B3 l.prog w K mg base (CX1 l.prog w) 12 fa fd ["script"] (sp_law K aG):=by
 have e:=hfa.symm.trans (mv X G HR);cases e;have T:Txt K mg ⟨iP,kQ,kR,kS,iQ,kT,qW,gB,kU,gS,kW,iR,kX,gC,iT,gT,kY,qX,iU,kZ,fG,iV,gD,iW,lA,lB,lC,qY,lD,qZ,lF,iX,lG,lH,lI,lJ,lK,lL,lM,lN,lO,lP,rA,rB,lQ,lR,rC,rD,lS,rE,lU,iY,lV,iZ,lW,lX,gE,lY,lZ,rF,fa⟩ a aE aF b d aM bR aR bS bT bU cL f aG bM aQ aO:=⟨mv X G AF.a,AF.k,mv X G AG.a,AG.k,mv X G AH.a,AH.k,mv X G AI.a,AI.k,mv X G AJ.a,AJ.k,mv X G AK.a,AK.k,mv X G QB.a,QB.k,mv X G ZK,uS,mv X G AL.a,AL.k,mv X G AM.a,AM.k,mv X G AN.a,AN.k,mv X G AO.a,AO.k,mv X G AQ.a,AQ.k,mv X G ZN,yH,mv X G AR.a,AR.k,mv X G AS.a,AS.k,mv X G AU.a,AU.k,mv X G QC.a,QC.k,mv X G AV.a,AV.k,mv X G AW.a,AW.k,mv X G ZQ,nD,mv X G AX.a,AX.k,mv X G ZT,yK,mv X G AY.a,AY.k,mv X G AZ.a,AZ.k,mv X G BA.a,BA.k,mv X G BB.a,BB.k,mv X G QD.a,QD.k,mv X G BC.a,BC.k,mv X G QE.a,QE.k,mv X G BD.a,BD.k,mv X G BE.a,BE.k,mv X G BF.a,BF.k,mv X G BG.a,BG.k,mv X G BH.a,BH.k,mv X G BI.a,BI.k,mv X G BJ.a,BJ.k,mv X G BK.a,BK.k,mv X G BL.a,BL.k,mv X G BM.a,BM.k,mv X G BN.a,BN.k,mv X G BO.a,BO.k,mv X G BU.a,BU.k,mv X G BV.a,BV.k,mv X G BW.a,BW.k,mv X G BX.a,BX.k,mv X G BZ.a,BZ.k,mv X G CA.a,CA.k,mv X G CB.a,CB.k,mv X G CC.a,CC.k,mv X G QJ.a,QJ.k,mv X G HR,yR,mx X G ZZ,mx X G CD,mx X G z_all,mx X G z_zip,mx X G z_any,mx X G EX,mx X G z_len,mx X G z_min,mx X G z_max,mx X G z_set,mx X G EY,mx X G rO,mx X G z_int,mx X G qA,mx X G z_str,mx X G qB,mx X G QK,⟨_,mv X G kK⟩,⟨_,mv X G kL⟩,⟨_,mv X G nM⟩,⟨_,mv X G xC⟩,mv X G pZ,λH=>.inr ⟨_,_,_,fL,rfl,rfl,(by show 2<=sizeLine;decide),(.cons ⟨_,rfl⟩ (.cons ⟨_,rfl⟩ .nil))⟩,mv X G mU,λH=>.inr ⟨_,_,_,eM,rfl,rfl,(by show 6<=sizeLine;decide),(.cons ⟨_,rfl⟩ (.cons ⟨_,rfl⟩ (.cons ⟨_,rfl⟩ (.cons ⟨_,rfl⟩ (.cons ⟨_,rfl⟩ (.cons ⟨_,rfl⟩ .nil))))))⟩,mv X G kJ,λH=>.inr ⟨_,_,_,dJ,rfl,rfl,(by show 2<=sizeLine;decide),(.cons ⟨_,rfl⟩ (.cons ⟨_,rfl⟩ .nil))⟩,mv X G uF,mv X G uG,mv X G uH,mv X G uI,mv X G uJ,mv X G oE,mv X G xD,mv X G oF,mv X G xE,mv X G xF,mv X G xG,mv X G CF,mv X G g,⟨ER,ES,ET,EU⟩,⟨EV,fm_x9,ZW.a,EW⟩,⟨q,BS.a,BS.k⟩,⟨fm_x4,QI.a,QI.k⟩,⟨fm_x0,QF.a,QF.k⟩,⟨r,BP.a,BP.k⟩,⟨o,BQ.a,BQ.k⟩,⟨fm_x6,QG.a,QG.k⟩,⟨fm_x7,QH.a,QH.k⟩,⟨p,BR.a,BR.k⟩,pY,kE,nY,nZ,fI,jY,jZ,kA,gL,fM,fN,fQ,fR,aS,aU,aV,aW,aX,bX,dM,cA,dN,dQ,cR,cS,dR,eP,cB,cT,cU,cV,aY,aZ,bA,bB,bC,cC,dU,cD,dW,dX,cW,cX,dY,eS,cE,cY,cZ,dA,bD,bE,bG,bH,bI,cF,dZ,cH,eC,eE,dB,dC,eG,eV,cJ,dD,dE,dG⟩;obtain⟨_,HS⟩:=AF.e;obtain⟨_,HU⟩:=AG.e;obtain⟨_,HV⟩:=AH.e;obtain⟨_,HW⟩:=AI.e;obtain⟨_,HY⟩:=AJ.e;obtain⟨_,HZ⟩:=AK.e;obtain⟨_,E⟩:=QB.e;have gH:=Qk (st:=Jp) ZL ZM uS;have F_x17:jw K "chain_wheel" "chain_wheel" Jp gB _ rK aG:=⟨gH,rQ,CG⟩;obtain⟨_,IA⟩:=AL.e;obtain⟨_,IB⟩:=AM.e;obtain⟨_,IC⟩:=AN.e;obtain⟨_,IE⟩:=AO.e;obtain⟨_,IG⟩:=AQ.e;have F_x51:O7 K "hall_of" "hall_of" Gg gC _:=⟨⟨_,_,_,_,_,_,_,_,_,_,rfl,ZO,ZP⟩⟩;obtain⟨_,IH⟩:=AR.e;obtain⟨_,II⟩:=AS.e;obtain⟨_,IJ⟩:=AU.e;obtain⟨_,y⟩:=QC.e;obtain⟨_,IK⟩:=AV.e;obtain⟨_,IL⟩:=AW.e;have F_x55:O7 K "after" "after" Gh fG _:=⟨⟨_,_,_,_,_,_,_,_,_,_,rfl,ZR,ZS⟩⟩;obtain⟨_,IM⟩:=AX.e;have F_x21:O7 K "broken_ones" "broken_ones" Fl gD _:=⟨⟨_,_,_,_,_,_,_,_,_,_,rfl,ZU,ZV⟩⟩;obtain⟨_,IP⟩:=AY.e;obtain⟨_,IQ⟩:=AZ.e;obtain⟨_,IT⟩:=BA.e;obtain⟨_,IU⟩:=BB.e;obtain⟨_,z⟩:=QD.e;obtain⟨_,IV⟩:=BC.e;obtain⟨_,x⟩:=QE.e;obtain⟨_,IW⟩:=BD.e;obtain⟨_,IX⟩:=BE.e;obtain⟨_,IY⟩:=BF.e;obtain⟨_,IZ⟩:=BG.e;obtain⟨_,JA⟩:=BH.e;obtain⟨_,JB⟩:=BI.e;obtain⟨_,JC⟩:=BJ.e;obtain⟨_,JD⟩:=BK.e;obtain⟨_,JE⟩:=BL.e;obtain⟨_,JF⟩:=BM.e;obtain⟨_,JG⟩:=BN.e;obtain⟨_,JH⟩:=BO.e;obtain⟨_,F⟩:=ZW.e;obtain⟨_,u⟩:=QF.e;obtain⟨_,JI⟩:=BP.e;obtain⟨_,JJ⟩:=BQ.e;obtain⟨_,C⟩:=QG.e;obtain⟨_,D⟩:=QH.e;obtain⟨_,JK⟩:=BR.e;obtain⟨_,A⟩:=QI.e;obtain⟨_,JL⟩:=BS.e;obtain⟨_,JM⟩:=BU.e;obtain⟨_,JN⟩:=BV.e;obtain⟨_,JO⟩:=BW.e;obtain⟨_,JP⟩:=BX.e;obtain⟨_,JQ⟩:=BZ.e;obtain⟨_,JR⟩:=CA.e;obtain⟨_,JS⟩:=CB.e;obtain⟨_,JT⟩:=CC.e;obtain⟨_,B⟩:=QJ.e;have F_law:=Qk (st:=Jo) ZX ZY yR;have B_x49:=HS.binds (ps:=["one","other"]) (by trivial);have P:=HU.binds (ps:=["numbers"]) (by trivial);have B_x54:=HV.binds (ps:=["numbers"]) (by trivial);have B_x28:=HW.binds (ps:=["periods"]) (by trivial);have B_x29:=HY.binds (ps:=["periods"]) (by trivial);have B_x23:=HZ.binds (ps:=["levels","taken"]) (by trivial);have B_x8:=E.binds (ps:=["periods"]) (by trivial);have Q:=gH.binds (ps:=["periods"]) (by trivial);have B_x39:=IA.binds (ps:=["wait","base"]) (by trivial);have B_x50:=IB.binds (ps:=["waits","base"]) (by trivial);have R:=IC.binds (ps:=["wait","most"]) (by trivial);have B_x30:=IE.binds (ps:=["waits"]) (by trivial);have B_x31:=IG.binds (ps:=["waits"]) (by trivial)
 have B_x51:Cp K (W.fnOf "hall_of" "hall_of" (Bv Gg) (Bi Gg) (A6 Gg) (.ref pV) tR tS tT tM pS tU) ["waits","calm"] []:=λs n j m=>by
  have i:n.length=2:=by simpa using m
  obtain⟨_,_,rfl⟩:=yq i;exact BindsTo.of_defaults rfl (j _ _ HN) rfl rfl rfl
 have mO:Cp K (W.fnOf "hall_of" "hall_of" (Bv Gg) (Bi Gg) (A6 Gg) (.ref pV) tR tS tT tM pS tU) ["waits","calm"] [Value.none]:=λs n j m=>by
  have i:n.length=1:=by simpa using m
  obtain⟨_,rfl⟩:=yp i;exact BindsTo.of_defaults rfl (j _ _ HN) rfl rfl rfl
 have B_x32:=IH.binds (ps:=["hall"]) (by trivial);have B_x40:=II.binds (ps:=["hall","standing"]) (by trivial);have S:=IJ.binds (ps:=["hall","who"]) (by trivial);have B_x2:=y.binds (ps:=["hall","standing","who","lost"]) (by trivial);have U:=IK.binds (ps:=["hall","standing","who","lost"]) (by trivial);have J:=IL.binds (ps:=["hall","standing","lost"]) (by trivial)
 have B_x55:Cp K (W.fnOf "after" "after" (Bv Gh) (Bi Gh) (A6 Gh) (.ref pW) tV tW tX tO pT tY) ["hall","standing","who","lost"] []:=λs n j m=>by
  have i:n.length=4:=by simpa using m
  obtain⟨_,_,_,_,rfl⟩:=yr i;exact BindsTo.of_defaults rfl (j _ _ HP) rfl rfl rfl
 have cO:Cp K (W.fnOf "after" "after" (Bv Gh) (Bi Gh) (A6 Gh) (.ref pW) tV tW tX tO pT tY) ["hall","standing","who","lost"] [Value.bool false]:=λs n j m=>by
  have i:n.length=3:=by simpa using m
  obtain⟨_,_,_,rfl⟩:=nz i;exact BindsTo.of_defaults rfl (j _ _ HP) rfl rfl rfl
 have B_x24:=IM.binds (ps:=["hall","standing","who"]) (by trivial)
 have Y:Cp K (W.fnOf "broken_ones" "broken_ones" (Bv Fl) (Bi Fl) (A6 Fl) (.ref pX) tZ uA uB tP pU uC) ["hall","standing","who","lost"] []:=λs n j m=>by
  have i:n.length=4:=by simpa using m
  obtain⟨_,_,_,_,rfl⟩:=yr i;exact BindsTo.of_defaults rfl (j _ _ HQ) rfl rfl rfl
 have fV:Cp K (W.fnOf "broken_ones" "broken_ones" (Bv Fl) (Bi Fl) (A6 Fl) (.ref pX) tZ uA uB tP pU uC) ["hall","standing","who","lost"] [Value.bool false]:=λs n j m=>by
  have i:n.length=3:=by simpa using m
  obtain⟨_,_,_,rfl⟩:=nz i;exact BindsTo.of_defaults rfl (j _ _ HQ) rfl rfl rfl
 have L:=IP.binds (ps:=["hall"]) (by trivial);have B_x41:=IQ.binds (ps:=["hall"]) (by trivial);have B_x42:=IT.binds (ps:=["waits"]) (by trivial);have B_x33:=IU.binds (ps:=["hall"]) (by trivial);have B_x3:=z.binds (ps:=["hall"]) (by trivial);have B_x52:=IV.binds (ps:=["pending"]) (by trivial);have B_x1:=x.binds (ps:=["pending","ways","ranked"]) (by trivial);have B_x56:=IW.binds (ps:=["hall"]) (by trivial);have B_x57:=IX.binds (ps:=["table","behind"]) (by trivial);have B_x25:=IY.binds (ps:=["hall","table","standing","who"]) (by trivial);have B_x34:=IZ.binds (ps:=["hall","table","standing"]) (by trivial);have M:=JA.binds (ps:=["hall","table","standing","who"]) (by trivial);have B_x58:=JB.binds (ps:=["wheel","turn"]) (by trivial);have B_x35:=JC.binds (ps:=["word"]) (by trivial);have B_x26:=JD.binds (ps:=["words"]) (by trivial);have B_x59:=JE.binds (ps:=["word","size"]) (by trivial);have B_x43:=JF.binds (ps:=["row"]) (by trivial);have N:=JG.binds (ps:=["numbers"]) (by trivial);have B_x27:=JH.binds (ps:=["place"]) (by trivial);have B_x9:=F.binds (ps:=["self"]) (by trivial);have B_x0:=u.binds (ps:=["self","word"]) (by trivial);have B_x44:=JI.binds (ps:=["self","hall","standing","table"]) (by trivial);have I:=JJ.binds (ps:=["self","hall"]) (by trivial);have B_x6:=C.binds (ps:=["self","found"]) (by trivial);have B_x7:=D.binds (ps:=["self"]) (by trivial);have O:=JK.binds (ps:=["self","who","lost"]) (by trivial);have B_x4:=A.binds (ps:=["self","word","number"]) (by trivial);have B_x36:=JL.binds (ps:=["self","row"]) (by trivial);have B_x53:=JM.binds (ps:=["cell"]) (by trivial);have B_x37:=JN.binds (ps:=["number","wide"]) (by trivial);have Z:=JO.binds (ps:=["word"]) (by trivial);have B_x45:=JP.binds (ps:=["words","periods"]) (by trivial);have B_x46:=JQ.binds (ps:=["e"]) (by trivial);have B_x47:=JR.binds (ps:=["desk","row"]) (by trivial);have B_x38:=JS.binds (ps:=["desk","kept","waits"]) (by trivial);have B_x48:=JT.binds (ps:=["desk","kept","number"]) (by trivial);have B_x5:=B.binds (ps:=["desk"]) (by trivial);refine⟨⟨QL,_,CG⟩,?_⟩;refine⟨W.fnOf "law" "law" (Bv Jo) (Bi Jo) (A6 Jo) .none AA AB AD zZ uD AE,λs v=>.of_eq rfl,λbase _ _ hB=>?_⟩;have mE:=Gk.mk (vk (P:=l.prog) (w:=w) (base:=base) T HS ) B_x49;have uW:=Gk.mk (u4 (P:=l.prog) (w:=w) (base:=base) T HU mE) P;have uX:=Gk.mk (vt (P:=l.prog) (w:=w) (base:=base) T HV uW mE) B_x54;have uZ:=Gk.mk (ui (P:=l.prog) (w:=w) (base:=base) T HW ) B_x28;have mG:=Gk.mk (uj (P:=l.prog) (w:=w) (base:=base) T HY uX) B_x29;have uY:=Gk.mk (ud (P:=l.prog) (w:=w) (base:=base) T HZ ) B_x23;have DT:=Gk.mk (A0e (P:=l.prog) (w:=w) (base:=base) T E uY) B_x8;have vC:=Gk.mk (u5 (P:=l.prog) (w:=w) (base:=base) T hB F_x17 uZ mG DT) Q;have vA:=Gk.mk (uw (P:=l.prog) (w:=w) (base:=base) T IA ) B_x39;have fS:=Gk.mk (vn (P:=l.prog) (w:=w) (base:=base) T IB vA) B_x50;have vB:=Gk.mk (u6 (P:=l.prog) (w:=w) (base:=base) T IC ) R;have mH:=Gk.mk (uk (P:=l.prog) (w:=w) (base:=base) T IE vB mG fS) B_x30;have vY:=Gk.mk (ul (P:=l.prog) (w:=w) (base:=base) T IG mH vC fS) B_x31;have vX:=Gk.mk (vo (P:=l.prog) (w:=w) (base:=base) T F_x51 ) B_x51;have mM:=Gk.mk (um (P:=l.prog) (w:=w) (base:=base) T IH ) B_x32;have fT:=Gk.mk (uy (P:=l.prog) (w:=w) (base:=base) T II ) B_x40;have vD:=Gk.mk (u7 (P:=l.prog) (w:=w) (base:=base) T IJ ) S;have DW:=Gk.mk (A08 (P:=l.prog) (w:=w) (base:=base) T y vD fT) B_x2;have mI:=Gk.mk (u8 (P:=l.prog) (w:=w) (base:=base) T IK DW) U;have vE:=Gk.mk (sy (P:=l.prog) (w:=w) (base:=base) T IL ) J;have fA:=Gk.mk (vv (P:=l.prog) (w:=w) (base:=base) T F_x55 mI vE) B_x55;have mK:=Gk.mk (ue (P:=l.prog) (w:=w) (base:=base) T IM fA cO fT) B_x24;have vR:=Gk.mk (u9 (P:=l.prog) (w:=w) (base:=base) T F_x21 mI) Y;have mJ:=Gk.mk (t9 (P:=l.prog) (w:=w) (base:=base) T IP ) L;have vG:=Gk.mk (uz (P:=l.prog) (w:=w) (base:=base) T IQ mJ) B_x41;have vH:=Gk.mk (va (P:=l.prog) (w:=w) (base:=base) T IT ) B_x42;have vI:=Gk.mk (uo (P:=l.prog) (w:=w) (base:=base) T IU vG vH mJ) B_x33;have EE:=Gk.mk (A09 (P:=l.prog) (w:=w) (base:=base) T z vI mK) B_x3;have vJ:=Gk.mk (vp (P:=l.prog) (w:=w) (base:=base) T IV ) B_x52;have EF:=Gk.mk (A07 (P:=l.prog) (w:=w) (base:=base) T x ) B_x1;have vN:=Gk.mk (vw (P:=l.prog) (w:=w) (base:=base) T IW EE vJ EF) B_x56;have gW:=Gk.mk (vx (P:=l.prog) (w:=w) (base:=base) T IX ) B_x57;have vK:=Gk.mk (uf (P:=l.prog) (w:=w) (base:=base) T IY gW mK) B_x25;have vZ:=Gk.mk (uq (P:=l.prog) (w:=w) (base:=base) T IZ vK) B_x34;have vT:=Gk.mk (tj (P:=l.prog) (w:=w) (base:=base) T JA gW fA cO fT) M;have vS:=Gk.mk (vy (P:=l.prog) (w:=w) (base:=base) T JB ) B_x58;have vL:=Gk.mk (ur (P:=l.prog) (w:=w) (base:=base) T JC ) B_x35;have oX:=Gk.mk (ug (P:=l.prog) (w:=w) (base:=base) T JD vL) B_x26;have vM:=Gk.mk (vz (P:=l.prog) (w:=w) (base:=base) T JE ) B_x59;have vV:=Gk.mk (vc (P:=l.prog) (w:=w) (base:=base) T JF oX vM) B_x43;have oY:=Gk.mk (tm (P:=l.prog) (w:=w) (base:=base) T JG ) N;have vQ:=Gk.mk (uh (P:=l.prog) (w:=w) (base:=base) T JH ) B_x27;have xB:=Gk.mk (A0f (P:=l.prog) (w:=w) (base:=base) T F ) B_x9;have EJ:=Gk.mk (A06 (P:=l.prog) (w:=w) (base:=base) T u ) B_x0;have vP:=Gk.mk (vd (P:=l.prog) (w:=w) (base:=base) T JI ) B_x44;have vW:=Gk.mk (sx (P:=l.prog) (w:=w) (base:=base) T JJ vN vP mM) I;have EK:=Gk.mk (A0c (P:=l.prog) (w:=w) (base:=base) T C vQ) B_x6;have EL:=Gk.mk (A0d (P:=l.prog) (w:=w) (base:=base) T D ) B_x7;have vU:=Gk.mk (u3 (P:=l.prog) (w:=w) (base:=base) T JK vR fV mM oY fA cO) O;have EM:=Gk.mk (A0a (P:=l.prog) (w:=w) (base:=base) T A vS vT vU) B_x4;have wA:=Gk.mk (ut (P:=l.prog) (w:=w) (base:=base) T JL vV EJ vW vX mO EK vY vZ EL EM) B_x36;have mP:=Gk.mk (vq (P:=l.prog) (w:=w) (base:=base) T JM ) B_x53;have wD:=Gk.mk (uu (P:=l.prog) (w:=w) (base:=base) T JN mP) B_x37;have gX:=Gk.mk (uc (P:=l.prog) (w:=w) (base:=base) T JO ) Z;have wC:=Gk.mk (ve (P:=l.prog) (w:=w) (base:=base) T JP gX) B_x45;have wB:=Gk.mk (vf (P:=l.prog) (w:=w) (base:=base) T JQ ) B_x46;have cM:=Gk.mk (vg (P:=l.prog) (w:=w) (base:=base) T JR wA wB) B_x47;have wF:=Gk.mk (uv (P:=l.prog) (w:=w) (base:=base) T JS cM mH gX wC fS) B_x38;have mQ:=Gk.mk (vh (P:=l.prog) (w:=w) (base:=base) T JT cM) B_x48;have EN:=Gk.mk (A0b (P:=l.prog) (w:=w) (base:=base) T B cM) B_x5;exact sw T F_law xB cM mP wD wF mQ EN
end Law
namespace PySem.W.Fast
theorem tw11556193560669170646:True:=trivial
theorem tw9080101075768932554:True:=trivial
theorem tw752674526956364107:True:=trivial
theorem tw7300859695403818506:True:=trivial
theorem tw7062388056219096591:True:=trivial
theorem tw6138772107048131263:True:=trivial
theorem tw11102559550901784723:True:=trivial
theorem tw11875111417841087264:True:=trivial
theorem tw8776150834705344881:True:=trivial
theorem tw11169015462700977481:True:=trivial
theorem tw8391444497656654864:True:=trivial
theorem tw6844931449706164672:True:=trivial
theorem tw15230207935564264177:True:=trivial
theorem tw6861784572386487408:True:=trivial
theorem tw148631222618002138:True:=trivial
theorem tw1373903999674316111:True:=trivial
theorem tw16863362082667903795:True:=trivial
theorem tw5679068195617854758:True:=trivial
theorem tw14675401705787626755:True:=trivial
theorem tw8063309322299010032:True:=trivial
theorem tw6581162313144214392:True:=trivial
theorem tw1421338700840383761:True:=trivial
theorem tw9873018251570838239:True:=trivial
theorem tw5241966230979930400:True:=trivial
theorem tw15786147031687893090:True:=trivial
theorem tw983481931590076564:True:=trivial
theorem tw10872546416358227830:True:=trivial
theorem tw6299665309493986532:True:=trivial
theorem tw3572762500014192436:True:=trivial
theorem tw12432074550473291877:True:=trivial
theorem tw12774744962958824135:True:=trivial
theorem tw17682348122450214532:True:=trivial
theorem tw9110282487876141023:True:=trivial
theorem tw11059583496039405429:True:=trivial
theorem tw521549150561236470:True:=trivial
theorem tw6939235375109415750:True:=trivial
theorem tw8092986226924752085:True:=trivial
theorem tw18396883463760362487:True:=trivial
theorem tw9381970153868487020:True:=trivial
theorem tw15837473765732677604:True:=trivial
theorem tw1309303110397865412:True:=trivial
theorem tw7121184609027493698:True:=trivial
theorem tw4602867274545846987:True:=trivial
theorem tw12559578899159827021:True:=trivial
theorem tw3417074187236497544:True:=trivial
theorem tw16001088864057861244:True:=trivial
theorem tw8266616999516741882:True:=trivial
theorem tw10840702103364711994:True:=trivial
theorem tw16110370010453667563:True:=trivial
theorem tw10702143175829076521:True:=trivial
theorem tw13759467199199426544:True:=trivial
theorem tw4087996528262730624:True:=trivial
theorem tw12757912263317155922:True:=trivial
theorem tw10302495135205947462:True:=trivial
theorem tw5177297530931245497:True:=trivial
theorem tw18364397240157344871:True:=trivial
theorem tw6611121391420542344:True:=trivial
theorem tw14867099988708707783:True:=trivial
theorem tw3723250145310460996:True:=trivial
theorem tw14871496626790539216:True:=trivial
theorem tw6977773607336920675:True:=trivial
theorem tw16372481792691038824:True:=trivial
theorem tw1354486381057677139:True:=trivial
theorem tw9670779593451239517:True:=trivial
theorem tw14041437128529320633:True:=trivial
theorem tw6209259275382145751:True:=trivial
theorem tw6512918368100363538:True:=trivial
theorem tw8138922087945334046:True:=trivial
theorem tw11748425404353715997:True:=trivial
theorem tw17084135124111515955:True:=trivial
theorem tw3916843376628418792:True:=trivial
theorem tw4302116048486912338:True:=trivial
theorem tw11250609410713985398:True:=trivial
theorem tw13860539637888259816:True:=trivial
theorem tw15507609669975157996:True:=trivial
theorem tw1414733433300804013:True:=trivial
theorem tw4029553455823308376:True:=trivial
theorem tw12236949625013808321:True:=trivial
theorem tw14028193822617677087:True:=trivial
theorem tw15506861507502753069:True:=trivial
theorem tw15038166420726600017:True:=trivial
theorem tw11772635490898444105:True:=trivial
theorem tw13151230917422148402:True:=trivial
theorem tw2485945088371992714:True:=trivial
theorem tw5767883545697006728:True:=trivial
theorem tw1635576868397989934:True:=trivial
theorem tw4415462208895489537:True:=trivial
theorem tw10528028482316435640:True:=trivial
theorem tw852202293905997423:True:=trivial
theorem tw31187350475871419:True:=trivial
theorem tw5903315626872228468:True:=trivial
theorem tw2038898120557441934:True:=trivial
theorem tw7888404797353573085:True:=trivial
theorem tw653586160698551182:True:=trivial
theorem tw12007622437116031371:True:=trivial
theorem tw1991878349856711912:True:=trivial
theorem tw15549342861826994645:True:=trivial
theorem tw14492060734446525258:True:=trivial
theorem tw722720371092480616:True:=trivial
theorem tw7968003434686698346:True:=trivial
theorem tw3379209754085940306:True:=trivial
theorem tw5745450376983685776:True:=trivial
theorem tw3342221150391024294:True:=trivial
theorem tw6003935785000251940:True:=trivial
theorem tw323759553810327923:True:=trivial
theorem tw7413374522963761024:True:=trivial
theorem tw3716336022446433110:True:=trivial
theorem tw5766013929336941175:True:=trivial
theorem tw9041998142122000508:True:=trivial
theorem tw9273767753387615274:True:=trivial
theorem tw6842448010628368876:True:=trivial
theorem tw11770393598899662167:True:=trivial
theorem tw361051536632434892:True:=trivial
theorem tw6554861286876857102:True:=trivial
theorem tw9489524202880616617:True:=trivial
theorem tw11659905589178563946:True:=trivial
theorem tw18186385939620309097:True:=trivial
theorem tw876296649023237611:True:=trivial
theorem tw12626354336293192237:True:=trivial
theorem tw16639745961762667283:True:=trivial
theorem tw2328950901650870314:True:=trivial
theorem tw12938515047585646822:True:=trivial
theorem tw1539645571676205644:True:=trivial
theorem tw9381625774363547338:True:=trivial
theorem tw1345571691888879603:True:=trivial
theorem tw13142894984514916719:True:=trivial
theorem tw10088909099058083975:True:=trivial
theorem tw15452056660571447152:True:=trivial
theorem tw10308772058898564510:True:=trivial
theorem tw16827935528124740121:True:=trivial
theorem tw3160121154635580457:True:=trivial
theorem tw11466282573933534577:True:=trivial
theorem tw16216968341486969241:True:=trivial
theorem tw5701871976400064732:True:=trivial
theorem tw9625388556937104514:True:=trivial
theorem tw7548015320230244683:True:=trivial
theorem tw18360233977414054597:True:=trivial
theorem tw16231917029945191786:True:=trivial
theorem tw5472266734472800750:True:=trivial
theorem tw1706700273823159957:True:=trivial
theorem tw17911976041734585162:True:=trivial
theorem tw7297264994708785198:True:=trivial
theorem tw896562755582393658:True:=trivial
theorem tw14045909251581189146:True:=trivial
theorem tw13101966763593048301:True:=trivial
theorem tw4378429905695775076:True:=trivial
theorem tw337858220297457503:True:=trivial
theorem tw8870365601853747331:True:=trivial
theorem tw6799167474156842218:True:=trivial
theorem tw12873852795166165777:True:=trivial
theorem tw12015923563485171392:True:=trivial
theorem tw3757838310223633186:True:=trivial
theorem tw8330551219681509299:True:=trivial
theorem tw8694207384976983717:True:=trivial
theorem tw7306260884317894831:True:=trivial
theorem tw18227292350642081677:True:=trivial
theorem tw5836177409290571431:True:=trivial
theorem tw537386615630373804:True:=trivial
theorem tw3886398869466299384:True:=trivial
theorem tw6738900571546609708:True:=trivial
theorem tw16776527991812643902:True:=trivial
theorem tw15174004208364795496:True:=trivial
theorem tw11704293710421778937:True:=trivial
theorem tw17040341744423905145:True:=trivial
theorem tw2606392948223409909:True:=trivial
theorem tw1022178810970016425:True:=trivial
theorem tw16364668607889983054:True:=trivial
theorem tw1059383852203837758:True:=trivial
theorem tw14681627066112675905:True:=trivial
theorem tw3475769396966818852:True:=trivial
theorem tw16162080132859406149:True:=trivial
end PySem.W.Fast
open PySem PySem.W PyProof.Rows
set_option maxRecDepth 100000 in
set_option maxHeartbeats 0 in
theorem PySem.Challenge.cw_roundcall_k95_wheels_at_the_desk_holds : PySem.Challenge.rw_roundcall_k95_wheels_at_the_desk.Holds := by
 w_on; o_law; km_head; (case hw=>w_witness2)
 k_fill
 refine L2.walk_ofT (l:=PySem.Challenge.rw_roundcall_k95_wheels_at_the_desk) (n:=63) (k:=12) (x := "script") (CX:=fun w=>L2.CX1 PySem.Challenge.rw_roundcall_k95_wheels_at_the_desk.prog w) (sp:=fun w=>Law.sp_law _ _) (lq:=Law.lamQ) (lpos:=Law.lamP) rfl (by decide) rfl ⟨rfl,by decide,by decide⟩ (fun w h Y=>PySem.W.km_in_of Y) (fun w h Y=>PySem.W.km_tabs_of Y _ List.mem_cons_self) ?F (fun _ _ a ns hl hb hP hS=>⟨a,ns,rfl,hS,hl,hb,hP,fun _ e=>⟨rfl,e⟩⟩) (fun _ _ _ _ _ ⟨_,_,_,_,_,_,_,_,q⟩=>q)
 case F =>
  intro w mg fa h KX G hmg
  refine' Law.all_mk KX G hmg (.m0 ?_ ?_ ?_ ?_) (.m0 ?_ ?_ ?_ ?_) (.m0 ?_ ?_ ?_ ?_) (.m0 ?_ ?_ ?_ ?_) (.m0 ?_ ?_ ?_ ?_) (.m0 ?_ ?_ ?_ ?_) (.m0 ?_ ?_ ?_ ?_) ?_ ?_ ?_ ?_ (.m0 ?_ ?_ ?_ ?_) (.m0 ?_ ?_ ?_ ?_) (.m0 ?_ ?_ ?_ ?_) (.m0 ?_ ?_ ?_ ?_) (.m0 ?_ ?_ ?_ ?_) ?_ ?_ ?_ ?_ ?_ (.m0 ?_ ?_ ?_ ?_) (.m0 ?_ ?_ ?_ ?_) (.m0 ?_ ?_ ?_ ?_) (.m0 ?_ ?_ ?_ ?_) (.m0 ?_ ?_ ?_ ?_) (.m0 ?_ ?_ ?_ ?_) ?_ ?_ ?_ ?_ ?_ (.m0 ?_ ?_ ?_ ?_) ?_ ?_ ?_ ?_ ?_ (.m0 ?_ ?_ ?_ ?_) (.m0 ?_ ?_ ?_ ?_) (.m0 ?_ ?_ ?_ ?_) (.m0 ?_ ?_ ?_ ?_) (.m0 ?_ ?_ ?_ ?_) (.m0 ?_ ?_ ?_ ?_) (.m0 ?_ ?_ ?_ ?_) (.m0 ?_ ?_ ?_ ?_) (.m0 ?_ ?_ ?_ ?_) (.m0 ?_ ?_ ?_ ?_) (.m0 ?_ ?_ ?_ ?_) (.m0 ?_ ?_ ?_ ?_) (.m0 ?_ ?_ ?_ ?_) (.m0 ?_ ?_ ?_ ?_) (.m0 ?_ ?_ ?_ ?_) (.m0 ?_ ?_ ?_ ?_) (.m0 ?_ ?_ ?_ ?_) (.m0 ?_ ?_ ?_ ?_) (.m0 ?_ ?_ ?_ ?_) (.m1 ?_ ?_ ?_ ?_) (.m1 ?_ ?_ ?_ ?_) (.m1 ?_ ?_ ?_ ?_) (.m1 ?_ ?_ ?_ ?_) (.m1 ?_ ?_ ?_ ?_) (.m1 ?_ ?_ ?_ ?_) (.m1 ?_ ?_ ?_ ?_) (.m1 ?_ ?_ ?_ ?_) (.m1 ?_ ?_ ?_ ?_) (.m0 ?_ ?_ ?_ ?_) (.m0 ?_ ?_ ?_ ?_) (.m0 ?_ ?_ ?_ ?_) (.m0 ?_ ?_ ?_ ?_) (.m0 ?_ ?_ ?_ ?_) (.m0 ?_ ?_ ?_ ?_) (.m0 ?_ ?_ ?_ ?_) (.m0 ?_ ?_ ?_ ?_) (.m0 ?_ ?_ ?_ ?_) ?_ ?_ ?_ ?_ ?_ ?_ ?_ ?_ ?_ ?_ ?fm_x9 ?fm_x36 ?fm_x4 ?fm_x0 ?fm_x44 ?fm_x10 ?fm_x6 ?fm_x7 ?fm_x15 ?_ ?_ ?_ ?_ ?_ ?_ ?_ ?_ ?_ ?_ ?_ ?_ ?_ ?_ ?_ ?_ ?_ ?_ ?_ ?_ ?_ ?_ ?_ ?_ ?_ ?_ ?_ ?_ ?_ ?_ ?_ ?_ ?_ ?_ ?_ ?_ ?_ ?_ ?_ ?_ ?_ ?_ ?_ ?ac_Desk ?_ ?_ ?_ ?_ ?_ ?_ ?_ ?_ ?_ ?_ ?_ ?_ ?_ ?_ ?_ ?_ ?_ ?_ ?_ ?_ ?_ ?_ ?_ ?_ ?_ ?_ ?_ ?_ ?_ ?_ ?_ ?_ ?_ ?_ ?_ ?_ ?_ ?_ ?_ ?_ ?_ ?_ ?_ ?_ ?_ ?_ ?_ ?_ ?_ ?_ ?_ ?_ ?_ ?_ ?_ ?_ ?_ ?_ ?_ ?_ ?_ ?_ ?_ ?_ ?_ ?_
  (case ac_Desk=>k_is)
  (case fm_x9=>k_is)
  (case fm_x36=>k_is)
  (case fm_x4=>k_is)
  (case fm_x0=>k_is)
  (case fm_x44=>k_is)
  (case fm_x10=>k_is)
  (case fm_x6=>k_is)
  (case fm_x7=>k_is)
  (case fm_x15=>k_is)
  all_goals try k_is
  all_goals try first|kit_is|k_exc|rfl|kernel_rfl
