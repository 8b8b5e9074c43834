import PyProof.Rows.All
import Wide.All
import OpenK.AllK
import Wide.FinOn
import Lean
import PyProof.EqAt
import PyProof.EqKinds
import PyProof.TupleCall
import PySem.Challenge.RW_roundcall_k99_whole_papers_play
/-! THE HAND LAYER, for ints, bools, texts, own classes, LISTS and tuples (index, slices, in, append, pop ..), calls, loops. Paste it whole ahead of your own text; what your proof does not reach may be deleted. -/
set_option Elab.async false
set_option linter.all false
set_option maxRecDepth 100000
set_option maxHeartbeats 4000000
set_option bootstrap.genMatcherCode false
namespace L2
local macro_rules | `(tactic| omega) => `(tactic| lia)
open PySem PySem.Spec PyProof.Rows
abbrev a0:=@wpAny_bind
abbrev bc:=@wpAny_pure
abbrev bA:=@List.getElem?_eq_some_iff
abbrev b4:=@Heap.get?_push_of_some
abbrev b5:=@List.mem_of_getElem?
abbrev cb:=@Heap.get?_push_size
abbrev cI:=@List.mem_cons_self
abbrev da:=@Nat.le_refl
abbrev dt:=@Heap.lt_size
abbrev dI:=@Option.map_eq_some_iff
abbrev ea:=@List.mem_cons_of_mem
abbrev eH:=@List.getElem?_eq_getElem
abbrev eI:=@Nat.le_trans
abbrev eT:=@Option.some.inj
abbrev fe:=@List.mem_cons
abbrev fC:=@Heap.get?_update_other
abbrev gs:=@Nat.ne_of_lt
abbrev gB:=@List.mem_map
abbrev hF:=@Bool.false_ne_true
abbrev hG:=@Nat.lt_of_lt_of_le
abbrev hH:=@List.mem_append
abbrev hJ:=@wpAny_holding
abbrev hO:=@wpAny_seqItems
abbrev ia:=@List.mem_append_right
abbrev ib:=@List.mem_append_left
abbrev il:=@List.mem_iff_getElem?
abbrev iv:=@Heap.get?_update_self
abbrev jQ:=@wpAny_newObj_type
abbrev jR:=@wpAny_call_entry
abbrev jV:=@Heap.SameBut.update
abbrev ka:=@wpAny_mono
abbrev k4:=@wpAny_truthy_bool
abbrev la:=@Nat.lt_or_ge
abbrev ly:=@List.mem_singleton
abbrev lG:=@PassesOwn.never
abbrev l7:=@decide_eq_false
abbrev me:=@Nat.zero_le
abbrev ml:=@W.mg_of
abbrev mx:=@W.mg_none_of
abbrev my:=@wpAny_isInstance
abbrev mC:=@wpAny_rule
abbrev mD:=@plainId_quiet
abbrev mF:=@Nat.not_lt_zero
abbrev nf:=@Nat.le_of_lt
abbrev nr:=@List.getElem_mem
abbrev nT:=@wpAny_callSpecial?_slot
abbrev n4:=@wpAny_attempt
abbrev oa:=@List.mem_range
abbrev oi:=Value->Shared->Prop
abbrev oB:=List Int
abbrev oD:=Option Int
abbrev oF:=Shared
abbrev oI:=Value
abbrev oT:=Program
abbrev oW:=Around
abbrev pa:=FuncData
abbrev px:=World
abbrev qE:=PyData
abbrev Eu:=Sum Int Str
def K1:Eu->oI->Bool
 | .inl k,v=>Value.isInt k v
 | .inr x,v=>Value.isStrOf x v
def xx(w:px):Eu->Int
 | .inl k=>hashInt k
 | .inr x=>hashStr w x
theorem Cf:∀{k:Eu}{v:oI},K1 k v=true->(∃i t,k=Sum.inl i/\v=Value.int i t)\/(∃x t,k=Sum.inr x/\v=Value.str x t)
 | .inl i,v,h=>by
  obtain⟨t,e⟩:=Value.isInt_shape (k:=i) (v:=v) h;exact .inl ⟨i,t,rfl,e⟩
 | .inr x,v,h=>by
  obtain⟨t,e⟩:=Value.isStrOf_shape (x:=x) (v:=v) h;exact .inr ⟨x,t,rfl,e⟩
theorem Xx(i:Int)(t:Tok):K1 (.inl i) (.int i t)=true:=by simp[K1,Value.isInt]
theorem Xy(x:Str)(t:Tok):K1 (.inr x) (.str x t)=true:=by simp[K1,Value.isStrOf]
theorem ln(a b:Int):decide ((Sum.inl a:Eu)=Sum.inl b)=(a==b):=by
 by_cases e:a=b
 ·subst e;simp
 ·have h:¬(Sum.inl a:Eu)=Sum.inl b:=λq=>e (Sum.inl.inj q);rw[decide_eq_false h];exact(beq_eq_false_iff_ne.mpr e).symm
theorem lr(a b:Str):decide ((Sum.inr a:Eu)=Sum.inr b)=decide (a=b):=by
 by_cases e:a=b
 ·subst e;simp
 ·have h:¬(Sum.inr a:Eu)=Sum.inr b:=λq=>e (Sum.inr.inj q);rw[decide_eq_false h,decide_eq_false e]
theorem lp(a:Int)(b:Str):decide ((Sum.inl a:Eu)=Sum.inr b)=false:=l7 (λq=>nomatch q)
theorem lq(a:Str)(b:Int):decide ((Sum.inr a:Eu)=Sum.inl b)=false:=l7 (λq=>nomatch q)
def Dn(prog:oT)(w:px):PySem.KeyKind prog w Eu where
 is:=K1
 hash:=xx w
 inj:=λv a b g f=>by
  rcases Cf g with⟨i,t,rfl,rfl⟩|⟨x,t,rfl,rfl⟩
  ·rcases Cf f with⟨j,u,rfl,e⟩|⟨y,u,rfl,e⟩
   ·injection e with c _;rw[c]
   ·exact nomatch e
  ·rcases Cf f with⟨j,u,rfl,e⟩|⟨y,u,rfl,e⟩
   ·exact nomatch e
   ·injection e with c _;rw[c]
 byValue:=λk v h=>by
  rcases Cf h with⟨i,t,rfl,rfl⟩|⟨x,t,rfl,rfl⟩<;>rfl
 pyHash:=λd h=>by
  rcases Cf d with⟨i,t,rfl,rfl⟩|⟨x,t,rfl,rfl⟩
  ·exact wpAny_pyHash_int h
  ·exact wpAny_pyHash_str h
 eqBool:=λl d h=>by
  rcases Cf l with⟨i,t,rfl,rfl⟩|⟨x,t,rfl,rfl⟩
  ·rcases Cf d with⟨j,u,rfl,rfl⟩|⟨y,u,rfl,rfl⟩
   ·rw[ln]at h;exact wpAny_eqBool_int h
   ·rw[lp]at h;exact SeqAt.EqAt.int_str i t y u _ _ _ _ h
  ·rcases Cf d with⟨j,u,rfl,rfl⟩|⟨y,u,rfl,rfl⟩
   ·rw[lq]at h;exact SeqAt.EqAt.str_int x t j u _ _ _ _ h
   ·rw[lr]at h;exact wpAny_eqBool_str h
 «strs»:=λk x t v h=>by
  rcases Cf h with⟨i,u,rfl,e⟩|⟨y,u,rfl,e⟩
  ·exact nomatch e
  ·injection e with c _;subst c;cases v<;>rfl
theorem Sm(prog:oT)(w:px)(i:Int)(t:Tok):(Dn prog w).is (.inl i) (.int i t)=true:=Xx i t
theorem Sn(prog:oT)(w:px)(x:Str)(t:Tok):(Dn prog w).is (.inr x) (.str x t)=true:=Xy x t
inductive V where
 |aX|bl (b:Bool)|int (i:Int)|str (x:Str)|qA (b:Array UInt8)|SW (b:UInt64)|ref (a:Addr)|ty (n:String)
 deriving DecidableEq
def Az:V->oI->Prop
 | .aX,u=>u=Value.none
 | .bl b,u=>u=Value.bool b
 | .int i,u=>∃t,u=Value.int i t
 | .str x,u=>∃t,u=Value.str x t
 | .qA b,u=>∃t,u=Value.bytes b t
 | .SW b,u=>∃t,u=Value.float b t
 | .ref a,u=>u=Value.ref a
 | .ty n,u=>u=Value.type n
abbrev Av:List V->List oI->Prop:=Paired Az
theorem Av.length(r:Av xs us):xs.length=us.length:=Paired.length r
theorem Av.get:∀{xs:List V}{us:List oI}{i:Nat}{x:V},Av xs us->xs[i]?=some x->∃u,us[i]?=some u/\Az x u
 |_,_,_,_,.nil,e=>by simp at e
 |_,_,0,_,.cons r _,e=>by simp at e;subst e;exact⟨_,rfl,r⟩
 |_,_,i+1,x,.cons _ t,e=>by
  obtain⟨u,a,b⟩:=Av.get (i:=i) (x:=x) t (by simpa using e);exact⟨u,by simpa using a,b⟩
theorem Av.set(r:Az x u):∀{xs:List V}{us:List oI} (i:Nat),Av xs us->Av (xs.set i x) (us.set i u)
 |_,_,_,.nil=>.nil
 |_,_,0,.cons _ t=>.cons r t
 |_,_,i+1,.cons q t=>.cons q (Av.set r i t)
theorem Av.append(h:Av xs us)(s:Av a ws):Av (xs++a) (us++ws):=by
 induction h with
 |nil=>exact s
 |cons r t b=>exact .cons r b
theorem Av.take:∀{xs:List V}{us:List oI} (n:Nat),Av xs us->Av (xs.take n) (us.take n)
 |_,_,0,_=>.nil
 |_,_,_+1,.nil=>.nil
 |_,_,n+1,.cons r t=>.cons r (Av.take n t)
theorem Av.drop:∀{xs:List V}{us:List oI} (n:Nat),Av xs us->Av (xs.drop n) (us.drop n)
 |_,_,0,r=>r
 |_,_,_+1,.nil=>.nil
 |_,_,n+1,.cons _ t=>Av.drop n t
def Ge:Option V->Option oI->Prop
 |some v,some u=>Az v u
 |none,none=>True
 |_,_=>False
def KV:List (κ×V)->List (κ×oI)->Prop:=Paired λ(p:κ×V) (q:κ×oI)=>p.1=q.1/\Az p.2 q.2
def kV:Eu->V
 | .inl i=>.int i
 | .inr x=>.str x
section
variable {prog:oT}{w:px}
def Bq(prog:oT)(w:px)(h:Heap)(k:oB×Int)(a:Addr):Prop:=
 ∃o n u t,h.get? a=some o/\o.cls=.type "tuple"/\o.data=.seq #[.ref u,.int k.2 t] n/\IsTupleKey (intKind prog w) h k.1 u
theorem Bq.typeIs{s:oF}{k:oB×Int}{a:Addr}(x:Bq prog w s.heap k a):s.TypeIs (.ref a) "tuple":=let⟨o,_,_,_,c,b,_⟩:=x;⟨o,c,b⟩
theorem Bq.inj(i:Bq prog w h x a)(j:Bq prog w h y a):x=y:=by
 obtain⟨o,n,u,t,g,_,e,f⟩:=i;obtain⟨p,q,s,r,l,_,c,m⟩:=j;obtain rfl:o=p:=eT (g.symm.trans l);rw[e]at c;injection c with b _;simp only[Array.mk.injEq,List.cons.injEq,Value.ref.injEq,Value.int.injEq,and_true]at b;obtain⟨rfl,d,_⟩:=b;exact Prod.ext (f.inj m) d
theorem Bq.keeps{k:oB×Int}{es ep}(x:Bq prog w h k a)(e:h.get? d=some o)(c:o.data=.dict es ep)(f:Heap.SameBut d h h'):Bq prog w h' k a:=by
 obtain⟨i,n,u,t,g,l,b,m⟩:=x
 have j:a≠d:=by
  rintro rfl;obtain rfl:i=o:=eT (g.symm.trans e);rw[c]at b;exact nomatch b
 exact⟨i,n,u,t,(f.2 a j).trans g,l,b,m.keeps e c f⟩
def Ld(prog:oT)(w:px)(k:oB×Int):Int:=reduceHash (Builtin.Tuple.tupleHashOf [tupleKeyHash (intKind prog w) k.1,(intKind prog w).hash k.2])
theorem Vc{A:oW}{E:oi}{s:oF}{k:oB×Int}{a:Addr}{Q:Int->oF->Prop}(l:A.units+8<cLine)(d:Bq prog w s.heap k a)(h:Q (Ld prog w k) {s with toks:=s.toks+(k.1.length+3) }):
  wpAny (model prog w) A (pyHash (.ref a)) Q E s:=by
 have b:=d.typeIs;obtain⟨o,n,u,t,i,_,f,g⟩:=d;unfold pyHash
 first|unfold pyHashByItsType|skip
 first|refine a0 (wpAny_cRoomFor_or (.inr (by omega)) ?_)|skip
 refine a0 (wpAny_specialOf b F.slot_tuple_hash.lookup ?_);show wpAny _ _ (if(some (Value.builtin "tuple.__hash__")==some Value.none)=true then _ else _) Q E s;rw[if_neg (by rw[beq_builtin_none];exact Bool.false_ne_true)];refine a0 (wpAny_specialOf b F.slot_tuple_hash.lookup ?_);show wpAny _ _ (callSpecialIfBoundUnlessNone? (.ref a) "__hash__" _>>=_) Q E s;refine a0 (wpAny_callSpecialIfBoundUnlessNone?_slot b F.slot_tuple_hash (jR F.slot_tuple_hash b F.entry_tuple_hash ?_ (F.args_tuple_hash_1 _)));show wpAny _ _ (Builtin.Tuple.tupleItemsOf (.ref a)>>=_) _ _ s;refine a0 (wpAny_tupleItemsOf i f ?_);refine a0 ?_;rw[<- Array.forIn_toList];show wpAny _ _ (forIn [Value.ref u,Value.int k.2 t] _ _) _ _ _;rw[List.forIn_cons]
 have j:A.in1.units<cLine:=by
  first|(show A.units+1<cLine;omega)|(show A.units<cLine;omega)|(simp only[Around.in1];omega)
 refine a0 (a0 (wpAny_pyHash_tuple (knd:=intKind prog w) j g ?_));refine bc ?_;show wpAny _ _ (forIn [Value.int k.2 t] _ _) _ _ _;rw[List.forIn_cons];refine a0 (a0 ((intKind prog w).pyHash (k:=k.2) (by simp[intKind,Value.isInt]) ?_));refine bc ?_;show wpAny _ _ (forIn [] _ _) _ _ _;rw[List.forIn_nil];refine bc ?_;show wpAny _ _ (retInt (Builtin.Tuple.tupleHashOf [tupleKeyHash (intKind prog w) k.1,(intKind prog w).hash k.2])) _ _ _;refine wpAny_ret_mkInt ?_;generalize e:Builtin.Tuple.tupleHashOf [tupleKeyHash (intKind prog w) k.1,(intKind prog w).hash k.2]=z;show wpAny _ _ (if(decide (-(2:Int)^63<=z)&&decide (z<2^63))=true then _ else _) Q E _;unfold Ld reduceHash at h;rw[e]at h;by_cases c:(decide (-(2:Int)^63<=z)&&decide (z<2^63))=true
 ·rw[if_pos c];rw[if_pos c]at h;exact bc (by simpa[Nat.add_assoc]using h)
 ·rw[if_neg c];rw[if_neg c]at h;exact a0 (mC (bc (by simpa[Nat.add_assoc]using h)))
theorem eh{A:oW}{E:oi}{s:oF}{x y:oB×Int}{a b:Addr}{Q:Bool->oF->Prop}(D:A.units+8<cLine)(f:Bq prog w s.heap x a)(g:Bq prog w s.heap y b)(h:Q (decide (x=y)) s):
  wpAny (model prog w) A (eqBool (.ref a) (.ref b)) Q E s:=by
 unfold eqBool
 try with_reducible refine hJ ?_
 show wpAny _ _ (if(Value.ref a==Value.ref b)=true then _ else _) Q E s;by_cases i:(Value.ref a==Value.ref b)=true
 ·rw[if_pos i];have e:a=b:=by have:=eq_of_beq i;injection this
  subst e;obtain rfl:=f.inj g;exact a0 (mC (bc (by simpa using h)))
 ·rw[if_neg i]
  refine a0 (wpAny_richCompare_same_room (op:=.Eq) f.typeIs g.typeIs F.slot_tuple_eq
   (jR F.slot_tuple_eq f.typeIs F.entry_tuple_eq ?_ (F.args_tuple_eq_2 _ _)) (by omega))
  have j:=g.typeIs;obtain⟨I,G,v,q,o,_,l,m⟩:=f;obtain⟨J,H,B,r,p,_,C,n⟩:=g;show wpAny _ _ (isInstance (.ref b) (.type "tuple")>>=_) _ _ s;refine a0 (my j isSubtype_tuple_tuple ?_);simp only[Bool.not_true,Bool.false_eq_true,if_false];refine a0 (wpAny_tupleItemsOf o l ?_);refine a0 (wpAny_tupleItemsOf p C ?_);refine a0 ?_;show wpAny _ _ (forIn [(Value.ref v,Value.ref B),(Value.int x.2 q,Value.int y.2 r)] _ _) _ _ _;rw[List.forIn_cons]
  have u:A.in1.units<cLine:=by
   first|(show A.units+1<cLine;omega)|(show A.units<cLine;omega)|(simp only[Around.in1];omega)
  refine a0 (a0 (wpAny_eqBool_tuple (knd:=intKind prog w) u m n ?_));by_cases c:x.1=y.1
  ·rw[decide_eq_true c];simp only[Bool.not_true,Bool.false_eq_true,if_false];refine bc ?_;show wpAny _ _ (forIn [(Value.int x.2 q,Value.int y.2 r)] _ _) _ _ _;rw[List.forIn_cons];refine a0 (a0 ((intKind prog w).eqBool (a:=x.2) (b:=y.2) (by simp[intKind,Value.isInt]) (by simp[intKind,Value.isInt]) ?_));by_cases d:x.2=y.2
   ·rw[decide_eq_true d];simp only[Bool.not_true,Bool.false_eq_true,if_false];refine bc ?_;show wpAny _ _ (forIn [] _ _) _ _ _;rw[List.forIn_nil];refine bc ?_;have e:decide (x=y)=true:=decide_eq_true (Prod.ext c d);rw[e]at h;exact bc ⟨_,rfl,(λe=>nomatch e),k4 h⟩
   ·rw[decide_eq_false d];simp only[Bool.not_false,if_true];have e:decide (x=y)=false:=l7 λz=>d (by rw[z]);rw[e]at h;exact a0 (bc (bc (bc (bc ⟨_,rfl,(λe=>nomatch e),k4 h⟩))))
  ·rw[decide_eq_false c];simp only[Bool.not_false,if_true];have e:decide (x=y)=false:=l7 λz=>c (by rw[z]);rw[e]at h;exact a0 (bc (bc (bc (bc ⟨_,rfl,(λe=>nomatch e),k4 h⟩))))
theorem ox(i:IsTupleKey (intKind prog w) s.heap q a)(h:Q true s):wpAny (model prog w) A (eqIsQuiet 7 (.ref a)) Q E s:=by
 have g:=i.typeIs;obtain⟨o,d,n,p,_,l,m⟩:=i;unfold eqIsQuiet;refine a0 (wpAny_specialOf g F.slot_tuple_eq.lookup ?_);show wpAny _ _ (isInstance (.ref a) (.type "tuple")>>=_) _ _ s;refine a0 (my g isSubtype_tuple_tuple ?_);simp only[Bool.not_true,Bool.false_eq_true,if_false];refine a0 (hO p l ?_);refine a0 ?_;show wpAny _ _ (forIn d _ _) _ _ s;rw[<- Array.forIn_toList];refine wpAny_forIn_list _ (λc r f=>r.1=none/\f=s/\∀v∈c,carriedByValue v=true) _ ?_ ?_ _ _ ⟨rfl,rfl,m.byValue⟩
 ·rintro v c r f ⟨e,rfl,b⟩;rw[eqIsQuiet_byValue _ (b v List.mem_cons_self)];refine a0 (bc ?_);simp only[Bool.not_true,Bool.false_eq_true,if_false];exact bc ⟨rfl,rfl,λu j=>b u (ea _ j)⟩
 ·rintro⟨x,y⟩ f ⟨e,rfl,_⟩;simp only at e;subst e;exact bc h
theorem Td{A:oW}{E:oi}{s:oF}{k:oB×Int}{a:Addr}{Q:Bool->oF->Prop}(c:Bq prog w s.heap k a)(h:Q true s):wpAny (model prog w) A (eqIsQuiet 8 (.ref a)) Q E s:=by
 have b:=c.typeIs;obtain⟨o,n,u,t,f,_,d,e⟩:=c;unfold eqIsQuiet;refine a0 (wpAny_specialOf b F.slot_tuple_eq.lookup ?_);show wpAny _ _ (isInstance (.ref a) (.type "tuple")>>=_) _ _ s;refine a0 (my b isSubtype_tuple_tuple ?_);simp only[Bool.not_true,Bool.false_eq_true,if_false];refine a0 (hO f d ?_);refine a0 ?_;show wpAny _ _ (forIn #[Value.ref u,Value.int k.2 t] _ _) _ _ s;rw[<- Array.forIn_toList];show wpAny _ _ (forIn [Value.ref u,Value.int k.2 t] _ _) _ _ s;rw[List.forIn_cons];refine a0 (a0 (ox e ?_));simp only[Bool.not_true,Bool.false_eq_true,if_false];refine bc ?_;show wpAny _ _ (forIn [Value.int k.2 t] _ _) _ _ s;rw[List.forIn_cons,eqIsQuiet_byValue _ rfl];refine a0 (a0 (bc ?_));simp only[Bool.not_true,Bool.false_eq_true,if_false];refine bc ?_;show wpAny _ _ (forIn [] _ _) _ _ s;rw[List.forIn_nil];exact bc (bc h)
def C4(prog:oT)(w:px):HeapKind prog w (oB×Int)where
 is:=Bq prog w
 hash:=Ld prog w
 draws:=λk=>k.1.length+3
 room:=λA=>A.units+8<cLine
 inj:=λc d=>c.inj d
 keeps:=λx f e g=>x.keeps f e g
 pyHash:=λb a h=>Vc b a h
 eqBool:=λb c d h=>eh b c d h
 quiet:=λa h=>Td a h
end
set_option genInjectivity false in
set_option genSizeOf false in
inductive HO where
  |lst (xs:List V)
  |tup (xs:List V)
  |dK (kvs:List (Eu×V))|dT (kvs:List ((List Int×Int)×V))
  |set (S:Int->Bool) (n:Nat)
  |ins (C dx:Addr) (fs:List (Str×V))
  |own (x:Addr)
  |xd (fs:List (Str×V))
  |met (f x:Addr)
  |VE (lo hi:Int)
  |cF (o:Obj) (u:HO)
  |xS (ps:Array oI)
 |tab (q:Str) (pos:Pos)
  |ext (φ:Heap->Prop)
abbrev ov:=List ((List Int×Int)×V)
abbrev Hp:=Addr->Option HO
def D9(H:Hp)(b:Addr)(k:oB×Int):Prop:=∃u,H b=some (.tup [.ref u,.int k.2])/\H u=some (.tup (k.1.map V.int))
theorem D9.up{k:oB×Int}(c:∀b xs,H b=some (.tup xs)->a b=some (.tup xs))(h:D9 H b k):D9 a b k:=let⟨u,d,e⟩:=h;⟨u,c _ _ d,c _ _ e⟩
def upd(H:Hp)(a:Addr)(o:HO):Hp:=λb=>if b=a then some o else H b
theorem A5:upd H a o a=some o:=by unfold upd;rw[if_pos rfl]
theorem Ab(h:b≠a):upd H a o b=H b:=by unfold upd;rw[if_neg h]
theorem Bl{H:Hp}{a b:Addr}{o u:HO}(h:H a=some o)(h':H b=some u)(d:o≠u):a≠b:=by
 intro e;subst e;rw[h]at h';exact d (eT h')
theorem Ag{H:Hp}{a b:Addr}{o:HO}(h:H a=some o)(h':H b=none):a≠b:=by
 intro e;subst e;rw[h]at h';cases h'
section
variable (P:oT) (w:px)
def Bw(H:Hp)(h:Heap)(a:Addr):HO->Prop
 | .lst d=>d.length<=sizeLine/\∃(g:List oI) (n:Nat),Av d g/\h.get? a=some {cls:=.type "list",data:=.seq g.toArray n}
 | .tup d=>(d.length<=sizeLine/\∃o,h.get? a=some o/\o.dict=none)/\∃g:List oI,Av d g/\IsTup h a g.toArray
 | .dK b=>b.length<=sizeLine/\(a==sysModules)=false/\∃y,KV b y/\h.DictOf (Dn P w) a y
 | .dT b => b.length <= sizeLine /\ (a == sysModules) = false /\ ∃ d : List ((oB × Int) × Addr × oI),
   Paired (λ(p:(oB×Int)×V) (q:(oB×Int)×Addr×oI)=>p.1=q.1/\D9 H q.2.1 p.1/\Az p.2 q.2.2) b d/\
   ∃o m z,h.get? a=some o/\o.ExactDict/\o.data=.dict m z/\m.toList=d.map (entryOfKey (C4 P w))/\(d.map (·.1)).Nodup
 | .set S n=>h.SetOf (intKind P w) a S n
 | .ins C j fs => H j = some (.own a) /\ fs.length <= 1000 /\ j ≠ a /\ h.get? a = some (W.instObj C j) /\
   ∃e,h.Ns1 j e/\(∀f,Ge (fs.lookup f) (e f))/\PySem.Within e (fs.map (·.1))
 | .own _=>∃o,h.get? a=some o
 | .xd fs=>∃e,h.Ns1 a e/\∀f,Ge (fs.lookup f) (e f)
 | .VE B A=>∃t u v,h.get? a=some {cls:=.type "range",data:=.fields #[.int B t,.int A u,.int 1 v] }
 | .cF o u=>h.get? a=some o/\Bw H h a u
 | .xS D=>h.get? a=some {cls:=.none,data:=.fields D}
 | .tab q i=>h.get? a=some (W.tabObj #[])\/∃c:Addr,H c=some (.own a)/\c≠a/\h.get? a=some (W.tabObj #[rawInt i.line,rawInt i.col,.ref c])/\h.CodeRec (.ref c) q
 | .met f x=>h.get? a=some (W.methodObj (.ref f) (.ref x))
 | .ext l=>l h/\(∃o,h.get? a=some o)/\∀r s:Heap,l r->(∀o,r.get? a=some o->s.get? a=some o)->l s
def Jr(H:Hp)(h:Heap):Prop:=∀a o,H a=some o->Bw P w H h a o
end
section
variable {P:oT}{w:px}{H H':Hp}{h h':Heap}{a:Addr}{o:HO}
theorem Bw.lt(x:Bw P w H h a o):a<h.objs.size:=by
 cases o with
 |lst d=>obtain⟨_,_,_,_,e⟩:=x;exact dt e
 |tup d=>obtain⟨_,_,_,p⟩:=x;exact p.lt
 |dK b=>obtain⟨_,_,_,_,o,_,_,e,_⟩:=x;exact dt e
 |dT b=>obtain⟨_,_,_,_,o,_,_,e,_⟩:=x;exact dt e
 |set S n=>obtain⟨o,_,_,_,e,_⟩:=x;exact dt e
 |ins C g fs=>obtain⟨_,_,_,e,_⟩:=x;exact dt e
 |own y=>obtain⟨_,e⟩:=x;exact dt e
 |xd fs=>obtain⟨_,⟨_,_,_,e,_⟩,_⟩:=x;exact dt e
 |VE j i=>obtain⟨_,_,_,e⟩:=x;exact dt e
 |cF l u=>obtain⟨e,_⟩:=x;exact dt e
 |xS m=>exact dt (show h.get? a=some _ from x)
 |tab q c=>
  rcases x with e|⟨_,_,_,e,_⟩
  ·exact dt e
  ·exact dt e
 |met f y=>exact dt (show h.get? a=some _ from x)
 |ext r=>obtain⟨_,⟨_,e⟩,_⟩:=x;exact dt e
theorem Paired.JF(h:Paired F c d)(f:∀a b,F a b->G a b):Paired G c d:=by
 induction h with
 |nil=>exact .nil
 |cons r t i=>exact .cons (f _ _ r) i
theorem Bw.jD(x:Bw P w H h a o)(k:∀b u,(b=a\/H b=some (.own a))->h.get? b=some u->h'.get? b=some u)
  (E:∀b,H b=some (.own a)->H' b=some (.own a))(J:∀b xs,H b=some (.tup xs)->H' b=some (.tup xs)):Bw P w H' h' a o:=by
 induction o with
 |lst xs=>obtain⟨z,m,n,r,e⟩:=x;exact⟨z,m,n,r,k _ _ (.inl rfl) e⟩
 |tup xs=>obtain⟨z,m,r,g,e,c⟩:=x;exact⟨⟨z.1,let⟨o,l,d⟩:=z.2;⟨o,k _ _ (.inl rfl) l,d⟩⟩,m,r,g,k _ _ (.inl rfl) e,c⟩
 |dK s=>obtain⟨z,y,D,r,g,j,i,e,c⟩:=x;exact⟨z,y,D,r,g,j,i,k _ _ (.inl rfl) e,c⟩
 |dT s=>
  obtain⟨z,y,xs,r,g,j,i,e,c⟩:=x;exact⟨z,y,xs,Paired.JF r λp q z=>⟨z.1,z.2.1.up J,z.2.2⟩,g,j,i,k _ _ (.inl rfl) e,c⟩
 |set S n=>obtain⟨g,j,i,t,e,c⟩:=x;exact⟨g,j,i,t,k _ _ (.inl rfl) e,c⟩
 |ins C Q fs=>
  obtain⟨d,z,ne,e,A,⟨B,j,i,l,c⟩,r⟩:=x;exact⟨E _ d,z,ne,k _ _ (.inl rfl) e,A,⟨B,j,i,k _ _ (.inr d) l,c⟩,r⟩
 |own y=>obtain⟨g,e⟩:=x;exact⟨g,k _ _ (.inl rfl) e⟩
 |xd fs=>obtain⟨A,⟨B,j,i,e,c⟩,r⟩:=x;exact⟨A,⟨B,j,i,k _ _ (.inl rfl) e,c⟩,r⟩
 |VE T R=>obtain⟨t,u,v,e⟩:=x;exact⟨t,u,v,k _ _ (.inl rfl) e⟩
 |cF g u K=>obtain⟨e,q⟩:=x;exact⟨k _ _ (.inl rfl) e,K q⟩
 |tab q M=>
  rcases x with e|⟨c,d,ne,e,O,L,D,N,l,I,r⟩
  ·exact .inl (k _ _ (.inl rfl) e)
  ·cases l;exact .inr ⟨c,E _ d,ne,k _ _ (.inl rfl) e,c,L,D,N,rfl,k _ _ (.inr d) I,r⟩
 |xS F=>
  have e:h.get? a=some {cls:=.none,data:=.fields F}:=x;show h'.get? a=some {cls:=.none,data:=.fields F};exact k a _ (.inl rfl) e
 |met f y=>
  have e:h.get? a=some (W.methodObj (.ref f) (.ref y)):=x;show h'.get? a=some (W.methodObj (.ref f) (.ref y));exact k a _ (.inl rfl) e
 |ext U=>obtain⟨p,⟨o,e⟩,G⟩:=x;exact⟨G _ _ p λo q=>k _ _ (.inl rfl) q,⟨o,k _ _ (.inl rfl) e⟩,G⟩
theorem Jr.lt(x:Jr P w H h)(e:H a=some o):a<h.objs.size:=(x a o e).lt
theorem Jr.fresh(x:Jr P w H h)(e:h.objs.size<=a):H a=none:=by
 cases q:H a with
 |none=>rfl
 |some u=>exact absurd (hG (x.lt q) e) (Nat.lt_irrefl _)
theorem Jr.kept(x:Jr P w H h)(k:∀b u,h.get? b=some u->h'.get? b=some u):Jr P w H h':=λa o e=>
 (x a o e).jD (λb u _ q=>k b u q) (λ_ q=>q) λ_ _ q=>q
theorem Jr.laid(x:Jr P w H h)(k:∀b u,h.get? b=some u->h'.get? b=some u)(g:h.objs.size<=a)(new:Bw P w (upd H a o) h' a o):Jr P w (upd H a o) h':=λb u e=>by
 have f:=x.fresh g;by_cases d:b=a
 ·subst d;rw[A5]at e;cases e;exact new
 ·rw[Ab d]at e;exact(x b u e).jD (λc v _ q=>k c v q) (λc q=>by rw[Ab (Ag q f)];exact q) λc i q=>by rw[Ab (Ag q f)];exact q
end
def Rd(H:Hp)(a:Addr)(u:HO):Prop:=H a=some u\/∃o,H a=some (.cF o u)
theorem Rd.ok(r:Rd H a u)(x:Jr P w H h):Bw P w H h a u:=by
 rcases r with r|⟨o,r⟩
 ·exact x a u r
 ·obtain⟨_,q⟩:=x a _ r;exact q
def sr:Option HO->Prop
 |some (.lst _)=>True
 |some (.dK _)=>True
 |some (.dT _)=>True
 |some (.set _ _)=>True
 |some (.ins _ _ _)=>True
 |some (.ext _)=>True
 |some (.tab _ _)=>True
 |_=>False
section
variable {P:oT}{w:px}{H:Hp}{h h':Heap}{x e:Addr}{o':HO}
theorem Jr.write(ok:Jr P w H h)(f:sr (H x))(l:e=x\/H e=some (.own x))(k:∀b u,b≠e->h.get? b=some u->h'.get? b=some u)(n:∃u,h'.get? e=some u)
  (new:Bw P w (upd H x o') h' x o'):Jr P w (upd H x o') h':=λb u q=>by
 have j:∀c y,H c=some (.own y)->c≠x:=λc y r z=>by subst z;rw[r]at f;exact f
 have o:∀c i,H c=some (.tup i)->c≠x:=λc i r z=>by subst z;rw[r]at f;exact f
 by_cases a:b=x
 ·subst a;rw[A5]at q;cases q;exact new
 ·rw[Ab a]at q;by_cases g:b=e
  ·have m:H b=some (.own x):=by
    rcases l with z|z
    ·exact absurd (g.trans z) a
    ·rw[g];exact z
   rw[q]at m;cases m;obtain⟨v,p⟩:=n;exact⟨v,by rw[g];exact p⟩
  ·refine(ok b u q).jD (λc v d r=>k c v ?_ r) (λc r=>by rw[Ab (j c b r)];exact r) λc i r=>by rw[Ab (o c i r)];exact r
   rcases d with rfl|d
   ·exact g
   ·rintro rfl;rcases l with z|z
    ·exact j c b d z
    ·rw[d]at z;cases z;exact a rfl
end
structure Un(fs ex:List Addr)(H H':Hp)(h h':Heap):Prop where
 keep:∀b o,h.get? b=some o->H b=none->b∉fs->b∉ex->h'.get? b=some o
 slot:∀b o,h.get? b=some o->H b=none->b∈fs->b∉ex->∃sl,h'.get? b=some {o with slots:=sl}
 free:∀b o,h.get? b=some o->H b=none->b∉ex->H' b=none
 there:∀b o,h.get? b=some o->b∉ex->∃o',h'.get? b=some o'
 aZ:∀b xs,H b=some (.tup xs)->H' b=some (.tup xs)
 eJ:∀b o u,H b=some (.cF o u)->H' b=some (.cF o u)
 iM:∀b ps,H b=some (.xS ps)->∃more,H' b=some (.xS (ps++more))
section
variable {fs fs' ex ex':List Addr}{H H1 H2:Hp}{h h1 h2 h':Heap}{a x e:Addr}{o:HO}
theorem Un.any(u:Un fs ex H H1 h h1)(q:h.get? b=some c)(n:H b=none)(f:b∉ex):∃g,h1.get? b=some {c with slots:=g}:=by
 by_cases d:b∈fs
 ·exact u.slot b c q n d f
 ·exact⟨c.slots,u.keep b c q n d f⟩
theorem Un.trans(a:Un fs ex H H1 h h1)(b:Un fs ex H1 H2 h1 h2):Un fs ex H H2 h h2 where
 keep:=λc f q n i d=>b.keep c f (a.keep c f q n i d) (a.free c f q n d) i d
 slot:=λc f q n i d=>by
  obtain⟨u,g⟩:=a.slot c f q n i d;obtain⟨p,l⟩:=b.slot c _ g (a.free c f q n d) i d;exact⟨p,l⟩
 free:=λc f q n d=>by
  obtain⟨m,g⟩:=a.there c f q d;exact b.free c m g (a.free c f q n d) d
 there:=λc f q d=>by
  obtain⟨m,g⟩:=a.there c f q d;exact b.there c m g d
 aZ:=λc j q=>b.aZ c j (a.aZ c j q)
 eJ:=λc f j q=>b.eJ c f j (a.eJ c f j q)
 iM:=λc s q=>by
  obtain⟨m1,g⟩:=a.iM c s q;obtain⟨r,l⟩:=b.iM c _ g;exact⟨m1++r,by rw[l,Array.append_assoc]⟩
theorem Un.kept(k:∀b u,h.get? b=some u->h'.get? b=some u):Un fs ex H H h h':=
 ⟨λb c q _ _ _=>k b c q,λb c q _ _ _=>⟨c.slots,k b c q⟩,λ_ _ _ n _=>n,λb c q _=>⟨c,k b c q⟩,λ_ _ q=>q,λ_ _ _ q=>q,λ_ d q=>⟨#[],by rw[q];simp⟩⟩
theorem Un.refl:Un fs ex H H h h:=Un.kept λ_ _ q=>q
theorem Un.laid(k:∀b u,h.get? b=some u->h'.get? b=some u)(d:h.objs.size<=a)(c:H a=none):Un fs ex H (upd H a o) h h' where
 keep:=λb u q _ _ _=>k b u q
 slot:=λb u q _ _ _=>⟨u.slots,k b u q⟩
 free:=λb u q n _=>by rw[Ab (Nat.ne_of_lt (Nat.lt_of_lt_of_le (Heap.lt_size q) d))];exact n
 there:=λb u q _=>⟨u,k b u q⟩
 aZ:=λb f q=>by rw[Ab (Ag q c)];exact q
 eJ:=λb u f q=>by rw[Ab (Ag q c)];exact q
 iM:=λb g q=>⟨#[],by rw[Ab (Ag q c),q];simp⟩
theorem Un.write(c:sr (H x))(l:e=x\/H e=some (.own x))(k:∀b u,b≠e->h.get? b=some u->h'.get? b=some u)(j:∃u,h'.get? e=some u):Un fs ex H (upd H x o) h h':=by
 have g:∀b,H b=none->b≠x:=λb n z=>by subst z;rw[n]at c;exact c
 have f:∀b,H b=none->b≠e:=λb n z=>by
  subst z;rcases l with r|r
  ·exact g b n r
  ·rw[n]at r;cases r
 have d:∀b u,H b=some u->¬sr (some u)->b≠x:=λb u q m z=>by subst z;rw[q]at c;exact m c
 refine⟨λb u q n _ _=>k b u (f b n) q,λb u q n _ _=>⟨u.slots,k b u (f b n) q⟩,λb u q n _=>by rw[Ab (g b n)];exact n,λb u q _=>?_,
  λb p q=>by rw[Ab (d b _ q λz=>z)];exact q,λb u p q=>by rw[Ab (d b _ q λz=>z)];exact q,λb s q=>⟨#[],by rw[Ab (d b _ q λz=>z),q];simp⟩⟩
 by_cases i:b=e
 ·subst i;exact j
 ·exact⟨u,k b u i q⟩
end
def xj(h:Heap)(H:Hp):List Addr:=(List.range h.objs.size).filter λa=>(H a).isSome
def Qa(h:Heap)(H:Hp):Heap:=W.hideAll h (xj h H)
theorem Xu(h:Heap)(H:Hp):(Qa h H).objs.size=h.objs.size:=W.hideAll_size _ _
theorem Zo(e:h.get? b=some o)(n:H b=none):(Qa h H).get? b=some o:=
 W.hideAll_get _ e λa=>by
  have q:(H b).isSome=true:=(List.mem_filter.mp a).2;rw[n]at q;simp at q
theorem i4(e:(Qa h H).get? b=some o):h.get? b=some o/\H b=none:=by
 have a:h.get? b=some o:=W.of_hideAll (xj h H) e;refine⟨a,?_⟩;cases q:H b with
 |none=>rfl
 |some x=>
  have c:b∈xj h H:=List.mem_filter.mpr ⟨oa.mpr (dt a),by simp[q]⟩;have z:(Qa h H).get? b=none:=W.hideAll_none (xj h H) c;rw[z]at e;cases e
structure Mod(K:W.Frag)(mg:Str->Option oI)(base:Heap):Prop where
 JH:K.In base
 glob:base.Ns mainGlobals mg
 blt:∃mb,base.Ns builtinsNs mb/\∀x:Str,x≠"__name__"->mb x=bootBuiltins x
 nolimit:base.NoLimit
set_option genInjectivity false in
set_option genSizeOf false in
structure Cx where
 prog:oT
 w:px
 K:W.Frag
 mg:Str->Option oI
 base:Heap
 A:oW
 N:List Str
 s₀:oF
 H₀:Hp
 env:Env
 outer:List Env
 stack:List Env
 ex:List Addr
 fn:Str->Bool
 calm:Bool
 pn:List (Addr×Obj)
 xe:oi
def qB(l:List Env):List Addr:=l.filterMap (·.frame)
abbrev Cx.fs(X:Cx):List Addr:=qB X.outer
def xt(a:Scope)(x:Str):Prop:=a.names.lookup x=some .local\/a.names.lookup x=some .cell\/a.names.lookup x=some .free
def xc(a:Scope)(x:Str):Prop:=a.names.lookup x=some .local\/a.names.lookup x=some .cell
def xn(env:Env)(h:Heap)(m:Str->Option oI)(x:Str)(u:oI):Prop:=
 (env.kindOf x=some .local/\m x=some u)\/((env.kindOf x=some .cell\/env.kindOf x=some .free)/\∃c,env.cells.lookup x=some c/\h.IsCell c (some u))
structure Cx.Ok(X:Cx):Prop where
 mod:Mod X.K X.mg X.base
 kind:X.env.scope.kind=.function
 glob:X.env.globals=mainGlobals
 blt:X.env.builtins=builtinsNs
 above:X.s₀.heap.objs.size<=X.env.locals
 inj:∀x y c,X.env.cells.lookup x=some c->X.env.cells.lookup y=some c->x=y
 has:∀x,(X.env.kindOf x=some .cell\/X.env.kindOf x=some .free)->∃c,X.env.cells.lookup x=some c
 JI:∀x c,X.fn x=true->X.env.cells.lookup x=some c->X.s₀.heap.objs.size<=c
 hd:X.calm=true->X.A.handled=none
 frames:X.A.frames=some X.stack
 SX:X.stack=X.outer\/(X.stack=X.env::X.outer/\X.env.frame=some X.env.locals)
 VH:∀b∈X.ex,b≠X.env.locals/\∀x c,X.env.cells.lookup x=some c->c≠b
 bs:∀b o,X.base.get? b=some o->X.s₀.heap.get? b=some o/\X.H₀ b=none
 xT:X.base.objs.size<=X.s₀.heap.objs.size
 tL:∀b o,X.base.get? b=some o->b∉X.ex
 tM:∀b∈X.ex,b∉X.fs
 iP:X.s₀.heap.FunFrames X.base X.outer
 DB:∀b∈X.fs,X.H₀ b=none
structure Ao(X:Cx)(pins:List (Addr×Obj))(σ:List (Option V))(H:Hp)(s:oF):Prop where
 ok:X.Ok
 os:s.os=X.s₀.os
 bare:AllBare s.gens
 base:Un X.fs X.ex X.H₀ H X.s₀.heap s.heap
 loc:∃m,s.heap.Ns X.env.locals m/\∀(i:Nat) (x:Str) (v:V),X.N[i]?=some x->σ[i]?=some (some v)->xt X.env.scope x->∃u,Az v u/\xn X.env s.heap m x u
 cell:∀x c,X.env.cells.lookup x=some c->∃v,s.heap.IsCell c v
 free:H X.env.locals=none
 cQ:∀x c,X.env.cells.lookup x=some c->H c=none
 pin:∀p∈X.pn++pins,s.heap.get? p.1=some p.2/\H p.1=none/\p.1≠X.env.locals/\p.1∉X.fs/\∀v,p.2.data≠ .cell v
 aH:Jr X.prog X.w H s.heap
 len:σ.length=X.N.length
section
variable {X:Cx}{pins:List (Addr×Obj)}{σ:List (Option V)}{H H':Hp}{s:oF}{h':Heap}
theorem Cx.Ok.VI(ok:X.Ok){b:Addr}{o:Obj}(e:X.base.get? b=some o):b∉X.fs:=λa=>by
 have:=(ok.iP.mem a).1;rw[e]at this;cases this
theorem Ao.bs(I:Ao X pins σ H s):∀b o,X.base.get? b=some o->s.heap.get? b=some o/\H b=none:=λb o e=>
 ⟨I.base.keep b o (I.ok.bs b o e).1 (I.ok.bs b o e).2 (I.ok.VI e) (I.ok.tL b o e),I.base.free b o (I.ok.bs b o e).1 (I.ok.bs b o e).2 (I.ok.tL b o e)⟩
theorem Ao.bk(I:Ao X pins σ H s):∀b o,X.base.get? b=some o->s.heap.get? b=some o:=λb o e=>(I.bs b o e).1
theorem Ao.mod(I:Ao X pins σ H s):Mod X.K X.mg X.base:=I.ok.mod
theorem Ao.rK(I:Ao X pins σ H s):X.K.In s.heap:=I.ok.mod.JH.keeps I.bk
theorem Ao.lt(I:Ao X pins σ H s):X.env.locals<s.heap.objs.size:=let⟨_,a,_⟩:=I.loc;a.lt
theorem Ao.sz(I:Ao X pins σ H s):X.s₀.heap.objs.size<=s.heap.objs.size:=eI I.ok.above (nf I.lt)
theorem Ao.VJ(I:Ao X pins σ H s)(h:s.heap.objs.size<=a):a∉X.fs:=λb=>by
 obtain⟨_,o,c,_⟩:=I.ok.iP.mem b;exact absurd (hG (dt c) (eI I.sz h)) (Nat.lt_irrefl _)
theorem Ao.DC(I:Ao X pins σ H s):∀x c,X.env.cells.lookup x=some c->c≠X.env.locals:=λx c e z=>by
 obtain⟨v,o,b,a⟩:=I.cell x c e;obtain⟨m,⟨i,h,g,d,f,_⟩,_⟩:=I.loc;rw[z,d]at b;cases b;rw[f]at a;cases a
theorem Ao.iP(I:Ao X pins σ H s):s.heap.FunFrames X.base X.outer:=by
 have all:∀(l:List Env),(∀b∈qB l,b∈X.fs)->X.s₀.heap.FunFrames X.base l->s.heap.FunFrames X.base l:=by
  intro l
  induction l with
  |nil=>intro _ _;trivial
  |cons g r q=>
   intro f j;obtain⟨i,⟨L,o,d,m,n,h⟩,p⟩:=j;have a:L∈X.fs:=f L (by unfold qB;rw[List.filterMap_cons,d];exact cI);obtain⟨u,e⟩:=I.base.slot L o n (I.ok.DB L a) a λz=>I.ok.tM L z a;exact⟨i,⟨L,_,d,m,e,h⟩,q (λb c=>f b (by unfold qB;rw[List.filterMap_cons,d];exact ea _ c)) p⟩
 exact all X.outer (λ_ c=>c) I.ok.iP
theorem Ao.stack(I:Ao X pins σ H s):s.heap.FunFrames X.base X.stack:=by
 rcases I.ok.SX with e|⟨e,a⟩
 ·rw[e];exact I.iP
 ·rw[e];obtain⟨m,b,_⟩:=I.loc;refine .cons (by rw[I.ok.kind];decide) a b ?_ I.iP;exact Heap.get?_none_of_le (eI I.ok.xT I.ok.above)
theorem Ao.nV(I:Ao X pins σ H s):∀b∈qB X.stack,b∈X.env.locals::X.fs:=λb a=>by
 rcases I.ok.SX with e|⟨e,c⟩
 ·rw[e]at a;exact ea _ a
 ·rw[e]at a;unfold qB at a;rw[List.filterMap_cons,c]at a;exact a
theorem Ao.qC(I:Ao X pins σ H s):∀b∈qB X.stack,H b=none:=λb a=>by
 rcases fe.mp (I.nV b a)with e|a
 ·rw[e];exact I.free
 ·obtain⟨_,o,c,_⟩:=I.ok.iP.mem a;exact I.base.free b o c (I.ok.DB b a) λz=>I.ok.tM b z a
theorem Ao.step{g':Array GenState}{t':Nat}{d':Drawn}{ch:List Addr}(I:Ao X pins σ H s)
  (C:∀b∈ch,(b∈X.ex\/X.s₀.heap.objs.size<=b)/\b≠X.env.locals/\(∀x c,X.env.cells.lookup x=some c->c≠b)/\∀p∈X.pn++pins,p.1≠b)
  (keep:∀b o,b≠X.env.locals->b∉X.fs->b∉ch->s.heap.get? b=some o->H b=none->h'.get? b=some o)
  (h:∀b o,b≠X.env.locals->b∈X.fs->b∉ch->s.heap.get? b=some o->H b=none->∃J,h'.get? b=some {o with slots:=J})(free:∀b o,b∉ch->s.heap.get? b=some o->H b=none->H' b=none)
  (w:∀b o,b∉ch->s.heap.get? b=some o->∃E,h'.get? b=some E)
  (aZ:∀b xs,H b=some (.tup xs)->H' b=some (.tup xs))(Q:∀b o u,H b=some (.cF o u)->H' b=some (.cF o u))(U:∀b ps,H b=some (.xS ps)->∃more,H' b=some (.xS (ps++more)))
  (Z:∀m,s.heap.Ns X.env.locals m->h'.Ns X.env.locals m)(O:Jr X.prog X.w H' h')(R:AllBare g'):
  Ao X pins σ H' {s with heap:=h',gens:=g',drawn:=d',toks:=t'}:=by
 have D:∀b o,X.s₀.heap.get? b=some o->b≠X.env.locals:=λb o e=>gs (hG (dt e) I.ok.above)
 have F:∀b o,X.s₀.heap.get? b=some o->b∉X.ex->b∉ch:=λb o e a j=>by
  rcases(C b j).1 with z|z
  ·exact a z
  ·exact absurd (hG (dt e) z) (Nat.lt_irrefl _)
 have f:∀x c,X.env.cells.lookup x=some c->∀v,s.heap.IsCell c v->h'.IsCell c v:=λx c e v ⟨o,y,G⟩=>by
  have A:c∉ch:=λz=>(C c z).2.2.1 x c e rfl;by_cases K:c∈X.fs
  ·obtain⟨J,q⟩:=h c o (I.DC x c e) K A y (I.cQ x c e);exact⟨_,q,G⟩
  ·exact⟨o,keep c o (I.DC x c e) K A y (I.cQ x c e),G⟩
 refine⟨I.ok,I.os,R,⟨λb o e n j a=>?_,λb o e n j a=>?_,λb o e n a=>?_,λb o e a=>?_,λb xs e=>aZ b xs (I.base.aZ b xs e),λb o xs e=>Q b o xs (I.base.eJ b o xs e),λb ps e=>?_⟩,?_,λx c e=>?_,?_,λx c e=>?_,λp L=>?_,O,I.len⟩
 ·exact keep b o (D b o e) j (F b o e a) (I.base.keep b o e n j a) (I.base.free b o e n a)
 ·obtain⟨J,g⟩:=I.base.slot b o e n j a;obtain⟨N,B⟩:=h b _ (D b o e) j (F b o e a) g (I.base.free b o e n a);exact⟨N,B⟩
 ·obtain⟨E,g⟩:=I.base.there b o e a;exact free b E (F b o e a) g (I.base.free b o e n a)
 ·obtain⟨E,g⟩:=I.base.there b o e a;exact w b E (F b o e a) g
 ·obtain⟨m1,g⟩:=I.base.iM b ps e;obtain⟨Y,B⟩:=U b _ g;exact⟨m1++Y,by rw[B,Array.append_assoc]⟩
 ·obtain⟨m,T,S⟩:=I.loc;refine⟨m,Z m T,λi x v g B P=>?_⟩;obtain⟨u,r,l⟩:=S i x v g B P;refine⟨u,r,?_⟩;rcases l with l|⟨k,c,e,z⟩
  ·exact .inl l
  ·exact .inr ⟨k,c,e,f x c e _ z⟩
 ·obtain⟨v,z⟩:=I.cell x c e;exact⟨v,f x c e v z⟩
 ·obtain⟨m,⟨o,_,_,y,_⟩,_⟩:=I.loc;exact free _ o (λz=>(C _ z).2.1 rfl) y I.free
 ·obtain⟨v,o,y,G⟩:=I.cell x c e;exact free c o (λz=>(C c z).2.2.1 x c e rfl) y (I.cQ x c e)
 ·obtain⟨e,n,ne,M,d⟩:=I.pin p L;have A:p.1∉ch:=λz=>(C p.1 z).2.2.2 p L rfl;exact⟨keep p.1 p.2 ne M A e n,free p.1 p.2 A e n,ne,M,d⟩
theorem Ao.un{t':Nat}(I:Ao X pins σ H s)(u:Un X.fs [] H H' s.heap h')(f:Jr X.prog X.w H' h'):Ao X pins σ H' {s with heap:=h',toks:=t'}:=by
 obtain⟨m,⟨o,q,p,c,r⟩,_⟩:=id I.loc;obtain⟨x,g⟩:=u.any c I.free (by simp)
 exact I.step (g':=s.gens) (d':=s.drawn) (ch:=[]) (λ_ z=>nomatch z) (λb o _ a _ e n=>u.keep b o e n a (by simp)) (λb o _ a _ e n=>u.slot b o e n a (by simp)) (λb o _ e n=>u.free b o e n (by simp)) (λb o _ e=>u.there b o e (by simp)) u.aZ u.eJ u.iM (λv h=>by
  obtain⟨w,j,l,d,i⟩:=h;rw[c]at d;cases d;exact⟨_,j,l,g,i⟩) f I.bare
theorem Ao.call{g':Array GenState}{t':Nat}{d':Drawn}{ch:List Addr}(I:Ao X pins σ H s)(u:Un (qB X.stack) ch H H' s.heap h')(i:Jr X.prog X.w H' h')(l:AllBare g')
  (g:∀b∈ch,(b∈X.ex\/X.s₀.heap.objs.size<=b)/\b≠X.env.locals/\(∀x c,X.env.cells.lookup x=some c->c≠b)/\∀p∈X.pn++pins,p.1≠b):
  Ao X pins σ H' {s with heap:=h',gens:=g',drawn:=d',toks:=t'}:=by
 obtain⟨m,⟨o,B,A,f,r⟩,_⟩:=id I.loc;obtain⟨E,d⟩:=u.any f I.free λz=>(g _ z).2.1 rfl
 exact I.step (ch:=ch) g (λb o d j a e n=>u.keep b o e n (λz=>(fe.mp (I.nV b z)).elim d j) a) (λb o _ _ a e n=>u.any e n a) (λb o a e n=>u.free b o e n a) (λb o a e=>u.there b o e a) u.aZ u.eJ u.iM (λC q=>by
  obtain⟨D,w,y,h,v⟩:=q;rw[f]at h;cases h;exact⟨_,w,y,d,v⟩) i l
theorem Ao.turned{t':Nat}{it:Addr}(I:Ao X pins σ H s)(k:∀b o,b≠it->s.heap.get? b=some o->h'.get? b=some o)(y:H it=none)(f:it≠X.env.locals)
  (h1:it∈X.ex\/X.s₀.heap.objs.size<=it)(i:∀x c,X.env.cells.lookup x=some c->c≠it)(j:∀p∈X.pn++pins,p.1≠it):Ao X pins σ H {s with heap:=h',toks:=t'}:=by
 have d:∀b u,H b=some u->b≠it:=λb u e z=>by rw[z,y]at e;cases e
 refine I.step (g':=s.gens) (d':=s.drawn) (ch:=[it]) (λb l=>?_) (λb o _ _ a e _=>k b o (λz=>a (by simp[z])) e) (λb o _ _ a e _=>⟨o.slots,k b o (λz=>a (by simp[z])) e⟩) (λ_ _ _ _ n=>n)
  (λb o a e=>⟨o,k b o (λz=>a (by simp[z])) e⟩) (λ_ _ e=>e) (λ_ _ _ e=>e) (λb B e=>⟨#[],by rw[e];simp⟩) (λm w=>?_) (λb u e=>?_) I.bare
 ·have e:b=it:=by simpa using l
  subst e;exact⟨h1,f,i,j⟩
 ·obtain⟨o,h,g,A,r⟩:=w;exact⟨o,h,g,k _ o (Ne.symm f) A,r⟩
 ·refine(I.aH b u e).jD (λc v a q=>k c v ?_ q) (λ_ q=>q) λ_ _ q=>q;rcases a with z|z
  ·rw[z];exact d b u e
  ·exact d c _ z
theorem Ao.tok(I:Ao X pins σ H s)(t:Nat):Ao X pins σ H {s with toks:=t}:=I.un (h':=s.heap) (t':=t) Un.refl I.aH
theorem Ao.kept{t':Nat}(I:Ao X pins σ H s)(k:∀b u,s.heap.get? b=some u->h'.get? b=some u):Ao X pins σ H {s with heap:=h',toks:=t'}:=I.un (Un.kept k) (I.aH.kept k)
theorem Ao.laid{t':Nat}(I:Ao X pins σ H s)(k:∀b u,s.heap.get? b=some u->h'.get? b=some u)(c:s.heap.objs.size<=a)(new:Bw X.prog X.w (upd H a o) h' a o):
  Ao X pins σ (upd H a o) {s with heap:=h',toks:=t'}:=I.un (Un.laid k c (I.aH.fresh c)) (I.aH.laid k c new)
theorem Ao.write{t':Nat}(I:Ao X pins σ H s)(d:sr (H x))(c:e=x\/H e=some (.own x))(k:∀b u,b≠e->s.heap.get? b=some u->h'.get? b=some u)(a:∃u,h'.get? e=some u)
  (new:Bw X.prog X.w (upd H x o) h' x o):Ao X pins σ (upd H x o) {s with heap:=h',toks:=t'}:=I.un (Un.write d c k a) (I.aH.write d c k a new)
theorem Ao.weak(I:Ao X pins σ H s)(f:a.length=σ.length)(w:∀(i:Nat) v,a[i]?=some (some v)->σ[i]?=some (some v)):Ao X pins a H s:=
 ⟨I.ok,I.os,I.bare,I.base,let⟨m,g,b⟩:=I.loc;⟨m,g,λi x v c d e=>b i x v c (w i v d) e⟩,I.cell,I.free,I.cQ,I.pin,I.aH,f.trans I.len⟩
theorem Ao.qD(I:Ao X pins σ H s)(h:∀p∈a,s.heap.get? p.1=some p.2/\H p.1=none/\p.1≠X.env.locals/\p.1∉X.fs/\∀v,p.2.data≠ .cell v):Ao X a σ H s:=
 ⟨I.ok,I.os,I.bare,I.base,I.loc,I.cell,I.free,I.cQ,λp b=>(hH.mp b).elim (λz=>I.pin p (ib _ z)) (h p),I.aH,I.len⟩
theorem So{N:List Str}(e:N.Nodup){i j:Nat}{x:Str}(a:N[i]?=some x)(b:N[j]?=some x):i=j:=by
 obtain⟨f,c⟩:=bA.mp a;obtain⟨g,d⟩:=bA.mp b;exact(List.getElem_inj e).mp (c.trans d.symm)
theorem Pl{M:Model}{A:oW}{E:oi}{i:Nat}{x:Str}{v:V}{u:oI}{Q:Unit->oF->Prop}(I:Ao X pins σ H s)(hN:X.N.Nodup)(hi:X.N[i]?=some x)(B:xc X.env.scope x)(r:Az v u)
  (h:∀s',Ao X pins (σ.set i (some v)) H s'->(∃a,Heap.SameBut a s.heap s'.heap/\(a=X.env.locals\/X.env.cells.lookup x=some a))->Q () s')(hf:X.fn x=true\/X.env.scope.names.lookup x=some .local:=by first|exact .inl rfl|exact .inr rfl|assumption):wpAny M A (storeName X.env x u) Q E s:=by
 obtain⟨m,R,hl⟩:=id I.loc;have nW:(X.env.scope.kind== .class||(X.env.scope.kind== .module&&X.env.locals != X.env.globals))=false:=by rw[I.ok.kind];rfl
 have D:i<σ.length:=by rw[I.len];exact(bA.mp hi).1
 have DC:=I.DC
 have l:∀{a:Addr}{h':Heap},(∃o,s.heap.get? a=some o/\H a=none)->Heap.SameBut a s.heap h'->Jr X.prog X.w H h':=λ{a h'} ha f b ob e=>by
  obtain⟨_,_,zz⟩:=ha;refine(I.aH b ob e).jD (λc N w q=>(f.2 c ?_).trans q) (λ_ q=>q) λ_ _ q=>q;rintro rfl;rcases w with rfl|w
  ·rw[zz]at e;cases e
  ·rw[zz]at w;cases w
 rcases B with F|F
 ·refine wpAny_storeName_local F R (λh' S f=>?_) nW;obtain⟨oL,_,_,xW,_⟩:=id R;refine h _ ⟨I.ok,I.os,I.bare,⟨λb o e n G B=>?_,λb o e n G B=>?_,I.base.free,λb o e B=>?_,I.base.aZ,I.base.eJ,I.base.iM⟩,⟨_,S,λj y v' g C P=>?_⟩,λy c e=>?_,I.free,I.cQ,λp T=>?_,l ⟨oL,xW,I.free⟩ f,by simpa using I.len⟩ ⟨_,f,.inl rfl⟩
  ·exact(f.2 b (gs (hG (dt e) I.ok.above))).trans (I.base.keep b o e n G B)
  ·obtain⟨sl,g⟩:=I.base.slot b o e n G B;exact⟨sl,(f.2 b (gs (hG (dt e) I.ok.above))).trans g⟩
  ·obtain⟨Y,g⟩:=I.base.there b o e B;exact⟨Y,(f.2 b (gs (hG (dt e) I.ok.above))).trans g⟩
  ·by_cases J:j=i
   ·subst J;rw[hi]at g;cases g;rw[List.getElem?_set_self D]at C;cases C;exact⟨u,r,.inl ⟨F,by simp⟩⟩
   ·rw[List.getElem?_set_ne (Ne.symm J)]at C;obtain⟨u',Z,q⟩:=hl j y v' g C P;refine⟨u',Z,?_⟩;rcases q with⟨k,e⟩|⟨k,c,e,z⟩
    ·refine .inl ⟨k,?_⟩;have:y≠x:=λe=>J (So hN g (e▸hi));simp[this,e]
    ·exact .inr ⟨k,c,e,z.sameBut f (DC y c e)⟩
  ·obtain⟨N,z⟩:=I.cell y c e;exact⟨N,z.sameBut f (DC y c e)⟩
  ·obtain⟨e,n,ne,U,d⟩:=I.pin p T;exact⟨(f.2 p.1 ne).trans e,n,ne,U,d⟩
 ·have O:X.fn x=true:=by
   rcases hf with z|z
   ·exact z
   ·rw[z]at F;cases F
  obtain⟨c,w⟩:=I.ok.has x (.inl F);obtain⟨N,z⟩:=I.cell x c w;refine wpAny_storeName_cell I.ok.kind F w z (λh' iQ f=>?_);obtain⟨oc,TF,VM⟩:=id z;refine h {s with heap:=h'} ⟨I.ok,I.os,I.bare,⟨λb o e n G B=>?_,λb o e n G B=>?_,I.base.free,λb o e B=>?_,I.base.aZ,I.base.eJ,I.base.iM⟩,⟨m,R.sameBut f (Ne.symm (DC x c w)),λj y v' g C P=>?_⟩,λy L e=>?_,I.free,I.cQ,λp T=>?_,l ⟨oc,TF,I.cQ x c w⟩ f,by simpa using I.len⟩ ⟨c,f,.inr w⟩
  ·exact(f.2 b (gs (hG (dt e) (I.ok.JI x c O w)))).trans (I.base.keep b o e n G B)
  ·obtain⟨sl,g⟩:=I.base.slot b o e n G B;exact⟨sl,(f.2 b (gs (hG (dt e) (I.ok.JI x c O w)))).trans g⟩
  ·obtain⟨Y,g⟩:=I.base.there b o e B;exact⟨Y,(f.2 b (gs (hG (dt e) (I.ok.JI x c O w)))).trans g⟩
  ·by_cases J:j=i
   ·subst J;rw[hi]at g;cases g;rw[List.getElem?_set_self D]at C;cases C;exact⟨u,r,.inr ⟨.inl F,c,w,iQ⟩⟩
   ·rw[List.getElem?_set_ne (Ne.symm J)]at C;obtain⟨u',Z,q⟩:=hl j y v' g C P;refine⟨u',Z,?_⟩;rcases q with q|⟨k,L,e,z'⟩
    ·exact .inl q
    ·refine .inr ⟨k,L,e,z'.sameBut f ?_⟩;rintro rfl;exact J (So hN g (I.ok.inj _ _ _ e w▸hi))
  ·by_cases K:L=c
   ·subst K;exact⟨_,iQ⟩
   ·obtain⟨w2,z2⟩:=I.cell y L e;exact⟨w2,z2.sameBut f K⟩
  ·obtain⟨e,n,ne,U,d⟩:=I.pin p T;refine⟨(f.2 p.1 ?_).trans e,n,ne,U,d⟩;intro q;rw[q,TF]at e;have q':oc=p.2:=eT e;exact d N (by rw[<- q'];exact VM)
theorem Te(I:Ao X pins σ H s)(b:X.N.Nodup)(hi:X.N[i]?=some x)(d:xc X.env.scope x)(r:Az v u)
  (h:∀s',Ao X pins (σ.set i (some v)) H s'->Q () s')(c:X.fn x=true\/X.env.scope.names.lookup x=some .local:=by first|exact .inl rfl|exact .inr rfl|assumption):wpAny M A (storeName X.env x u) Q E s:=
 Pl I b hi d r (λs' a _=>h s' a) c
theorem Ao.JK(I:Ao X pins σ H s)(h:s'.os=s.os)(u:Un (qB X.stack) ch H H' s.heap s'.heap)(a:Jr X.prog X.w H' s'.heap)(g:AllBare s'.gens)
  (i:∀b∈ch,(b∈X.ex\/X.s₀.heap.objs.size<=b)/\b≠X.env.locals/\(∀x c,X.env.cells.lookup x=some c->c≠b)/\∀p∈X.pn++pins,p.1≠b):Ao X pins σ H' s':=by
 obtain⟨h',f,d,l,j⟩:=s';have e:j=s.os:=h;subst e;exact I.call (g':=f) (t':=l) (d':=d) u a g i
end
abbrev XK:=oI->Option Addr->Hp->Prop
abbrev St:=List (Option V)
abbrev VK:=V->Hp->Prop
abbrev TE:=St->Hp->VK->Prop
abbrev TT:=St->Hp->(Bool->Hp->Prop)->Prop
abbrev TA:=St->Hp->(List V->Hp->Prop)->Prop
set_option genInjectivity false in
set_option genSizeOf false in
structure Km where
 nx:St->Hp->Prop
 rt:VK
 bk:St->Hp->Prop:=λ_ _=>False
 ct:St->Hp->Prop:=λ_ _=>False
abbrev TS:=Km->St->Hp->Prop
def EP(X:Cx)(a:List (Addr×Obj))(c:St)(Q:VK)(u:oI)(s':oF):Prop:=∃v b,Ao X a c b s'/\Az v u/\Q v b
def TP(X:Cx)(a:List (Addr×Obj))(d:St)(Q:Bool->Hp->Prop)(b:Bool)(s':oF):Prop:=∃c,Ao X a d c s'/\Q b c
def AP(X:Cx)(a:List (Addr×Obj))(d:St)(Q:List V->Hp->Prop)(us:List oI)(s':oF):Prop:=∃c b,Ao X a d b s'/\Av c us/\Q c b
def SP(X:Cx)(b:List (Addr×Obj))(D:Km)(f:Flow)(s':oF):Prop:=
 match f with
 | .next=>∃a c,Ao X b a c s'/\D.nx a c
 | .brk=>∃a c,Ao X b a c s'/\D.bk a c
 | .cont=>∃a c,Ao X b a c s'/\D.ct a c
 | .ret u=>∃v a c,Ao X b a c s'/\Az v u/\D.rt v c
def PE(X:Cx)(e:Expr)(t:TE):Prop:=
 ∀(a:List (Addr×Obj)) (s:oF) (b:St) (H:Hp) (Q:VK),Ao X a b H s->t b H Q->wpAny (model X.prog X.w) X.A (eval e X.env) (EP X a b Q) X.xe s
def PT(X:Cx)(e:Expr)(t:TT):Prop:=
 ∀(a:List (Addr×Obj)) (s:oF) (b:St) (H:Hp) (Q:Bool->Hp->Prop),Ao X a b H s->t b H Q->wpAny (model X.prog X.w) X.A (isTrue e X.env (eval e X.env)) (TP X a b Q) X.xe s
def PW(X:Cx)(e:Expr)(t:TT):Prop:=
 ∀(b:Sem oI) (a:List (Addr×Obj)) (s:oF) (c:St) (H:Hp) (Q:Bool->Hp->Prop),Ao X a c H s->t c H Q->wpAny (model X.prog X.w) X.A (isTrue e X.env b) (TP X a c Q) X.xe s
theorem PW.pt{t:TT}(h:PW X e t):PT X e t:=h _
def PA(X:Cx)(es:List Expr)(t:TA):Prop:=
 ∀(b:Pos) (a:List (Addr×Obj)) (s:oF) (c:St) (H:Hp) (Q:List V->Hp->Prop),Ao X a c H s->t c H Q->wpAny (model X.prog X.w) X.A (spliced (backTo b (starEach es X.env))) (AP X a c Q) X.xe s
def PS(X:Cx)(st:Stmt)(t:TS):Prop:=
 ∀(a:List (Addr×Obj)) (s:oF) (b:St) (H:Hp) (D:Km),Ao X a b H s->t D b H->wpAny (model X.prog X.w) X.A (exec st X.env) (SP X a D) X.xe s
def Ri(X:Cx)(st:List Stmt)(t:TS):Prop:=
 ∀(a:List (Addr×Obj)) (s:oF) (b:St) (H:Hp) (D:Km),Ao X a b H s->t D b H->wpAny (model X.prog X.w) X.A (execs st X.env) (SP X a D) X.xe s
theorem C5{t:Sem c}(h:wpAny M A t Q E s)(d:∀a s,Q a s->b a s):wpAny M A t b E s:=ka h d λ_ _ x=>x
section
variable {X:Cx}
def ww(i:Nat):TE:=λa H Q=>∃v,a[i]?=some (some v)/\Q v H
def tC(v:V):TE:=λ_ H Q=>Q v H
theorem oq{pos:Pos}(n:X.N[i]?=some x)(w:xt X.env.scope x)(f:(x==("__debug__":Str))=false:=by decide)(y:(x==("__classdict__":Str))=false:=by decide):PE X (.Name x pos) (ww i):=by
 intro d s z H Q I h;obtain⟨v,e,h⟩:=h;obtain⟨m,q,o⟩:=I.loc;obtain⟨u,r,l⟩:=o i x v n e w;have a:EP X d z Q u s:=⟨v,H,I,r,h⟩;rcases l with⟨b,p⟩|⟨b,c,g,j⟩
 ·exact wpAny_Name (wpAny_loadName_local I.ok.kind b q p a) f
 ·rcases b with b|b
  ·exact wpAny_Name (wpAny_loadName_cell I.ok.kind b g j a) f
  ·exact wpAny_Name (wpAny_loadName_free I.ok.kind b g j a y) f
theorem Ad{i j pos}:PE X (.Constant (.int i) j pos) (tC (.int i)):=λ_ _ _ H _ I h=>wpAny_Constant_int ⟨.int i,H,I.tok _,⟨_,rfl⟩,h⟩
theorem Dp{b j pos}:PE X (.Constant (.bool b) j pos) (tC (.bl b)):=λ_ _ _ H _ I h=>Constant_bool ⟨.bl b,H,I,rfl,h⟩
theorem Dd{j pos}:PE X (.Constant .none j pos) (tC .aX):=λ_ _ _ H _ I h=>Constant_none ⟨.aX,H,I,rfl,h⟩
def Gl(X:Cx)(x:Str):Prop:=X.env.kindOf x=some .globalImplicit
theorem Qc{pos:Pos}(I:Ao X a e H s)(c:Gl X x)(d:X.mg x=some u)(h:Q u s)
  (b:(x==("__debug__":Str))=false:=by decide):wpAny (model X.prog X.w) X.A (eval (.Name x pos) X.env) Q E s:=
 Calls.Name_function_global I.ok.kind c (Calls.loadGlobal_global (by rw[I.ok.glob];exact I.mod.glob.keeps I.bk) d h) b
theorem N3{pos:Pos}(I:Ao X a j H s)(e:Gl X x)(f:X.mg x=none)(i:bootBuiltins x=some u)(h:Q u s)
  (g:x≠"__name__":=by decide)(d:(x==("__debug__":Str))=false:=by decide):wpAny (model X.prog X.w) X.A (eval (.Name x pos) X.env) Q E s:=by
 obtain⟨l,b,c⟩:=I.mod.blt;exact Calls.Name_function_global I.ok.kind e (Calls.loadGlobal_builtin (by rw[I.ok.glob];exact I.mod.glob.keeps I.bk) f (by rw[I.ok.blt];exact b.keeps I.bk) ((c x g).trans i) h) d
theorem Wi{pos:Pos}(b:Gl X x)(c:X.mg x=some u)(r:Az v u)(a:(x==("__debug__":Str))=false:=by decide):PE X (.Name x pos) (tC v):=
 λ_ _ _ H _ I h=>Qc I b c ⟨v,H,I,r,h⟩ a
variable {a b:Expr}{ta tb:TE}{pos:Pos}
def PC(X:Cx)(op:CmpOp)(a b:Expr)(t:TE):Prop:=
 ∀(c:List (Addr×Obj)) (s:oF) (f:St) (H:Hp) (Q:VK),Ao X c f H s->t f H Q->
  wpAny (model X.prog X.w) X.A (eval a X.env) (λv d=>wpAny (model X.prog X.w) X.A (eval b X.env) (λu e=>wpAny (model X.prog X.w) X.A (compareOp op v u) (EP X c f Q) X.xe e) X.xe d) X.xe s
def tB(t:TE):TT:=λe H Q=>t e H λx d=>∃c,x=.bl c/\Q c d
theorem oj{t:TE}(h:PC X op a b t)(h1:behindInMarks op b=false:=by first|exact tP _ (by decide) (by decide)|rfl):PE X (.Compare a [op] [b] pos) t:=λc s e H Q I d=>wpAny_Compare1 (h c s e H Q I d) h1
theorem Ey{t:TE}(h:PC X op a b t)(h1:behindInMarks op b=false:=by first|exact tP _ (by decide) (by decide)|rfl):PT X (.Compare a [op] [b] pos) (tB t):=by
 intro e s n H Q I j;refine wpAny_isTrue_Compare1 (C5 (h e s n H _ I j) λv o h1=>C5 h1 λu p i=>C5 i λc r ⟨x,f,g,m,l⟩=>?_) h1;obtain⟨d,rfl,q⟩:=l;cases m;exact k4 ⟨f,g,q⟩
theorem D5{t:TE}(h:PE X e t)(j:∀c,isTrue e X.env c=(do let v <- c;standAt e.pos;holding [v] (truthy v)):=by intro _;rfl):PT X e (tB t):=by
 intro f s o H Q I l;refine isTrue_plain (C5 (h f s o H _ I l) λv p ⟨x,g,i,n,m⟩=>?_) (j _);obtain⟨d,rfl,q⟩:=m;cases n;exact k4 ⟨g,i,q⟩
variable {tA xH:TT}{rest:List Expr}
def yn(t:TT):TT:=λe H Q=>t e H λc d=>Q (!c) d
theorem Qt(f:PT X a tA):PW X (.BoolOp .And [a] pos) tA:=by
 intro j d s g H Q I h;refine isTrue_and (C5 (f d s g H Q I h) λc i e=>?_);cases c with
 |true=>exact isTrue_and_nil e
 |false=>exact e
theorem Hs(f:PT X a tA):PW X (.BoolOp .Or [a] pos) tA:=by
 intro j d s g H Q I h;refine isTrue_or (C5 (f d s g H Q I h) λc i e=>?_);cases c with
 |false=>exact isTrue_or_nil e
 |true=>exact e
theorem D8(f:PT X a tA):PT X (.UnaryOp .Not a pos) (yn tA):=by
 intro d s g H Q I h;exact isTrue_not (f d s g H (λc e=>Q (!c) e) I h)
def wm(ta:TE):TE:=λe H Q=>ta e H λx d=>∃c,x=.bl c/\Q (.bl (!c)) d
theorem Jg{op}{t:TE}(h:PE X a t):PE X (.BoolOp op [a] pos) t:=λc s e H Q I d=>BoolOp_one (h c s e H Q I d)
theorem ol(j:PE X a ta):PE X (.UnaryOp .Not a pos) (wm ta):=by
 intro d s m H Q I h;refine UnaryOp_ (C5 (j d s m H _ I h) λv n i=>?_);obtain⟨x,f,g,l,e⟩:=i;obtain⟨c,rfl,e⟩:=e;cases l;exact not_of (k4 ⟨.bl (!c),f,g,rfl,e⟩)
def za(t:TT)(ta tb:TE):TE:=λd H Q=>t d H λc e=>if c=true then ta d e Q else tb d e Q
theorem ao(p:PT X c tA)(n:PE X a ta)(o:PE X b tb):PE X (.IfExp c a b pos) (za tA ta tb):=by
 intro e s f H Q I h;refine wpAny_IfExp (C5 (p e s f H _ I h) λd l m=>?_);obtain⟨g,i,j⟩:=m;cases d with
 |true=>exact n e l f g Q i j
 |false=>exact o e l f g Q i j
end
def Be(K:W.Frag)(H:Hp)(a:Addr)(xs:List V):Prop:=
 Rd H a (.lst xs)\/
  ∃(o:Obj) (b:Array oI) (n:Nat),K.lookup a=some o/\o.cls=.type "list"/\o.dict=none/\o.data=.seq b n/\b.size<=sizeLine/\Av xs b.toList
def Bm(K:W.Frag)(H:Hp)(a:Addr)(xs:List V):Prop:=
 Rd H a (.tup xs)\/
  ∃(o:Obj) (b:Array oI) (n:Nat),K.lookup a=some o/\o.cls=.type "tuple"/\o.data=.seq b n/\b.size<=sizeLine/\Av xs b.toList
def xu:oI->Option V
 | .none=>some .aX
 | .bool b=>some (.bl b)
 | .int i _=>some (.int i)
 | .str x _=>some (.str x)
 | .bytes b _=>some (.qA b)
 | .float b _=>some (.SW b)
 | .ref a=>some (.ref a)
 | .type n=>some (.ty n)
 |_=>none
theorem Az.abs(r:Az x u):xu u=some x:=by
 cases x with
 |aX=>cases r;rfl
 |bl _=>cases r;rfl
 |int _=>obtain⟨t,rfl⟩:=r;rfl
 |str _=>obtain⟨t,rfl⟩:=r;rfl
 |qA _=>obtain⟨t,rfl⟩:=r;rfl
 |SW _=>obtain⟨t,rfl⟩:=r;rfl
 |ref _=>cases r;rfl
 |ty _=>cases r;rfl
theorem Az.inj(r:Az x u)(q:Az y u):x=y:=eT (r.abs.symm.trans q.abs)
theorem Av.inj(h:Av xs us)(g:Av a us):xs=a:=by
 induction h generalizing a with
 |nil=>
  cases g;rfl
 |cons r t b=>
  cases g with
  |cons c d=>rw[r.inj c,b d]
section
variable {X:Cx}{pins:List (Addr×Obj)}{σ:St}{H:Hp}{s:oF}{a:Addr}{xs ys:List V}
theorem Be.of{K:W.Frag}(h:H a=some (.lst xs)):Be K H a xs:=.inl (.inl h)
theorem Bm.of{K:W.Frag}(h:H a=some (.tup xs)):Bm K H a xs:=.inl (.inl h)
theorem Ao.list(I:Ao X pins σ H s)(h:Be X.K H a xs):∃b:List oI,Av xs b/\PlainL s.heap a b.toArray/\xs.length<=sizeLine:=by
 rcases h with h|⟨o,b,n,f,c,d,g,i,r⟩
 ·obtain⟨z,b,n,r,e⟩:=h.ok I.aH;exact⟨b,r,⟨_,n,e,rfl,rfl,rfl⟩,z⟩
 ·refine⟨b.toList,r,⟨o,n,I.rK a o f,c,d,by simpa using g⟩,?_⟩;have e:=r.length;simp only[Array.length_toList]at e;omega
theorem Ao.tuple(I:Ao X pins σ H s)(h:Bm X.K H a xs):∃b:List oI,Av xs b/\IsTup s.heap a b.toArray/\xs.length<=sizeLine:=by
 rcases h with h|⟨o,b,n,d,c,f,g,r⟩
 ·obtain⟨z,b,r,p⟩:=h.ok I.aH;exact⟨b,r,p,z.1⟩
 ·refine⟨b.toList,r,⟨o,I.rK a o d,c,n,by simpa using f⟩,?_⟩;have e:=r.length;simp only[Array.length_toList]at e;omega
theorem Ao.mH(I:Ao X pins σ H s)(h:Be X.K H a xs)(h':Be X.K H a ys):xs=ys:=by
 obtain⟨g,r,⟨o,n,e,_,_,d⟩,_⟩:=I.list h;obtain⟨b,j,⟨m,l,f,_,_,c⟩,_⟩:=I.list h';rw[e]at f;cases f;rw[d]at c;injection c with i _;have:g=b:=by simpa using congrArg Array.toList i
 subst this;exact r.inj j
theorem Ao.jZ(I:Ao X pins σ H s)(h:Bm X.K H a xs)(h':Bm X.K H a ys):xs=ys:=by
 obtain⟨g,r,⟨o,e,_,n,d⟩,_⟩:=I.tuple h;obtain⟨b,j,⟨m,f,_,l,c⟩,_⟩:=I.tuple h';rw[e]at f;cases f;rw[d]at c;injection c with i _;have:g=b:=by simpa using congrArg Array.toList i
 subst this;exact r.inj j
end
abbrev Cx.jT(X:Cx)(E:oi):Cx:={X with xe:=E}
abbrev Cx.IG(X:Cx):Cx:=X.jT λ_ _=>False
theorem Cx.Ok.jT{X:Cx}(ok:X.Ok)(E:oi):(X.jT E).Ok:=
 ⟨ok.mod,ok.kind,ok.glob,ok.blt,ok.above,ok.inj,ok.has,ok.JI,ok.hd,ok.frames,ok.SX,ok.VH,ok.bs,ok.xT,ok.tL,ok.tM,ok.iP,ok.DB⟩
theorem Cx.Ok.cV{X:Cx}{E:oi}(ok:(X.jT E).Ok):X.Ok:=
 ⟨ok.mod,ok.kind,ok.glob,ok.blt,ok.above,ok.inj,ok.has,ok.JI,ok.hd,ok.frames,ok.SX,ok.VH,ok.bs,ok.xT,ok.tL,ok.tM,ok.iP,ok.DB⟩
section
variable {X:Cx}{pins:List (Addr×Obj)}{σ:St}{H:Hp}{s:oF}{E:oi}
theorem Ao.jT(I:Ao X pins σ H s)(E:oi):Ao (X.jT E) pins σ H s:=⟨I.ok.jT E,I.os,I.bare,I.base,I.loc,I.cell,I.free,I.cQ,I.pin,I.aH,I.len⟩
theorem Ao.cV(I:Ao (X.jT E) pins σ H s):Ao X pins σ H s:=⟨I.ok.cV,I.os,I.bare,I.base,I.loc,I.cell,I.free,I.cQ,I.pin,I.aH,I.len⟩
theorem SP.cV(h:SP (X.jT E) pins D f s'):SP X pins D f s':=by
 cases f with
 |next=>obtain⟨a,b,I,q⟩:=h;exact⟨a,b,I.cV,q⟩
 |brk=>obtain⟨a,b,I,q⟩:=h;exact⟨a,b,I.cV,q⟩
 |cont=>obtain⟨a,b,I,q⟩:=h;exact⟨a,b,I.cV,q⟩
 |ret u=>obtain⟨v,a,b,I,r,q⟩:=h;exact⟨v,a,b,I.cV,r,q⟩
theorem Ri.IG{st:List Stmt}{t:TS}(h:Ri X.IG st t):Ri X st t:=λpins s σ H D I a=>
 ka (h pins s σ H D (I.jT _) a) (λ_ _ q=>q.cV) λ_ _ z=>False.elim z
end
section
variable {X:Cx}{st:Stmt}{rest:List Stmt}{t u:TS}{e:Expr}{te:TE}{pos:Pos}
def wl:TS:=λD a H=>D.nx a H
def wp(t u:TS):TS:=λD a H=>t {D with nx:=u D} a H
theorem Ap:Ri X [] wl:=λ_ _ a H _ I h=>wpAny_execs_nil ⟨a,H,I,h⟩
theorem A6(h1:PS X st t)(g:Ri X rest u):Ri X (st::rest) (wp t u):=by
 intro a s j H D I h;refine wpAny_execs_cons (C5 (h1 a s j H {D with nx:=u D} I h) λf i q=>?_);cases f with
 |next=>
  obtain⟨b,c,d,q⟩:=q;exact g a i b c D d q
 |ret v=>exact q
 |brk=>exact q
 |cont=>exact q
theorem A9(h1:PS X st t):Ri X [st] t:=by
 intro a s b H D I h;refine wpAny_execs_cons (C5 (h1 a s b H D I h) λf c q=>?_);cases f with
 |next=>exact wpAny_execs_nil q
 |ret v=>exact q
 |brk=>exact q
 |cont=>exact q
theorem Ao.quiet(I:Ao X a b H s):interactive X.env=false:=by simp[interactive,I.ok.kind]
def wg(te:TE):TS:=λD a H=>te a H λ_ b=>D.nx a b
theorem E9(f:PE X e te)(g:swapsWith e none pos.line X.env=pure false:=by rfl):PS X (.Expr e pos) (wg te):=by
 intro a s b H D I h;exact wpAny_Expr_any (C5 (f a s b H _ I h) λv l ⟨x,c,d,j,i⟩=>⟨b,c,d,i⟩) I.quiet g
def yr(te:TE):TS:=λD a H=>te a H D.rt
theorem Ah(f:PE X e te):PS X (.Return (some e) pos) (yr te):=by
 intro a s b H D I h;exact wpAny_Return_some (C5 (f a s b H _ I h) λv j ⟨x,c,d,i,g⟩=>⟨x,b,c,d,i,g⟩)
def yk(c:TT)(t u:TS):TS:=λD a H=>c a H λb d=>if b=true then t D a d else u D a d
theorem Bt(r:PT X c n)(p:Ri X a t)(q:Ri X b u):PS X (.If c a b pos) (yk n t u):=by
 intro f s g H D I h;refine wpAny_If (C5 (r f s g H _ I h) λd m o=>?_);obtain⟨i,j,l⟩:=o;cases d with
 |true=>exact p f m g i D j l
 |false=>exact q f m g i D j l
def qz:TS:=λ_ _ _=>False
theorem Fx:PS X st qz:=λ_ _ _ _ _ _ h=>h.elim
end
abbrev TG:=V->St->Hp->(St->Hp->Prop)->Prop
abbrev jg:=List V->St->Hp->(St->Hp->Prop)->Prop
def PG(X:Cx)(a:Expr)(t:TG):Prop:=
 ∀(b:List (Addr×Obj)) (s:oF) (e:St) (H:Hp) (v:V) (u:oI) (Q:St->Hp->Prop),Ao X b e H s->Az v u->t v e H Q->
  wpAny (model X.prog X.w) X.A (assign a X.env u) (λ_ f=>∃c d,Ao X b c d f/\Q c d) X.xe s
def sw(X:Cx)(h:List Expr)(t:jg):Prop:=
 ∀(a:List (Addr×Obj)) (s:oF) (f:St) (H:Hp) (e:List V) (d:List oI) (Q:St->Hp->Prop),Ao X a f H s->Av e d->t e f H Q->
  wpAny (model X.prog X.w) X.A (assignInOrder ((assignEach h X.env).map (·.2)) d) (λ_ g=>∃b c,Ao X a b c g/\Q b c) X.xe s
abbrev kh:=V->V->V->Hp->(Hp->Prop)->Prop
def t9(X:Cx)(t:kh):Prop:=
 ∀(a:List (Addr×Obj)) (s:oF) (e:St) (H:Hp) (o i v:V) (d c u:oI) (Q:Hp->Prop),Ao X a e H s->Az o d->Az i c->Az v u->t o i v H Q->
  wpAny (model X.prog X.w) X.A (setItem d c u) (λ_ f=>∃b,Ao X a e b f/\Q b) X.xe s
section
variable {X:Cx}{pos:Pos}
def Gu(i:Nat):TG:=λv a H Q=>Q (a.set i (some v)) H
theorem Al(c:X.N.Nodup)(hi:X.N[i]?=some x)(e:xc X.env.scope x)(d:X.fn x=true\/X.env.scope.names.lookup x=some .local:=by first|exact .inl rfl|exact .inr rfl|assumption):PG X (.Name x pos) (Gu i):=by
 intro a s g H v u Q I r h;exact wpAny_assign_Name (Te I c hi e r (λf b=>⟨_,H,b,h⟩) d)
def lg:jg:=λa b H Q=>a=[]/\Q b H
def P1(t:TG)(u:jg):jg:=λc d H Q=>∃v r,c=v::r/\t v d H λa b=>u r a b Q
theorem Cz:sw X [] lg:=by
 intro a s b H d c Q I r h;obtain⟨e,h⟩:=h;subst e;cases r;exact assignInOrder_nil ⟨b,H,I,h⟩
theorem Ar{t:TG}(h1:PG X e t)(i:sw X es u)
  (j:(assignEach (e::es) X.env).map (·.2)=assign e X.env::(assignEach es X.env).map (·.2):=by rfl):sw X (e::es) (P1 t u):=by
 intro a s o H w p Q I r h;obtain⟨v,q,g,h⟩:=h;subst g;cases r with
 |cons r m=>
  rw[j];refine assignInOrder_cons (C5 (h1 a s o H _ _ _ I r h) λ_ n f=>?_);obtain⟨b,c,d,l⟩:=f;exact i a n b c _ _ Q d m l
def gk(K:W.Frag)(n:Nat)(t:jg):TG:=λv c H Q=>∃a b,v=.ref a/\Bm K H a b/\b.length=n/\t b c H Q
theorem ot{k:Nat}{t:jg}(p:X.calm=true)(h:sw X es t)
  (w:(assignEach es X.env).length=n:=by rfl)(j:(assignEach es X.env).findIdx? (·.1)=none:=by rfl):PG X (.Tuple es k pos) (gk X.K n t):=by
 intro c s g H v u Q I r d;obtain⟨a,A,l,x,q,d⟩:=d;subst l;cases r;obtain⟨B,f,y,C⟩:=I.tuple x;refine assign_Tuple_tuple (I.ok.hd p) y (by simp[w,<- q,f.length]) j λm z=>?_;have i:Ao X c g H {s with heap:=m}:=I.kept (t':=s.toks) λb o e=>z b o (gs (dt e)) e;exact h c _ g H A _ Q i (by simpa using f) d
def xw(f e:TE)(t:kh):TG:=λv a H Q=>f a H λo b=>e a b λi c=>t o i v c λd=>Q a d
theorem ap{t:kh}(z:PE X o g)(hi:PE X i f)(A:t9 X t)
  (w:∀v,assign (.Subscript o i pos) X.env v=(do
   let b <- holding [v] (eval o X.env);let d <- holding [v,b] (eval i X.env)
   standAt pos
   holding [v,b,d] (setItem b d v)
   release [v,b,d] []):=by intro _;rfl):PG X (.Subscript o i pos) (xw g f t):=by
 intro a s e H v u Q I r h;rw[w];refine a0 (hJ (C5 (z a s e H _ I h) λb G c=>?_));obtain⟨x,j,n,E,B⟩:=c;refine a0 (hJ (C5 (hi a G e j _ n B) λd J c=>?_));obtain⟨y,l,p,F,C⟩:=c;refine a0 (wpAny_standAt (a0 (hJ (C5 (A a J e l x y v b d u _ p E F r C) λ_ K c=>?_))));obtain⟨m,q,D⟩:=c;exact wpAny_release ⟨e,m,q,D⟩
def w5(c:TE)(g:TG):TS:=λD a H=>c a H λx b=>g x a b D.nx
theorem Qq(j:PE X e c)(l:PG X b g)(m:swapsWithSole [b] e pos.line X.env=pure false:=by rfl)(n:swappedStores [b] e X.env=pure none:=by rfl)
  (h1:(assignEach [b] X.env).map (·.2)=[assign b X.env]:=by rfl):PS X (.Assign [b] e pos) (w5 c g):=by
 intro a s d H D I h;refine wpAny_Assign_stores (C5 (j a s d H _ I h) λv r ⟨x,f,i,p,o⟩=>?_) m n;rw[h1];exact C5 (l a r d f x v _ i p o) λ_ u q=>q
theorem Ak(j:X.N.Nodup)(hi:X.N[i]?=some x)(o:xc X.env.scope x)(l:PE X e c)(n:swapsWith e (some (.Name x a)) pos.line X.env=pure false:=by rfl)(m:X.fn x=true\/X.env.scope.names.lookup x=some .local:=by first|exact .inl rfl|exact .inr rfl|assumption):
  PS X (.Assign [.Name x a] e pos) (w5 c (Gu i)):=by
 intro b s r H D I h;refine wpAny_Assign_Name (C5 (l b s r H _ I h) λv u ⟨y,d,f,q,p⟩=>?_) n;exact Te f j hi o q (λw g=>⟨_,d,g,p⟩) m
end
section
variable {X:Cx}{pos:Pos}
def R8(c:TT)(h:TS):TS:=λD a H=>∃W:Nat->St->Hp->Prop,(∃m,W m a H)/\∀m a H,W m a H->
 c a H λb f=>if b=true then∃N:St->Hp->Prop,(∀d e,N d e->∃g,g<m/\W g d e)/\h {D with nx:=N,ct:=N,bk:=D.nx} a f else D.nx a f
theorem Kb(C:PassesOwn (model X.prog X.w) X.A X.env X.xe)(L:PT X c F)(K:Ri X g E):PS X (.While c g [] pos) (R8 F E):=by
 intro a s S H D I h;obtain⟨W,⟨m0,Q⟩,j⟩:=h;refine wpAny_While (codeAny_whileLoop (λn M=>∃l x,Ao X a l x M/\W n l x) ?_ m0 ⟨S,H,I,Q⟩);rintro n O ⟨e,y,G,R⟩;refine wpAny_passesOwn C (C5 (L a O e y _ G (j n e y R)) λb P J=>?_);obtain⟨z,A,m⟩:=J;cases b with
 |true=>
  obtain⟨N,B,m⟩:=m;rw[if_pos rfl];refine wpAny_passesOwn C (C5 (K a P e z _ A m) λf T o=>?_);cases f with
  |next=>
   obtain⟨d,i,p,u⟩:=o;obtain⟨r,q,w⟩:=B d i u;exact⟨r,q,d,i,p,w⟩
  |cont=>
   obtain⟨d,i,p,u⟩:=o;obtain⟨r,q,w⟩:=B d i u;exact⟨r,q,d,i,p,w⟩
  |brk=>exact o
  |ret v=>exact o
 |false=>
  rw[if_neg Bool.false_ne_true];exact wpAny_execs_nil ⟨e,z,A,m⟩
end
set_option genInjectivity false in
set_option genSizeOf false in
structure It where
 go:Nat->Hp->Prop
 zB:Nat->Hp->V->Hp->Prop
 stop:Nat->Hp->Prop
def Mi(X:Cx)(a:List (Addr×Obj))(H:Hp)(b:Addr):Prop:=
 H b=none/\b≠X.env.locals/\b∉X.fs/\(b∈X.ex\/X.s₀.heap.objs.size<=b)/\(∀x c,X.env.cells.lookup x=some c->c≠b)/\∀p∈X.pn++a,p.1≠b
theorem Ao.rL(I:Ao X a i H s)(d:s.heap.objs.size<=b)(g:f b=none):Mi X a f b:=by
 refine⟨g,Nat.ne_of_gt (hG I.lt d),I.VJ d,.inr (eI I.sz d),λx c e z=>?_,λp h z=>?_⟩
 ·obtain⟨v,q⟩:=I.cell x c e;exact absurd (hG q.lt (by rw[z];exact d)) (Nat.lt_irrefl _)
 ·exact absurd (hG (dt (I.pin p h).1) (by rw[z];exact d)) (Nat.lt_irrefl _)
structure Tq(P:oT)(w:px)(K:W.Frag)(tg:Expr)(J:It)(fp:List Addr)(it:Addr)(tn:Nat->Heap->Prop):Prop where
 mem:it∈fp
 obj:∀i h,tn i h->∀b∈fp,∃o,h.get? b=some o/\∀v,o.data≠ .cell v
 keep:∀i h h',tn i h->(∀b∈fp,∀o,h.get? b=some o->h'.get? b=some o)->tn i h'
 item:∀(X:Cx),X.prog=P->X.w=w->X.K=K->X.calm=true->∀(i:Nat) (pins:List (Addr×Obj)) (s:oF) (σ:St) (H:Hp) (E:oi),Ao X pins σ H s->(∀b∈fp,Mi X pins H b)->tn i s.heap->J.go i H->
  wpAny (model P w) X.A (pyNext (.ref it)) (λr s1=>∃u,r=some u/\
   wpAny (model P w) X.A (letOwnedTupleGo tg (.ref it) u) (λ_ s2=>∃x H',Ao X pins σ H' s2/\Az x u/\J.zB i H x H'/\tn (i+1) s2.heap/\∀b∈fp,H' b=none) E s1) E s
 done:∀(X:Cx),X.prog=P->X.w=w->X.K=K->X.calm=true->∀(i:Nat) (pins:List (Addr×Obj)) (s:oF) (σ:St) (H:Hp) (E:oi),Ao X pins σ H s->(∀b∈fp,Mi X pins H b)->tn i s.heap->J.stop i H->
  wpAny (model P w) X.A (pyNext (.ref it)) (λr s1=>r=none/\Ao X pins σ H s1) E s
 self:∀(A:oW) (i:Nat) (s:oF) (Q:oi) (E:oi),tn i s.heap->Q (.ref it) s->wpAny (model P w) A (pyIter (.ref it)) Q E s
abbrev TI:=St->Hp->(It->Hp->Prop)->Prop
def xq(X:Cx)(a:List (Addr×Obj))(j:St)(i:Expr)(R:It->Hp->Prop)(h:oI)(f:oF):Prop:=
 ∃(e:Addr) (d:List Addr) (g:Nat->Heap->Prop) (J:It) (c:Hp),h=.ref e/\Ao X a j c f/\Tq X.prog X.w X.K i J d e g/\g 0 f.heap/\(∀b∈d,Mi X a c b)/\R J c
def PI(X:Cx)(e b:Expr)(f:TI):Prop:=
 ∀(a:List (Addr×Obj)) (s:oF) (c:St) (H:Hp) (R:It->Hp->Prop),Ao X a c H s->f c H R->
  wpAny (model X.prog X.w) X.A (eval b X.env) (λv d=>wpAny (model X.prog X.w) X.A (pyIter v) (xq X a c e R) X.xe d) X.xe s
theorem Zn(f:s.heap.get? it=some o)(c:o.cls=.type n)(d:o.data=.fields vs)
  (e:["enumerate","zip","dict_itemiterator","dict_reverseitemiterator","odict_iterator","itertools.zip_longest","itertools.pairwise"].contains n=false)(a:Q () s):wpAny M A (letOwnedTupleGo b (.ref it) u) Q E s:=by
 unfold letOwnedTupleGo
 cases b<;>first
  |exact bc a
  | (cases u <;> first
    |exact bc a
    | (refine a0 (wpAny_load f ?_)
       rw[c,d];show wpAny M A (if(["enumerate","zip","dict_itemiterator","dict_reverseitemiterator","odict_iterator","itertools.zip_longest","itertools.pairwise"].contains n&&vs[0]? ==some (rawInt _))=true then _ else _) Q E s;rw[if_neg (by intro h;rw[e,Bool.false_and]at h;cases h)];exact bc a))
def je(K:W.Frag)(a:Addr):It:=
 ⟨λi H=>∃b x,Be K H a b/\b[i]?=some x,λi H x c=>c=H/\∀b,Be K H a b->b[i]?=some x,λi H=>∃b,Be K H a b/\b.length<=i⟩
def rl(K:W.Frag)(a:Addr):It:=
 ⟨λi H=>∃b x,Bm K H a b/\b[i]?=some x,λi H x c=>c=H/\∀b,Bm K H a b->b[i]?=some x,λi H=>∃b,Bm K H a b/\b.length<=i⟩
def jf(lo:Int)(n:Nat):It:=⟨λi _=>i<n,λi H x a=>a=H/\x=.int (lo+i),λi _=>n<=i⟩
theorem Yn{P:oT}{w:px}{K:W.Frag}{tg:Expr}(a it:Addr):Tq P w K tg (je K a) [it] it (λi h=>h.IsListIter it a i)where
 mem:=by simp
 obj:=λi h f b j=>by
  have e:b=it:=by simpa using j
  subst e;obtain⟨o,e,c,d⟩:=f;exact⟨o,e,λv z=>by rw[d]at z;cases z⟩
 keep:=λi h l f k=>f.at λo e=>k it (by simp) o e
 item:=by
  intro X D G C N i g s O H E I m f F;subst D G C;obtain⟨xs,x,n,J⟩:=F;obtain⟨R,L,p,Z⟩:=I.list n;obtain⟨u,U,ru⟩:=L.get J;obtain⟨q,r,T,y,A,B⟩:=m it (by simp);refine wpAny_pyNext_list_item f p.isList (x:=u) (by simpa using U) λl M sb=>?_;have Q:Ao X g O H {s with heap:=l}:=I.turned (t':=s.toks) (λb o j e=>(sb.2 b j).trans e) q r y A B;obtain⟨o,e,c,d⟩:=id M;exact⟨u,rfl,Zn (s:={s with heap:=l}) e c d (by decide) ⟨x,H,Q,ru,⟨rfl,λys Y=>by rw[I.mH Y n];exact J⟩,M,λb j=>(m b j).1⟩⟩
 done:=by
  intro X D G C N i g s O H E I m f F;subst D G C;obtain⟨xs,n,J⟩:=F;obtain⟨R,L,p,Z⟩:=I.list n;obtain⟨q,r,T,y,A,B⟩:=m it (by simp);have hl:=L.length;exact wpAny_pyNext_list_end (I.ok.hd N) f p.isList (by simp;omega) λl S=>⟨rfl,I.turned (t':=s.toks) (λb o j e=>S b o j e) q r y A B⟩
 self:=λ_ _ _ _ _ f h=>wpAny_pyIter_listiter f h
theorem Vg{P:oT}{w:px}{K:W.Frag}{tg:Expr}(a it:Addr):Tq P w K tg (rl K a) [it] it (λi h=>h.IsTupleIter it a i)where
 mem:=by simp
 obj:=λi h f b j=>by
  have e:b=it:=by simpa using j
  subst e;obtain⟨o,e,c,d⟩:=f;exact⟨o,e,λv z=>by rw[d]at z;cases z⟩
 keep:=λi h l f k=>f.at λo e=>k it (by simp) o e
 item:=by
  intro X F J D O i g s Q H E I m f G;subst F J D;obtain⟨xs,x,n,L⟩:=G;obtain⟨q,M,p,Z⟩:=I.tuple n;obtain⟨u,U,ru⟩:=M.get L;obtain⟨r,y,T,A,B,C⟩:=m it (by simp);refine wpAny_pyNext_tuple_item f (show s.heap.IsTuple a q.toArray from p) (x:=u) (by simpa using U) λl N sb=>?_;have R:Ao X g Q H {s with heap:=l}:=I.turned (t':=s.toks) (λb o j e=>(sb.2 b j).trans e) r y A B C;obtain⟨o,e,c,d⟩:=id N;exact⟨u,rfl,Zn (s:={s with heap:=l}) e c d (by decide) ⟨x,H,R,ru,⟨rfl,λys Y=>by rw[I.jZ Y n];exact L⟩,N,λb j=>(m b j).1⟩⟩
 done:=by
  intro X F J D O i g s Q H E I m f G;subst F J D;obtain⟨xs,n,L⟩:=G;obtain⟨q,M,p,Z⟩:=I.tuple n;obtain⟨r,y,T,A,B,C⟩:=m it (by simp);have hl:=M.length;exact wpAny_pyNext_tuple_end (I.ok.hd O) f (show s.heap.IsTuple a q.toArray from p) (by simp;omega) λl S=>⟨rfl,I.turned (t':=s.toks) (λb o j e=>S b o j e) r y A B C⟩
 self:=λ_ _ _ _ _ f h=>wpAny_pyIter_tupleiter f h
theorem Vf{P:oT}{w:px}{K:PySem.W.Frag}{N:Expr}(it:Addr)(lo:Int)(n:Nat):Tq P w K N (jf lo n) [it] it (λi h=>IsRangeIter h it (lo+(i:Nat)*1) ((n:Int)-(i:Nat)) 1)where
 mem:=by simp
 obj:=λi h a b d=>by
  have e:b=it:=by simpa using d
  subst e
  exact⟨_,a,λv z=>by
   have O:Data.fields _=Data.cell v:=z;cases O⟩
 keep:=λi h f a k=>k it (by simp) _ a
 item:=by
  intro X u A r x i c s D H E I g a y;subst u A r;obtain⟨j,l,J,m,p,q⟩:=g it (by simp);have W:=Walks.range (prog:=X.prog) (w:=X.w) (I.ok.hd x) it lo 1 n;refine W.item i s _ _ y a λv f C L B M=>?_;obtain⟨t,rfl⟩:=L;have F:Ao X c D H {s with heap:=f,toks:=C}:=I.turned (λb o d e=>M b o (by simpa using d) e) j l m p q;refine⟨_,rfl,Zn (s:={s with heap:=f,toks:=C}) (n:="range_iterator") B rfl rfl (by decide) ⟨.int (lo+i),H,F,⟨t,?_⟩,⟨rfl,rfl⟩,B,λb d=>(g b d).1⟩⟩;rw[Int.mul_one]
 done:=by
  intro X u A r x i c s D H E I g a y;subst u A r;obtain⟨j,l,J,m,p,q⟩:=g it (by simp);exact wpAny_pyNext_range_end (I.ok.hd x) a (by have:n<=i:=y;omega) λf G=>⟨rfl,I.turned (t':=s.toks) (λb o d e=>G b o d e) j l m p q⟩
 self:=λ_ _ _ _ _ a h=>wpAny_pyIter_rangeiter a h
section
variable {X:Cx}{tg:Expr}
theorem Sv{a:List (Addr×Obj)}{f:St}{H:Hp}{s:oF}{R:It->Hp->Prop}{E:oi}{lo hi:Int}{t u v:Tok}{d:Nat}(I:Ao X a f H s)(h1:-(2^62)<=lo)(i:lo<2^62)(j:-(2^62)<=hi)(l:hi<2^62)
  (q:R (jf lo (hi-lo).toNat) H):wpAny (model X.prog X.w) X.A (pyIter (.ref s.heap.objs.size)) (xq X a f tg R) E {s with heap:=s.heap.push {cls:=.type "range",data:=.fields #[.int lo t,.int hi u,.int 1 v] },toks:=d}:=by
 refine wpAny_pyIter_range (IsRange.new ..) (small_one h1 i j l) ?_;have c:Ao X a f H {s with heap:=s.heap.push {cls:=.type "range",data:=.fields #[.int lo t,.int hi u,.int 1 v] },toks:=d}:=I.kept λb o e=>b4 _ e
 refine⟨(s.heap.push {cls:=.type "range",data:=.fields #[.int lo t,.int hi u,.int 1 v] }).objs.size,[(s.heap.push {cls:=.type "range",data:=.fields #[.int lo t,.int hi u,.int 1 v] }).objs.size],_,_,H,rfl,
  c.kept (t':=d) λb o e=>b4 _ e,Vf _ lo (hi-lo).toNat,?_,λb m=>?_,q⟩
 ·have g:lo+((0:Nat):Int)*1=lo:=by simp
  have h:(((hi-lo).toNat:Nat):Int)-((0:Nat):Int)=Builtin.Range.rangeSize lo hi 1:=by rw[rangeSize_one];split<;>omega
  show IsRangeIter _ _ (lo+((0:Nat):Int)*1) ((((hi-lo).toNat:Nat):Int)-((0:Nat):Int)) 1;rw[g,h];exact cb _ rfl
 ·have e:b=(s.heap.push {cls:=.type "range",data:=.fields #[.int lo t,.int hi u,.int 1 v] }).objs.size:=by simpa using m
  subst e;exact c.rL (da _) (c.aH.fresh (da _))
def u9(b:TA):TI:=λd H R=>b d H λc a=>∃j:Int,c=[.int j]/\-(2^62)<=j/\j<2^62/\R (jf 0 j.toNat) a
def uc(b:TA):TI:=λd H R=>b d H λc a=>∃i j:Int,c=[.int i,.int j]/\(-(2^62)<=i/\i<2^62/\-(2^62)<=j/\j<2^62)/\R (jf i (j-i).toNat) a
theorem Dz{a:Expr}{d:TA}{p pos:Pos}(i:Gl X "range")(l:X.mg "range"=none)(g:PA X [a] d)(m:starEach [a] X.env=[(false,eval a X.env)]:=by rfl):PI X tg (.Call (.Name "range" p) [a] [] pos) (u9 d):=by
 intro b s v H R I h;refine Call_ (N3 I i l boot_range (PyProof.Rows.callWith_type1 (C5 (g pos b s v H _ I h) λy x ⟨z,w,f,o,c⟩=>?_) m rfl));obtain⟨j,e,c,n,q⟩:=c;subst e;cases o with
 |cons r u=>
  cases u;obtain⟨t,rfl⟩:=r;exact call_range_1 (Sv f (by omega) (by omega) c n (by simpa using q))
theorem Yi{p pos:Pos}(o:Gl X "range")(u:X.mg "range"=none)(n:PA X [a,b] l)(v:starEach [a,b] X.env=[(false,eval a X.env),(false,eval b X.env)]:=by rfl)(g:starEach [b] X.env=[(false,eval b X.env)]:=by rfl):
  PI X tg (.Call (.Name "range" p) [a,b] [] pos) (uc l):=by
 intro c s B H R I h;refine Call_ (N3 I o u boot_range (PyProof.Rows.callWith_type1 (C5 (n pos c s B H _ I h) λF D ⟨G,C,m,A,d⟩=>?_) (by rw[v,g]) (by rw[g];rfl)));obtain⟨i,j,e,⟨d,w,x,y⟩,q⟩:=d;subst e;cases A with
 |cons r f=>
  cases f with
  |cons z f=>
   cases f;obtain⟨t,rfl⟩:=r;obtain⟨E,rfl⟩:=z;exact call_range_2 (Sv m d w x y q)
def yi(l:TI)(g:TG)(j:TS):TS:=λD a H=>l a H λJ f=>∃W:Nat->Nat->St->Hp->Prop,(∃m,W 0 m a f)/\∀i m a H,W i m a H->
 (J.stop i H/\D.nx a H)\/(J.go i H/\∃N:St->Hp->Prop,(∀c b,N c b->∃e,e<m/\W (i+1) e c b)/\∀x b,J.zB i H x b->g x a b λd h=>j {D with nx:=N,ct:=N,bk:=D.nx} d h)
def Ni(a:List Addr)(h:Heap):List (Addr×Obj):=a.filterMap λb=>(h.get? b).map λo=>(b,o)
theorem Gi(c:b∈a)(e:h.get? b=some o):(b,o)∈Ni a h:=List.mem_filterMap.mpr ⟨b,c,by rw[e];rfl⟩
theorem Yb(f:p∈Ni a h):p.1∈a/\h.get? p.1=some p.2:=by
 obtain⟨b,d,e⟩:=List.mem_filterMap.mp f;cases q:h.get? b with
 |none=>rw[q]at e;cases e
 |some o=>
  rw[q]at e;have c:(b,o)=p:=eT e;subst c;exact⟨d,q⟩
theorem Ao.pinned(I:Ao X a h H s)(m:∀b∈c,Mi X a H b)(n:∀b∈c,∃o,s.heap.get? b=some o/\∀v,o.data≠ .cell v):Ao X (a++Ni c s.heap) h H s:=
 I.qD λp q=>(hH.mp q).elim (λz=>I.pin p (ia _ z)) λz=>by
  obtain⟨g,e⟩:=Yb z;obtain⟨i,j,l,_⟩:=m p.1 g;obtain⟨o,f,d⟩:=n p.1 g;rw[e]at f;cases f;exact⟨e,i,j,l,d⟩
theorem Ao.eK(I:Ao X (a++pl) b H s):Ao X a b H s:=I.qD λp c=>I.pin p (ia _ (ib _ c))
theorem Cv{pos:Pos}(K:PassesOwn (model X.prog X.w) X.A X.env X.xe)(hc:X.calm=true)(hi:PI X tg w wi)(hg:PG X tg g)(q:Ri X C tb)
  (hs:∀x,foldedSetIterable w X.env x=pure x:=by intro _;rfl):PS X (.For tg w C [] pos) (yi wi g tb):=by
 intro a s σ H D I h;refine wpAny_For (C5 (hi a s σ H _ I h) λv s1 h1=>C5 h1 λTH s2 h2=>?_) hs;obtain⟨it,G,tn,J,H2,e,I2,T,aQ,f2,W,⟨m0,w0⟩,O⟩:=h2;subst e;have y:∀{B:Hp},(∀b∈G,B b=none)->∀b∈G,Mi X a B b:=λhn b q=>⟨hn b q,(f2 b q).2⟩;refine codeAny_forLoop_any (λn s'=>∃i z B,Ao X a z B s'/\tn i s'.heap/\(∀b∈G,B b=none)/\W i n z B) ?_ m0 ⟨0,σ,H2,I2,aQ,λb q=>(f2 b q).1,w0⟩;rintro n s3 ⟨i,A,P,I3,eF,TJ,w3⟩;rcases O i n A P w3 with⟨M,qn⟩|⟨go,N,hN,step⟩
 ·refine wpAny_passesOwn K (C5 (T.done X rfl rfl rfl hc i a s3 A P X.xe I3 (y TJ) eF M) λr s4 F=>?_);obtain⟨S,I4⟩:=F;subst S;exact wpAny_execs_nil ⟨A,P,I4,qn⟩
 ·refine wpAny_passesOwn K (C5 (T.item X rfl rfl rfl hc i a s3 A P X.xe I3 (y TJ) eF go) λr s4 F=>?_);obtain⟨u,S,h4⟩:=F;subst S;refine wpAny_passesOwn K (C5 h4 λ_ s5 F=>?_);obtain⟨x,H5,I5,r5,y5,Y,R⟩:=F;have Q:=I5.pinned (y R) (T.obj _ _ Y);refine wpAny_passesOwn K (C5 (hg _ s5 A H5 x u _ Q r5 (step x H5 y5)) λ_ s6 F=>?_);obtain⟨Z,H6,I6,q6⟩:=F;refine wpAny_passesOwn K (C5 (q _ s6 Z H6 _ I6 q6) λf U E=>?_)
  have p:∀{c:St}{j:Hp},Ao X (a++Ni G s5.heap) c j U->N c j->∃m,m<n/\∃i z B,Ao X a z B U/\tn i U.heap/\(∀b∈G,B b=none)/\W i m z B:=λ{c j} l L=>by
   obtain⟨m',hm,w7⟩:=hN c j L;refine⟨m',hm,i+1,c,j,l.eK,T.keep _ _ _ Y λb q o e=>(l.pin (b,o) (ia _ (ia _ (Gi q e)))).1,λb q=>?_,w7⟩;obtain⟨o,e,d⟩:=T.obj _ _ Y b q;exact(l.pin (b,o) (ia _ (ia _ (Gi q e)))).2.1
  cases f with
  |next=>obtain⟨c,j,l,L⟩:=E;exact p l L
  |cont=>obtain⟨c,j,l,L⟩:=E;exact p l L
  |brk=>obtain⟨c,j,l,E⟩:=E;exact⟨c,j,l.eK,E⟩
  |ret v=>obtain⟨x7,c,j,l,r7,E⟩:=E;exact⟨x7,c,j,l.eK,r7,E⟩
end
theorem D4{K:PySem.W.Frag}{a:Addr}{xs:List V}{g:TG}{o:TS}{D:Km}{b:St}{H:Hp}(c:Nat->St->Hp->Prop)(h0:c 0 b H)(u:∀i b H,i<=xs.length->c i b H->Be K H a xs)
  (v:∀i x b H,xs[i]?=some x->c i b H->g x b H λh j=>o {D with nx:=c (i+1),ct:=c (i+1),bk:=D.nx} h j)(r:∀b H,c xs.length b H->D.nx b H):
  ∃W:Nat->Nat->St->Hp->Prop,(∃m,W 0 m b H)/\∀i m b H,W i m b H->
   ((je K a).stop i H/\D.nx b H)\/((je K a).go i H/\∃N:St->Hp->Prop,(∀f d,N f d->∃n,n<m/\W (i+1) n f d)/\∀x d,(je K a).zB i H x d->g x b d λh j=>o {D with nx:=N,ct:=N,bk:=D.nx} h j):=by
 refine⟨λi m b H=>m=xs.length-i/\i<=xs.length/\c i b H,⟨xs.length,by simp,me _,h0⟩,?_⟩;rintro i m b H ⟨rfl,s,p⟩;have q:=u i b H s p;by_cases l:i<xs.length
 ·refine .inr ⟨⟨xs,xs[i],q,by simp[l]⟩,c (i+1),λf d w=>⟨xs.length-(i+1),by omega,rfl,l,w⟩,λx d y=>?_⟩;obtain⟨e,y⟩:=y;subst e;exact v i x b _ (y xs q) p
 ·have e:i=xs.length:=by omega
  subst e;exact .inl ⟨⟨xs,q,da _⟩,r b H p⟩
theorem W3{K:PySem.W.Frag}{a:Addr}{xs:List V}{g:TG}{o:TS}{D:Km}{b:St}{H:Hp}(c:Nat->St->Hp->Prop)(h0:c 0 b H)(u:∀i b H,i<=xs.length->c i b H->Bm K H a xs)
  (v:∀i x b H,xs[i]?=some x->c i b H->g x b H λh j=>o {D with nx:=c (i+1),ct:=c (i+1),bk:=D.nx} h j)(r:∀b H,c xs.length b H->D.nx b H):
  ∃W:Nat->Nat->St->Hp->Prop,(∃m,W 0 m b H)/\∀i m b H,W i m b H->
   ((rl K a).stop i H/\D.nx b H)\/((rl K a).go i H/\∃N:St->Hp->Prop,(∀f d,N f d->∃n,n<m/\W (i+1) n f d)/\∀x d,(rl K a).zB i H x d->g x b d λh j=>o {D with nx:=N,ct:=N,bk:=D.nx} h j):=by
 refine⟨λi m b H=>m=xs.length-i/\i<=xs.length/\c i b H,⟨xs.length,by simp,me _,h0⟩,?_⟩;rintro i m b H ⟨rfl,s,p⟩;have q:=u i b H s p;by_cases l:i<xs.length
 ·refine .inr ⟨⟨xs,xs[i],q,by simp[l]⟩,c (i+1),λf d w=>⟨xs.length-(i+1),by omega,rfl,l,w⟩,λx d y=>?_⟩;obtain⟨e,y⟩:=y;subst e;exact v i x b _ (y xs q) p
 ·have e:i=xs.length:=by omega
  subst e;exact .inl ⟨⟨xs,q,da _⟩,r b H p⟩
theorem P0{lo:Int}{n:Nat}{g:TG}{o:TS}{D:Km}{a:St}{H:Hp}(c:Nat->St->Hp->Prop)(h0:c 0 a H)
  (r:∀i a H,i<n->c i a H->g (.int (lo+i)) a H λf h=>o {D with nx:=c (i+1),ct:=c (i+1),bk:=D.nx} f h)(q:∀a H,c n a H->D.nx a H):
  ∃W:Nat->Nat->St->Hp->Prop,(∃m,W 0 m a H)/\∀i m a H,W i m a H->
   ((jf lo n).stop i H/\D.nx a H)\/((jf lo n).go i H/\∃N:St->Hp->Prop,(∀d b,N d b->∃l,l<m/\W (i+1) l d b)/\∀x b,(jf lo n).zB i H x b->g x a b λf h=>o {D with nx:=N,ct:=N,bk:=D.nx} f h):=by
 refine⟨λi m a H=>m=n-i/\i<=n/\c i a H,⟨n,by simp,me _,h0⟩,?_⟩;rintro i m a H ⟨rfl,u,p⟩;by_cases j:i<n
 ·refine .inr ⟨j,c (i+1),λd b s=>⟨n-(i+1),by omega,rfl,j,s⟩,λx b y=>?_⟩;obtain⟨e,y⟩:=y;subst e y;exact r i a _ j p
 ·have e:i=n:=by omega
  subst e;exact .inl ⟨da _,q a H p⟩
theorem Hz(g:St->Hp->Prop)(h:St->Hp->Nat)(h0:g a H)
  (n:∀a H,g a H->c a H λb f=>if b=true then j {D with nx:=λd e=>g d e/\h d e<h a H,ct:=λd e=>g d e/\h d e<h a H,bk:=D.nx} a f else D.nx a f)
  (mono:∀a H Q i,(∀b f,Q b f->i b f)->c a H Q->c a H i):R8 c j D a H:=by
 refine⟨λm a H=>m=h a H/\g a H,⟨_,rfl,h0⟩,?_⟩;rintro m a H ⟨rfl,p⟩;refine mono a H _ _ (λb f q=>?_) (n a H p);cases b with
 |true=>exact⟨_,λd e ⟨o,l⟩=>⟨_,l,rfl,o⟩,q⟩
 |false=>exact q
abbrev R2:=V->V->Hp->VK->Prop
def Im(X:Cx)(f:oI->oI->Sem oI)(r:R2):Prop:=
 ∀(a:List (Addr×Obj)) (s:oF) (b:St) (H:Hp) (x y:V) (v u:oI) (Q:VK),Ao X a b H s->Az x v->Az y u->r x y H Q->
  wpAny (model X.prog X.w) X.A (f v u) (EP X a b Q) X.xe s
def Em(X:Cx)(f:oI)(r:List V->Hp->VK->Prop):Prop:=
 ∀(a:List (Addr×Obj)) (s:oF) (d:St) (H:Hp) (c:List V) (b:List oI) (Q:VK),Ao X a d H s->Av c b->r c H Q->
  wpAny (model X.prog X.w) X.A (call f b) (EP X a d Q) X.xe s
def xr(X:Cx)(r:V->Hp->(Bool->Hp->Prop)->Prop):Prop:=
 ∀(a:List (Addr×Obj)) (s:oF) (b:St) (H:Hp) (x:V) (v:oI) (Q:Bool->Hp->Prop),Ao X a b H s->Az x v->r x H Q->
  wpAny (model X.prog X.w) X.A (truthy v) (TP X a b Q) X.xe s
def xi(r:R2)(d e:TE):TE:=λa H Q=>d a H λx b=>e a b λy c=>r x y c Q
def rI(C:Int->Int->Prop)(g:Int->Int->V):R2:=λx y H Q=>∃i j,x=.int i/\y=.int j/\C i j/\Q (g i j) H
def jn(g:Int->Int->V):R2:=λx y H Q=>∃i j,x=.int i/\y=.int j/\Q (g i j) H
section
variable {X:Cx}{a b c:Expr}{ta tb tc:TE}{pos:Pos}
theorem km(q:PE X a ta)(r:PE X b tb){d:List (Addr×Obj)}{s:oF}{g:St}{H:Hp}{R:V->V->Hp->Prop}(I:Ao X d g H s)
  (h:ta g H λx m=>tb g m λy e=>R x y e){Q:oi}{f:oI->oI->Sem oI}
  (w:∀v u l x y e,Ao X d g e l->Az x v->Az y u->R x y e->wpAny (model X.prog X.w) X.A (f v u) Q X.xe l):
  wpAny (model X.prog X.w) X.A (eval a X.env) (λv i=>wpAny (model X.prog X.w) X.A (eval b X.env) (λu j=>wpAny (model X.prog X.w) X.A (f v u) Q X.xe j) X.xe i) X.xe s:=by
 refine C5 (q d s g H _ I h) λv D n=>?_;obtain⟨x,m,o,B,z⟩:=n;refine C5 (r d D g m _ o z) λu l n=>?_;obtain⟨y,e,p,C,A⟩:=n;exact w v u l x y e p B C A
theorem Bd{op:Operator}{r:R2}(j:Im X (binaryOp op) r)(g:PE X a ta)(i:PE X b tb):PE X (.BinOp a op b pos) (xi r ta tb):=by
 intro d s o H Q I h;exact wpAny_BinOp (km g i I h λv u n x y e f l m q=>j d n o e x y v u Q f l m q)
theorem xz{f:oI->oI->Sem oI}{C:Int->Int->Prop}{g:Int->Int->Int}
  (d:∀(i j:Int) (t u:Tok) (s:oF) (Q:oi) (E:oi),C i j->Q (.int (g i j) s.toks) {s with toks:=s.toks+1}->wpAny (model X.prog X.w) X.A (f (.int i t) (.int j u)) Q E s):
  Im X f (rI C λi j=>.int (g i j)):=by
 intro e s p H x y v u Q I m n h;obtain⟨i,j,rfl,rfl,l,q⟩:=h;obtain⟨t,rfl⟩:=m;obtain⟨o,rfl⟩:=n;exact d i j t o s _ _ l ⟨.int (g i j),H,I.tok _,⟨_,rfl⟩,q⟩
theorem ut{f:oI->oI->Sem oI}{g:Int->Int->Int}
  (d:∀(i j:Int) (t u:Tok) (s:oF) (Q:oi) (E:oi),Q (.int (g i j) s.toks) {s with toks:=s.toks+1}->wpAny (model X.prog X.w) X.A (f (.int i t) (.int j u)) Q E s):
  Im X f (jn λi j=>.int (g i j)):=by
 intro e s o H x y v u Q I l m h;obtain⟨i,j,rfl,rfl,q⟩:=h;obtain⟨t,rfl⟩:=l;obtain⟨n,rfl⟩:=m;exact d i j t n s _ _ ⟨.int (g i j),H,I.tok _,⟨_,rfl⟩,q⟩
theorem i5{f:oI->oI->Sem oI}{g:Int->Int->Bool}
  (d:∀(i j:Int) (t u:Tok) (s:oF) (Q:oi) (E:oi),Q (.bool (g i j)) s->wpAny (model X.prog X.w) X.A (f (.int i t) (.int j u)) Q E s):
  Im X f (jn λi j=>.bl (g i j)):=by
 intro e s o H x y v u Q I l m h;obtain⟨i,j,rfl,rfl,q⟩:=h;obtain⟨t,rfl⟩:=l;obtain⟨n,rfl⟩:=m;exact d i j t n s _ _ ⟨.bl (g i j),H,I,rfl,q⟩
def xm(i j:Int):Prop:=0<j/\j<1073741824
theorem Dc:Im X (binaryOp .Add) (jn λi j=>.int (i+j)):=ut λ_ _ _ _ _ _ _ q=>add_int q
theorem ag:Im X (binaryOp .Sub) (jn λi j=>.int (i-j)):=ut λ_ _ _ _ _ _ _ q=>sub_int q
theorem Gj:Im X (binaryOp .FloorDiv) (rI xm λi j=>.int (i/j)):=xz λi j _ _ _ _ _ d q=>by
 have e:(0:Int)<j:=d.1;have f:j<1073741824:=d.2;exact floordiv_int (by omega) (by rw[Int.fdiv_eq_ediv_of_nonneg i (by omega)];exact q) (.inl (PyProof.noPylong_small (by omega)))
theorem D7:Im X (binaryOp .Mod) (rI (λ_ j=>0<j) λi j=>.int (i%j)):=xz λi j _ _ _ _ _ d q=>by
 have e:(0:Int)<j:=d;exact mod_int' (by omega) (by rw[Int.fmod_eq_emod_of_nonneg i (by omega)];exact q)
end
def vx:V->V->Bool
 | .aX,.aX=>true| .aX,.int _=>true| .int _,.aX=>true| .aX,.bl _=>true| .bl _,.aX=>true| .aX,.str _=>true| .str _,.aX=>true
 | .int _,.int _=>true| .bl _,.bl _=>true| .str _,.str _=>true| .qA _,.qA _=>true
 | .int _,.str _=>true| .str _,.int _=>true| .bl _,.str _=>true| .str _,.bl _=>true
 |_,_=>false
def z6:R2:=λx y H Q=>vx x y=true/\Q (.bl (decide (x=y))) H
def z8:R2:=λx y H Q=>vx x y=true/\Q (.bl (!decide (x=y))) H
theorem Vu:decide (V.int i=V.int j)=(i==j):=by
 rw[Bool.eq_iff_iff];simp
theorem Z8:decide (V.bl i=V.bl j)=(i==j):=by
 rw[Bool.eq_iff_iff];simp
theorem Vv:decide (V.str i=V.str j)=(i==j):=by
 rw[Bool.eq_iff_iff];simp
theorem Vt:decide (V.qA i=V.qA j)=(i.toList==j.toList):=by
 rw[Bool.eq_iff_iff];cases i;cases j;simp
section
variable {X:Cx}{a b c:Expr}{ta tb tc:TE}{pos:Pos}
theorem Bf{k f:Bool}(I:Ao X d g H s)(q:Q (.bl k) H)(e:k=f):EP X d g Q (.bool f) s:=by
 subst e;exact⟨.bl k,H,I,rfl,q⟩
theorem Hn:Im X (compareOp .Eq) z6:=by
 intro l s m H x y v u Q I g d h;obtain⟨f,q⟩:=h;cases x with
 |aX=>
  cases g;cases y with
  |aX=>cases d;exact PySem.EqNone.eq_none_none (Bf I q (by simp))
  |bl j=>cases d;exact PySem.EqNone.eq_none_bool (Bf I q (by simp))
  |int j=>obtain⟨e,rfl⟩:=d;exact PySem.EqNone.eq_none_int (Bf I q (by simp))
  |str j=>obtain⟨e,rfl⟩:=d;exact PySem.EqNone.eq_none_str (Bf I q (by simp))
  |_=>exact absurd (show false=true from f) hF
 |bl i=>
  cases g;cases y with
  |aX=>cases d;exact PySem.EqNone.eq_bool_none (Bf I q (by simp))
  |bl j=>cases d;exact eq_bool (Bf I q Z8)
  |str j=>obtain⟨e,rfl⟩:=d;exact PySem.EqMixed.eq_bool_str (Bf I q (by simp))
  |_=>exact absurd (show false=true from f) hF
 |int i=>
  obtain⟨t,rfl⟩:=g;cases y with
  |aX=>cases d;exact PySem.EqNone.eq_int_none (Bf I q (by simp))
  |int j=>obtain⟨e,rfl⟩:=d;exact eq_int (Bf I q Vu)
  |str j=>obtain⟨e,rfl⟩:=d;exact PySem.EqMixed.eq_int_str (Bf I q (by simp))
  |_=>exact absurd (show false=true from f) hF
 |str i=>
  obtain⟨t,rfl⟩:=g;cases y with
  |aX=>cases d;exact PySem.EqNone.eq_str_none (Bf I q (by simp))
  |bl j=>cases d;exact PySem.EqMixed.eq_str_bool (Bf I q (by simp))
  |int j=>obtain⟨e,rfl⟩:=d;exact PySem.EqMixed.eq_str_int (Bf I q (by simp))
  |str j=>obtain⟨e,rfl⟩:=d;exact eq_str (Bf I q Vv)
  |_=>exact absurd (show false=true from f) hF
 |qA i=>
  obtain⟨t,rfl⟩:=g;cases y with
  |qA j=>obtain⟨e,rfl⟩:=d;exact W.eq_bytes (Bf I q Vt)
  |_=>exact absurd (show false=true from f) hF
 |_=>cases y<;>exact absurd (show false=true from f) hF
theorem uu:Im X (compareOp .NotEq) z8:=by
 intro l s m H x y v u Q I g d h;obtain⟨f,q⟩:=h;cases x with
 |aX=>
  cases g;cases y with
  |aX=>cases d;exact PySem.EqNone.ne_none_none (Bf I q (by simp))
  |bl j=>cases d;exact PySem.EqNone.ne_none_bool (Bf I q (by simp))
  |int j=>obtain⟨e,rfl⟩:=d;exact PySem.EqNone.ne_none_int (Bf I q (by simp))
  |str j=>obtain⟨e,rfl⟩:=d;exact PySem.EqNone.ne_none_str (Bf I q (by simp))
  |_=>exact absurd (show false=true from f) hF
 |bl i=>
  cases g;cases y with
  |aX=>cases d;exact PySem.EqNone.ne_bool_none (Bf I q (by simp))
  |bl j=>cases d;exact ne_bool (Bf I q (congrArg not Z8))
  |str j=>obtain⟨e,rfl⟩:=d;exact PySem.EqMixed.ne_bool_str (Bf I q (by simp))
  |_=>exact absurd (show false=true from f) hF
 |int i=>
  obtain⟨t,rfl⟩:=g;cases y with
  |aX=>cases d;exact PySem.EqNone.ne_int_none (Bf I q (by simp))
  |int j=>obtain⟨e,rfl⟩:=d;exact ne_int (Bf I q (congrArg not Vu))
  |str j=>obtain⟨e,rfl⟩:=d;exact PySem.EqMixed.ne_int_str (Bf I q (by simp))
  |_=>exact absurd (show false=true from f) hF
 |str i=>
  obtain⟨t,rfl⟩:=g;cases y with
  |aX=>cases d;exact PySem.EqNone.ne_str_none (Bf I q (by simp))
  |bl j=>cases d;exact PySem.EqMixed.ne_str_bool (Bf I q (by simp))
  |int j=>obtain⟨e,rfl⟩:=d;exact PySem.EqMixed.ne_str_int (Bf I q (by simp))
  |str j=>obtain⟨e,rfl⟩:=d;exact ne_str (Bf I q (congrArg not Vv))
  |_=>exact absurd (show false=true from f) hF
 |qA i=>
  obtain⟨t,rfl⟩:=g;cases y with
  |qA j=>obtain⟨e,rfl⟩:=d;exact W.ne_bytes (Bf I q (congrArg not Vt))
  |_=>exact absurd (show false=true from f) hF
 |_=>cases y<;>exact absurd (show false=true from f) hF
theorem Ho:Im X (compareOp .Lt) (jn λi j=>.bl (decide (i<j))):=i5 λ_ _ _ _ _ _ _ q=>lt_int q
theorem jm:Im X (compareOp .LtE) (jn λi j=>.bl (decide (i<=j))):=i5 λ_ _ _ _ _ _ _ q=>le_int q
theorem jl:Im X (compareOp .Gt) (jn λi j=>.bl (decide (j<i))):=i5 λ_ _ _ _ _ _ _ q=>gt_int q
theorem jk:Im X (compareOp .GtE) (jn λi j=>.bl (decide (j<=i))):=i5 λ_ _ _ _ _ _ _ q=>ge_int q
theorem Nb:Im X (compareOp .Is) (λx y H Q=>y=.aX/\Q (.bl (decide (x=.aX))) H):=by
 intro d s g H x y v u Q I e f h;obtain⟨rfl,q⟩:=h;cases f;refine is_none_gen (Bf I q ?_)
 cases x<;>first
  |(cases e;rfl)
  |(obtain⟨t,rfl⟩:=e;rfl)
theorem K5:Im X (compareOp .IsNot) (λx y H Q=>y=.aX/\Q (.bl (!decide (x=.aX))) H):=by
 intro d s g H x y v u Q I e f h;obtain⟨rfl,q⟩:=h;cases f;refine isnot_none_gen (Bf I q ?_)
 cases x<;>first
  |(cases e;rfl)
  |(obtain⟨t,rfl⟩:=e;rfl)
theorem Au(b:Expr)(h:op≠ .In:=by decide)(f:op≠ .NotIn:=by decide):behindInMarks op b=false:=by
 have d:(op==CmpOp.In)=false:=by cases op<;>first|rfl|exact absurd rfl h
 have e:(op==CmpOp.NotIn)=false:=by cases op<;>first|rfl|exact absurd rfl f
 cases b<;>simp[behindInMarks,d,e]
theorem Cj(l:Im X (compareOp op) r)(g:PE X a ta)(i:PE X b tb)(j:behindInMarks op b=false):PE X (.Compare a [op] [b] pos) (xi r ta tb):=by
 intro d s p H Q I h;exact wpAny_Compare1 (km g i I h λv u o x y e f m n q=>l d o p e x y v u Q f m n q) j
def wq(t:TE):TT:=λe H Q=>t e H λx d=>∃k,x=.bl k/\Q k d
theorem B0(w:Im X (compareOp op) r)(o:PE X a ta)(p:PE X b tb)(q:behindInMarks op b=false):PT X (.Compare a [op] [b] pos) (wq (xi r ta tb)):=by
 intro d s f H Q I h
 refine wpAny_isTrue_Compare1 (C5 (o d s f H _ I h) λv G ⟨x,g,l,D,A⟩=>C5 (p d G f g _ l A) λu J ⟨y,i,m,E,B⟩=>
  C5 (w d J f i x y v u _ m D E B) λc K ⟨z,j,n,F,k,e,C⟩=>?_) q
 subst e;cases F;exact k4 ⟨j,n,C⟩
def qt(r i:R2)(ta tb tc:TE):TE:=λd H Q=>ta d H λx f=>tb d f λy g=>r x y g λz e=>∃k,z=.bl k/\
 (if k=true then tc d e λj h=>i y j h Q else Q (.bl false) e)
theorem aj(J:Im X (compareOp op) r)(K:Im X (compareOp i) n)(D:PE X a ta)(E:PE X b tb)(F:PE X c tc)
  (G:lastMarks [op,i] [b,c]=false:=by with_unfolding_all rfl):PE X (.Compare a [op,i] [b,c] pos) (qt r n ta tb tc):=by
 intro f s g H Q I h
 refine Compare_chain (C5 (D f s g H _ I h) λv S ⟨x,p,A,O,L⟩=>chain_link (C5 (E f S g p _ A L) λu T ⟨y,q,B,o,M⟩=>
  C5 (J f T g q x y v u _ B O o M) λd U ⟨z,j,l,P,k,e,m⟩=>?_)) G
 subst e;cases P;refine k4 ?_;cases k with
 |false=>exact ite_ff ⟨.bl false,j,l,rfl,m⟩
 |true=>exact ite_tt (chain_last (C5 (F f U g j _ l m) λZ Y ⟨z',w,C,R,N⟩=>K f Y g w y z' u Z Q C o R N))
def tp(K:W.Frag)(x:V)(H:Hp)(k:Bool):Prop:=
 match x with
 | .aX=>k=false
 | .bl b=>k=b
 | .int i=>k=(i != 0)
 | .str y=>y.length<=sizeLine/\k=((y.length:Int) != 0)
 | .qA y=>y.size<=sizeLine/\k=((y.size:Int) != 0)
 | .ref p=>(∃e,Be K H p e/\k= !e.isEmpty)\/(∃e,Bm K H p e/\k= !e.isEmpty)\/∃d,H p=some (.dK d)/\k= !d.isEmpty
 |_=>False
theorem Ub(r:KV kvs vs):(!vs.isEmpty)= !kvs.isEmpty:=by
 cases r<;>rfl
theorem N2(r:Av xs d):(!d.toArray.isEmpty)= !xs.isEmpty:=by
 cases r<;>simp
theorem Je:(sizeLine:Nat)<2^63:=by rw[sizeLine_eq];decide
theorem r6:xr X (λx H Q=>∃k,tp X.K x H k/\Q k H):=by
 intro z s F H x v Q I l h;obtain⟨k,e,q⟩:=h;have D:=Je;have E:sizeLine=16777216:=sizeLine_eq;cases x with
 |aX=>
  cases l;have d:k=false:=e;subst d;exact truthy_none ⟨H,I,q⟩
 |bl b=>
  cases l;have d:k=b:=e;subst d;exact k4 ⟨H,I,q⟩
 |int i=>
  obtain⟨t,rfl⟩:=l;have d:k=(i != 0):=e;subst d;exact PySem.P.truthy_int ⟨H,I,q⟩
 |str y=>
  obtain⟨t,rfl⟩:=l;obtain⟨C,d⟩:y.length<=sizeLine/\k=((y.length:Int) != 0):=e;subst d;exact PySem.P.truthy_str (by omega) ⟨H,I.tok _,q⟩
 |qA y=>
  obtain⟨t,rfl⟩:=l;obtain⟨C,d⟩:y.size<=sizeLine/\k=((y.size:Int) != 0):=e;subst d;exact W.truthy_bytes (by omega) ⟨H,I.tok _,q⟩
 |ref p=>
  cases l;have d:(∃j,Be X.K H p j/\k= !j.isEmpty)\/(∃j,Bm X.K H p j/\k= !j.isEmpty)\/∃f,H p=some (.dK f)/\k= !f.isEmpty:=e;rcases d with⟨j,n,d⟩|⟨j,n,d⟩|⟨f,n,d⟩
  ·subst d;obtain⟨A,r,u,w⟩:=I.list n;have g:=r.length;exact wpAny_truthy_list u.isList (by simp only[List.size_toArray];omega) ⟨H,I.tok _,by rw[N2 r];exact q⟩
  ·subst d;obtain⟨A,r,u,w⟩:=I.tuple n;have g:=r.length;exact truthy_tuple u (by simp only[List.size_toArray];omega) ⟨H,I.tok _,by rw[N2 r];exact q⟩
  ·subst d;obtain⟨w,B,o,r,m⟩:f.length<=sizeLine/\(p==sysModules)=false/\∃o,KV f o/\s.heap.DictOf (Dn X.prog X.w) p o:=I.aH p _ n;have g:f.length=o.length:=Paired.length r;exact wpAny_truthy_dict B m (by omega) ⟨H,I.tok _,by rw[Ub r];exact q⟩
 |_=>exact(show False from e).elim
theorem Kc(l:PE X a ta)(m:∀d,isTrue a X.env d=(do let v <- d;standAt a.pos;holding [v] (truthy v))):
  PT X a (λf H Q=>ta f H λx g=>∃k,tp X.K x g k/\Q k g):=by
 intro e s f H Q I h;exact isTrue_plain (C5 (l e s f H _ I h) λv p ⟨x,i,j,o,n⟩=>r6 e p f i x v Q j o n) (m _)
theorem Kg(r:Av [x] us):∃u,us=[u]/\Az x u:=by
 cases r with
 |cons d e=>cases e;exact⟨_,rfl,d⟩
theorem wy(r:Av [x,y] us):∃u d,us=[u,d]/\Az x u/\Az y d:=by
 cases r with
 |cons e f=>
  cases f with
  |cons g h=>cases h;exact⟨_,_,rfl,e,g⟩
theorem Xd(f:X.calm=true):Em X (.builtin "max") (λxs H Q=>∃i j,xs=[.int i,.int j]/\Q (.int (if j>i then j else i)) H):=by
 intro e s p H xs n Q I r h;obtain⟨i,j,rfl,q⟩:=h;obtain⟨u,o,rfl,⟨t,rfl⟩,⟨l,rfl⟩⟩:=wy r;refine max_two_ints (I.ok.hd f) λg m k=>⟨_,H,I.kept k,?_,q⟩;by_cases d:j>i
 ·rw[if_pos d,if_pos d];exact⟨_,rfl⟩
 ·rw[if_neg d,if_neg d];exact⟨_,rfl⟩
end
structure Tp(h:Heap)(x dx C:Addr)(mA:Str->Option oI):Prop where
 obj:h.get? x=some (W.instObj C dx)
 ns:h.Ns1 dx mA
 ne:dx≠x
theorem Y3{h:Heap}{b:Addr}{d:Str->Option oI}(n:h.Ns1 b d):∃f,h.get? b=some f/\∀name,W.lookIn name f=some (d name):=by
 obtain⟨o,c,s,p,j,l,_,m⟩:=n;refine⟨o,p,λname=>?_⟩;have e:=m name;unfold nsFind findBy at e;rw[<- Array.find?_toList]at e;unfold W.lookIn;rw[j];dsimp only;split
 ·rename_i y q;rw[q]at e;exact congrArg some e
 ·rename_i q;rw[q]at e
  have a:c.toList.any (·.refKey)=false:=by
   rw[List.any_eq_false];intro y r;obtain⟨z,t,i⟩:=l y (Array.mem_toList_iff.mp r);simp[DictEntry.refKey,i]
  have g:¬c.toList.any (·.refKey)=true:=by rw[a];exact hF
  rw[if_neg g];exact congrArg some e
theorem Tp.look(I:Tp h x b C c):∃a,W.InstAt h x (W.instObj C b) C (some a)/\∀name,W.lookIn name a=some (c name):=
 let⟨a,e,d⟩:=Y3 I.ns
 ⟨a,⟨I.obj,rfl,rfl,e⟩,d⟩
section
variable {prog:oT}{w:px}{A:oW}{E:oi}{s:oF}{K:W.Frag}{x dx C f:Addr}{mA:Str->Option oI}{name:Str}{v:oI}
theorem gl{a:Bool}{Q:oi}(X:K.In s.heap)(I:Tp s.heap x dx C mA)(c:W.plainGet K C name=true)(d:W.hasDictIn K C=true)
  (b:W.findIn K (.ref C) name=some none)(g:mA name=some v)(i:W.handedIn v=true)(h:Q v {s with toks:=s.toks+1}):
  wpAny (model prog w) A (getAttr (.ref x) name a) Q E s:=by
 obtain⟨j,J,e⟩:=I.look;exact W.get_value X J (W.plainGet_of c).1 (W.findObj_own d b rfl (by rw[e,g])) i h
theorem Zl{pl:Sem Bool}{Q:oI×List oI->oF->Prop}(X:K.In s.heap)(I:Tp s.heap x dx C mA)(a:W.plainGet K C name=true)
  (b:W.findIn K (.ref C) name=some (some (.ref f)))(d:W.isFn K (.ref f)=true)(e:mA name=none)(h:Q (.ref f,[.ref x]) s):
  wpAny (model prog w) A (getMethod (.ref x) name pl) Q E s:=by
 obtain⟨g,J,c⟩:=I.look;exact W.method_fn X J (W.plainGet_of a).1 (W.plainGet_of a).2 b (beq_iff_eq.mp d) (by show(W.lookIn name g).map (·.isSome)=some false;rw[c,e];rfl) h
theorem iw{d:List Str}{Q:Unit->oF->Prop}(X:K.In s.heap)(I:Tp s.heap x dx C mA)
  (p:W.findIn K (.ref C) "__setattr__"=some (some (.builtin "object.__setattr__")))(o:W.plainOver K C=true)(q:W.takerIn K C name=some none)(n:W.hasDictIn K C=true)
  (r:PySem.Within mA d)(hsz:d.length<=sizeLine)
  (h:∀h',Tp h' x dx C (λy=>if y=name then some v else mA y)->Heap.SameBut dx s.heap h'->Q () {s with heap:=h',toks:=s.toks+2}):
  wpAny (model prog w) A (setAttr (.ref x) name v) Q E s:=by
 obtain⟨G,J,D⟩:=I.look;refine W.set_plain X J p (W.osa_open (s:={s with toks:=s.toks+1}) (r:=none) X J o q λb=>?_);obtain⟨B,m,z⟩:=W.any_some n;have u:s.heap.get? x=some ⟨.ref C,some dx,.plain,#[]⟩:=I.obj;refine a0 (bc (a0 (a0 (wpAny_loadPart u (a0 (W.Looks.here (s:={s with toks:=s.toks+1}) (W.looks_clsIn X m) ?_))))));rw[z];refine bc (a:=some dx) (a0 (bc (a0 ?_)));refine wpAny_nsSet1 (s:={s with toks:=s.toks+1}) I.ns λh' g e=>?_;obtain⟨F,l,j,c,a,i⟩:=g.count (PySem.Within.cons name v r);refine a0 (wpAny_lookBehind c (by rw[a];exact pastItsLine_dict (eI i (by rw[List.length_cons];omega))) ?_);exact bc (h _ ⟨(e.2 _ (Ne.symm I.ne)).trans I.obj,g,I.ne⟩ e)
theorem a9{R:Result->oF->Prop}{vs:List oI}{b:List (Str×oI)}(X:K.In s.heap)(e:W.makesIn K C=true)
  (hi:W.findIn K (.ref C) "__init__"=some (some (.ref f)))(c:W.typeIn K (.ref f)=some (.type "function"))
  (h:codeAny (model prog w) (A.under (.builtin "type.__call__" ⟨.ref C::vs,b⟩)) (.call (.ref f) ⟨.ref (s.heap.objs.size+1)::vs,b⟩) (W.InitBack (s.heap.objs.size+1) R)
   {s with heap:=(s.heap.push W.emptyDict).push (W.instObj C s.heap.objs.size) }):
  codeAny (model prog w) A (.call (.ref C) ⟨vs,b⟩) R s:=by
 obtain⟨i,g,d,t,j⟩:=s;exact W.make_core (W.makes_of X e) (W.looks_findIn X hi) (λa=>W.bind_fn X a c) (.inl rfl) h
end
def F0(f:Str)(v:V):List (Str×V)->List (Str×V)
 |[]=>[(f,v)]
 |(g,x)::r=>if g=f then(g,v)::r else(g,x)::F0 f v r
theorem Ll(f g:Str)(v:V):∀fs:List (Str×V),(F0 f v fs).lookup g=if g=f then some v else fs.lookup g
 |[]=>by
  show List.lookup g [(f,v)]=_;by_cases h:g=f
  ·have a:(g==f)=true:=beq_iff_eq.mpr h;simp only[List.lookup,a,if_pos h]
  ·have a:(g==f)=false:=beq_eq_false_iff_ne.mpr h;simp only[List.lookup,a,if_neg h]
 |(k,x)::r=>by
  have c:=Ll f g v r;rw[show F0 f v ((k,x)::r)=(if k=f then(k,v)::r else(k,x)::F0 f v r)from rfl];by_cases b:k=f
  ·rw[if_pos b];by_cases h:g=k
   ·have a:(g==k)=true:=beq_iff_eq.mpr h;simp only[List.lookup,a,if_pos (h.trans b)]
   ·have a:(g==k)=false:=beq_eq_false_iff_ne.mpr h;simp only[List.lookup,a,if_neg (λe:g=f=>h (e.trans b.symm))]
  ·rw[if_neg b];by_cases h:g=k
   ·have a:(g==k)=true:=beq_iff_eq.mpr h;simp only[List.lookup,a,if_neg (λe:g=f=>b (h.symm.trans e))]
   ·have a:(g==k)=false:=beq_eq_false_iff_ne.mpr h;simp only[List.lookup,a];exact c
theorem L5(f:Str)(v:V):∀fs:List (Str×V),f∈(F0 f v fs).map (·.1)/\∀g,g∈fs.map (·.1)->g∈(F0 f v fs).map (·.1)
 |[]=>⟨by simp[F0],λg h=>by simp at h⟩
 |(k,x)::r=>by
  obtain⟨b,c⟩:=L5 f v r;rw[show F0 f v ((k,x)::r)=(if k=f then(k,v)::r else(k,x)::F0 f v r)from rfl];by_cases a:k=f
  ·rw[if_pos a];subst a;exact⟨by simp,λg h=>by simpa using h⟩
  ·rw[if_neg a];refine⟨?_,λg h=>?_⟩
   ·rw[List.map_cons];exact ea _ b
   ·rw[List.map_cons]at h⊢;rcases fe.mp h with e|e
    ·exact fe.mpr (.inl e)
    ·exact ea _ (c g e)
theorem Lk(f:Str)(v:V):∀fs:List (Str×V),(F0 f v fs).length<=fs.length+1
 |[]=>by simp[F0]
 |(k,x)::r=>by
  have b:=Lk f v r;rw[show F0 f v ((k,x)::r)=(if k=f then(k,v)::r else(k,x)::F0 f v r)from rfl];by_cases a:k=f
  ·rw[if_pos a,List.length_cons,List.length_cons];omega
  ·rw[if_neg a,List.length_cons,List.length_cons];omega
theorem Ge.some_of(r:Ge (some v) o):∃u,o=some u/\Az v u:=by
 cases o with
 |none=>exact(show False from r).elim
 |some u=>exact⟨u,rfl,r⟩
theorem Ge.none_of(r:Ge none o):o=none:=by
 cases o with
 |none=>rfl
 |some u=>exact(show False from r).elim
theorem Xt(r:Az v u):W.handedIn u=true:=by
 cases v with
 |aX=>cases(show u=Value.none from r);rfl
 |bl b=>cases(show u=Value.bool b from r);rfl
 |int i=>obtain⟨t,e⟩:=(show∃t,u=Value.int i t from r);cases e;rfl
 |str x=>obtain⟨t,e⟩:=(show∃t,u=Value.str x t from r);cases e;rfl
 |qA b=>obtain⟨t,e⟩:=(show∃t,u=Value.bytes b t from r);cases e;rfl
 |SW b=>obtain⟨t,e⟩:=(show∃t,u=Value.float b t from r);cases e;rfl
 |ref a=>cases(show u=Value.ref a from r);rfl
 |ty n=>cases(show u=Value.type n from r);rfl
section
variable {P:oT}{w:px}{H H':Hp}{h h':Heap}{a C dx:Addr}{fs fs':List (Str×V)}
theorem Qb(c:Jr P w H h)(e:H a=some (.ins C dx fs)):∃b,Tp h a dx C b/\(∀f,Ge (fs.lookup f) (b f))/\PySem.Within b (fs.map (·.1))/\fs.length<=1000/\H dx=some (.own a):=by
 obtain⟨d,z,ne,g,b,n,r,q⟩:=(show Bw P w H h a (.ins C dx fs)from c a _ e);exact⟨b,⟨g,n,ne⟩,r,q,z,d⟩
end
structure Tl(K:W.Frag)(C:Addr):Prop where
 pg:W.plainGet K C Str.empty=true
 hd:W.hasDictIn K C=true
 po:W.plainOver K C=true
 sa:W.findIn K (.ref C) "__setattr__"=some (some (.builtin "object.__setattr__"))
theorem Tl.get{K:W.Frag}{C:Addr}(c:Tl K C)(f:Str):W.plainGet K C f=true:=c.pg
def Eh(K:W.Frag)(C:Addr)(f:Str):Prop:=W.findIn K (.ref C) f=some none
theorem Eh.JM{K:W.Frag}{C:Addr}{f:Str}(n:Eh K C f):W.takerIn K C f=some none:=by
 unfold W.takerIn;rw[show W.findIn K (.ref C) f=some none from n];rfl
structure X6(K:W.Frag)(C:Addr)(m:Str)(f:Addr):Prop where
 at_:W.findIn K (.ref C) m=some (some (.ref f))
 fn:W.isFn K (.ref f)=true
 kp:W.keepIn K (.ref f)=true
section
variable {X:Cx}{pins:List (Addr×Obj)}{σ:St}{H:Hp}{s:oF}{a C dx:Addr}{fs:List (Str×V)}{f:Str}{v:V}{A:oW}{E:oi}
theorem U7(I:Ao X pins σ H s)(e:H a=some (.ins C dx fs))(c:Tl X.K C)(n:Eh X.K C f)(l:fs.lookup f=some v)
  (h:∀u s',Ao X pins σ H s'->Az v u->Q u s'):wpAny (model X.prog X.w) A (getAttr (.ref a) f b) Q E s:=by
 obtain⟨i,O,r,_,_,_⟩:=Qb I.aH e;obtain⟨u,g,d⟩:=Ge.some_of (v:=v) (o:=i f) (by rw[<- l];exact r f);exact gl I.rK O (c.get f) c.hd n g (Xt d) (h u _ (I.tok _) d)
theorem U8(I:Ao X pins σ H s)(e:H a=some (.ins C dx fs))(c:Tl X.K C)(k:X6 X.K C m g)(l:fs.lookup m=none)
  (h:Q (.ref g,[.ref a]) s):wpAny (model X.prog X.w) A (getMethod (.ref a) m pl) Q E s:=by
 obtain⟨d,O,r,_,_,_⟩:=Qb I.aH e;have b:d m=none:=Ge.none_of (by rw[<- l];exact r m);exact Zl I.rK O (c.get m) k.at_ k.fn b h
theorem Ux(I:Ao X pins σ H s)(e:H a=some (.ins C dx fs))(c:Tl X.K C)(n:Eh X.K C f)(J:fs.length<1000)(F:Az y u)
  (h:∀s',Ao X pins σ (upd H a (.ins C dx (F0 f y fs))) s'->Q () s'):wpAny (model X.prog X.w) A (setAttr (.ref a) f u) Q E s:=by
 obtain⟨j,O,r,l,_,i⟩:=Qb I.aH e;have D:(fs.map (·.1)).length<=sizeLine:=by rw[List.length_map,sizeLine_eq];omega
 refine iw I.rK O c.sa c.po n.JM c.hd l D λp d G=>h _ ?_;have x:∃o,p.get? dx=some o:=let⟨o,_,_,m,_⟩:=d.ns;⟨o,m⟩;refine I.write (x:=a) (e:=dx) (by rw[e];exact True.intro) (.inr i) (λb q w z=>(G.2 b w).trans z) x ?_;refine⟨by rw[Ab O.ne];exact i,?_,O.ne,d.obj,_,d.ns,λg=>?_,λg B=>?_⟩
 ·have:=Lk f y fs;omega
 ·show Ge ((F0 f y fs).lookup g) (if g=f then some u else j g);rw[Ll];by_cases q:g=f
  ·rw[if_pos q,if_pos q];exact F
  ·rw[if_neg q,if_neg q];exact r g
 ·by_cases q:g=f
  ·rw[q];exact(L5 f y fs).1
  ·refine(L5 f y fs).2 g (l g λz=>B ?_);show(if g=f then some u else j g)=none;rw[if_neg q];exact z
theorem Ao.made(I:Ao X pins σ H s):Ao X pins σ (upd (upd H s.heap.objs.size (.own (s.heap.objs.size+1))) (s.heap.objs.size+1) (.ins C s.heap.objs.size []))
  {s with heap:=(s.heap.push W.emptyDict).push (W.instObj C s.heap.objs.size) }:=by
 have c:(s.heap.push W.emptyDict).get? s.heap.objs.size=some W.emptyDict:=cb s.heap rfl
 have g:((s.heap.push W.emptyDict).push (W.instObj C s.heap.objs.size)).get? (s.heap.objs.size+1)=some (W.instObj C s.heap.objs.size):=by
  have:=cb (s.heap.push W.emptyDict) (o:=W.instObj C s.heap.objs.size) rfl;rwa[Heap.size_push]at this
 have h:(s.heap.push W.emptyDict).Ns s.heap.objs.size (λ_=>none):=⟨W.emptyDict,#[],_,c,rfl,(λe i=>absurd i (by simp)),λ_=>rfl⟩;have d:=I.laid (a:=s.heap.objs.size) (o:=.own (s.heap.objs.size+1)) (h':=s.heap.push W.emptyDict) (t':=s.toks) (λb u q=>b4 _ q) (da _) ⟨_,c⟩;refine d.laid (a:=s.heap.objs.size+1) (o:=.ins C s.heap.objs.size []) (t':=s.toks) (λb u q=>b4 _ q) (Nat.le_of_eq (Heap.size_push _ _)) ?_;have ne:s.heap.objs.size≠s.heap.objs.size+1:=gs (Nat.lt_succ_self _);refine⟨by rw[Ab ne,A5],me _,ne,g,λ_=>none,(Heap.Ns1.of_empty h).at λo q=>b4 _ q,λ_=>True.intro,λy j=>absurd rfl j⟩
theorem fu{prog:oT}{env:Env}{pos:Pos}(c:attributeBase e f env (eval e env)=eval e env)
  (h:wpAny (model prog w) A (eval e env) (λo b=>wpAny (model prog w) A (getAttr o f true) Q E b) E s):wpAny (model prog w) A (eval (.Attribute e f pos) env) Q E s:=
 Attribute_any_ h (by rw[arm_eval_Attribute,c])
end
def yh(K:W.Frag)(d:TE)(f:Str):TE:=λe H Q=>d e H λx b=>∃a C c fs v,x=.ref a/\b a=some (.ins C c fs)/\Tl K C/\Eh K C f/\fs.lookup f=some v/\Q v b
def ye(K:W.Frag)(g tv:TE)(f:Str):TS:=λD b H=>tv b H λy e=>g b e λx c=>∃a C d fs,x=.ref a/\c a=some (.ins C d fs)/\Tl K C/\Eh K C f/\fs.length<1000/\
 D.nx b (upd c a (.ins C d (F0 f y fs)))
section
variable {X:Cx}{o e value:Expr}{f:Str}{pos pos' rM:Pos}{ta tv:TE}
theorem Fk(w:PE X e ta)(r:attributeBase e f X.env (eval e X.env)=eval e X.env):PE X (.Attribute e f pos) (yh X.K ta f):=by
 intro b s A H Q I h;refine fu r (C5 (w b s A H _ I h) λu D j=>?_);obtain⟨x,d,g,z,a,C,B,fs,v,p,m,c,n,l,q⟩:=j;subst p;obtain rfl:u=Value.ref a:=z;exact U7 g m c n l λF E i y=>⟨v,d,i,y,q⟩
theorem Hr(v:PE X o ta)(z:PE X value tv)(w:swapsWith value (some (.Attribute o f pos')) pos.line X.env=pure false):PS X (.Assign [.Attribute o f pos'] value pos) (ye X.K ta tv f):=by
 intro b s d H D I h;refine plainObj_wpAny_Assign_Attribute (C5 (z b s d H _ I h) λu G ⟨y,g,i,F,q⟩=>C5 (v b G d g _ i q) λA L ⟨x,J,j,E,a,C,K,fs,r,p,c,n,l,B⟩=>?_) w;subst r;obtain rfl:A=Value.ref a:=E;exact Ux j p c n l F λM m=>⟨d,_,m,B⟩
end
structure Cu(k:Nat)(A:oW):Prop where
 hd:A.handled=none
 dp:A.depth+3*k+5<recursionLimit
 un:A.units+16*k+200<cLine
theorem Cu.mono{j k:Nat}(r:Cu k A)(h:j<=k):Cu j A:=⟨r.hd,by have:=r.dp;omega,by have:=r.un;omega⟩
theorem Cu.deeper{k:Nat}(r:Cu (k+1) A)(env:Env):Cu k (A.deeper env):=
 ⟨r.hd,by have:=r.dp;show A.depth+1+3*k+5<_;omega,by have:=r.un;show A.units+3+16*k+200<_;omega⟩
theorem Ug{A:oW}{C:Addr}{us:List oI}{a:List (Str×oI)}:(A.under (.builtin "type.__call__" ⟨.ref C::us,a⟩)).depth=A.depth+1:=by
 first|rfl|simp[Around.under,Code.weight,Code.isCreation,Code.isGuard,Code.isCaller,Code.frames,Code.isFrame,guardIds]
theorem Uh{A:oW}{C:Addr}{us:List oI}{a:List (Str×oI)}:(A.under (.builtin "type.__call__" ⟨.ref C::us,a⟩)).units=A.units+1:=by
 first|rfl|simp[Around.under,Code.cUnits,Code.frames,Code.isFrame]
theorem Cu.make{k:Nat}(r:Cu (k+1) A)(C:Addr)(us:List oI)(a:List (Str×oI)):Cu k (A.under (.builtin "type.__call__" ⟨.ref C::us,a⟩)):=
 ⟨r.hd,by have:=r.dp;rw[Ug];omega,by have:=r.un;rw[Uh];omega⟩
theorem Cu.depth{k:Nat}(r:Cu k A):A.depth<recursionLimit:=by have:=r.dp;omega
theorem Cu.units{k:Nat}(r:Cu k A):A.units+64<cLine:=by have:=r.un;omega
def ym:TA:=λ_ H Q=>Q [] H
def wc(d:TE)(e:TA):TA:=λa H Q=>d a H λx b=>e a b λf c=>Q (x::f) c
section
variable {X:Cx}{e:Expr}{es:List Expr}{te:TE}{t:TA}{pos:Pos}
theorem A7:PA X [] ym:=λ_ _ _ _ H Q I h=>Calls.spliced_nil ⟨[],H,I,.nil,h⟩
theorem A0(j:PE X e te)(l:PA X es t)(m:starEach (e::es) X.env=(false,eval e X.env)::starEach es X.env:=by rfl):PA X (e::es) (wc te t):=by
 intro pos a s b H Q I h;rw[m];show wpAny _ _ (spliced ((false,eval e X.env)::backTo pos (starEach es X.env))) _ _ s;refine Calls.spliced_cons (C5 (j a s b H _ I h) λu r i=>?_);obtain⟨x,c,f,p,n⟩:=i;exact C5 (l pos a r b c _ f n) λy w ⟨v,d,g,q,o⟩=>⟨x::v,d,g,.cons p q,o⟩
def yt(t:TA):TE:=λc H Q=>t c H λb a=>b.length<=sizeLine/\∀p,a p=none->Q (.ref p) (upd a p (.tup b))
def yl(t:TA):TE:=λc H Q=>t c H λb a=>b.length<=sizeLine/\∀p,a p=none->Q (.ref p) (upd a p (.lst b))
theorem Cm{x1}(h:PA X es t):PE X (.Tuple es x1 pos) (yt t):=by
 intro a s m H Q I i;refine wpAny_Tuple_spliced (C5 (h pos a s m H _ I i) λj c ⟨l,d,f,r,z,q⟩=>⟨by rw[<- r.length];exact z,?_⟩);have g:d c.heap.objs.size=none:=f.aH.fresh (da _);refine⟨.ref c.heap.objs.size,upd d c.heap.objs.size (.tup l),f.laid (t':=c.toks) (λb u e=>b4 _ e) (da _) ?_,rfl,q _ g⟩;exact⟨⟨z,⟨_,cb _ rfl,rfl⟩⟩,j,r,⟨_,cb _ rfl,rfl,_,rfl⟩⟩
theorem Dy(h:PA X es t):PE X (.List es pos) (yl t):=by
 intro a s m H Q I i;refine wpAny_List_spliced (C5 (h pos a s m H _ I i) λj c ⟨l,d,f,r,z,q⟩=>⟨by rw[<- r.length];exact z,?_⟩);have g:d c.heap.objs.size=none:=f.aH.fresh (da _);refine⟨.ref c.heap.objs.size,upd d c.heap.objs.size (.lst l),f.laid (t':=c.toks) (λb u e=>b4 _ e) (da _) ?_,rfl,q _ g⟩;exact⟨z,j,0,r,cb _ rfl⟩
end
abbrev Sp:=List V->Hp->VK->XK->Prop
abbrev Yr:=List Env->Hp->oF->XK->oI->oF->Prop
structure To(P:oT)(w:px)(K:W.Frag)(mg:Str->Option oI)(base:Heap)(A:oW)(outer:List Env)(s:oF)(H:Hp):Prop where
 frames:A.frames=some outer
 mod:Mod K mg base
 bs:∀b o,base.get? b=some o->s.heap.get? b=some o/\H b=none
 xT:base.objs.size<=s.heap.objs.size
 iP:s.heap.FunFrames base outer
 DB:∀b∈qB outer,H b=none
 aH:Jr P w H s.heap
 bare:AllBare s.gens
def CE(outer:List Env)(P:oT)(w:px)(H:Hp)(s:oF)(Q:VK)(u:oI)(s':oF):Prop:=
 ∃v a,s'.os=s.os/\AllBare s'.gens/\Un (qB outer) [] H a s.heap s'.heap/\Jr P w a s'.heap/\Az v u/\Q v a
def CR(CX:Yr)(outer:List Env)(P:oT)(w:px)(H:Hp)(s:oF)(Q:VK)(E:XK)(r:Result)(s':oF):Prop:=
 match r with
 | .ok (.ret u)=>CE outer P w H s Q u s'
 | .ok _=>False
 | .error e=>CX outer H s E e s'
structure Bg(P:oT)(w:px)(K:W.Frag)(mg:Str->Option oI)(base:Heap)(CX:Yr)(k:Nat)(f:Addr)(fd:pa)(ps:List Str)(sp:Sp):Prop where
 len:∀vs H Q E,sp vs H Q E->vs.length=ps.length
 run:∀(A:oW) (outer:List Env) (s:oF) (H:Hp) (args:Args) (us:List oI) (vs:List V) (Q:VK) (E:XK),Cu k A->To P w K mg base A outer s H->BindsTo s fd args (ps.zip us)->Av vs us->sp vs H Q E->
  codeAny (model P w) A (.call (.ref f) args) (CR CX outer P w H s Q E) s
theorem To.make{P:oT}{w:px}{K:W.Frag}{a:Str->Option oI}{base:Heap}{A:oW}{outer:List Env}{s:oF}{H:Hp}(e:To P w K a base A outer s H)(C:Addr)(us:List oI)(b:List (Str×oI)):
  To P w K a base (A.under (.builtin "type.__call__" ⟨.ref C::us,b⟩)) outer s H:=⟨by first|exact e.frames|(simpa[Around.under,Code.envs,Code.isFrame,pushEnvs]using e.frames),e.mod,e.bs,e.xT,e.iP,e.DB,e.aH,e.bare⟩
section
variable {X:Cx}{pins:List (Addr×Obj)}{σ:St}{H:Hp}{s s':oF}
theorem Ao.JN(I:Ao X pins σ H s):To X.prog X.w X.K X.mg X.base X.A X.stack s H:=
 ⟨I.ok.frames,I.ok.mod,I.bs,eI I.ok.xT I.sz,I.stack,I.qC,I.aH,I.bare⟩
theorem Ao.after(I:Ao X pins σ H s)(h:CE X.stack X.prog X.w H s Q u s'):EP X pins σ Q u s':=by
 obtain⟨v,e,j,a,un,f,r,q⟩:=h;obtain⟨i,g,d,t,c⟩:=s';obtain rfl:c=s.os:=j;exact⟨v,e,I.call (h':=i) (g':=g) (d':=d) (t':=t) (ch:=[]) un f a (λb z=>absurd z (by simp)),r,q⟩
end
def w6(sp:Sp)(b:List V)(E:XK)(t:TA):TE:=λd H Q=>t d H λc a=>sp (c++b) a Q E
def wk(C:Addr)(m:Str)(sp:Sp)(f:List V)(E:XK)(g:TE)(t:TA):TE:=λc H Q=>g c H λx b=>∃a e fs,x=.ref a/\b a=some (.ins C e fs)/\fs.lookup m=none/\
 t c b λh d=>sp (x::(h++f)) d Q E
def wj(C:Addr)(sp:Sp)(d:List V)(E:XK)(t:TA):TE:=λf H Q=>t f H λe b=>∀x a,b x=none->b a=none->a≠x->
 sp (.ref x::(e++d)) (upd (upd b a (.own x)) x (.ins C a [])) (λv c=>v=.aX/\Q (.ref x) c) E
def D1(K:W.Frag)(b:pa)(ps:List Str)(ds:List oI):Prop:=
 ∀(s:oF) (a:List oI),K.In s.heap->(a++ds).length=ps.length->BindsTo s b ⟨a,[]⟩ (ps.zip (a++ds))
theorem D1.all{K:W.Frag}{a:pa}{ps:List Str}(h:∀us:List oI,us.length=ps.length->bindArgs a ⟨us,[]⟩=pure (ps.zip us)):D1 K a ps []:=λs us _ b=>by
 rw[List.append_nil]at b⊢;exact .of_eq (h us b)
def Ko(CX:Yr)(X:Cx)(E:XK):Prop:=∀(a:List (Addr×Obj)) (c:St) (H:Hp) (s:oF) (e:oI) (b:oF),Ao X a c H s->CX X.stack H s E e b->X.xe e b
section
variable {X:Cx}{CX:Yr}{k:Nat}{f C:Addr}{fd:pa}{ps:List Str}{sp:Sp}{kP:List V}{ds:List oI}{E:XK}{x m:Str}{p pos apos:Pos}{e o:Expr}{es:List Expr}{ta:TE}{t:TA}
theorem b8(F:Bg X.prog X.w X.K X.mg X.base CX k f fd ps sp)(n:Cu k X.A)(i:D1 X.K fd ps ds)(j:Av kP ds)(q:Ko CX X E)
  (I:Ao X a c H s)(r:Av vs us)(h:sp (vs++kP) H Q E):wpAny (model X.prog X.w) X.A (call (.ref f) us) (EP X a c Q) X.xe s:=by
 have d:Av (vs++kP) (us++ds):=r.append j;have l:(us++ds).length=ps.length:=by rw[<- d.length];exact F.len _ _ _ _ h
 refine wpAny_call (codeAny_mono (F.run X.A X.stack s H ⟨us,[]⟩ (us++ds) (vs++kP) Q E n I.JN (i s us I.rK l) d h) λr v b=>?_);cases r with
 |error e=>exact q a c H s e v I b
 |ok g=>
  cases g with
  |ret u=>exact I.after b
  |next=>exact False.elim b
  |brk=>exact False.elim b
  |cont=>exact False.elim b
theorem Ac(F:Bg X.prog X.w X.K X.mg X.base CX k f fd ps sp)(u:Cu k X.A)(j:Gl X x)(n:X.mg x=some (.ref f))(l:W.keepIn X.K (.ref f)=true)(d:D1 X.K fd ps ds)(g:Av kP ds)(v:Ko CX X E)
  (c:PA X (e::es) t)(y:(x==("__debug__":Str))=false:=by decide)(i:starEach (e::es) X.env=(false,eval e X.env)::starEach es X.env:=by rfl)(w:(backTo pos (starEach es X.env)).any (·.1)=false:=by rfl):
  PE X (.Call (.Name x p) (e::es) [] pos) (w6 sp kP E t):=by
 intro a s z H Q I h;refine wpAny_Call_Name_kw (Qc I j n ?_ y);refine W.callWith_K (h₀:=X.base) I.ok.mod.JH l (C5 (c pos a s z H _ I h) λD B ⟨G,A,b,r,q⟩=>⟨b.rK,?_⟩) i w;exact b8 F u d g v b r q
theorem Ih(G:PE X o ta)(c:Tl X.K C)(i:X6 X.K C m f)(F:Bg X.prog X.w X.K X.mg X.base CX k f fd ps sp)(J:Cu k X.A)(B:D1 X.K fd ps ds)(D:Av kP ds)(L:Ko CX X E)(A:PA X (e::es) t)
  (w:starEach (e::es) X.env=(false,eval e X.env)::starEach es X.env:=by rfl)(M:(backTo pos (starEach es X.env)).any (·.1)=false:=by rfl)
  (K:eval (.Call (.Attribute o m apos) (e::es) [] pos) X.env=(do
   let j <- eval o X.env
   standAt apos.atName;let(f,first) <- holding [j] (getMethod j m pl)
   callWith pos f first (backTo pos (starEach (e::es) X.env)) (backToKw pos (keywordEach [] X.env))):=by rfl):
  PE X (.Call (.Attribute o m apos) (e::es) [] pos) (wk C m sp kP E ta t):=by
 intro b s n H Q I h;refine W.methodCall_KW (pl:=pl) (C5 (G b s n H _ I h) λu P ⟨x,v,d,O,a,U,fs,z,y,l,q⟩=>?_) K;subst z;obtain rfl:u=Value.ref a:=O;refine U8 d y c i l ?_;refine W.callWith_K (first:=[.ref a]) (h₀:=X.base) I.ok.mod.JH i.kp (C5 (A pos b P n v _ d q) λR Y ⟨S,T,g,r,N⟩=>⟨g.rK,?_⟩) w M;exact b8 (us:=.ref a::R) (vs:=.ref a::S) F J B D L g (.cons rfl r) N
structure Mk(K:W.Frag)(C f:Addr):Prop where
 makes:W.makesIn K C=true
 init:W.findIn K (.ref C) "__init__"=some (some (.ref f))
 fn:W.isFn K (.ref f)=true
 kp:W.keepIn K (.ref C)=true
theorem b9(M:Mk X.K C f)(F:Bg X.prog X.w X.K X.mg X.base CX k f fd ps sp)(D:Cu (k+1) X.A)(z:D1 X.K fd ps ds)(A:Av kP ds)
  (G:Ko CX X E)(I:Ao X a g H s)(r:Av vs us)
  (h:∀x d,H x=none->H d=none->d≠x->sp (.ref x::(vs++kP)) (upd (upd H d (.own x)) x (.ins C d [])) (λv n=>v=.aX/\Q (.ref x) n) E):
  wpAny (model X.prog X.w) X.A (call (.ref C) us) (EP X a g Q) X.xe s:=by
 have i:=h (s.heap.objs.size+1) s.heap.objs.size (I.aH.fresh (Nat.le_succ _)) (I.aH.fresh (da _)) (gs (Nat.lt_succ_self _));have c:=Ao.made (C:=C) I;have j:Av (V.ref (s.heap.objs.size+1)::(vs++kP)) (Value.ref (s.heap.objs.size+1)::(us++ds)):=.cons rfl (r.append A)
 have B:(Value.ref (s.heap.objs.size+1)::us++ds).length=ps.length:=by
  have e:=j.length;rw[F.len _ _ _ _ i]at e;exact e.symm
 refine wpAny_call (a9 (f:=f) I.rK M.makes M.init (beq_iff_eq.mp M.fn) (codeAny_mono (F.run _ X.stack _ _ ⟨Value.ref (s.heap.objs.size+1)::us,[]⟩ (Value.ref (s.heap.objs.size+1)::(us++ds)) _ _ E (D.make C us [])
  (c.JN.make C us []) (z _ (Value.ref (s.heap.objs.size+1)::us) c.rK B) j i) λr L b=>?_))
 cases r with
 |error e=>exact G a g _ _ e L c b
 |ok y=>
  cases y with
  |ret u=>
   obtain⟨v,l,q,K,w,J⟩:=c.after b;subst w;exact⟨K,⟨V.ref (s.heap.objs.size+1),l,q,rfl,J⟩⟩
  |next=>exact False.elim b
  |brk=>exact False.elim b
  |cont=>exact False.elim b
theorem K6(M:Mk X.K C f)(F:Bg X.prog X.w X.K X.mg X.base CX k f fd ps sp)(n:Cu (k+1) X.A)(j:Gl X x)(l:X.mg x=some (.ref C))(d:D1 X.K fd ps ds)(g:Av kP ds)(u:Ko CX X E)
  (c:PA X (e::es) t)(w:(x==("__debug__":Str))=false:=by decide)(i:starEach (e::es) X.env=(false,eval e X.env)::starEach es X.env:=by rfl)(v:(backTo pos (starEach es X.env)).any (·.1)=false:=by rfl):
  PE X (.Call (.Name x p) (e::es) [] pos) (wj C sp kP E t):=by
 intro a s y H Q I h;refine wpAny_Call_Name_kw (Qc I j l ?_ w);refine W.callWith_K (h₀:=X.base) I.ok.mod.JH M.kp (C5 (c pos a s y H _ I h) λB A ⟨D,z,b,r,q⟩=>⟨b.rK,?_⟩) i v;exact b9 M F n d g u b r q
end
structure Am(N P:List Str)(sc:Scope):Prop where
 kind:sc.kind=.function
 co:sc.isCoroutine=false
 gen:sc.isGenerator=false
 nd:N.Nodup
 pre:N.take P.length=P
 par:∀x∈P,sc.names.lookup x=some .local\/sc.names.lookup x=some .cell
 DD:∀y∈sc.names,y.2≠ .free
theorem Oq{a:Str->Option NameKind}{x:Str}:∀{binds:List (Str×oI)}{m:Str->Option oI},(∀v,(x,v)∉binds)->bindL a binds m x=m x
 |[],_,_=>rfl
 |(n,v)::r,m,h=>by
  unfold bindL;rw[Oq λw b=>h w (List.mem_cons_of_mem _ b)];split
  ·have:x≠n:=by rintro rfl;exact h v cI
   simp[this]
  ·rfl
theorem Oo{a:Str->Option NameKind}{x:Str}:∀{binds:List (Str×oI)}{m:Str->Option oI},(∀v,(x,v)∉binds)->bindC a binds m x=m x
 |[],_,_=>rfl
 |(n,v)::r,m,h=>by
  unfold bindC;rw[Oo λw b=>h w (List.mem_cons_of_mem _ b)];split
  ·rfl
  ·have:x≠n:=by rintro rfl;exact h v cI
   simp[this]
theorem Op{a:Str->Option NameKind}{x:Str}{v:oI}:∀{P:List Str}{vs:List oI}{i:Nat}{m:Str->Option oI},P.Nodup->P[i]?=some x->vs[i]?=some v->a x=some .local->
  bindL a (P.zip vs) m x=some v
 |[],_,_,_,_,h,_,_=>by simp at h
 |_::_,[],_,_,_,_,h,_=>by simp at h
 |p::P,w::vs,0,m,e,b,c,d=>by
  simp at b c;subst b;subst c;show bindL a ((p,w)::P.zip vs) m p=_;unfold bindL;rw[Oq λv f=>(List.nodup_cons.mp e).1 (List.of_mem_zip f).1,if_pos d];simp
 |p::P,w::vs,i+1,m,e,b,c,d=>by
  show bindL a ((p,w)::P.zip vs) m x=_;unfold bindL;exact Op (i:=i) (List.nodup_cons.mp e).2 (by simpa using b) (by simpa using c) d
theorem On{a:Str->Option NameKind}{x:Str}{v:oI}:∀{P:List Str}{vs:List oI}{i:Nat}{m:Str->Option oI},P.Nodup->P[i]?=some x->vs[i]?=some v->a x≠some .local->
  bindC a (P.zip vs) m x=some v
 |[],_,_,_,_,h,_,_=>by simp at h
 |_::_,[],_,_,_,_,h,_=>by simp at h
 |p::P,w::vs,0,m,e,b,c,d=>by
  simp at b c;subst b;subst c;show bindC a ((p,w)::P.zip vs) m p=_;unfold bindC;rw[Oo λv f=>(List.nodup_cons.mp e).1 (List.of_mem_zip f).1,if_neg d];simp
 |p::P,w::vs,i+1,m,e,b,c,d=>by
  show bindC a ((p,w)::P.zip vs) m x=_;unfold bindC;exact On (i:=i) (List.nodup_cons.mp e).2 (by simpa using b) (by simpa using c) d
def start(N:List Str)(vs:List V):St:=vs.map some++List.replicate (N.length-vs.length) none
def Ty(CX:Yr)(P:oT)(w:px)(K:W.Frag)(mg:Str->Option oI)(base:Heap)(N:List Str)(b:Str)(a:Scope)(f:Addr)(c:oI)(A:oW)(outer:List Env)(s:oF)(H:Hp)(E:XK):Cx where
 prog:=P
 w:=w
 K:=K
 mg:=mg
 base:=base
 A:=A.deeper (envOfC b a s.heap.objs.size f c)
 N:=N
 s₀:=s
 H₀:=H
 env:=envOfC b a s.heap.objs.size f c
 outer:=outer
 stack:=envOfC b a s.heap.objs.size f c::outer
 ex:=[]
 calm:=true
 fn:=λ_=>true
 pn:=[]
 xe:=λe h=>wpAny (model P w) (A.deeper (envOfC b a s.heap.objs.size f c)) (leaving (envOfC b a s.heap.objs.size f c) e) (λ_ d=>CX outer H s E e d) (λg d=>CX outer H s E g d) h
theorem Rr{a:Scope}{n:Nat}{x:Str}(h:a.names.lookup x=some .cell):∃c,(cellsFrom n a.names []).lookup x=some c:=by
 have q:=W.cellsFrom_some a.names n [] (.inl h);exact Option.isSome_iff_exists.mp q
theorem Xv{CX:Yr}{P:oT}{w:px}{K:W.Frag}{G:Str->Option oI}{base:Heap}{N ps:List Str}{g:Str}{d:Scope}{f:Addr}{B:oI}{A:oW}{outer:List Env}{s L:oF}{H:Hp}{E:XK}{us:List oI}{vs:List V}
  (S:Am N ps d)(O:A.handled=none)(l:To P w K G base A outer s H)(T:vs.length=ps.length)(r:Av vs us)
  (x:InCallC s s.heap.objs.size (bindL (envOfC g d s.heap.objs.size f B).kindOf (ps.zip us) λ_=>none) (cellsFrom (s.heap.objs.size+1) d.names []) (bindC (envOfC g d s.heap.objs.size f B).kindOf (ps.zip us) λ_=>none) L):
  Ao (Ty CX P w K G base N g d f B A outer s H E) [] (start N vs) H L:=by
 have U:ps.length<=N.length:=by have:=congrArg List.length S.pre;rw[List.length_take]at this;omega
 obtain⟨C,X,rfl,I⟩:=x.done;have F:∀b:Addr,b∉(Ty CX P w K G base N g d f B A outer s H E).ex:=λb z=>absurd (show b∈([]:List Addr)from z) (by simp)
 refine⟨⟨l.mod,S.kind,rfl,rfl,da _,λy z c C j=>?_,λy m=>?_,λy c _ h=>?_,λ_=>O,Around.frames_deeper l.frames,.inr ⟨rfl,rfl⟩,λb z=>absurd z (F b),l.bs,l.xT,λb _ _=>F b,λb z=>absurd z (F b),l.iP,l.DB⟩,
  rfl,l.bare,Un.kept I,⟨_,x.toInCall.ns,λi y v C j R=>?_⟩,λy c h=>⟨_,x.cell y c h⟩,l.aH.fresh (da _),λy c h=>?_,λp n=>absurd (show p∈([]:List (Addr×Obj))from n) (by simp),l.aH.kept I,?_⟩
 ·exact name_of_addr x.apart (PySem.mem_of_lookup C) (PySem.mem_of_lookup j)
 ·have m:d.names.lookup y=some .cell\/d.names.lookup y=some .free:=m;rcases m with m|m
  ·exact Rr m
  ·exact absurd rfl (S.DD _ (PySem.mem_of_lookup m))
 ·exact nf (x.above y c (PySem.mem_of_lookup h))
 ·have D:i<vs.length:=by
   unfold start at j;by_cases D:i<vs.length
   ·exact D
   ·rw[List.getElem?_append_right (by simpa using D)]at j;rw[List.getElem?_replicate]at j;split at j<;>cases j
  have M:vs[i]?=some v:=by
   unfold start at j;rw[List.getElem?_append_left (by simpa using D),List.getElem?_map]at j;cases e:vs[i]? with
   |none=>rw[e]at j;cases j
   |some a=>rw[e]at j;cases j;rfl
  obtain⟨u,J,Q⟩:=r.get M
  have n:ps[i]?=some y:=by
   rw[<- S.pre,List.getElem?_take_of_lt (by omega)];exact C
  have o:ps.Nodup:=by rw[<- S.pre];exact S.nd.sublist (List.take_sublist _ _)
  refine⟨u,Q,?_⟩;rcases S.par y (b5 n)with k|k
  ·exact .inl ⟨k,Op o n J k⟩
  ·obtain⟨c,e⟩:=Rr (n:=s.heap.objs.size+1) k;refine .inr ⟨.inl k,c,e,?_⟩;have q:=x.cell y c e;rw[On o n J (by show d.names.lookup y≠_;rw[k];decide)]at q;exact q
 ·exact l.aH.fresh (nf (x.above y c (PySem.mem_of_lookup h)))
 ·unfold start;show _=N.length;rw[List.length_append,List.length_map,List.length_replicate];omega
theorem jj{CX:Yr}{P:oT}{w:px}{K:W.Frag}{B:Str->Option oI}{base:Heap}{k:Nat}{f:Addr}{name c:Str}{d:Arguments}{g:List Stmt}{a:Scope}{R kV m T j ct oc:oI}{M od:Option Addr}
  {iU:Array (Option oI)}{N ps:List Str}{sp:Sp}(lk:K.lookup f=some ⟨oc,od,.func (W.fnOf name c d g a R kV m T M j ct),iU⟩)(tO:W.codeIn K j c=true)(S:Am N ps a)
  (len:∀vs H Q E,sp vs H Q E->vs.length=ps.length)
  (mI:∀(A:oW) (outer:List Env) (s:oF) (H:Hp) (vs:List V) (Q:VK) (E:XK),Cu k (A.deeper (envOfC c a s.heap.objs.size f j))->sp vs H Q E->
   ∃t,Ri (Ty CX P w K B base N c a f j A outer s H E) g t/\t {nx:=λ_ i=>Q .aX i,rt:=Q} (start N vs) H):
  Bg P w K B base CX (k+1) f (W.fnOf name c d g a R kV m T M j ct) ps sp:=by
 refine⟨len,λA outer s H O us vs Q E C p hb r X=>?_⟩;have hl:=len _ _ _ _ X;have L:K.In s.heap:=p.mod.JH.keeps λb o e=>(p.bs b o e).1;have D:s.heap.NoLimit:=p.mod.nolimit.keeps λb o e=>(p.bs b o e).1
 have Y:∀y∈ps.zip us,a.names.lookup y.1=some .local\/(a.names.lookup y.1=some .cell/\((cellsFrom (s.heap.objs.size+1) a.names []).lookup y.1).isSome=true):=λ⟨n,v⟩ hy=>by
  rcases S.par n (List.of_mem_zip hy).1 with q|q
  ·exact .inl q
  ·exact .inr ⟨q,W.cellsFrom_some _ _ _ (.inl q)⟩
 refine codeAny_call_function C.depth (L _ _ lk) rfl S.co S.gen rfl (W.codeRec_of L tO) (hb _ _ _ _ ?_);refine wpAny_newFunctionEnv_cells S.kind Y λZ he U x=>?_;subst he;refine⟨D.keeps x.toInCall.keep,codeAny_func ?_⟩;obtain⟨t,ht,hq⟩:=mI A outer s H vs Q E (C.deeper _) X;have I:Ao (Ty CX P w K B base N c a f j A outer s H E) [] (start N vs) H U:=Xv S C.hd p hl r x;refine ka (ht [] U (start N vs) H _ I hq) (λfl G l=>?_) λe G l=>l
 have z:∀{h:St}{i:Hp}{v:V}{u:oI},Ao (Ty CX P w K B base N c a f j A outer s H E) [] h i G->Az v u->Q v i->CE outer P w H s Q u G:=
  λ{h i v u} J F q=>⟨v,i,J.os,J.bare,J.base,J.aH,F,q⟩
 cases fl with
 |ret u=>
  obtain⟨v,h,i,J,F,q⟩:=l;exact z J F q
 |next=>
  obtain⟨h,i,J,q⟩:=l;exact z (v:=V.aX) (u:=Value.none) J rfl q
 |brk=>
  obtain⟨_,_,_,q⟩:=l;exact False.elim q
 |cont=>
  obtain⟨_,_,_,q⟩:=l;exact False.elim q
section
variable {X:Cx}{x:Str}{p pos:Pos}{e:Expr}{es:List Expr}{t:TA}{id T:String}{r:List V->Hp->VK->Prop}
def yy(r:List V->Hp->VK->Prop)(t:TA):TE:=λc H Q=>t c H λb a=>r b a Q
theorem As(g:Em X (.builtin id) r)(j:Gl X x)(l:X.mg x=none)(n:bootBuiltins x=some (.builtin id))(f:PA X (e::es) t)(m:x≠"__name__":=by decide)(z:(x==("__debug__":Str))=false:=by decide)
  (i:starEach (e::es) X.env=(false,eval e X.env)::starEach es X.env:=by rfl)(o:(backTo pos (starEach es X.env)).any (·.1)=false:=by rfl):PE X (.Call (.Name x p) (e::es) [] pos) (yy r t):=by
 intro a s b H Q I h;refine wpAny_Call_Name_kw (N3 I j l n ?_ m z);exact PyProof.Rows.callWith_builtin1 (C5 (f pos a s b H _ I h) λw v ⟨y,c,d,u,q⟩=>g a v b c y w Q d u q) i o
theorem Bn(g:Em X (.type T) r)(j:Gl X x)(l:X.mg x=none)(n:bootBuiltins x=some (.type T))(f:PA X (e::es) t)(m:x≠"__name__":=by decide)(z:(x==("__debug__":Str))=false:=by decide)
  (i:starEach (e::es) X.env=(false,eval e X.env)::starEach es X.env:=by rfl)(o:(backTo pos (starEach es X.env)).any (·.1)=false:=by rfl):PE X (.Call (.Name x p) (e::es) [] pos) (yy r t):=by
 intro a s b H Q I h;refine wpAny_Call_Name_kw (N3 I j l n ?_ m z);exact PyProof.Rows.callWith_type1 (C5 (f pos a s b H _ I h) λw v ⟨y,c,d,u,q⟩=>g a v b c y w Q d u q) i o
end
end L2
namespace HT
local macro_rules | `(tactic| omega) => `(tactic| lia)
open PySem PyProof.Rows
section
variable {prog:Program}{w:World}{A:Around}{E:Value->Shared->Prop}{s:Shared}
theorem xZ{t b:Addr}(y:IsTup s.heap t vs.toArray)(x:IsTup s.heap b ws.toArray)(p:vs≠[])
  (h1:ws=[]->Q (.ref t) s)(v:ws≠[]->Q (.ref s.heap.objs.size) {s with heap:=s.heap.push {cls:=.type "tuple",data:=.seq (vs++ws).toArray} })
  (hsz:vs.length+ws.length<=sizeLine):wpAny (model prog w) A (binaryOp .Add (.ref t) (.ref b)) Q E s:=by
 obtain⟨⟨cls,l,data,u⟩,c,m,n,o⟩:=id y;obtain⟨⟨j,h,g,i⟩,f,q,r,a⟩:=id x;simp only at m o q a;subst m o q a;have e:vs.toArray++ws.toArray=(vs++ws).toArray:=by simp
 by_cases d:ws=[]
 ·exact concat_meets ⟨_,c,rfl⟩ ⟨_,f,rfl⟩ noFill_tuple_add seq_tuple_add PySem.F.slot_tuple_add PySem.F.entry_tuple_add (PySem.F.args_tuple_add_2 _ _)
   (tuple_addW1 t b vs.toArray ws.toArray n r l h u i (by simpa using p) (by simp[d])) ⟨c,f,h1 d⟩
 ·refine concat_meets ⟨_,c,rfl⟩ ⟨_,f,rfl⟩ noFill_tuple_add seq_tuple_add PySem.F.slot_tuple_add PySem.F.entry_tuple_add (PySem.F.args_tuple_add_2 _ _)
   (tuple_addW2 t b vs.toArray ws.toArray n r l h u i (by simpa using p) (by simpa using d) (by rw[List.size_toArray,List.size_toArray];exact hsz)) ⟨c,f,?_⟩
  rw[e];exact v d
def bK(n d:Nat):Option Int->Nat
 |none=>d
 |some v=>if v<0 then(v+(n:Int)).toNat else min v.toNat n
theorem mJ(n d:Nat):bK n d none=d:=rfl
theorem iW(n d k:Nat):bK n d (some (k:Int))=min k n:=by
 show(if(k:Int)<0 then((k:Int)+(n:Int)).toNat else min (k:Int).toNat n)=min k n;rw[if_neg (by omega),Int.toNat_natCast]
theorem pf(n d:Nat)(b:d<=n)(o:Option Int):bK n d o<=n:=by
 cases o with
 |none=>exact b
 |some v=>
  show(if v<0 then(v+(n:Int)).toNat else min v.toNat n)<=n;by_cases a:v<0
  ·rw[if_pos a];omega
  ·rw[if_neg a];exact Nat.min_le_right _ _
theorem Vq(v:Int)(n d:Nat):(if v<0 then max (v+(n:Int)) 0 else min v (n:Int))=((bK n d (some v):Nat):Int):=by
 show(if v<0 then max (v+(n:Int)) 0 else min v (n:Int))=(((if v<0 then(v+(n:Int)).toNat else min v.toNat n):Nat):Int);by_cases a:v<0
 ·simp only[if_pos a];omega
 ·simp only[if_neg a];omega
theorem Ts(lo hi:Option Int)(n:Nat):Builtin.Slice.sliceAdjust lo hi 1 (n:Int)=(((bK n 0 lo:Nat):Int),((bK n n hi:Nat):Int)):=by
 have a:¬((1:Int)<0):=by omega
 unfold Builtin.Slice.sliceAdjust;simp only[a,if_false];refine Prod.ext ?_ ?_
 ·cases lo with
  |none=>rfl
  |some v=>exact Vq v n 0
 ·cases hi with
  |none=>rfl
  |some v=>exact Vq v n n
theorem Uq(i j:Nat):Builtin.Slice.slicePlaces (i:Int) (j:Int) 1=j-i:=by
 unfold Builtin.Slice.slicePlaces;have a:(1:Int)>0:=by omega
 simp only[a,if_true,Int.ediv_one];split<;>omega
theorem Nt(p:IsPart v o)(h:Q o s):wpAny (model prog w) A (Builtin.Slice.slicePartIndex v) Q E s:=by
 cases p with
 |none=>exact slicePart_none h
 |int i t=>exact slicePart_int h
theorem Lc{e:Addr}{c d:Value}{lo hi:Option Int}{n:Nat}{Q:Int×Int×Nat->Shared->Prop}(g:s.heap.IsSliceOf e c d .none)(pl:IsPart c lo)(i:IsPart d hi)
  (h:Q (((bK n 0 lo:Nat):Int),1,bK n n hi-bK n 0 lo) s):wpAny (model prog w) A (Builtin.Slice.sliceApplied (.ref e) (pure (n:Int))) Q E s:=by
 obtain⟨j,a,f,b⟩:=id g;unfold Builtin.Slice.sliceApplied Builtin.Slice.sliceFields;refine wpAny_bind (wpAny_bind (wpAny_field a b (x:=c) rfl (wpAny_bind (wpAny_field a b (x:=d) rfl (wpAny_bind (wpAny_field a b (x:=.none) rfl (wpAny_pure ?_)))))));refine wpAny_bind (slicePart_none ?_);show wpAny _ _ (if((1:Int)==0)=true then _ else _) _ _ s;rw[if_neg (by decide)];refine wpAny_bind (Nt pl (wpAny_bind (Nt i (wpAny_bind (wpAny_pure ?_)))));show wpAny _ _ (match Builtin.Slice.sliceAdjust lo hi 1 (n:Int)with|(lo,hi)=>pure (lo,(1:Int),Builtin.Slice.slicePlaces lo hi 1)) _ _ s;rw[Ts lo hi n];show wpAny _ _ (pure (((bK n 0 lo:Nat):Int),(1:Int),Builtin.Slice.slicePlaces ((bK n 0 lo:Nat):Int) ((bK n n hi:Nat):Int) 1)) _ _ s;rw[Uq];exact wpAny_pure h
theorem aq(xs:Array Value)(i k:Nat):((List.range k).filterMap λ(m:Nat)=>xs[((i:Int)+(m:Int)*1).toNat]?).toArray=((xs.toList.drop i).take k).toArray:=by
 have e:(λ(m:Nat)=>xs[((i:Int)+(m:Int)*1).toNat]?)=λm=>xs[i+m]?:=by
  funext m;have:((i:Int)+(m:Int)*1).toNat=i+m:=by omega
  rw[this]
 rw[e];have:=pick_run xs i k;rw[List.filterMap_map]at this;have a:((λx=>xs[x]?) ∘ λx=>i+x)=λm=>xs[i+m]?:=rfl;rw[a]at this;rw[this]
theorem eM{t e:Addr}{items:Array Value}{g i:Value}{lo hi:Option Int}{Q:Value->Shared->Prop}(a:IsTup s.heap t items)(f:s.heap.IsSliceOf e g i .none)(pl:IsPart g lo)(o:IsPart i hi)
  (l:¬(bK items.size 0 lo=0/\bK items.size items.size hi=items.size))
  (h:Q (.ref s.heap.objs.size) {s with heap:=s.heap.push {cls:=.type "tuple",data:=.seq ((items.toList.drop (bK items.size 0 lo)).take (bK items.size items.size hi-bK items.size 0 lo)).toArray} })
  (hsz:items.size<=sizeLine):wpAny (model prog w) A (getItem (.ref t) (.ref e)) Q E s:=by
 have b:sizeOk (.seq ((items.toList.drop (bK items.size 0 lo)).take (bK items.size items.size hi-bK items.size 0 lo)).toArray):=by
  show((items.toList.drop (bK items.size 0 lo)).take (bK items.size items.size hi-bK items.size 0 lo)).toArray.size<=sizeLine;rw[List.size_toArray,List.length_take,List.length_drop,Array.length_toList];omega
 have r:bK items.size items.size hi<=items.size:=pf _ _ (Nat.le_refl _) hi;obtain⟨n,j,d,p⟩:=id f;have c:s.TypeIs (.ref e) "slice":=⟨n,j,d⟩;unfold getItem
 try with_reducible refine wpAny_holding ?_
 first|refine wpAny_bind (wpAny_pure ?_)|skip
 refine wpAny_bind (wpAny_sequenceKey a.typeIs (by decide) ?_)
 refine wpAny_bind (wpAny_callSpecial?_slot (name:=Str.ofString "__getitem__") a.typeIs PyProof.Rows.slot_tuple_getitem
  (wpAny_call_entry PyProof.Rows.slot_tuple_getitem a.typeIs entry_tuple_getitem ?_ (args_tuple_getitem _ _)))
 show wpAny _ _ (Builtin.Tuple.tupleItemsOf (.ref t)>>=_) _ _ s;refine wpAny_bind (tupleItemsOf_ a ?_);refine wpAny_bind (wpAny_typeOf c ?_);rw[if_pos (by decide)];refine wpAny_bind (Lc f pl o ?_)
 have m:¬((((bK items.size 0 lo:Nat):Int)==0&&(1:Int)==1&&(bK items.size items.size hi-bK items.size 0 lo)==items.size)=true):=by
  intro q;rw[Bool.and_eq_true,Bool.and_eq_true]at q;have u:((bK items.size 0 lo:Nat):Int)=0:=eq_of_beq q.1.1;have v:bK items.size items.size hi-bK items.size 0 lo=items.size:=eq_of_beq q.2;exact l ⟨by omega,by omega⟩
 show wpAny _ _ (if(((bK items.size 0 lo:Nat):Int)==0&&(1:Int)==1&&(bK items.size items.size hi-bK items.size 0 lo)==items.size)=true then _ else _) _ _ s;rw[if_neg m,aq]
 first
  |exact wpAny_bind (m:=Builtin.Tuple.tupleExact _) (wpAny_newObj_type (wpAny_pure ⟨_,rfl,wpAny_pure h⟩) b)
  |exact wpAny_bind (m:=Builtin.Tuple.tupleExact _) (wpAny_newObj_type (wpAny_bind (wpAny_pure (wpAny_pure ⟨_,rfl,wpAny_pure h⟩))) b)
  |exact wpAny_bind (wpAny_bind (m:=Builtin.Tuple.tupleExact _) (wpAny_newObj_type (wpAny_pure (wpAny_pure ⟨_,rfl,wpAny_pure h⟩)) b))
  |exact wpAny_bind (wpAny_bind (m:=Builtin.Tuple.tupleExact _) (wpAny_newObj_type (wpAny_pure ⟨_,rfl,wpAny_pure h⟩) b))
end
end HT
namespace L2
local macro_rules | `(tactic| omega) => `(tactic| lia)
open PySem PySem.Spec PyProof.Rows
abbrev TO:=St->Hp->(oD->Hp->Prop)->Prop
def PO(X:Cx)(e:Option Expr)(t:TO):Prop:=
 ∀(a:List (Addr×Obj)) (s:oF) (b:St) (H:Hp) (Q:oD->Hp->Prop),Ao X a b H s->t b H Q->
  wpAny (model X.prog X.w) X.A (evalPart e X.env) (λu d=>∃o c,Ao X a b c d/\IsPart u o/\Q o c) X.xe s
def j0:TO:=λ_ H Q=>Q none H
def wn(t:TE):TO:=λb H Q=>t b H λx a=>∃i,x=.int i/\Q (some i) a
theorem N0:∀{us:List oI},Av (a.map V.int) us->IntsAre us a:=by
 induction a with
 |nil=>intro us r;rw[List.map_nil]at r;cases r;exact .nil
 |cons n a b=>
  intro us r;rw[List.map_cons]at r;cases r with
  |cons c d=>
   obtain⟨t,e⟩:=c;subst e;exact .cons n t (b d)
section
variable {X:Cx}{e:Expr}{te:TE}{lo hi:Option Expr}{tl th:TO}{pos p2:Pos}
theorem K8:PO X none j0:=by
 intro a s b H Q I h;rw[evalPart_none];exact bc ⟨none,H,I,.none,h⟩
theorem Gn(h:PE X e te):PO X (some e) (wn te):=by
 intro a s l H Q I f;rw[evalPart_some];refine C5 (h a s l H _ I f) λu m d=>?_;obtain⟨x,b,c,j,g⟩:=d;obtain⟨i,rfl,q⟩:=g;obtain⟨t,rfl⟩:=j;exact⟨some i,b,c,.int i t,q⟩
def tj(X:Cx)(r:V->oD->oD->Hp->VK->Prop):Prop:=
 ∀(a:List (Addr×Obj)) (s:oF) (f:St) (H:Hp) (x:V) (v c d:oI) (lo hi:oD) (b:Addr) (Q:VK),Ao X a f H s->Az x v->s.heap.IsSliceOf b c d .none->IsPart c lo->IsPart d hi->r x lo hi H Q->
  ∃T g,typeLookup (.type T) "__getitem__"=pure (some (.builtin g))/\s.TypeIs v T/\wpAny (model X.prog X.w) X.A (getItem v (.ref b)) (EP X a f Q) X.xe s
def zb(r:V->oD->oD->Hp->VK->Prop)(te:TE)(tl th:TO):TE:=λa H Q=>te a H λx b=>tl a b λl c=>th a c λu d=>r x l u d Q
theorem Fw{r:V->oD->oD->Hp->VK->Prop}(D:tj X r)(A:PE X e te)(C:PO X lo tl)(F:PO X hi th):PE X (.Subscript e (.Slice lo hi none p2) pos) (zb r te tl th):=by
 intro a s d H Q I h;refine Subscript_ (C5 (A a s d H _ I h) λv O i=>?_);obtain⟨x,m,o,N,K⟩:=i;refine wpAny_Slice (C5 (C a O d m _ o K) λf P ⟨l,n,p,G,L⟩=>C5 (F a P d n _ p L) λg c i=>?_);obtain⟨u,j,w,J,M⟩:=i;rw[evalPart_none];refine bc ?_;have y:Ao X a d j {c with heap:=c.heap.push {cls:=.type "slice",data:=.fields #[f,g,.none] } }:=w.kept (t':=c.toks) λb S q=>b4 _ q;obtain⟨T,R,z,E,B⟩:=D a {c with heap:=c.heap.push {cls:=.type "slice",data:=.fields #[f,g,.none] } } d j x v f g l u c.heap.objs.size Q y N (Heap.IsSliceOf.new ..) G J M;show wpAny (model X.prog X.w) X.A (subscriptTail e (.Slice lo hi none p2) v (.ref c.heap.objs.size)) (EP X a d Q) X.xe {c with heap:=c.heap.push {cls:=.type "slice",data:=.fields #[f,g,.none] } };exact tail_any (ops:=[.ref c.heap.objs.size,v]) E z B (by with_unfolding_all rfl)
def Iq(xs:List V)(lo hi:oD):List V:=(xs.drop (HT.bK xs.length 0 lo)).take (HT.bK xs.length xs.length hi-HT.bK xs.length 0 lo)
theorem Ec(xs:List V)(lo hi:oD):(Iq xs lo hi).length<=xs.length:=by
 unfold Iq;rw[List.length_take,List.length_drop];omega
def vf(K:W.Frag):V->oD->oD->Hp->VK->Prop:=λx lo hi H Q=>∃a b,x=.ref a/\Bm K H a b/\
 ¬(HT.bK b.length 0 lo=0/\HT.bK b.length b.length hi=b.length)/\∀p,H p=none->Q (.ref p) (upd H p (.tup (Iq b lo hi)))
theorem qr:tj X (vf X.K):=by
 intro i s B H x v z A lo hi y Q I u l o p h;obtain⟨a,d,rfl,n,m,q⟩:=h;cases u;obtain⟨j,r,f,g⟩:=I.tuple n;have c:j.toArray.size=d.length:=by rw[List.size_toArray];exact r.length.symm
 refine⟨"tuple",_,PyProof.Rows.slot_tuple_getitem.lookup,f.typeIs,?_⟩;refine HT.eM f l o p (by rw[c];exact m) ?_ (by rw[c];exact g);rw[c];refine⟨.ref s.heap.objs.size,_,I.laid (t':=s.toks) (o:=.tup (Iq d lo hi)) (λb w q=>b4 _ q) (da _) ?_,rfl,q _ (I.aH.fresh (da _))⟩;exact⟨⟨eI (Ec d lo hi) g,⟨_,cb _ rfl,rfl⟩⟩,_,(r.drop (HT.bK d.length 0 lo)).take (HT.bK d.length d.length hi-HT.bK d.length 0 lo),IsTup.new _ _⟩
def uy(K:W.Frag):R2:=λx y H Q=>∃a b d c,x=.ref a/\y=.ref b/\Bm K H a d/\Bm K H b c/\d≠[]/\d.length+c.length<=sizeLine/\
 (c=[]->Q (.ref a) H)/\(c≠[]->∀p,H p=none->Q (.ref p) (upd H p (.tup (d++c))))
theorem Av.kR(r:Av xs us):us=[]↔xs=[]:=by
 cases r with
 |nil=>simp
 |cons _ _=>simp
theorem Wg:Im X (binaryOp .Add) (uy X.K):=by
 intro g s F H x y v u Q I p r h;obtain⟨a,b,A,B,rfl,rfl,i,j,l,f,n,o⟩:=h;cases p;cases r;obtain⟨C,d,m,_⟩:=I.tuple i;obtain⟨D,c,p2,_⟩:=I.tuple j;refine HT.xZ m p2 (λz=>l (d.kR.mp z)) (λz=>⟨.ref a,H,I,rfl,n (c.kR.mp z)⟩) (λz=>?_) (by rw[<- d.length,<- c.length];exact f);refine⟨.ref s.heap.objs.size,_,I.laid (t':=s.toks) (o:=.tup (A++B)) (λb E q=>b4 _ q) (da _) ?_,rfl,o (λw=>z (c.kR.mpr w)) _ (I.aH.fresh (da _))⟩;exact⟨⟨by rw[List.length_append];exact f,⟨_,cb _ rfl,rfl⟩⟩,_,d.append c,IsTup.new _ _⟩
end
def Yp(n:Nat)(i:Int):Option Nat:=if 0<=i then(if i<n then some i.toNat else none)else if-(n:Int)<=i then some (i+n).toNat else none
def X8(xs:List a)(i:Int):Option a:=(Yp xs.length i).bind λj=>xs[j]?
theorem W6(h:Yp n i=some j):seqIndex? i n=some j/\j<n/\-(n:Int)<=i/\i<n:=by
 unfold Yp at h;by_cases b:0<=i
 ·rw[if_pos b]at h;by_cases a:i<n
  ·rw[if_pos a]at h;have e:i.toNat=j:=eT h;exact⟨by rw[seqIndex_of b a,e],by omega,by omega,a⟩
  ·rw[if_neg a]at h;cases h
 ·rw[if_neg b]at h;by_cases a:-(n:Int)<=i
  ·rw[if_pos a]at h;have e:(i+n).toNat=j:=eT h;exact⟨by rw[seqIndex_neg (by omega) a,e],by omega,a,by omega⟩
  ·rw[if_neg a]at h;cases h
theorem Vp(h:X8 xs i=some v):∃j,seqIndex? i xs.length=some j/\xs[j]?=some v/\j<xs.length/\-(xs.length:Int)<=i/\i<xs.length:=by
 unfold X8 at h;cases e:Yp xs.length i with
 |none=>rw[e]at h;cases h
 |some j=>
  rw[e]at h;obtain⟨b,c,d,f⟩:=W6 e;exact⟨j,b,h,c,d,f⟩
theorem Ma{a:Type}{xs:List a}{j:Nat}{v:a}(h:xs[j]?=some v):X8 xs (j:Int)=some v:=by
 have b:j<xs.length:=(bA.mp h).1
 have e:Yp xs.length (j:Int)=some j:=by
  unfold Yp;rw[if_pos (by omega),if_pos (by omega)];simp
 unfold X8;rw[e];exact h
def fm(b:Expr):Prop:=∀o i,subscripted b false o i=operate [o,i] (getItem o i)
def xb(X:Cx)(r:R2):Prop:=
 ∀(c a:Expr) (b:List (Addr×Obj)) (s:oF) (d:St) (H:Hp) (x y:V) (v u:oI) (Q:VK),Ao X b d H s->Az x v->Az y u->r x y H Q->
  subscripted a false v u=operate [v,u] (getItem v u)->wpAny (model X.prog X.w) X.A (subscriptTail c a v u) (EP X b d Q) X.xe s
def xo(X:Cx)(e:String)(r:V->List V->Hp->VK->Prop):Prop:=
 ∀(a:List (Addr×Obj)) (s:oF) (d:St) (H:Hp) (x:V) (c:List V) (v:oI) (b:List oI) (Q:VK),Ao X a d H s->Az x v->Av c b->r x c H Q->
  wpAny (model X.prog X.w) X.A (call (.builtin e) (v::b)) (EP X a d Q) X.xe s
section
variable {X:Cx}{a b:Expr}{ta tb:TE}{pos:Pos}
theorem Bk(i:xb X r)(f:PE X a ta)(g:PE X b tb)(j:fm b):PE X (.Subscript a b pos) (xi r ta tb):=by
 intro c s o H Q I h;exact Subscript_ (km f g I h λv u n x y d e l m q=>i a b c n o d x y v u Q e l m q (j _ _))
def y8(K:W.Frag):R2:=λx y H Q=>∃p c i v,x=.ref p/\y=.int i/\Be K H p c/\X8 c i=some v/\Q v H
def ya(K:W.Frag):R2:=λx y H Q=>∃p c i v,x=.ref p/\y=.int i/\Bm K H p c/\X8 c i=some v/\Q v H
theorem gt:xb X (y8 X.K):=by
 intro m l c s B H x y v u Q I M N h A;obtain⟨p,T,i,z,rfl,rfl,K,G,q⟩:=h;cases M;obtain⟨t,rfl⟩:=N;obtain⟨C,r,g,S⟩:=I.list K;obtain⟨j,e,D,P,E,F⟩:=Vp G;obtain⟨w,n,L⟩:=r.get D;have J:=r.length;have R:=Je;have d:EP X c B Q w s:=⟨z,H,I,L,q⟩;by_cases o:0<=i
 ·have f:i.toNat=j:=by
   rw[seqIndex_of o F]at e;exact eT e
  exact item_listR g.isList o (by omega) (by rw[f];simpa using n) d A
 ·have f:(i+(C.toArray.size:Int)).toNat=j:=by
   rw[seqIndex_neg (by omega) E]at e;rw[List.size_toArray,<- J];exact eT e
  exact subscriptTail_builtinR (x:=w) g.isList.typeIs slot_list_getitem.lookup
   (wpAny_getItem_list_neg (Q:=λr O=>r=w/\EP X c B Q r O) g.isList (by omega) (by rw[List.size_toArray]<;>omega) (by omega) (by rw[f];simpa using n) ⟨rfl,d⟩) A
theorem lm:xb X (ya X.K):=by
 intro f e c s l H x y v u Q I F G h D;obtain⟨p,R,i,z,rfl,rfl,C,A,q⟩:=h;cases F;obtain⟨t,rfl⟩:=G;obtain⟨K,r,g,P⟩:=I.tuple C;obtain⟨j,n,o,L,M,N⟩:=Vp A;obtain⟨w,m,E⟩:=r.get o;have B:=r.length;have O:=Je;have d:EP X c l Q w s:=⟨z,H,I,E,q⟩
 exact subscriptTail_builtinR (x:=w) g.typeIs slot_tuple_getitem.lookup
  (getItem_tuple (j:=j) (Q:=λr J=>r=w/\EP X c l Q r J) g (by omega) (by omega) (by rw[List.size_toArray,<- B];exact n) (by simpa using m) ⟨rfl,d⟩) D
theorem Ui(c:List oI)(n j:Nat)(u:oI):Obj.mapSeq (·.setIfInBounds j u) {cls:=.type "list",data:=.seq c.toArray n}={cls:=.type "list",data:=.seq (c.set j u).toArray n}:=by
 simp[Obj.mapSeq]
theorem Ao.lst(I:Ao X c f H s)(h:H p=some (.lst xs)):
  ∃(d:List oI) (n:Nat),Av xs d/\s.heap.get? p=some {cls:=.type "list",data:=.seq d.toArray n}/\xs.length<=sizeLine:=by
 obtain⟨z,d,n,r,e⟩:=I.aH p _ h;exact⟨d,n,r,e,z⟩
theorem Ao.DE{c:List (Addr×Obj)}{l:St}{H:Hp}{s:oF}{p:Addr}{xs g:List V}{i its':List oI}{n d:Nat}{f:Obj->Obj}(I:Ao X c l H s)(h:H p=some (.lst xs))
  (o:s.heap.get? p=some {cls:=.type "list",data:=.seq i.toArray n})(j:f {cls:=.type "list",data:=.seq i.toArray n}={cls:=.type "list",data:=.seq its'.toArray d})(r:Av g its')(hz:g.length<=sizeLine)(t:Nat):
  Ao X c l (upd H p (.lst g)) {s with heap:=s.heap.update p f,toks:=t}:=by
 have e:(s.heap.update p f).get? p=some {cls:=.type "list",data:=.seq its'.toArray d}:=by
  rw[Heap.get?_update_self f o (by rw[j]<;>rfl),j]
 refine I.write (x:=p) (e:=p) (by rw[h];trivial) (.inl rfl) (λb u m q=>(fC _ _ (Ne.symm m)).trans q) ⟨_,e⟩ ?_;exact⟨hz,its',d,r,e⟩
def vd:V->V->V->Hp->(Hp->Prop)->Prop:=λo i v H Q=>∃p c k j,o=.ref p/\i=.int k/\H p=some (.lst c)/\Yp c.length k=some j/\Q (upd H p (.lst (c.set j v)))
theorem Tb:t9 X vd:=by
 intro c s G H o i v M L u Q I D C E h;obtain⟨p,F,k,j,rfl,rfl,z,A,q⟩:=h;cases D;obtain⟨t,rfl⟩:=C;obtain⟨m,n,r,g,B⟩:=I.lst z;obtain⟨d,J,x,y⟩:=W6 A;have f:=r.length;have K:=Je
 have l:Ao X c G (upd H p (.lst (F.set j v))) {s with heap:=s.heap.update p (Obj.mapSeq (·.setIfInBounds j u)) }:=
  I.DE z g (Ui m n j u) (r.set E j) (by rw[List.length_set];exact B) s.toks
 by_cases w:0<=k
 ·have e:k.toNat=j:=by
   rw[seqIndex_of w y]at d;exact eT d
  exact W.ki_setAt g w (by omega) (by rw[List.size_toArray,<- f];exact y) (by rw[e];exact⟨_,l,q⟩)
 ·have e:(k+(m.toArray.size:Int)).toNat=j:=by
   rw[seqIndex_neg (by omega) x]at d;rw[List.size_toArray,<- f];exact eT d
  exact W.ki_setBack g (by omega) (by rw[List.size_toArray,<- f];exact x) (by omega) (by rw[e];exact⟨_,l,q⟩)
theorem Qz(lo hi:oD)(n:Nat):(sliceBounds lo hi none n).1=((HT.bK n 0 lo:Nat):Int)/\(sliceBounds lo hi none n).2.1=((HT.bK n n hi:Nat):Int)/\(sliceBounds lo hi none n).2.2=1:=by
 refine⟨?_,?_,rfl⟩
 ·cases lo with
  |none=>simp[sliceBounds,HT.bK]
  |some i=>
   simp only[sliceBounds,HT.bK,Option.getD_none,show(1:Int)>0 by decide,if_true];by_cases h:i<0
   ·simp only[h,if_true]<;>omega
   ·simp only[h,if_false]<;>omega
 ·cases hi with
  |none=>simp[sliceBounds,HT.bK]
  |some i=>
   simp only[sliceBounds,HT.bK,Option.getD_none,show(1:Int)>0 by decide,if_true];by_cases h:i<0
   ·simp only[h,if_true]<;>omega
   ·simp only[h,if_false]<;>omega
theorem Oh(c:List oI)(lo hi:oD):slicePick c.toArray lo hi none=((c.drop (HT.bK c.length 0 lo)).take (HT.bK c.length c.length hi-HT.bK c.length 0 lo)).toArray:=by
 obtain⟨d,e,f⟩:=Qz lo hi c.toArray.size;unfold slicePick;rw[d,e,f];simp only[sliceRange_one,pick_run,List.size_toArray]<;>rfl
def ve(K:W.Frag):V->oD->oD->Hp->VK->Prop:=λx e d H Q=>∃a c,x=.ref a/\Be K H a c/\∀p,H p=none->Q (.ref p) (upd H p (.lst (Iq c e d)))
theorem ix:tj X (ve X.K):=by
 intro i s B H x v z A e f y Q I p j n o h;obtain⟨a,c,rfl,l,q⟩:=h;cases p;obtain⟨u,r,g,m⟩:=I.list l;have d:=r.length;refine⟨"list",_,slot_list_getitem.lookup,g.isList.typeIs,?_⟩;refine wpAny_getItem_list_slice g.isList j n o .none (by simp) ?_ (by rw[List.size_toArray]<;>omega);rw[Oh,<- d];refine⟨.ref s.heap.objs.size,_,I.laid (t':=s.toks) (o:=.lst (Iq c e f)) (λb w q=>b4 _ q) (da _) ?_,rfl,q _ (I.aH.fresh (da _))⟩;exact⟨eI (Ec c e f) m,_,0,(r.drop (HT.bK c.length 0 e)).take (HT.bK c.length c.length f-HT.bK c.length 0 e),cb _ rfl⟩
def En:V->Bool
 | .aX=>true
 | .bl _=>true
 | .int _=>true
 | .str _=>true
 |_=>false
def Zg:V->V->Bool
 | .aX,.aX=>true
 | .bl a,.bl b=>a==b
 | .bl a,.int b=>(if a then 1 else 0)==b
 | .int a,.bl b=>a==(if b then 1 else 0)
 | .int a,.int b=>a==b
 | .str a,.str b=>a==b
 |_,_=>false
theorem l6(f:Az y u)(c:Az x v)(g:En y=true)(e:En x=true):SeqAt.EqAt A s u v (Zg y x):=by
 cases y with
 |aX=>
  cases f;cases x with
  |aX=>cases c;exact SeqAt.EqAt.same _
  |bl b=>cases c;exact SeqAt.EqAt.none_bool b
  |int b=>obtain⟨t,rfl⟩:=c;exact SeqAt.EqAt.none_int b t
  |str b=>obtain⟨t,rfl⟩:=c;exact SeqAt.EqAt.none_str b t
  |_=>exact absurd (show false=true from e) hF
 |bl a=>
  cases f;cases x with
  |aX=>cases c;exact SeqAt.EqAt.bool_none a
  |bl b=>cases c;exact SeqAt.EqAt.bool_bool a b
  |int b=>obtain⟨t,rfl⟩:=c;exact SeqAt.EqAt.bool_int a b t
  |str b=>obtain⟨t,rfl⟩:=c;exact SeqAt.EqAt.bool_str a b t
  |_=>exact absurd (show false=true from e) hF
 |int a=>
  obtain⟨d,rfl⟩:=f;cases x with
  |aX=>cases c;exact SeqAt.EqAt.int_none a d
  |bl b=>cases c;exact SeqAt.EqAt.int_bool a d b
  |int b=>obtain⟨t,rfl⟩:=c;exact SeqAt.EqAt.int_int a d b t
  |str b=>obtain⟨t,rfl⟩:=c;exact SeqAt.EqAt.int_str a d b t
  |_=>exact absurd (show false=true from e) hF
 |str a=>
  obtain⟨d,rfl⟩:=f;cases x with
  |aX=>cases c;exact SeqAt.EqAt.str_none a d
  |bl b=>cases c;exact SeqAt.EqAt.str_bool a d b
  |int b=>obtain⟨t,rfl⟩:=c;exact SeqAt.EqAt.str_int a d b t
  |str b=>obtain⟨t,rfl⟩:=c;exact SeqAt.EqAt.str_str a d b t
  |_=>exact absurd (show false=true from e) hF
 |_=>exact absurd (show false=true from g) hF
def S6(x:V)(u:oI):Bool:=match u with
 | .none=>Zg .aX x
 | .bool b=>Zg (.bl b) x
 | .int i _=>Zg (.int i) x
 | .str z _=>Zg (.str z) x
 |_=>false
theorem U4(r:Az y u)(f:En y=true):S6 x u=Zg y x:=by
 cases y with
 |aX=>cases r;rfl
 |bl b=>cases r;rfl
 |int i=>obtain⟨t,rfl⟩:=r;rfl
 |str z=>obtain⟨t,rfl⟩:=r;rfl
 |_=>exact absurd (show false=true from f) hF
theorem M9(h:Av xs us)(f:xs.all En=true):us.any (S6 x)=xs.any λy=>Zg y x:=by
 induction h with
 |nil=>rfl
 |cons r t c=>
  rw[List.all_cons,Bool.and_eq_true]at f;rw[List.any_cons,List.any_cons,U4 r f.1,c f.2]
theorem Hl(g:Az x v)(d:En x=true)(h:Av xs us)(f:xs.all En=true):∀u∈us,SeqAt.EqAt A s u v (S6 x u):=by
 induction h with
 |nil=>
  intro u c;cases c
 |cons r t e=>
  intro i c;rw[List.all_cons,Bool.and_eq_true]at f;rcases fe.mp c with rfl|c
  ·rw[U4 r f.1];exact l6 r g f.1 d
  ·exact e f.2 i c
def sd(x:V)(xs:List V):Bool:=xs.any λy=>Zg y x
def xh(K:W.Frag)(d:Bool):R2:=λx y H Q=>∃p c,y=.ref p/\(Be K H p c\/Bm K H p c)/\En x=true/\c.all En=true/\Q (.bl (if d then !sd x c else sd x c)) H
theorem Yd:Im X (compareOp .In) (xh X.K false):=by
 intro i s o H x y v u Q I j m h;obtain⟨p,n,rfl,d,g,fs,q⟩:=h;cases m;rcases d with d|d
 ·obtain⟨c,r,f,l⟩:=I.list d;refine SeqAt.in_listAt (S6 x) f.isList (λw e=>Hl j g r fs w (by simpa using e)) ⟨.bl _,H,I,rfl,?_⟩;rw[show c.toArray.any (S6 x)=c.any (S6 x)by simp,M9 r fs];exact q
 ·obtain⟨c,r,f,l⟩:=I.tuple d;refine SeqAt.in_tupleAt (S6 x) f (λw e=>Hl j g r fs w (by simpa using e)) ⟨.bl _,H,I,rfl,?_⟩;rw[show c.toArray.any (S6 x)=c.any (S6 x)by simp,M9 r fs];exact q
theorem Qm:Im X (compareOp .NotIn) (xh X.K true):=by
 intro i s o H x y v u Q I j m h;obtain⟨p,n,rfl,d,g,fs,q⟩:=h;cases m;rcases d with d|d
 ·obtain⟨c,r,f,l⟩:=I.list d;refine SeqAt.notIn_listAt (S6 x) f.isList (λw e=>Hl j g r fs w (by simpa using e)) ⟨.bl _,H,I,rfl,?_⟩;rw[show c.toArray.any (S6 x)=c.any (S6 x)by simp,M9 r fs];exact q
 ·obtain⟨c,r,f,l⟩:=I.tuple d;refine SeqAt.notIn_tupleAt (S6 x) f (λw e=>Hl j g r fs w (by simpa using e)) ⟨.bl _,H,I,rfl,?_⟩;rw[show c.toArray.any (S6 x)=c.any (S6 x)by simp,M9 r fs];exact q
theorem Q4:Em X (.builtin "len") (λxs H Q=>∃p d,xs=[.ref p]/\(Be X.K H p d\/Bm X.K H p d)/\Q (.int d.length) H):=by
 intro i s v H xs o Q I r h;obtain⟨p,d,rfl,e,q⟩:=h;obtain⟨u,rfl,m⟩:=Kg r;cases m;have n:=Je;rcases e with e|e
 ·obtain⟨j,g,f,l⟩:=I.list e;have c:=g.length;exact Calls.call_len_list f.isList (by simp only[List.size_toArray]<;>omega) ⟨.int d.length,H,I.tok _,⟨s.toks+1,by rw[List.size_toArray,c]⟩,q⟩
 ·obtain⟨j,g,f,l⟩:=I.tuple e;have c:=g.length;exact len_tuple f (by simp only[List.size_toArray]<;>omega) ⟨.int d.length,H,I.tok _,⟨s.toks+1,by rw[List.size_toArray,c]⟩,q⟩
theorem Ce:Em X (.type "list") (λxs H Q=>∃p i,xs=[.ref p]/\(Be X.K H p i\/Bm X.K H p i)/\∀l,H l=none->Q (.ref l) (upd H l (.lst i))):=by
 intro y s F H xs G Q I r h;obtain⟨p,i,rfl,v,q⟩:=h;obtain⟨u,rfl,E⟩:=Kg r;cases E
 have j:∀(d:List oI),Av i d->i.length<=sizeLine->∀(c:Heap) (f:Nat),(∀b D,s.heap.get? b=some D->c.get? b=some D)->
   c.get? s.heap.objs.size=some {cls:=.type "list",dict:=none,data:=.seq d.toArray f,slots:=#[] }->EP X y F Q (.ref s.heap.objs.size) {s with heap:=c}:=λd g w c f x e=>
  ⟨.ref s.heap.objs.size,_,I.laid (t':=s.toks) x (da _) (show Bw X.prog X.w _ c _ (.lst i)from⟨w,d,f,g,e⟩),rfl,q _ (I.aH.fresh (da _))⟩
 rcases v with v|v
 ·obtain⟨d,g,C,w⟩:=I.list v;have m:=g.length;obtain⟨o,B,z,n,A⟩:=C.isList;exact call_list_seq p (.inl rfl) B z A (λc f x e=>j d g w c f x e) (by simp only[List.size_toArray]<;>omega)
 ·obtain⟨d,g,C,w⟩:=I.tuple v;have m:=g.length;obtain⟨o,B,z,n,A⟩:=C;exact call_list_seq p (.inr rfl) B z A (λc f x e=>j d g w c f x e) (by simp only[List.size_toArray]<;>omega)
theorem Fg:Em X (.type "tuple") (λxs H Q=>∃p d,xs=[.ref p]/\((Be X.K H p d/\∀l,H l=none->Q (.ref l) (upd H l (.tup d)))\/(Bm X.K H p d/\Q (.ref p) H))):=by
 intro c s x H xs B Q I r h;obtain⟨p,d,rfl,h⟩:=h;obtain⟨u,rfl,A⟩:=Kg r;cases A;rcases h with⟨i,q⟩|⟨i,q⟩
 ·obtain⟨g,m,j,w⟩:=I.list i;have v:=m.length;refine call_tuple_list j.isList (λf z=>?_) (by simp only[List.size_toArray]<;>omega);have n:Ao X c x H {s with heap:=f}:=I.kept (t':=s.toks) z
  have y:Ao X c x (upd H f.objs.size (.tup d)) {s with heap:=f.push {cls:=.type "tuple",data:=.seq g.toArray} }:=
   n.laid (t':=s.toks) (λb o e=>b4 _ e) (da _) (show Bw X.prog X.w _ _ _ (.tup d)from⟨⟨w,⟨_,cb _ rfl,rfl⟩⟩,g,m,IsTup.new _ _⟩)
  exact⟨.ref f.objs.size,_,y,rfl,q _ (n.aH.fresh (da _))⟩
 ·obtain⟨g,m,j,w⟩:=I.tuple i;exact call_tuple_same j ⟨.ref p,H,I,rfl,q⟩
def yu(K:W.Frag)(T:String)(x:V)(H:Hp):Prop:=match x with
 | .str _=>T="str"
 | .int _=>T="int"
 | .ref p => (T = "list" /\ ∃ d, Be K H p d) \/ (T = "tuple" /\ ((∃ o, K.lookup p = some o /\ o.cls = .type "tuple" /\ o.dict = none) \/ ∃ d, H p = some (.tup d))) \/
   (T="dict"/\((∃c,H p=some (.dK c))\/∃c,H p=some (.dT c)))\/(T="set"/\∃S n,H p=some (.set S n))
 |_=>False
theorem f8(I:Ao X h J H s)(r:Az x v)(j:yu X.K T x H):
  s.TypeIs v T/\∀a,v=.ref a->∃q,s.heap.get? a=some q/\q.dict=none:=by
 cases x with
 |str z=>
  obtain⟨t,rfl⟩:=r;cases(show T="str" from j);exact⟨typeIs_str s z t,λ_ e=>nomatch e⟩
 |int i=>
  obtain⟨t,rfl⟩:=r;cases(show T="int" from j);exact⟨typeIs_int s i t,λ_ e=>nomatch e⟩
 |ref p=>
  cases r;rcases j with⟨rfl,L,D⟩|⟨rfl,⟨o,d,C,l⟩|⟨G,d⟩⟩|⟨rfl,d⟩|⟨rfl,S,n,d⟩
  ·obtain⟨K,_,u,_⟩:=I.list D;refine⟨u.isList.typeIs,λa e=>?_⟩;cases e;obtain⟨o,n,e,c,l,_⟩:=u;exact⟨o,e,l⟩
  ·refine⟨⟨o,I.rK p o d,C⟩,λa e=>?_⟩;cases e;exact⟨o,I.rK _ o d,l⟩
  ·obtain⟨⟨_,F,g,y⟩,_,_,⟨E,A,w,_⟩⟩:=(show Bw X.prog X.w H s.heap p (.tup G)from I.aH p _ d);refine⟨⟨E,A,w⟩,λa B=>?_⟩;cases B;exact⟨F,g,y⟩
  ·have z:∃o,s.heap.get? p=some o/\o.ExactDict:=by
    rcases d with⟨m,d⟩|⟨m,d⟩
    ·obtain⟨_,_,_,_,o,_,_,e,f,_⟩:=I.aH p _ d;exact⟨o,e,f⟩
    ·obtain⟨_,_,_,_,o,_,_,e,f,_⟩:=I.aH p _ d;exact⟨o,e,f⟩
   obtain⟨o,e,f⟩:=z;refine⟨⟨o,e,f.1⟩,λa g=>?_⟩;cases g;exact⟨o,e,f.2.1⟩
  ·obtain⟨o,_,_,_,e,f,_⟩:=I.aH p _ d;refine⟨⟨o,e,f.1⟩,λa g=>?_⟩;cases g;exact⟨o,e,f.2.1⟩
 |_=>exact False.elim j
def yf(K:W.Frag)(T:String)(r:V->List V->Hp->VK->Prop)(d:TE):TE:=λe H Q=>d e H λx c=>yu K T x c/\r x [] c Q
def z9(K:W.Frag)(T:String)(r:V->List V->Hp->VK->Prop)(f:TE)(t:TA):TE:=λd H Q=>f d H λx c=>yu K T x c/\t d c λg e=>r x g e Q
variable {o e:Expr}{es:List Expr}{to:TE}{t:TA}{name:Str}{apos bO:Pos}{T id:String}{r:V->List V->Hp->VK->Prop}
theorem Up(z:PlainAttrs T)(d:Slot T name id)(l:typeOf (.builtin id)=pure (.type "method_descriptor"))(q:xo X id r)(u:PE X o to)
  (w:attributeBase o name X.env (eval o X.env)=eval o X.env:=by rfl)(y:(apos.endLine==bO.line)=true:=by rfl):PE X (.Call (.Attribute o name apos) [] [] bO) (yf X.K T r to):=by
 intro c s i H Q I h;refine wpAny_Call_method0_late w y (C5 (u c s i H _ I h) λv B m=>?_);obtain⟨x,j,f,g,C,A⟩:=m;obtain⟨n,p⟩:=f8 f g C;exact⟨T,id,z,d,l,n,p,Calls.callWith_builtin rfl (PySem.evalArgs_none (q c B i j x [] v [] Q f g .nil A))⟩
theorem J0(J:PlainAttrs T)(d:Slot T name id)(u:typeOf (.builtin id)=pure (.type "method_descriptor"))(C:xo X id r)(D:PE X o to)(B:PA X (e::es) t)
  (F:attributeBase o name X.env (eval o X.env)=eval o X.env:=by rfl)
  (w:((backTo bO (starEach (e::es) X.env)).all (λx=>!x.1)&&(backToKw bO (keywordEach [] X.env)).all (λx=>x.1.isSome)
   &&decide ((e::es).length+([]:List Keyword).length+(if([]:List Keyword).isEmpty then 0 else 1)<30))=true:=by rfl)
  (G:(apos.endLine==bO.line)=true:=by rfl)(E:starEach (e::es) X.env=(false,eval e X.env)::starEach es X.env:=by rfl)(l:(backTo bO (starEach es X.env)).any (·.1)=false:=by rfl):
  PE X (.Call (.Attribute o name apos) (e::es) [] bO) (z9 X.K T r to t):=by
 intro c s f H Q I h;refine wpAny_Call_method_late F w G rfl (C5 (D c s f H _ I h) λv N y=>?_);obtain⟨x,n,g,j,P,K⟩:=y;obtain⟨z,A⟩:=f8 g j P;refine⟨T,id,J,d,u,z,A,?_⟩;have i:=B bO c N f n _ g K;rw[E]at i⊢;refine Calls.callWith_builtin (by show(false||(backTo bO (starEach es X.env)).any (·.1))=false;rw[l]<;>rfl) (Calls.evalArgs_plain ?_);exact C5 i λR O ⟨S,p,q,M,L⟩=>C c O f p x S v R Q q j M L
/-xs.append(e),list.index on a JR tuple .. are xo facts of 06m-/
end
def rm(X:Cx)(e:String)(r:V->List V->Hp->VK->Prop):Prop:=
 ∀(a:List (Addr×Obj)) (s:oF) (d:St) (H:Hp) (x:V) (c:List V) (v:oI) (b:List oI) (Q:VK),Ao X a d H s->Az x v->Av c b->r x c H Q->
  wpAny (model X.prog X.w) X.A (call (.builtin e) (v::b)) (EP X a d Q) X.xe s
theorem Av.one(h:Av [x] us):∃u,us=[u]/\Az x u:=by
 cases h with
 |cons r t=>
  cases t;exact⟨_,rfl,r⟩
theorem Av.two(h:Av [x,y] us):∃u v,us=[u,v]/\Az x u/\Az y v:=by
 cases h with
 |cons r t=>
  obtain⟨v,rfl,q⟩:=Av.one t;exact⟨_,v,rfl,r,q⟩
theorem Av.zero:∀{us:List oI},Av [] us->us=[]
 |_,.nil=>rfl
theorem Av.dropLast(h:Av xs us):Av xs.dropLast us.dropLast:=by
 induction h with
 |nil=>exact .nil
 |cons r t a=>
  cases t with
  |nil=>exact .nil
  |cons q b=>exact .cons r a
theorem U5(l:List d):l.eraseIdx (l.length-1)=l.dropLast:=by
 induction l with
 |nil=>rfl
 |cons a r c=>
  cases r with
  |nil=>rfl
  |cons b r=>
   have e:(a::b::r).length-1=((b::r).length-1)+1:=by
    have f:(a::b::r).length=r.length+2:=rfl;have g:(b::r).length=r.length+1:=rfl;omega
   rw[e,List.eraseIdx_cons_succ,c]
   all_goals rfl
section
variable {X:Cx}{pins:List (Addr×Obj)}{σ:St}{H:Hp}{s:oF}{l b:Addr}{xs ys zs:List V}
theorem Ao.DG{a its':List oI}{n:Nat}{f:Array oI->Array oI}{t':Nat}(I:Ao X pins σ H s)(c:H l=some (.lst xs))
  (e:s.heap.get? l=some {cls:=.type "list",data:=.seq a.toArray n})(g:f a.toArray=its'.toArray)(i:Av ys its')(hz:ys.length<=sizeLine):
  Ao X pins σ (upd H l (.lst ys)) {s with heap:=s.heap.update l (Obj.mapSeq f),toks:=t'}:=by
 have q:=PySem.IsL.update e f;rw[g]at q;refine I.write (x:=l) (e:=l) (by rw[c];exact trivial) (.inl rfl) (λj u d h=>(fC s.heap (Obj.mapSeq f) (Ne.symm d)).trans h) ⟨_,q⟩ ?_;exact⟨hz,its',_,i,q⟩
theorem Ao.VS{t':Nat}(I:Ao X pins σ H s)(c:Av ys a)(hz:ys.length<=sizeLine):
  Ao X pins σ (upd H s.heap.objs.size (.lst ys)) {s with heap:=s.heap.push {cls:=.type "list",data:=.seq a.toArray},toks:=t'}:=
 I.laid (λ_ _ q=>b4 _ q) (da _) ⟨hz,a,0,c,cb _ rfl⟩
theorem Ao.fresh(I:Ao X pins σ H s):H s.heap.objs.size=none:=I.aH.fresh (da _)
theorem Ao.rO(I:Ao X pins σ H s)(c:H l=some (.lst xs)):xs.length<=sizeLine/\∃(a:List oI) (n:Nat),Av xs a/\xs.length=a.length/\s.heap.get? l=some {cls:=.type "list",data:=.seq a.toArray n}:=by
 obtain⟨z,a,n,r,e⟩:=I.aH l _ c;exact⟨z,a,n,r,r.length,e⟩
theorem af(h:n<=sizeLine):Builtin.List.listTooLong n=false:=by
 unfold Builtin.List.listTooLong;exact l7 (by omega)
end
section
variable {X:Cx}
def ij:V->List V->Hp->VK->Prop:=λx b H Q=>∃l a y,x=.ref l/\b=[y]/\H l=some (.lst a)/\a.length<sizeLine/\Q .aX (upd H l (.lst (a++[y])))
theorem Fu:rm X "list.append" ij:=by
 intro c s w H x o v m Q I g f h;obtain⟨l,p,y,rfl,rfl,b,j,q⟩:=h;cases g;obtain⟨u,rfl,d⟩:=f.one;obtain⟨z,a,n,r,i,e⟩:=I.rO b;refine call_meets F.slot_list_append ⟨_,e,rfl⟩ F.entry_list_append (F.args_list_append_2 _ _) (PySem.list_append l a.toArray n u (by rw[List.size_toArray];omega)) ⟨e,?_⟩;refine⟨.aX,_,I.DG (its':=a++[u]) b e (by simp) (r.append (.cons d .nil)) ?_,rfl,q⟩;rw[List.length_append,List.length_singleton];omega
def ik:V->List V->Hp->VK->Prop:=λx d H Q=>∃l b a c,x=.ref l/\d=[.ref b]/\H l=some (.lst a)/\H b=some (.lst c)/\a.length+c.length<=sizeLine/\Q .aX (upd H l (.lst (a++c)))
theorem Ig:rm X "list.extend" ik:=by
 intro g s M H x G v E Q I A y h;obtain⟨l,b,J,L,rfl,rfl,f,m,C,q⟩:=h;cases A;obtain⟨u,rfl,w⟩:=y.one;cases w;obtain⟨z,a,n,r,B,e⟩:=I.rO f;obtain⟨K,c,o,p,D,j⟩:=I.rO m;have d:a.toArray.size+c.toArray.size<=sizeLine:=by rw[List.size_toArray,List.size_toArray];omega
 have i:¬(!a.toArray.isEmpty&&Builtin.List.listTooLong (a.toArray.size+c.toArray.size))=true:=by
  rw[af d,Bool.and_false];exact hF
 refine call_meets F.slot_list_extend ⟨_,e,rfl⟩ F.entry_list_extend (F.args_list_extend_2 _ _)
  (AutoSeq1.list_extend_list_list_0 l a.toArray n b c.toArray o i (by rw[List.size_toArray];omega) (by omega)) ⟨e,j,?_⟩
 refine⟨.aX,_,I.DG (its':=a++c) f e (by simp) (r.append p) ?_,rfl,q⟩;rw[List.length_append];omega
def yd:V->List V->Hp->VK->Prop:=λx b H Q=>∃l a y,x=.ref l/\b=[]/\H l=some (.lst a)/\a[a.length-1]?=some y/\Q y (upd H l (.lst a.dropLast))
theorem ae:rm X "list.pop" yd:=by
 intro c s C H x A v w Q I o m h;obtain⟨l,B,y,rfl,rfl,b,g,q⟩:=h;cases o;have i:=m.zero;subst i;obtain⟨z,a,n,r,d,e⟩:=I.rO b;obtain⟨u,f,j⟩:=r.get g
 have p:a.toArray[a.toArray.size-1]?=some u:=by
  show a.toArray[a.length-1]?=some u;rw[<- Array.getElem?_toList,<- d];exact f
 refine call_meets F.slot_list_pop ⟨_,e,rfl⟩ F.entry_list_pop (F.args_list_pop_1 _) (MeetsSeq.list_pop_last l a.toArray n u p (by rw[List.size_toArray];omega)) ⟨e,?_⟩;refine⟨y,_,I.DG (its':=a.dropLast) b e ?_ r.dropLast ?_,j,q⟩
 ·show a.toArray.eraseIdxIfInBounds (a.toArray.size-1)=a.dropLast.toArray;rw[List.size_toArray,List.eraseIdxIfInBounds_toArray,U5]
 ·rw[List.length_dropLast];omega
def y0:R2:=λx y H Q=>∃l b a c,x=.ref l/\y=.ref b/\H l=some (.lst a)/\H b=some (.lst c)/\a.length+c.length<=sizeLine/\∀p,H p=none->Q (.ref p) (upd H p (.lst (a++c)))
theorem o9:Im X (binaryOp .Add) y0:=by
 intro d s G H x y v u Q I o p h;obtain⟨l,b,D,F,rfl,rfl,j,i,A,q⟩:=h;cases o;cases p;obtain⟨z,a,n,r,w,e⟩:=I.rO j;obtain⟨E,c,C,m,B,f⟩:=I.rO i;refine PySem.P.add_list e f ?_ (by rw[List.size_toArray,List.size_toArray];omega);have g:a.toArray++c.toArray=(a++c).toArray:=by simp
 rw[g];exact⟨.ref _,_,I.VS (t':=s.toks) (r.append m) (by rw[List.length_append];omega),rfl,q _ I.fresh⟩
end
end L2
namespace Att
local macro_rules | `(tactic| omega) => `(tactic| lia)
open PySem PySem.W PySem.Calls PyProof.Rows
theorem Ly:∀(c:List Int) (vs:List Value),WellAll P h vs (c.map WData.int)->IntsAre vs c:=by
 intro c
 induction c with
 |nil=>
  intro vs w;rw[List.map_nil]at w;cases w;exact .nil
 |cons n c d=>
  intro vs w;rw[List.map_cons]at w;cases w with
  |cons a b=>
   cases a;exact .cons _ _ (d _ b)
theorem rP{l:OpenLaw}{n:Nat}(w:l.most=some n){P:Params}{h:Heap}{args:List WData}{c:List Value}
  (o:l.row.toRowW.claim.pre args=true)(p:WellAll P h c args):
  ∃a vs b,c=[Value.ref a]/\args=[WData.list (b.map WData.int)]/\h.get? a=some {cls:=.type "list",data:=.seq vs.toArray}/\IntsAre vs b/\b.length<=n:=by
 have j:WShape.hasAll [] args [.list .int]=true:=(pre_splitW o).1;have m:l.pre.holds [] {args:=args}=true:=(pre_splitW o).2;obtain⟨d,r,rfl,s,u⟩:=hasAllW_cons j;obtain rfl:=hasAllW_nil u;obtain⟨B,rfl,v⟩:=hasW_list s;obtain⟨b,rfl⟩:=items_int v
 have f:b.length<=n:=by
  unfold OpenLaw.pre at m
  have g:(WTm.not (.lt (.lit (.int (n:Int))) (.len (.arg 0)))).holds [] {args:=[.list (b.map .int)] }=true:=by
   have g:=(holds_andW m).1;rw[w]at g;exact g
  have i:=condW_of g (w_not (w_lt w_lit (w_len_list (w_arg rfl))));rw[List.length_map]at i;refine Nat.le_of_not_lt λq=>?_;have y:(n:Int)<((b.length:Nat):Int):=by omega
  first
   |(rw[decide_eq_true y]at i;exact absurd i (by decide))
   |(simp at i;omega)
 cases p with
 |cons z A=>
  cases A;cases z with
  |list x e=>exact⟨_,_,b,rfl,rfl,x,Ly b _ e,f⟩
theorem rQ(l:OpenLaw)(args:List WData):l.row.toRowW.claim.post args (.bool true) args=true:=
 postW_of (r:=l.row.toRowW) (X:=(true==true))
  (show WShape.has [] (.bool true) .bool=true by first|rfl|decide|simp[WShape.has,WShape.arms,WShape.armsAll])
  (show(WTm.eq .res (.lit (.bool true))).value [] {args:=args,res:=some (.bool true),after:=args}=some (.bool (true==true))from w_eq_bool (w_res rfl) w_lit) rfl
end Att
namespace L2
local macro_rules | `(tactic| omega) => `(tactic| lia)
open PySem PySem.Spec PyProof.Rows
theorem Pq:∀{vs:List oI}{a:oB},IntsAre vs a->Av (a.map V.int) vs
 |_,_,.nil=>.nil
 |_,_,.cons n t h=>.cons ⟨t,rfl⟩ (Pq h)
def kg(H:Hp):Prop:=∀b,H b=none\/∃o a,H b=some (.cF o (.lst a))
theorem Zt{P:oT}{w:px}{K:W.Frag}{y J:Str->Option oI}{CX:Yr}{k:Nat}{fa a:Addr}{O:pa}{x:Str}{sp:Sp}{c:oF}{vs:List oI}{A:oB}
  (L:K.In c.heap)(X:c.heap.Ns mainGlobals y)(f:c.heap.Ns builtinsNs J)(G:∀x:Str,x≠"__name__"->J x=bootBuiltins x)(VT:c.heap.NoLimit)(hg:c.gens=#[])
  (D:c.heap.get? a=some {cls:=.type "list",data:=.seq vs.toArray})(hi:IntsAre vs A)(S:A.length<=sizeLine)(hr:Cu k callerA)
  (F:∀base:Heap,K.In base->base.Ns mainGlobals y->Bg P w K y base CX k fa O [x] sp)(Z:∀(s:oF) (u:oI),BindsTo s O ⟨[u],[]⟩ [(x,u)])
  (xI:∀H:Hp,kg H->Be K H a (A.map V.int)->sp [.ref a] H (λv _=>v=.bl true) λ_ _ _=>False)
  (VU:∀H e s',CX [] H c (λ_ _ _=>False) e s'->False):
  codeAny (model P w) callerA (.call (.ref fa) ⟨[.ref a],[]⟩) (λr s'=>r=.ok (.ret (.bool true))/\OldK c.heap s'.heap/\s'.os=c.os/\AllBare s'.gens) c:=by
 have U:=Pq hi;have VV:=hi.length
 have g:∀H:Hp,kg H->Be K H a (A.map V.int)->Jr P w H c.heap->(∀b,H b≠none->b=a)->(H a≠none->K.lookup a=none)->
   codeAny (model P w) callerA (.call (.ref fa) ⟨[.ref a],[]⟩) (λr s'=>r=.ok (.ret (.bool true))/\OldK c.heap s'.heap/\s'.os=c.os/\AllBare s'.gens) c:=by
  intro H R hS M Q hK;have T:∀{b:Addr}{o:Obj},c.heap.get? b=some o->H b=none->(Qa c.heap H).get? b=some o:=λe n=>Zo e n
  have Y:∀{b:Addr}{o:Obj}{l:Array DictEntry}{j:Nat},c.heap.get? b=some o->o.data=.dict l j->H b=none:=λ{b o l j} e d=>by
   cases q:H b with
   |none=>rfl
   |some u=>
    have E:b=a:=Q b (by rw[q];simp);subst E;rw[D]at e;cases e;have d':Data.seq vs.toArray _=Data.dict l j:=d;cases d'
  have C:∀{b:Addr}{m:Str->Option oI},c.heap.Ns b m->(Qa c.heap H).Ns b m:=λ{b m} ⟨o,l,j,e,d,r⟩=>⟨o,l,j,T e (Y e d),d,r⟩
  have p:K.In (Qa c.heap H):=λb o e=>T (L b o e) (by
   cases q:H b with
   |none=>rfl
   |some u=>
    have E:b=a:=Q b (by rw[q];simp);subst E;rw[hK (by rw[q];simp)]at e;cases e)
  have hM:Mod K y (Qa c.heap H):=⟨p,C X,⟨J,C f,G⟩,let⟨mc,h1,h2⟩:=VT;⟨mc,C h1,h2⟩⟩;have e0:To P w K y (Qa c.heap H) callerA [] c H:=⟨rfl,hM,λb o e=>i4 e,Nat.le_of_eq (Xu _ _),trivial,λb f=>absurd (show b∈([]:List Addr)from f) (by simp),M,.of_eq hg⟩;refine codeAny_mono ((F _ p (C X)).run callerA [] c H ⟨[.ref a],[]⟩ [.ref a] [.ref a] _ _ hr e0 (Z c (.ref a)) (.cons rfl .nil) (xI H R hS)) λr s' h=>?_;cases r with
  |error e=>exact(VU H e s' h).elim
  |ok fl=>
   cases fl with
   |next=>exact False.elim h
   |brk=>exact False.elim h
   |cont=>exact False.elim h
   |ret u=>
    obtain⟨v,H',os,i,un,VW,r',q⟩:=h;have q':v=.bl true:=q;subst q';obtain rfl:u=Value.bool true:=r';refine⟨rfl,OldK.of_keep λb o e=>?_,os,i⟩;cases q:H b with
    |none=>exact un.keep b o e q (by intro z;exact absurd (show b∈([]:List Addr)from z) (by simp)) (by simp)
    |some u=>
     rcases R b with z|⟨ob,xs,z⟩
     ·rw[q]at z;cases z
     ·have z2:=un.eJ b ob _ z;obtain⟨N,_⟩:=M b _ z;obtain⟨e2,_⟩:=VW b _ z2;rw[e]at N;cases N;exact e2
 cases I:K.lookup a with
 |some o=>
  have e:=L a o I;rw[D]at e;cases e;refine g (λ_=>none) (λ_=>.inl rfl) (.inr ⟨_,vs.toArray,_,I,rfl,rfl,rfl,by rw[List.size_toArray,VV];exact S,by simpa using U⟩) (λb u z=>by have B:(none:Option HO)=some u:=z;cases B) (λb z=>absurd rfl z) λz=>absurd rfl z
 |none=>
  refine g (λb=>if b=a then some (.cF {cls:=.type "list",data:=.seq vs.toArray} (.lst (A.map V.int)))else none) (λb=>?_) (.inl (.inr ⟨{cls:=.type "list",data:=.seq vs.toArray},if_pos rfl⟩)) (λb u z=>?_) (λb z=>?_) λ_=>I
  ·by_cases f:b=a
   ·exact .inr ⟨_,_,if_pos f⟩
   ·exact .inl (if_neg f)
  ·by_cases f:b=a
   ·have B:=(if_pos f).symm.trans z;cases B;subst f;exact⟨D,by rw[List.length_map];exact S,vs,_,U,D⟩
   ·have B:=(if_neg f).symm.trans z;cases B
  ·by_cases f:b=a
   ·exact f
   ·exact absurd (if_neg f) z
def Fa(s:Stmt)(j:Nat):Stmt:=match s with
 | .ClassDef _ _ _ a _ _ _ _ _ _ _=>a.getD j (.Pass ⟨0,0,0,0⟩)
 |_=>.Pass ⟨0,0,0,0⟩
def Cb(s:Stmt):Arguments:=match s with
 | .FunctionDef _ a _ _ _ _ _ _ _ _=>a
 |_=>{posonlyargs:=[],args:=[],vararg:=none,kwonlyargs:=[],kw_defaults:=[],kwarg:=none,defaults:=[] }
def Bu(s:Stmt):List Stmt:=match s with
 | .FunctionDef _ _ b _ _ _ _ _ _ _=>b
 |_=>[]
def Aa(s:Stmt):Scope:=match s with
 | .FunctionDef _ _ _ _ _ _ a _ _ _=>a
 |_=>{kind:=.function,names:=[],isGenerator:=false,isCoroutine:=false}
abbrev Dr:Yr:=λ_ _ _ _ _ _=>False
abbrev E0:XK:=λ_ _ _=>False
theorem Ai:Ko Dr X E0:=λ_ _ _ _ _ _ _ h=>h.elim
structure Ea(K:W.Frag)(x qual:Str)(st:Stmt)(f:Addr)(fd:pa):Prop where
 ex:∃(oc:oI) (od:Option Addr) (kV doc pm:oI) (an:Option Addr) (aR ct:oI) (iU:Array (Option oI)),
  fd=W.fnOf x qual (Cb st) (Bu st) (Aa st) .none kV doc pm an aR ct/\K.lookup f=some ⟨oc,od,.func fd,iU⟩/\W.codeIn K aR qual=true
 kp:W.keepIn K (.ref f)=true
section
variable {P:oT}{w:px}{K:W.Frag}{mg:Str->Option oI}{base:Heap}
theorem Ea.ok{x a:Str}{st:Stmt}{f:Addr}{c:pa}{N ps:List Str}{k:Nat}{sp:Sp}(F:Ea K x a st f c)(S:Am N ps (Aa st))(len:∀vs H Q E,sp vs H Q E->vs.length=ps.length)
  (j:∀(b:oI) (A:oW) (outer:List Env) (s:oF) (H:Hp) (vs:List V) (Q:VK) (E:XK),Cu k (A.deeper (envOfC a (Aa st) s.heap.objs.size f b))->sp vs H Q E->
   ∃t,Ri (Ty Dr P w K mg base N a (Aa st) f b A outer s H E).IG (Bu st) t/\t {nx:=λ_ d=>Q .aX d,rt:=Q} (start N vs) H):Bg P w K mg base Dr (k+1) f c ps sp:=by
 obtain⟨r,u,kV,e,v,n,b,o,p,rfl,i,l⟩:=F.ex;refine jj i l S len λA outer s H vs Q E g m=>?_;obtain⟨t,h,q⟩:=j b A outer s H vs Q E g m;exact⟨t,h.IG,q⟩
theorem Ea.binds{x a:Str}{st:Stmt}{f:Addr}{g:pa}{ps:List Str}(F:Ea K x a st f g)
  (h:∀(kV b e:oI) (d:Option Addr) (c ct:oI) (us:List oI),us.length=ps.length->bindArgs (W.fnOf x a (Cb st) (Bu st) (Aa st) .none kV b e d c ct) ⟨us,[]⟩=pure (ps.zip us)):D1 K g ps []:=by
 obtain⟨l,m,kV,b,e,d,c,ct,i,rfl,j,n⟩:=F.ex;exact .all (h kV b e d c ct)
theorem U6{x a:Str}{st:Stmt}{f:Addr}{i:oI}{j e:Option Addr}{h:Array (Option oI)}{kV b g d ct:oI}(l:K.lookup f=some ⟨i,j,.func (W.fnOf x a (Cb st) (Bu st) (Aa st) .none kV b g e d ct),h⟩)
  (c:W.codeIn K d a=true)(k:W.keepIn K (.ref f)=true):Ea K x a st f (W.fnOf x a (Cb st) (Bu st) (Aa st) .none kV b g e d ct):=⟨⟨i,j,kV,b,g,e,d,ct,h,rfl,l,c⟩,k⟩
end
theorem Bb(h:n<=1000):n<sizeLine:=Nat.lt_of_le_of_lt h (by decide)
section
variable {X:Cx}
theorem pv(i:Nat){pos:Pos}(a:X.N[i]?=some x:=by rfl)(c:xt X.env.scope x:=by first|exact Or.inl rfl|exact Or.inr (Or.inl rfl)|exact Or.inr (Or.inr rfl))(b:(x==("__debug__":Str))=false:=by decide)
  (d:(x==("__classdict__":Str))=false:=by decide):PE X (.Name x pos) (ww i):=oq a c b d
end
theorem Dv{c A B:Prop}[Decidable c](h1:c->A)(a:¬c->B):if c then A else B:=by
 by_cases h:c
 ·rw[if_pos h];exact h1 h
 ·rw[if_neg h];exact a h
def A8(H a:Hp):Prop:=∀b o,H b=some o->a b=some o
theorem A8.refl(H:Hp):A8 H H:=λ_ _ h=>h
theorem A8.trans(a:A8 H d)(b:A8 d e):A8 H e:=λc o h=>b c o (a c o h)
theorem A8.free(e:A8 H a)(h:a l=Option.none):H l=Option.none:=by
 cases q:H l with
 |none=>rfl
 |some o=>
  rw[e l o q]at h;cases h
theorem A8.seq{K:W.Frag}{H b:Hp}{a:Addr}{xs:List V}(e:A8 H b)(h:Be K H a xs):Be K b a xs:=by
 rcases h with(h|⟨o,h⟩)|h
 ·exact .inl (.inl (e _ _ h))
 ·exact .inl (.inr ⟨o,e _ _ h⟩)
 ·exact .inr h
def F8(cells:List (Str×Addr)):List (Str×NameKind)->List (Str×Addr)->List (Str×Addr)
 |[],cs=>cs
 |(n,k)::r,cs=>if k==NameKind.free then F8 cells r ((n,(cells.lookup n).getD 0)::cs)else F8 cells r cs
theorem Kp{cells:List (Str×Addr)}:∀{names:List (Str×NameKind)}{cs:List (Str×Addr)},(F8 cells names cs).lookup x=some c->
  cs.lookup x=some c\/((x,NameKind.free)∈names/\c=(cells.lookup x).getD 0)
 |[],cs,h=>.inl h
 |(n,k)::r,cs,h=>by
  unfold F8 at h;by_cases d:(k==NameKind.free)=true
  ·rw[if_pos d]at h;rcases Kp h with a|⟨a,b⟩
   ·rw[List.lookup_cons]at a;by_cases f:(x==n)=true
    ·rw[f]at a;have e:x=n:=eq_of_beq f;have g:k=NameKind.free:=eq_of_beq d;subst e g;exact .inr ⟨cI,(eT a).symm⟩
    ·have i:(x==n)=false:=by simpa using f
     rw[i]at a;exact .inl a
   ·exact .inr ⟨ea _ a,b⟩
  ·rw[if_neg d]at h;rcases Kp h with a|⟨a,b⟩
   ·exact .inl a
   ·exact .inr ⟨ea _ a,b⟩
theorem Jc{cells:List (Str×Addr)}:∀{names:List (Str×NameKind)}{cs:List (Str×Addr)},(∃c,cs.lookup x=some c)->∃c,(F8 cells names cs).lookup x=some c
 |[],cs,h=>h
 |(n,k)::r,cs,h=>by
  unfold F8;by_cases a:(k==NameKind.free)=true
  ·rw[if_pos a];refine Jc ?_;rw[List.lookup_cons];cases b:x==n with
   |true=>exact⟨_,rfl⟩
   |false=>exact h
  ·rw[if_neg a];exact Jc h
theorem Fp{cells:List (Str×Addr)}:∀{names:List (Str×NameKind)}{cs:List (Str×Addr)},(x,NameKind.free)∈names->∃c,(F8 cells names cs).lookup x=some c
 |[],cs,h=>by cases h
 |(n,k)::r,cs,h=>by
  unfold F8;rcases fe.mp h with e|h
  ·have b:x=n:=congrArg Prod.fst e;have d:NameKind.free=k:=congrArg Prod.snd e;subst b d;rw[if_pos (by decide)];refine Jc ⟨(cells.lookup x).getD 0,?_⟩;rw[List.lookup_cons,beq_self_eq_true]
  ·by_cases a:(k==NameKind.free)=true
   ·rw[if_pos a];exact Fp h
   ·rw[if_neg a];exact Fp h
theorem Go{env:Env}:∀{names:List (Str×NameKind)}{x:Str}{b:NameKind},(∀y∈names,y.2≠NameKind.cell)->b≠ .local->(b=.cell\/b=.free)->
  (names.map λ(n,k)=>if(k==NameKind.free&&env.scope.kind== .function&&env.kindOf n==some .cell)then(n,NameKind.cell)else(n,k)).lookup x=some b->(x,NameKind.free)∈names
 |[],_,_,_,_,_,h=>by simp at h
 |(n,k)::r,x,b,g,m,f,h=>by
  have i:=@Go env r x b (λy o=>g y (ea _ o)) m f;have a:List.lookup x ((if(k==NameKind.free&&env.scope.kind== .function&&env.kindOf n==some .cell)=true then(n,NameKind.cell)else(n,k))::(r.map λ(n,k)=>if(k==NameKind.free&&env.scope.kind== .function&&env.kindOf n==some .cell)then(n,NameKind.cell)else(n,k)))=some b:=h;by_cases d:(k==NameKind.free&&env.scope.kind== .function&&env.kindOf n==some .cell)=true
  ·rw[if_pos d,List.lookup_cons]at a
   have j:k=NameKind.free:=by
    have q:=(Bool.and_eq_true_iff.mp (Bool.and_eq_true_iff.mp d).1).1;exact eq_of_beq q
   cases c:x==n with
   |true=>
    have e:x=n:=eq_of_beq c;subst e j;exact cI
   |false=>
    rw[c]at a;exact ea _ (i a)
  ·rw[if_neg d,List.lookup_cons]at a;cases c:x==n with
   |true=>
    rw[c]at a;have e:x=n:=eq_of_beq c;have l:k=b:=eT a;subst e l;rcases f with z|z
    ·exact absurd z (g _ cI)
    ·subst z;exact cI
   |false=>
    rw[c]at a;exact ea _ (i a)
structure Ck(sc scope:Scope)(N cO:List Str)(fr:List Nat):Prop where
 kind:scope.kind=.function
 nX:∀y∈scope.names,y.2≠NameKind.cell
 loc:∀y∈scope.names,y.2=NameKind.local->scope.names.lookup y.1=some NameKind.local
 free:∀y∈scope.names,y.2=NameKind.free->sc.names.lookup y.1=some NameKind.cell
 qB:∀j∈fr,(N[j]?.bind λx=>scope.names.lookup x)=some NameKind.free
def Bi(N a:List Str)(b:List Nat):List Str:=a++b.map λj=>(N[j]?).getD ⟨#[]⟩
def D6(a:List Nat)(b:St):St:=a.map λj=>(b[j]?).getD none
def Fh(n:Nat)(a:List Nat)(b:St):St:=List.replicate n none++D6 a b
def Cq(X:Cx)(c:List Str)(a:Scope)(C:Addr)(e:oF)(b:Hp)(d:List Addr):Cx:=
 {X with N:=c,s₀:=e,H₀:=b,env:=compEnvC a (F8 X.env.cells a.names []) C X.env,outer:=X.stack,ex:=d,fn:=λ_=>false,pn:=[],xe:=λ_ _=>False}
def tf(X:Cx)(b:List Expr)(t:TT):Prop:=
 ∀(a:List (Addr×Obj)) (s:oF) (d:St) (H:Hp) (Q:Bool->Hp->Prop),Ao X a d H s->t d H Q->
  wpAny (model X.prog X.w) X.A (forIn b true λc r=>if r=true then do let ok <- isTrue c X.env (eval c X.env);pure (ForInStep.yield ok)else pure (ForInStep.yield r)) (TP X a d Q) X.xe s
def Nz:TT:=λ_ H Q=>Q true H
theorem D0:tf X [] Nz:=λ_ _ _ H _ I h=>wpAny_tests_nil ⟨H,I,h⟩
theorem Qs{t:TT}(h:PT X c t):tf X [c] t:=λa s d H Q I b=>wpAny_tests_one (h a s d H Q I b)
section
variable {prog:oT}{w:px}{A:oW}{R:Result->oF->Prop}{s:oF}
theorem Q7{pos:Pos}{env:Env}(I:Nat->oF->Prop)
  (F:∀n s,I n s->wpAny (model prog w) A (pyNext it) (λr e=>match r with
   |none=>R (.ok .next) e
   | some v => wpAny (model prog w) A (letOwnedTupleGo a it v) (fun _ f => wpAny (model prog w) A (assign a env v) (fun _ o =>
     wpAny (model prog w) A (forIn B true λc r=>if r=true then do let ok <- isTrue c env (eval c env);pure (ForInStep.yield ok)else pure (ForInStep.yield r)) (λok g=>
      if ok=true then wpAny (model prog w) A (eval y env) (λx p=>
       wpAny (model prog w) A (call (.builtin "list.append") [u,x]) (λ_ q=>∃m,m<n/\I m q) (λ_ _=>False) p) (λ_ _=>False) g
      else∃m,m<n/\I m g) (λ_ _=>False) o) (λ_ _=>False) f) (λ_ _=>False) e) (λ_ _=>False) s)
  (n:Nat)(h:I n s):
  codeAny (model prog w) A (.compLoop (.ListComp y [⟨a,l,B,0⟩] d pos) 0 it u env) R s:=by
 refine codeAny_loop rfl I (λn s G=>?_) n h;show wpAny _ A ((compTurn (.ListComp y [⟨a,l,B,0⟩] d pos) 0 it u env).onRaise (λx=>do noteFrame x env;theTreesLotGoes x)) _ _ s;refine wpAny_noted ?_;rw[compTurn_list];refine a0 (wpAny_standAt (a0 (ka (F n s G) (λr e i=>?_) λ_ _ b=>b.elim)));cases r with
 |none=>exact bc i
 |some v=>
  refine a0 (ka i (λ_ f z=>?_) λ_ _ b=>b.elim);refine a0 (ka z (λ_ o C=>a0 (ka C (λok g j=>?_) λ_ _ b=>b.elim)) λ_ _ b=>b.elim);cases ok with
  |false=>exact bc ⟨rfl,j⟩
  |true=>
   exact a0 (a0 (ka j (λx p D=>a0 (ka D (λ_ q E=>bc (bc ⟨rfl,E⟩)) λ_ _ b=>b.elim)) λ_ _ b=>b.elim))
end
def E4(n:Nat)(l:List Nat)(J:It)(g:TG)(u:TT)(s:TE)(p:St)(D:Addr)(q:Hp)(Q:Hp->Prop):Prop:=
 ∃W:Nat->Nat->List V->Hp->Prop,(∃m,W 0 m [] (upd q D (.lst [])))/\∀i m c d,W i m c d->
  (J.stop i d/\Q d)\/(J.go i d/\∀x f,J.zB i d x f->g x (Fh n l p) f λa r=>(∃o:St,o.length=n/\a=o++D6 l p)/\u a r λb h=>
   if b=true then s a h λy j=>j D=some (.lst c)/\c.length<sizeLine/\∃e,e<m/\W (i+1) e (c++[y]) (upd j D (.lst (c++[y])))
   else∃e,e<m/\W (i+1) e c h)
def w8(n:Nat)(c:List Nat)(f:TI)(g:TG)(e:TT)(d:TE):TE:=λb H Q=>f b H λJ a=>∀D,a D=none->E4 n c J g e d b D a (Q (.ref D))
def ez(n:Nat)(c:List Nat)(f:TI)(g:TG)(e:TT)(d:TE)(i:Nat):TS:=λD a H=>f a H λJ b=>∀l,b l=none->E4 n c J g e d a l b (D.nx (a.set i (some (.ref l))))
section
variable {X:Cx}{tg iter elt:Expr}{ifs:List Expr}{scope sc:Scope}{cO:List Str}{fr:List Nat}{wi:TI}{g:TG}{tt:TT}{te:TE}{pos:Pos}
theorem Ov{I:List (Addr×Obj)}{R:St}{A:Hp}{l:oF}{it:Addr}{w:List Addr}{tn:Nat->Heap->Prop}{J:It}{RR:oI->Addr->Result->oF->Prop}{E:oi}{Qf:Hp->Prop}
  (qG:X.env.scope=sc)(S:Ck sc scope X.N cO fr)(hc:X.calm=true)
  (hg:∀C l A w,PG (Cq X (Bi X.N cO fr) scope C l A w) tg g)(ht:∀C l A w,tf (Cq X (Bi X.N cO fr) scope C l A w) ifs tt)(he:∀C l A w,PE (Cq X (Bi X.N cO fr) scope C l A w) elt te)
  (B:Ao X I R A l)(T:Tq X.prog X.w X.K tg J w it tn)(aQ:tn 0 l.heap)(Z:∀b∈w,Mi X I A b)
  (run:E4 cO.length fr J g tt te R l.heap.objs.size A Qf)
  (hRR:∀(C:Addr) (K:Hp) (Y:oF),Ao X I R K Y->Mi X I K C->(∃m,Y.heap.Ns C m)->Qf K->RR (.ref l.heap.objs.size) C (.ok .next) Y):
  wpAny (model X.prog X.w) X.A (newList []) (λacc H=>wpAny (model X.prog X.w) X.A (newFunctionEnv scope X.env.globals (F8 X.env.cells scope.names []) [] X.env.qual none .none (some X.env)) (λJU s₄=>
   codeAny (model X.prog X.w) X.A (.compStart (.ListComp elt [⟨tg,iter,ifs,0⟩] scope pos) 0 (.ref it) acc {JU with scope:=relabel scope X.env}) (RR acc JU.locals) s₄) E H) E l:=by
 refine jQ (wpAny_newFunctionEnv S.nX (by intro y hy;simp at hy) (λG DI yB=>?_) S.kind);dsimp only at DI yB⊢;generalize VX:l.heap.push {cls:=.type "list",dict:=none,data:=.seq ([]:List oI).toArray}=D at DI yB⊢;have hC:D.objs.size=l.heap.objs.size+1:=by rw[<- VX,Heap.size_push]
 have hDC:l.heap.objs.size≠D.objs.size:=by rw[hC];exact gs (Nat.lt_succ_self _)
 have hle:l.heap.objs.size<=D.objs.size:=by rw[hC];exact Nat.le_succ _
 have F:∀b,b<l.heap.objs.size->b≠D.objs.size/\b≠l.heap.objs.size:=λb s=>⟨gs (hG s hle),gs s⟩;have P:∀b o,l.heap.get? b=some o->G.get? b=some o:=λb o e=>yB.extBut b o (F b (dt e)).1 (b4 _ (VX▸b4 _ e));have VY:G.get? l.heap.objs.size=some {cls:=.type "list",data:=.seq ([]:List oI).toArray 0}:=yB.extBut _ _ hDC (b4 _ (VX▸cb _ rfl));have DJ:∀y∈scope.names,y.2=NameKind.free->∃c,X.env.cells.lookup y.1=some c:=λy hy e=>B.ok.has y.1 (.inl (by show X.env.scope.names.lookup y.1=_;rw[qG];exact S.free y hy e))
 have nY:∀x c,(F8 X.env.cells scope.names []).lookup x=some c->X.env.cells.lookup x=some c:=λx c e=>by
  rcases Kp e with z|⟨z1,z2⟩
  ·simp at z
  ·obtain⟨c',e'⟩:=DJ _ z1 rfl;rw[z2,e'];rfl
 have DK:∀x c,X.env.cells.lookup x=some c->c<l.heap.objs.size:=λx c e=>by
  obtain⟨v,q⟩:=B.cell x c e;exact q.lt
 have DL:∀b∈w,b<l.heap.objs.size:=λb s=>by
  obtain⟨o,e,_⟩:=T.obj 0 _ aQ b s;exact dt e
 have VZ:(Cq X (Bi X.N cO fr) scope D.objs.size l A w).Ok:=by
  refine⟨B.ok.mod,S.kind,B.ok.glob,B.ok.blt,hle,λx y c e1 e2=>B.ok.inj x y c (nY x c e1) (nY y c e2),λx M=>?_,λx c z _=>absurd z hF,B.ok.hd,B.ok.frames,.inl rfl,
   λb s=>⟨(F b (DL b s)).1,λx c e=>(Z b s).2.2.2.2.1 x c (nY x c e)⟩,B.bs,eI B.ok.xT B.sz,λb o e s=>?_,λb s z=>?_,B.stack,B.qC⟩
  ·rcases M with M|M
   ·exact Fp (Go (env:=X.env) S.nX (by decide) (.inl rfl) M)
   ·exact Fp (Go (env:=X.env) S.nX (by decide) (.inr rfl) M)
  ·rcases(Z b s).2.2.2.1 with z|z
   ·exact B.ok.tL b o e z
   ·exact absurd (hG (dt e) (eI B.ok.xT z)) (Nat.lt_irrefl _)
  ·rcases fe.mp (B.nV b z)with z|z
   ·exact(Z b s).2.1 z
   ·exact(Z b s).2.2.1 z
 have I3:Ao (Cq X (Bi X.N cO fr) scope D.objs.size l A w) [] (Fh cO.length fr R) (upd A l.heap.objs.size (.lst [])) {l with heap:=G,toks:=l.toks+([]:List (Str×oI)).length}:=by
  refine⟨VZ,rfl,B.bare,Un.laid P (da _) B.fresh,⟨_,DI,λi x v e1 e2 e3=>?_⟩,λx c e=>?_,?_,λx c e=>?_,λp hp=>absurd (show p∈([]:List (Addr×Obj))from hp) (by simp),B.aH.laid P (da _) ⟨me _,[],0,.nil,VY⟩,?_⟩
  ·--a name of the comprehension that has a value at the start is one of the def's cells
   have hi:cO.length<=i:=by
    refine Nat.le_of_not_lt λaP=>?_;unfold Fh at e2;rw[List.getElem?_append_left (by simpa using aP),List.getElem?_replicate,if_pos aP]at e2;cases e2
   have TM:(D6 fr R)[i-cO.length]?=some (some v):=by
    unfold Fh at e2;rw[List.getElem?_append_right (by simpa using hi)]at e2;simpa using e2
   have tR:(fr.map λj=>(X.N[j]?).getD ⟨#[]⟩)[i-cO.length]?=some x:=by
    have e1:(Bi X.N cO fr)[i]?=some x:=e1;unfold Bi at e1;rw[List.getElem?_append_right hi]at e1;exact e1
   unfold D6 at TM;rw[List.getElem?_map]at tR TM;cases ej:fr[i-cO.length]? with
   |none=>rw[ej]at tR;cases tR
   |some j=>
    rw[ej]at tR TM;have e1j:(X.N[j]?).getD ⟨#[]⟩=x:=eT tR;have TN:(R[j]?).getD none=some v:=eT TM;have kB:=S.qB j (b5 ej);cases eN:X.N[j]? with
    |none=>rw[eN]at kB;cases kB
    |some N=>
     rw[eN]at kB e1j;have ex:N=x:=e1j;subst ex;have hfx:scope.names.lookup N=some NameKind.free:=kB
     have hσ:R[j]?=some (some v):=by
      cases eσ:R[j]? with
      |none=>rw[eσ]at TN;cases TN
      |some o=>rw[eσ]at TN;exact congrArg some TN
     have cP:=PySem.mem_of_lookup hfx;have hkc:X.env.scope.names.lookup N=some NameKind.cell:=by rw[qG];exact S.free _ cP rfl
     obtain⟨m,hn,hl⟩:=B.loc;obtain⟨u,ru,lk⟩:=hl j N v eN hσ (.inr (.inl hkc));refine⟨u,ru,.inr ⟨?_,?_⟩⟩
     ·have e3:(relabel scope X.env).names.lookup N=some NameKind.local\/(relabel scope X.env).names.lookup N=some NameKind.cell\/(relabel scope X.env).names.lookup N=some NameKind.free:=e3;rcases e3 with z|z|z
      ·exfalso
       have key:∀(names:List (Str×NameKind)),names.lookup N=some NameKind.free->(names.map λ(n,k)=>if(k==NameKind.free&&X.env.scope.kind== .function&&X.env.kindOf n==some .cell)then(n,NameKind.cell)else(n,k)).lookup N≠some NameKind.local:=by
        intro names
        induction names with
        |nil=>intro h;simp at h
        |cons p r ih=>
         obtain⟨n,k⟩:=p;intro h L;have L:List.lookup N ((if(k==NameKind.free&&X.env.scope.kind== .function&&X.env.kindOf n==some .cell)=true then(n,NameKind.cell)else(n,k))::(r.map λ(n,k)=>if(k==NameKind.free&&X.env.scope.kind== .function&&X.env.kindOf n==some .cell)then(n,NameKind.cell)else(n,k)))=some NameKind.local:=L;rw[List.lookup_cons]at h;cases M:N==n with
         |true=>
          rw[M]at h;have ek:k=NameKind.free:=eT h;subst ek;split at L
          ·rw[List.lookup_cons,M]at L;cases L
          ·rw[List.lookup_cons,M]at L;cases L
         |false=>
          rw[M]at h;split at L
          ·rw[List.lookup_cons,M]at L;exact ih h L
          ·rw[List.lookup_cons,M]at L;exact ih h L
       exact key scope.names hfx z
      ·exact .inl z
      ·exact .inr z
     ·obtain⟨c,ec⟩:=Fp (cells:=X.env.cells) (cs:=[]) cP;rcases lk with⟨k1,_⟩|⟨_,c',ec',ic⟩
      ·have k1:X.env.scope.names.lookup N=some NameKind.local:=k1;rw[hkc]at k1;cases k1
      ·have q:=nY _ _ ec;rw[ec']at q;have q':c'=c:=eT q;subst q';exact⟨_,ec,ic.keeps P⟩
  ·obtain⟨v,q⟩:=B.cell x c (nY x c e);exact⟨v,q.keeps P⟩
  ·show upd A l.heap.objs.size (.lst []) D.objs.size=none;rw[Ab hDC.symm];exact B.aH.fresh hle
  ·rw[Ab (Nat.ne_of_lt (DK x c (nY x c e)))];exact B.cQ x c (nY x c e)
  ·unfold Fh D6;show _=(Bi X.N cO fr).length;unfold Bi;simp
 obtain⟨W,⟨m0,w0⟩,turn⟩:=run
 have Q:∀{U:Hp},(∀b∈w,U b=none)->∀b∈w,Mi (Cq X (Bi X.N cO fr) scope D.objs.size l A w) [] U b:=λhn b s=>
  ⟨hn b s,(F b (DL b s)).1,VZ.tM b s,.inl s,(VZ.VH b s).2,λp hp=>absurd (show p∈([]:List (Addr×Obj))from hp) (by simp)⟩
 have TJ:∀b∈w,upd A l.heap.objs.size (.lst []) b=none:=λb s=>by rw[Ab (F b (DL b s)).2];exact(Z b s).1
 have eF:tn 0 G:=T.keep 0 _ _ aQ λb _ o e=>P b o e
 have fin:∀{K:Hp}{Y:oF},Ao (Cq X (Bi X.N cO fr) scope D.objs.size l A w) [] (Fh cO.length fr R) K Y->Qf K->RR (.ref l.heap.objs.size) D.objs.size (.ok .next) Y:=λ{K Y} I4 q=>by
  obtain⟨m,hn,_⟩:=id I4.loc;have ub:Un (qB X.stack) w A K l.heap Y.heap:=I4.base;refine hRR D.objs.size K Y (B.JK (ch:=w) (s':=Y) I4.os ub I4.aH I4.bare λb s=>⟨(Z b s).2.2.2.1,(Z b s).2.1,(Z b s).2.2.2.2.1,(Z b s).2.2.2.2.2⟩) (B.rL hle I4.free) ⟨m,hn⟩ q
 have loop:∀H:oF,H={l with heap:=G,toks:=l.toks+([]:List (Str×oI)).length}->
   codeAny (model X.prog X.w) X.A (.compLoop (.ListComp elt [⟨tg,iter,ifs,0⟩] scope pos) 0 (.ref it) (.ref l.heap.objs.size) (compEnvC scope (F8 X.env.cells scope.names []) D.objs.size X.env)) (RR (.ref l.heap.objs.size) D.objs.size) H:=by
  rintro H rfl;refine Q7 (λn s'=>∃i ys U,Ao (Cq X (Bi X.N cO fr) scope D.objs.size l A w) [] (Fh cO.length fr R) U s'/\tn i s'.heap/\(∀b∈w,U b=none)/\W i n ys U) ?_ m0 ⟨0,[],_,I3,eF,TJ,w0⟩;rintro n s5 ⟨i,ys,K,J3,sti,fri,w3⟩;rcases turn i n ys K w3 with⟨stop,q⟩|⟨go,step⟩
  ·refine ka (T.done (Cq X (Bi X.N cO fr) scope D.objs.size l A w) rfl rfl rfl hc i [] s5 _ K (λ_ _=>False) J3 (Q fri) sti stop) (λr s6 ⟨hr,J4⟩=>?_) (λ_ _ f=>f);subst hr;exact fin J4 q
  ·refine ka (T.item (Cq X (Bi X.N cO fr) scope D.objs.size l A w) rfl rfl rfl hc i [] s5 _ K (λ_ _=>False) J3 (Q fri) sti go) (λr s6 ⟨u,hr,h6⟩=>?_) (λ_ _ f=>f);subst hr;refine ka h6 (λ_ s7 ⟨x,H7,J7,r7,y7,kC,fr7⟩=>?_) (λ_ _ f=>f);have J7':=J7.pinned (Q fr7) (T.obj _ _ kC);refine ka (hg D.objs.size l A w _ s7 _ H7 x u _ J7' r7 (step x H7 y7)) (λ_ s8 ⟨σ8,H8,J8,⟨zs,hz,e8⟩,q8⟩=>?_) (λ_ _ f=>f)
   have O:∀{H9:Hp}{s9:oF}{JV:List V},Ao (Cq X (Bi X.N cO fr) scope D.objs.size l A w) ([]++Ni w s7.heap) σ8 H9 s9->(∃m',m'<n/\W (i+1) m' JV H9)->
     ∃m,m<n/\∃i ys U,Ao (Cq X (Bi X.N cO fr) scope D.objs.size l A w) [] (Fh cO.length fr R) U s9/\tn i s9.heap/\(∀b∈w,U b=none)/\W i m ys U:=λ{H9 s9 JV} J9 ⟨m',hm,w9⟩=>by
    refine⟨m',hm,i+1,JV,H9,J9.eK.weak ?_ ?_,T.keep _ _ _ kC λb s o e=>(J9.pin (b,o) (ia _ (ia _ (Gi s e)))).1,λb s=>?_,w9⟩
    ·rw[e8];unfold Fh;simp[hz]
    ·intro k v ek;rw[e8];unfold Fh at ek;by_cases hk:k<cO.length
     ·rw[List.getElem?_append_left (by simpa using hk),List.getElem?_replicate,if_pos hk]at ek;cases ek
     ·rw[List.getElem?_append_right (by simpa using hk)]at ek;rw[List.getElem?_append_right (by omega),hz];simpa using ek
    ·obtain⟨o,e,d⟩:=T.obj _ _ kC b s;exact(J9.pin (b,o) (ia _ (ia _ (Gi s e)))).2.1
   refine ka (ht D.objs.size l A w _ s8 σ8 H8 _ J8 q8) (λok s9 ⟨H9,J9,q9⟩=>?_) (λ_ _ f=>f);cases ok with
   |false=>
    rw[if_neg Bool.false_ne_true]at q9⊢;exact O J9 q9
   |true=>
    rw[if_pos rfl]at q9⊢;refine ka (he D.objs.size l A w _ s9 σ8 H9 _ J9 q9) (λy s10 ⟨v10,qH,J10,r10,hD,hlen,q10⟩=>?_) (λ_ _ f=>f);refine ka (Fu (X:=Cq X (Bi X.N cO fr) scope D.objs.size l A w) _ s10 σ8 qH (.ref l.heap.objs.size) [v10] (.ref l.heap.objs.size) [y] (λ_ zC=>zC=upd qH l.heap.objs.size (.lst (ys++[v10]))) J10 rfl (.cons r10 .nil) ⟨_,ys,v10,rfl,rfl,hD,hlen,rfl⟩) (λ_ sU ⟨_,zC,J11,_,DM⟩=>?_) (λ_ _ f=>f);subst DM;exact O J11 q10
 exact codeAny_compStart_list (loop _ rfl) (T.self _ 0 _ _ _ eF (loop _ rfl))
theorem E8(hi:PI X tg iter wi)(sc:Scope)(O:X.env.scope=sc)(S:Ck sc scope X.N cO fr)(F:X.calm=true)(R:closureFor scope X.env=pure (F8 X.env.cells scope.names []))
  (K:∀C c d f,PG (Cq X (Bi X.N cO fr) scope C c d f) tg g)(N:∀C c d f,tf (Cq X (Bi X.N cO fr) scope C c d f) ifs tt)(G:∀C c d f,PE (Cq X (Bi X.N cO fr) scope C c d f) elt te)
  (M:∀x,foldedSetIterable iter X.env x=pure x:=by intro _;rfl):PE X (.ListComp elt [⟨tg,iter,ifs,0⟩] scope pos) (w8 cO.length fr wi g tt te):=by
 intro a s n H Q I h;rw[eval_ListComp];refine wpAny_comprehension_free (use:=none) rfl M R S.kind S.loc (ka (hi a s n H _ I h) (λv s1 B=>ka B (λU c D=>?_) λ_ _ e=>e) λ_ _ e=>e);obtain⟨it,f,tn,J,d,e,l,T,y,z,R2⟩:=D;subst e;refine Ov (RR:=λj C=>compPost (model X.prog X.w) X.A X.xe none (EP X a n Q) j C) O S F K N G l T y z (R2 _ l.fresh) ?_;intro C p P r i ⟨m,L⟩ q;refine⟨m,L,λA u=>⟨.ref c.heap.objs.size,p,?_,rfl,q⟩⟩;obtain⟨hh,Z,Y,w,oo⟩:=P;exact r.turned (h':=A) (t':=w) (it:=C) (λb o E e=>u.extBut b o E e) i.1 i.2.1 i.2.2.2.1 i.2.2.2.2.1 i.2.2.2.2.2
theorem De(Z:X.N.Nodup)(u:X.N[i]?=some y)(hi:PI X tg iter wi)(sc:Scope)(qG:X.env.scope=sc)(S:Ck sc scope X.N cO fr)(hc:X.calm=true)
  (tS:closureFor scope X.env=pure (F8 X.env.cells scope.names []))
  (hg:∀C f j l,PG (Cq X (Bi X.N cO fr) scope C f j l) tg g)(ht:∀C f j l,tf (Cq X (Bi X.N cO fr) scope C f j l) ifs tt)(he:∀C f j l,PE (Cq X (Bi X.N cO fr) scope C f j l) elt te)
  (F:X.env.scope.names.lookup y=some NameKind.local)
  (A:swapsWith (.ListComp elt [⟨tg,iter,ifs,0⟩] scope pos) (some (.Name y n)) E.line X.env=pure true)
  (hs:∀x,foldedSetIterable iter X.env x=pure x:=by intro _;rfl):
  PS X (.Assign [.Name y n] (.ListComp elt [⟨tg,iter,ifs,0⟩] scope pos) E) (ez cO.length fr wi g tt te i):=by
 intro c s σ H D I h;rw[exec_Assign_Name_used _ _ _ _ A];refine a0 (wpAny_standAt (a0 ?_));show wpAny _ X.A (do let _ <- comprehension (.ListComp elt [⟨tg,iter,ifs,0⟩] scope pos) scope X.env _ (newList []) false (eval iter X.env) (some (assign (.Name y n) X.env))) _ _ s
 refine a0 (ka (wpAny_comprehension_free (use:=some (assign (.Name y n) X.env)) (Q:=λ_ p=>SP X c D .next p) rfl hs tS S.kind S.loc
  (ka (hi c s σ H _ I h) (λv s1 U=>ka U (λTH f Y=>?_) λ_ _ e=>e) λ_ _ e=>e)) (λ_ p hq=>bc (bc hq)) λ_ _ e=>e)
 obtain⟨it,l,tn,J,j,e,B,T,P,Q,R2⟩:=Y;subst e;refine Ov (RR:=λr C=>compPost (model X.prog X.w) X.A X.xe (some (assign (.Name y n) X.env)) (λ_ p=>SP X c D .next p) r C) qG S hc hg ht he B T P Q (R2 _ B.fresh) ?_;intro C G s4 K d ⟨m,hn⟩ q;refine wpAny_assign_Name (Pl (v:=.ref f.heap.objs.size) K Z u (.inl F) rfl (λs5 L ⟨a,w,ha⟩=>?_) (.inr F))
 have N:C≠a:=by
  rcases ha with z|z
  ·rw[z];exact d.2.1
  ·exact λz2=>d.2.2.2.2.1 y a z z2.symm
 refine⟨m,hn.sameBut w N,λR M=>⟨_,G,?_,q⟩⟩;obtain⟨hh,gg,dd,O,oo⟩:=s5;exact L.turned (h':=R) (t':=O) (it:=C) (λb o hb e=>M.extBut b o hb e) d.1 d.2.1 d.2.2.2.1 d.2.2.2.2.1 d.2.2.2.2.2
end
open PySem.Builtin.Int (intBits)
section
variable {X:Cx}
theorem i7:Im X (binaryOp .Mult) (rI IntMulOk λi j=>.int (i*j)):=xz λ_ _ _ _ _ _ _ a q=>mul_int q a
end
theorem ue(c:intBits a<=m)(d:intBits b<=n)(h:m+n<=134217728):IntMulOk a b:=PyProof.Rows.mulOk_of_bits c d h
mutual
def Rp(H:Hp):qE->V->Prop
 | .none,v=>v=.aX
 | .bool b,v=>v=.bl b
 | .int i,v=>v=.int i
 | .tuple d,v=>∃a c,v=.ref a/\H a=some (.tup c)/\aF H d c
 | .list d,v=>∃a c,v=.ref a/\H a=some (.lst c)/\aF H d c
 | .str x,v=>v=.str x/\PyData.strOk x=true
 | .dict _,_=>False
def aF(H:Hp):List qE->List V->Prop
 |[],vs=>vs=[]
 |d::b,vs=>∃x a,vs=x::a/\Rp H d x/\aF H b a
end
mutual
theorem C6:∀(d:qE) (v:V),Rp H d v->d.canLay0=true
 | .none,_,_=>rfl
 | .bool _,_,_=>rfl
 | .int _,_,_=>rfl
 | .tuple b,_,h=>by
  unfold Rp at h;obtain⟨a,c,_,_,h⟩:=h;exact fR b c h
 | .list b,_,h=>by
  unfold Rp at h;obtain⟨a,c,_,_,h⟩:=h;exact fR b c h
 | .str x,v,h=>by
  unfold Rp at h;exact h.2
 | .dict _,_,h=>by unfold Rp at h;exact h.elim
theorem fR:∀(ds:List qE) (vs:List V),aF H ds vs->PyData.canLayAll0 ds=true
 |[],_,_=>rfl
 |d::ds,vs,h=>by
  unfold aF at h;obtain⟨x,c,_,a,b⟩:=h;show(d.canLay0&&PyData.canLayAll0 ds)=true;rw[C6 d x a,fR ds c b];rfl
end
section
variable {X:Cx}{pins:List (Addr×Obj)}{σ:St}{H:Hp}{s:oF}
mutual
theorem Cn(I:Ao X pins σ H s):∀(d:qE) (v:V) (u:oI),Rp H d v->Az v u->∃e,Reads s.heap u d e
 | .none,v,u,h,r=>by
  unfold Rp at h;subst h;cases r;exact⟨_,.none⟩
 | .bool b,v,u,h,r=>by
  unfold Rp at h;subst h;cases r;exact⟨_,.bool b⟩
 | .int i,v,u,h,r=>by
  unfold Rp at h;subst h;obtain⟨t,rfl⟩:=r;exact⟨_,.int i t⟩
 | .tuple f,v,u,h,r=>by
  unfold Rp at h;obtain⟨a,l,rfl,g,h⟩:=h;cases r;obtain⟨_,c,j,p⟩:=I.aH a _ g;obtain⟨o,m,w,n,y⟩:=p;obtain⟨e,q⟩:=cX I f l c h j;exact⟨_,.tuple m w y (by simpa using q)⟩
 | .list f,v,u,h,r=>by
  unfold Rp at h;obtain⟨a,l,rfl,g,h⟩:=h;cases r;obtain⟨_,c,n,j,p⟩:=I.aH a _ g;obtain⟨e,q⟩:=cX I f l c h j;exact⟨_,.list p rfl rfl (by simpa using q)⟩
 | .str x,v,u,h,r=>by
  unfold Rp at h;obtain⟨rfl,_⟩:=h;obtain⟨t,rfl⟩:=r;exact⟨_,.str x t⟩
 | .dict _,_,_,h,_=>by unfold Rp at h;exact h.elim
theorem cX(I:Ao X pins σ H s):∀(ds:List qE) (vs:List V) (us:List oI),aF H ds vs->Av vs us->∃a,ReadsAll s.heap us ds a
 |[],vs,us,h,r=>by
  unfold aF at h;subst h;cases r;exact⟨_,.nil⟩
 |d::ds,vs,us,h,r=>by
  unfold aF at h;obtain⟨x,j,rfl,b,c⟩:=h;cases r with
  |cons g i=>
   obtain⟨a,e⟩:=Cn I d x _ b g;obtain⟨bs,f⟩:=cX I ds j _ c i;exact⟨_,.cons e f⟩
end
end
section
variable {X:Cx}{k:Nat}
def uz(a:Bool):R2:=λx y H Q=>∃d e:qE,Rp H d x/\Rp H e y/\d.depth<=60/\Q (.bl (if a then !PyData.eqv d e else PyData.eqv d e)) H
theorem L8(f:Cu k X.A):Im X (compareOp .Eq) (uz false):=by
 intro c s p H x y v u Q I j l h;obtain⟨d,e,a,b,n,q⟩:=h;obtain⟨m,g⟩:=Cn I d x v a j;obtain⟨bs,i⟩:=Cn I e y u b l;have o:=f.units;exact PySem.SeqAt.compareEq_reads g i (C6 d x a) (C6 e y b) (by omega) ⟨.bl (PyData.eqv d e),H,I,rfl,q⟩
theorem oh(f:Cu k X.A):Im X (compareOp .NotEq) (uz true):=by
 intro c s p H x y v u Q I j l h;obtain⟨d,e,a,b,n,q⟩:=h;obtain⟨m,g⟩:=Cn I d x v a j;obtain⟨bs,i⟩:=Cn I e y u b l;have o:=f.units;exact PySem.SeqAt.compareNe_reads g i (C6 d x a) (C6 e y b) (by omega) ⟨.bl (!PyData.eqv d e),H,I,rfl,q⟩
end
theorem Qw:∀a:oB,aF H (a.map PyData.int) (a.map V.int)
 |[]=>by unfold aF;rfl
 |n::a=>by
  show aF H (PyData.int n::a.map PyData.int) (V.int n::a.map V.int);unfold aF;exact⟨_,_,rfl,by unfold Rp;rfl,Qw a⟩
theorem A8.new(e:A8 H a)(h:H p=none):A8 H (upd a p o):=λb u q=>by
 rw[Ab (Ag q h)];exact e b u q
theorem A8.upd(h:H p=none):A8 H (upd H p o):=(A8.refl H).new h
theorem tT{l:W.OpenLaw}{n k:Nat}{q:oT}{g:List Str}{P:(Str->Option oI)->Heap->Prop}{B:px->Heap->Prop}{d:DefRec}{K:Params->W.Frag}{CX:px->Yr}{sp:px->Sp}{x:Str}
  (hn:l.most=some n)(xY:n<=sizeLine)(M:d.params.defaults=[])(hr:Cu k callerA)
  (hY:∀(w:px) (h:Heap),B w h->(K w.params).In h)
  (F:∀(w:px) (i:Str->Option oI) (fa:Addr) (h:Heap),(K w.params).In h->h.Ns mainGlobals i->i d.name=some (.ref fa)->
   ∃p:pa,(∀(s:oF) (u:oI),BindsTo s p ⟨[u],[]⟩ [(x,u)])/\
    ∀base:Heap,(K w.params).In base->base.Ns mainGlobals i->Bg l.prog w (K w.params) i base (CX w) k fa p [x] (sp w))
  (xI:∀(w:px) (H:Hp) (a:Addr) (j:oB),j.length<=n->(∀z∈j,intBits z<=2^20)->kg H->Be (K w.params) H a (j.map V.int)->sp w [.ref a] H (λv _=>v=.bl true) λ_ _ _=>False)
  (L:∀(w:px) (H:Hp) (s:oF) (e:oI) (s':oF),CX w [] H s (λ_ _ _=>False) e s'->False):
  W.WalkO q g P B l.row.toRowW d [] (λf vs=>PySem.call f vs):=by
 intro w E m i mb G Y fa o pm cd R Q kV ho hd tO D y hg C I as yA N hrd J zD;obtain rfl:Q=.none:=W.Dflts.none D M;obtain rfl:kV=.none:=W.Dflts.noKw D;obtain⟨a,vs,j,rfl,rfl,O,c,b⟩:=Att.rP hn yA J
 have big:∀z∈j,intBits z<=2^20:=λz hz=>by
  have l1:=(W.layW_cons N).1;have l2:=W.layableW_item l1 (.int z) (gB.mpr ⟨z,hz,rfl⟩);have l3:=(W.layableW_iff.mp l2).2.2;simpa only[W.WData.weight,Builtin.Int.intBits]using l3
 have A:=hY w _ Y;obtain⟨p,hb,X⟩:=F w i fa _ A G.T.g y;refine W.enter_call (codeAny_mono (Zt A G.T.g G.T.b G.T.builtins G.T.nolimit hg O c (eI b xY) hr X hb (λH Z hS=>xI w H a j b big Z hS) λH e s'=>L w H m e s') λr s' hq=>?_);obtain⟨rfl,S,T,U⟩:=hq;exact⟨.inl ⟨.bool true,.bool true,[],rfl,λ_=>rfl,.bool true,Att.rQ l _,λ_=>⟨List.Pairwise.nil,λ_ hm=>(nomatch hm)⟩⟩,S,T,U⟩
section
variable {X:Cx}{tg:Expr}
def y9(K:W.Frag):R2:=λx y H Q=>∃p a i v,x=.ref p/\y=.int i/\(Be K H p a\/Bm K H p a)/\X8 a i=some v/\Q v H
theorem Bj(K:W.Frag)(o:X.K=K:=by rfl):xb X (y9 K):=by
 subst o;intro b a c s n H x y v u Q I j l h g;obtain⟨p,m,i,z,d,e,h|h,f,q⟩:=h
 ·exact gt b a c s n H x y v u Q I j l ⟨p,m,i,z,d,e,h,f,q⟩ g
 ·exact lm b a c s n H x y v u Q I j l ⟨p,m,i,z,d,e,h,f,q⟩ g
def yb(K:W.Frag):List V->Hp->VK->Prop:=λb H Q=>∃p a,b=[.ref p]/\(Be K H p a\/Bm K H p a)/\Q (.int a.length) H
theorem B8(K:W.Frag)(a:X.K=K:=by rfl):Em X (.builtin "len") (yb K):=by
 subst a;exact Q4
theorem oe(K:W.Frag)(a:X.K=K:=by rfl):Im X (compareOp .In) (xh K false):=by
 subst a;exact Yd
theorem Yf(K:W.Frag)(a:X.K=K:=by rfl):Im X (compareOp .NotIn) (xh K true):=by
 subst a;exact Qm
theorem Kf(K:W.Frag)(a:X.K=K:=by rfl):tj X (ve K):=by
 subst a;exact ix
theorem Cy(K:W.Frag){t:jg}{pos:Pos}(c:X.calm=true)(h:sw X es t)(b:X.K=K:=by rfl)
  (d:(assignEach es X.env).length=n:=by rfl)(a:(assignEach es X.env).findIdx? (·.1)=none:=by rfl):PG X (.Tuple es e pos) (gk K n t):=by
 subst b;exact ot c h d a
def z5(K:W.Frag)(d:TE):TI:=λe H R=>d e H λx b=>∃a,x=.ref a/\(((∃c,Be K b a c)/\R (je K a) b)\/((∃c,Bm K b a c)/\R (rl K a) b))
theorem Di(w:PE X l r):PI X tg l (z5 X.K r):=by
 intro f s C H R I h;refine C5 (w f s C H _ I h) λv c u=>?_;obtain⟨x,m,d,z,j⟩:=u;obtain⟨a,e,j⟩:=j;subst e;cases z;rcases j with⟨⟨B,i⟩,q⟩|⟨⟨B,i⟩,q⟩
 ·obtain⟨n,A,p,y⟩:=d.list i;refine wpAny_pyIter_list p.isList ?_;refine⟨c.heap.objs.size,[c.heap.objs.size],_,_,m,rfl,d.kept (t':=c.toks) λb o e=>b4 _ e,Yn a _,⟨_,cb _ rfl,rfl,rfl⟩,λb g=>?_,q⟩;have e:b=c.heap.objs.size:=by simpa using g
  subst e;exact d.rL (da _) (d.aH.fresh (da _))
 ·obtain⟨n,A,p,y⟩:=d.tuple i;refine wpAny_pyIter_tuple (show c.heap.IsTuple a n.toArray from p) ?_;refine⟨c.heap.objs.size,[c.heap.objs.size],_,_,m,rfl,d.kept (t':=c.toks) λb o e=>b4 _ e,Vg a _,⟨_,cb _ rfl,rfl,rfl⟩,λb g=>?_,q⟩;have e:b=c.heap.objs.size:=by simpa using g
  subst e;exact d.rL (da _) (d.aH.fresh (da _))
end
theorem Du{h:List Nat}{j:TE}{l:St}{D:Addr}{f:Hp}{Q:Hp->Prop}{lo:Int}{cnt:Nat}(b:Nat->List V->Hp->Prop)(h0:b 0 [] (upd f D (.lst [])))
  (r:∀i a H,i<cnt->b i a H->∀g:VK,(∀y c,c D=some (.lst a)->a.length<sizeLine->b (i+1) (a++[y]) (upd c D (.lst (a++[y])))->g y c)->j (some (.int (lo+i))::D6 h l) H g)
  (q:∀a H,b cnt a H->Q H):E4 1 h (jf lo cnt) (Gu 0) Nz j l D f Q:=by
 refine⟨λi m a H=>m=cnt-i/\i<=cnt/\b i a H,⟨cnt,by simp,me _,h0⟩,?_⟩;rintro i m a n ⟨rfl,v,p⟩;by_cases d:i<cnt
 ·refine .inr ⟨d,λx u y=>?_⟩;obtain⟨e,y⟩:=y;subst e y;refine⟨⟨[some (.int (lo+i))],rfl,rfl⟩,?_⟩;simp only[Nz,↓reduceIte];exact r i a _ d p _ λy c o s pv=>⟨o,s,cnt-(i+1),by omega,rfl,d,pv⟩
 ·have e:i=cnt:=by omega
  subst e;exact .inl ⟨da _,q a n p⟩
theorem Kr{K:W.Frag}{a:Addr}{xs:List V}{l:List Nat}{n:TE}{o:St}{D:Addr}{g:Hp}{Q:Hp->Prop}(c:Nat->List V->Hp->Prop)(h0:c 0 [] (upd g D (.lst [])))
  (v:∀i b H,i<=xs.length->c i b H->Be K H a xs)
  (w:∀i x b H,xs[i]?=some x->c i b H->∀h:VK,(∀y d,d D=some (.lst b)->b.length<sizeLine->c (i+1) (b++[y]) (upd d D (.lst (b++[y])))->h y d)->n (some x::D6 l o) H h)
  (s:∀b H,c xs.length b H->Q H):E4 1 l (je K a) (Gu 0) Nz n o D g Q:=by
 refine⟨λi m b H=>m=xs.length-i/\i<=xs.length/\c i b H,⟨xs.length,by simp,me _,h0⟩,?_⟩;rintro i m b f ⟨rfl,u,p⟩;have q:=v i b f u p;by_cases j:i<xs.length
 ·refine .inr ⟨⟨xs,xs[i],q,by simp[j]⟩,λx A y=>?_⟩;obtain⟨e,y⟩:=y;subst e;refine⟨⟨[some x],rfl,rfl⟩,?_⟩;simp only[Nz,↓reduceIte];exact w i x b _ (y xs q) p _ λy d r z pv=>⟨r,z,xs.length-(i+1),by omega,rfl,j,pv⟩
 ·have e:i=xs.length:=by omega
  subst e;exact .inl ⟨⟨xs,q,da _⟩,s b f p⟩
theorem Z7{K:W.Frag}{a:Addr}{xs:List V}{l:List Nat}{n:TE}{o:St}{D:Addr}{g:Hp}{Q:Hp->Prop}(c:Nat->List V->Hp->Prop)(h0:c 0 [] (upd g D (.lst [])))
  (v:∀i b H,i<=xs.length->c i b H->Bm K H a xs)
  (w:∀i x b H,xs[i]?=some x->c i b H->∀h:VK,(∀y d,d D=some (.lst b)->b.length<sizeLine->c (i+1) (b++[y]) (upd d D (.lst (b++[y])))->h y d)->n (some x::D6 l o) H h)
  (s:∀b H,c xs.length b H->Q H):E4 1 l (rl K a) (Gu 0) Nz n o D g Q:=by
 refine⟨λi m b H=>m=xs.length-i/\i<=xs.length/\c i b H,⟨xs.length,by simp,me _,h0⟩,?_⟩;rintro i m b f ⟨rfl,u,p⟩;have q:=v i b f u p;by_cases j:i<xs.length
 ·refine .inr ⟨⟨xs,xs[i],q,by simp[j]⟩,λx A y=>?_⟩;obtain⟨e,y⟩:=y;subst e;refine⟨⟨[some x],rfl,rfl⟩,?_⟩;simp only[Nz,↓reduceIte];exact w i x b _ (y xs q) p _ λy d r z pv=>⟨r,z,xs.length-(i+1),by omega,rfl,j,pv⟩
 ·have e:i=xs.length:=by omega
  subst e;exact .inl ⟨⟨xs,q,da _⟩,s b f p⟩
def Dt(a:oB)(k:Int):Int:=(a[k.toNat]?).getD 0
theorem ft{a:oB}{k:Int}(h0:0<=k)(h:k<a.length):X8 (a.map V.int) k=some (.int (Dt a k)):=by
 obtain⟨j,rfl⟩:∃j:Nat,k=j:=⟨k.toNat,by omega⟩;have b:j<a.length:=by omega
 refine Ma ?_;unfold Dt;rw[List.getElem?_map,Int.toNat_natCast,List.getElem?_eq_getElem b];rfl
theorem Xi{k:Int}(h0:0<=k)(h:¬k<a.length):Dt a k=0:=by
 unfold Dt;rw[List.getElem?_eq_none (by omega)];rfl
theorem K0{c:Bool}{A B:Prop}(a:c=true)(h:A):if c=true then A else B:=by rw[if_pos a];exact h
theorem Dm{c:Bool}{A B:Prop}(a:c=false)(h:B):if c=true then A else B:=by rw[if_neg (by rw[a];exact Bool.false_ne_true)];exact h
theorem Br{xs:List V}(h:xs.length<=1000:=by simp):xs.length<=sizeLine:=nf (Bb h)
theorem R0(h:n<=1000):n<=sizeLine:=nf (Bb h)
def dT(ws:oB):qE:=.tuple (ws.map PyData.int)
def dL(ws:oB):qE:=.list (ws.map PyData.int)
def dP(d e:qE):qE:=.tuple [d,e]
def vO:oD->V
 |none=>.aX
 |some i=>.int i
theorem Ji{H:Hp}(i:Int):Rp H (.int i) (.int i):=by unfold Rp;rfl
theorem b7{H:Hp}:Rp H .none .aX:=by unfold Rp;rfl
theorem vg{H:Hp}(b:Bool):Rp H (.bool b) (.bl b):=by unfold Rp;rfl
theorem jp{H:Hp}{t:Addr}{ws:oB}(h:H t=some (.tup (ws.map V.int))):Rp H (dT ws) (.ref t):=by
 unfold dT Rp;exact⟨t,_,rfl,h,Qw ws⟩
theorem Wn{H:Hp}{t:Addr}{ws:oB}(h:H t=some (.lst (ws.map V.int))):Rp H (dL ws) (.ref t):=by
 unfold dL Rp;exact⟨t,_,rfl,h,Qw ws⟩
theorem az{H:Hp}{p:Addr}{d e:qE}{x y:V}(h:H p=some (.tup [x,y]))(a:Rp H d x)(b:Rp H e y):Rp H (dP d e) (.ref p):=by
 unfold dP Rp;refine⟨p,_,rfl,h,?_⟩;unfold aF;refine⟨x,_,rfl,a,?_⟩;unfold aF;refine⟨y,_,rfl,b,?_⟩;unfold aF;rfl
theorem Fi:∀ws:oB,PyData.depthAll (ws.map PyData.int)=0
 |[]=>rfl
 |w::ws=>by
  show max (PyData.depth (.int w)) (PyData.depthAll (ws.map PyData.int))=0;rw[Fi ws];rfl
theorem Z9(ws:oB):(dT ws).depth=1:=by
 show PyData.depthAll (ws.map PyData.int)+1=1;rw[Fi]
theorem Rv(ws:oB):(dL ws).depth=1:=by
 show PyData.depthAll (ws.map PyData.int)+1=1;rw[Fi]
theorem Rx(d e:qE):(dP d e).depth=max d.depth e.depth+1:=by
 show max d.depth (max e.depth 0)+1=_;rw[Nat.max_zero]
theorem Ed:∀xs a:oB,PyData.eqvAll (xs.map PyData.int) (a.map PyData.int)=decide (xs=a)
 |[],[]=>rfl
 |x::xs,y::a=>by
  show(PyData.eqv (.int x) (.int y)&&PyData.eqvAll (xs.map PyData.int) (a.map PyData.int))=_;rw[Ed xs a];show((x==y)&&decide (xs=a))=_;by_cases b:x=y<;>by_cases c:xs=a<;>simp[b,c]
 |[],_::_=>rfl
 |_::_,[]=>rfl
theorem Zi(xs a:oB):PyData.eqv (dT xs) (dT a)=decide (xs=a):=Ed xs a
theorem Zh(xs a:oB):PyData.eqv (dL xs) (dL a)=decide (xs=a):=Ed xs a
theorem l8(a b c d:qE):PyData.eqv (dP a b) (dP c d)=(PyData.eqv a c&&PyData.eqv b d):=by
 show(PyData.eqv a c&&(PyData.eqv b d&&true))=_;rw[Bool.and_true]
section
variable {X:Cx}{pins:List (Addr×Obj)}{σ:St}{H:Hp}{s:oF}{h':Heap}
theorem Ao.mM{ch:List Addr}{T:Addr}{o:HO}{t':Nat}(I:Ao X pins σ H s)(h:∀b∈ch,Mi X pins H b)(k:∀b a,b∉ch->s.heap.get? b=some a->h'.get? b=some a)
  (j:s.heap.objs.size<=T)(new:Bw X.prog X.w (upd H T o) h' T o):Ao X pins σ (upd H T o) {s with heap:=h',toks:=t'}:=by
 have g:H T=none:=I.aH.fresh j
 have i:∀b u,H b=some u->b∉ch:=λb u e f=>by
  have z:=(h b f).1;rw[e]at z;cases z
 refine I.call (g':=s.gens) (d':=s.drawn) (t':=t') (ch:=ch) ⟨λb a e _ _ d=>k b a d e,λb a e _ _ d=>⟨a.slots,k b a d e⟩,λb a e n d=>?_,λb a e d=>⟨a,k b a d e⟩,λb l e=>?_,λb a u e=>?_,λb m e=>⟨#[],?_⟩⟩ (λb u e=>?_) I.bare
  (λb f=>⟨(h b f).2.2.2.1,(h b f).2.1,(h b f).2.2.2.2.1,(h b f).2.2.2.2.2⟩)
 ·rw[Ab (Nat.ne_of_lt (Nat.lt_of_lt_of_le (Heap.lt_size e) j))];exact n
 ·rw[Ab (Ag e g)];exact e
 ·rw[Ab (Ag e g)];exact e
 ·rw[Ab (Ag e g),e];simp
 ·by_cases f:b=T
  ·subst f;rw[A5]at e;cases e;exact new
  ·rw[Ab f]at e;refine(I.aH b u e).jD (λc v d q=>k c v ?_ q) (λc q=>?_) λc l q=>?_
   ·rcases d with rfl|d
    ·exact i _ _ e
    ·exact i _ _ d
   ·rw[Ab (Ag q g)];exact q
   ·rw[Ab (Ag q g)];exact q
theorem Ao.mN{ch:List Addr}{t':Nat}(I:Ao X pins σ H s)(g:∀b∈ch,Mi X pins H b)(k:∀b a,b∉ch->s.heap.get? b=some a->h'.get? b=some a):Ao X pins σ H {s with heap:=h',toks:=t'}:=by
 have h:∀b u,H b=some u->b∉ch:=λb u e f=>by
  have z:=(g b f).1;rw[e]at z;cases z
 refine I.call (g':=s.gens) (d':=s.drawn) (t':=t') (ch:=ch) ⟨λb a e _ _ d=>k b a d e,λb a e _ _ d=>⟨a.slots,k b a d e⟩,λb a e n d=>n,λb a e d=>⟨a,k b a d e⟩,λb i e=>e,λb a u e=>e,λb j e=>⟨#[],by rw[e];simp⟩⟩ (λb u e=>?_) I.bare
  (λb f=>⟨(g b f).2.2.2.1,(g b f).2.1,(g b f).2.2.2.2.1,(g b f).2.2.2.2.2⟩)
 refine(I.aH b u e).jD (λc v d q=>k c v ?_ q) (λc q=>q) λc i q=>q;rcases d with rfl|d
 ·exact h _ _ e
 ·exact h _ _ d
end
section
variable {X:Cx}
theorem Xg(y:X.calm=true):Em X (.builtin "min") (λxs H Q=>∃(p:Addr) (b:oB),xs=[.ref p]/\Be X.K H p (b.map V.int)/\0<b.length/\∀m:Int,m∈b->(∀a∈b,m<=a)->Q (.int m) H):=by
 intro o s P H O N Q I r q;obtain⟨p,b,rfl,B,f,q⟩:=q;obtain⟨u,rfl,F⟩:=Kg r;cases F;obtain⟨G,E,D,L⟩:=I.list B;have l:=N0 E;obtain⟨c,h⟩:=l.allInts.items
 have e:b=c.toList.map (·.1):=by
  have x:=l.numsOf;have g:=nums_intItems c;rw[<- h]at g;exact x.symm.trans g
 have d:0<c.size:=by
  rw[e,List.length_map,Array.length_toList]at f;exact f
 have n:=D.isList;rw[h]at n;refine min_intList (I.ok.hd y) n d λv K M C A=>?_;obtain⟨t,rfl⟩:=intItems_at C;obtain⟨J,w⟩:=argBest_lt (numAt c) (c.size-1);refine⟨.int _,H,I.kept A,⟨t,rfl⟩,q _ ?_ λa i=>?_⟩
 ·rw[e,numAt_eq];exact getD_mem (by rw[List.length_map,Array.length_toList];omega)
 ·rw[e]at i;obtain⟨j,z,rfl⟩:=mem_getD i;rw[List.length_map,Array.length_toList]at z;rw[<- numAt_eq];exact w j (by omega)
end
section
variable {X:Cx}
theorem Ix:∀a:oB,(a.map V.int).all En=true
 |[]=>rfl
 |n::a=>by
  show(En (V.int n)&&(a.map V.int).all En)=true;rw[Ix a];rfl
end
structure Rg(K:W.Frag)(x qual:Str)(st:Stmt)(f:Addr)(fd:pa):Prop where
 ex:∃(oc:oI) (od:Option Addr) (dV kV doc pm:oI) (an:Option Addr) (aR ct:oI) (iU:Array (Option oI)),
  fd=W.fnOf x qual (Cb st) (Bu st) (Aa st) dV kV doc pm an aR ct/\K.lookup f=some ⟨oc,od,.func fd,iU⟩/\W.codeIn K aR qual=true
section
variable {P:oT}{w:px}{K:W.Frag}{mg:Str->Option oI}{base:Heap}
theorem Rg.ok{x a:Str}{st:Stmt}{f:Addr}{c:pa}{N ps:List Str}{k:Nat}{sp:Sp}(F:Rg K x a st f c)(S:Am N ps (Aa st))(len:∀vs H Q E,sp vs H Q E->vs.length=ps.length)
  (j:∀(b:oI) (A:oW) (outer:List Env) (s:oF) (H:Hp) (vs:List V) (Q:VK) (E:XK),Cu k (A.deeper (envOfC a (Aa st) s.heap.objs.size f b))->sp vs H Q E->
   ∃t,Ri (Ty Dr P w K mg base N a (Aa st) f b A outer s H E).IG (Bu st) t/\t {nx:=λ_ d=>Q .aX d,rt:=Q} (start N vs) H):Bg P w K mg base Dr (k+1) f c ps sp:=by
 obtain⟨u,v,p,kV,e,y,n,b,o,r,rfl,i,l⟩:=F.ex;refine jj i l S len λA outer s H vs Q E g m=>?_;obtain⟨t,h,q⟩:=j b A outer s H vs Q E g m;exact⟨t,h.IG,q⟩
end
section
variable {X:Cx}{a b c:Expr}{rest:List Expr}{ta tb:TE}{tA xH:TT}{t u:TS}{pos:Pos}
def w4(ta tb:TE):TE:=λg H Q=>ta g H λx e=>∃c d:Bool,x=.bl c/\(c=true->∀f:VK,f (.bl d) e->tb g e f)/\Q (.bl (c&&d)) e
theorem E6(m:PE X a ta)(n:PE X (.BoolOp .And (b::rest) pos) tb):PE X (.BoolOp .And (a::b::rest) pos) (w4 ta tb):=by
 intro e s j H Q I h;refine BoolOp_and (C5 (m e s j H _ I h) λv q l=>?_);obtain⟨x,g,i,p,f⟩:=l;obtain⟨c,d,rfl,o,f⟩:=f;cases p;refine k4 ?_;cases c with
 |true=>exact n e q j g Q i (o rfl Q f)
 |false=>exact⟨.bl false,g,i,rfl,f⟩
def vy(t u:TT):TT:=λg H Q=>t g H λc e=>∃d:Bool,(c=true->∀f:Bool->Hp->Prop,f d e->u g e f)/\Q (c&&d) e
def yo(t u:TT):TT:=λg H Q=>t g H λc e=>∃d:Bool,(c=false->∀f:Bool->Hp->Prop,f d e->u g e f)/\Q (c||d) e
theorem Wl(m:PT X a tA)(n:PW X (.BoolOp .And (b::rest) pos) xH):PW X (.BoolOp .And (a::b::rest) pos) (vy tA xH):=by
 intro q e s j H Q I h;refine isTrue_and (C5 (m e s j H _ I h) λc p l=>?_);obtain⟨f,g,d,o,i⟩:=l;cases c with
 |true=>exact n q e p j f Q g (o rfl Q i)
 |false=>exact⟨f,g,i⟩
theorem ow(m:PT X a tA)(n:PW X (.BoolOp .Or (b::rest) pos) xH):PW X (.BoolOp .Or (a::b::rest) pos) (yo tA xH):=by
 intro q e s j H Q I h;refine isTrue_or (C5 (m e s j H _ I h) λc p l=>?_);obtain⟨f,g,d,o,i⟩:=l;cases c with
 |true=>exact⟨f,g,i⟩
 |false=>exact n q e p j f Q g (o rfl Q i)
theorem SP.mono(h:SP X e D f s')(n:∀g H,D.nx g H->j.nx g H)(o:∀v H,D.rt v H->j.rt v H)(l:∀g H,D.bk g H->j.bk g H)(m:∀g H,D.ct g H->j.ct g H):SP X e j f s':=by
 cases f with
 |next=>obtain⟨d,i,I,q⟩:=h;exact⟨d,i,I,n _ _ q⟩
 |brk=>obtain⟨d,i,I,q⟩:=h;exact⟨d,i,I,l _ _ q⟩
 |cont=>obtain⟨d,i,I,q⟩:=h;exact⟨d,i,I,m _ _ q⟩
 |ret v=>obtain⟨x,d,i,I,r,q⟩:=h;exact⟨x,d,i,I,r,o _ _ q⟩
def yj(c:TT)(t u:TS):TS:=λD e H=>c e H λb g=>∃N:St->Hp->Prop,(b=true->t {D with nx:=N} e g)/\(b=false->u {D with nx:=N} e g)/\∀d f,N d f->D.nx d f
theorem El{c:Expr}{a b:List Stmt}{n:TT}(v:PT X c n)(p:Ri X a t)(r:Ri X b u):PS X (.If c a b pos) (yj n t u):=by
 intro e s g H D I h;refine wpAny_If (C5 (v e s g H _ I h) λd m o=>?_);obtain⟨i,j,N,w,x,l⟩:=o;cases d with
 |true=>exact C5 (p e m g i _ j (w rfl)) λf y q=>q.mono l (λ_ _ z=>z) (λ_ _ z=>z) λ_ _ z=>z
 |false=>exact C5 (r e m g i _ j (x rfl)) λf y q=>q.mono l (λ_ _ z=>z) (λ_ _ z=>z) λ_ _ z=>z
end
section
variable {P:oT}{w:px}{A:oW}{E:oi}{s:oF}
theorem Um{k:Nat}(c:s.heap.IsTupleIter I T k)(g:s.heap.IsTuple T vs)(h:vs[k]?=some v)
  (q:∀h',h'.IsTupleIter I T (k+1)->Heap.SameBut I s.heap h'->Q v {s with heap:=h'}):wpAny (model P w) A (Builtin.SmallTypes.nextOf (.ref I)) Q E s:=by
 obtain⟨j,b,e,a⟩:=id c;obtain⟨l,f,_,i,d⟩:=g;unfold Builtin.SmallTypes.nextOf;refine a0 (nT (name:=Str.ofString "__next__") c.typeIs F.slot_tuple_iterator_next (jR F.slot_tuple_iterator_next c.typeIs F.entry_tuple_iterator_next ?_ (F.args_tuple_iterator_next_1 _)));show wpAny _ _ (field (.ref I) 0>>=_) _ _ s;refine a0 (wpAny_field b a (x:=.ref T) rfl ?_);show wpAny _ _ (if(Value.ref T==Value.none)=true then _ else _) _ _ s;rw[if_neg (show¬((Value.ref T==Value.none)=true)from Bool.false_ne_true)];show wpAny _ _ (field (.ref I) 1>>=_) _ _ s;refine a0 (wpAny_field b a (x:=.int k 0) rfl ?_);show wpAny _ _ (seqItems? (.ref T)>>=_) _ _ s;refine a0 (hO f d ?_);simp only[Int.toNat_natCast,h];refine a0 (wpAny_setField b a (by simp) (bc ⟨v,rfl,bc (q _ ⟨_,iv _ b (Obj.isFreed_of_fields (Obj.data_mapFields a _)),(Obj.cls_mapFields ..).trans e,?_⟩ (jV ..))⟩));rw[Obj.data_mapFields a];simp[rawInt]
theorem Ya{k:Nat}(d:A.handled=none)(c:s.heap.IsTupleIter I T k)(h:s.heap.IsTuple T vs)(i:vs[k]?=none)
  (q:∀h' e,Heap.ExtBut I s.heap h'->(∃o,h'.get? e=some o/\o.cls=.type "StopIteration")->E (.ref e) {s with heap:=h'}):wpAny (model P w) A (Builtin.SmallTypes.nextOf (.ref I)) Q E s:=by
 obtain⟨m,b,j,a⟩:=id c;obtain⟨n,g,_,l,f⟩:=h;unfold Builtin.SmallTypes.nextOf;refine a0 (nT (name:=Str.ofString "__next__") c.typeIs F.slot_tuple_iterator_next (jR F.slot_tuple_iterator_next c.typeIs F.entry_tuple_iterator_next ?_ (F.args_tuple_iterator_next_1 _)));show wpAny _ _ (field (.ref I) 0>>=_) _ _ s;refine a0 (wpAny_field b a (x:=.ref T) rfl ?_);show wpAny _ _ (if(Value.ref T==Value.none)=true then _ else _) _ _ s;rw[if_neg (show¬((Value.ref T==Value.none)=true)from Bool.false_ne_true)];show wpAny _ _ (field (.ref I) 1>>=_) _ _ s;refine a0 (wpAny_field b a (x:=.int k 0) rfl ?_);show wpAny _ _ (seqItems? (.ref T)>>=_) _ _ s;refine a0 (hO g f ?_);simp only[Int.toNat_natCast,i];refine a0 (mC (a0 (wpAny_setField b a (by simp) ?_)));show wpAny _ _ (newExc (.type "StopIteration") []>>=λ_=>_) _ _ _;refine a0 ?_;simp only[newExc,newTuple];refine a0 (jQ (a0 (m:=firstArgMember _ _) (wpAny_of_eq (a:=Value.none) (by first|rfl|(simp only[firstArgMember];rfl)) (jQ ?_ (by size_fits)))) (by size_fits));simp only[raiseNew];refine a0 (wpAny_handled ?_)
 first|rw[show A.in1.handled=none from d]|rw[d]
 refine a0 (bc (wpAny_throw (q _ _ (((jV ..).extBut.push _).push _) ⟨_,cb _ rfl,rfl⟩)))
end
theorem kz(g:A.handled=none)(I T:Addr)(ne:T≠I)(vs:Array oI):Draws P w A I [I,T] vs.size (λi v=>vs[i]?=some v) (λi h=>h.IsTupleIter I T i/\h.IsTuple T vs)where
 live:=λ_ _ a=>let⟨o,e,_⟩:=a.1;⟨o,e⟩
 frame:=λ_ _ _ a k=>⟨a.1.at λo e=>k I (by simp) o e,let⟨o,e,r⟩:=a.2;⟨o,k T (by simp) o e,r⟩⟩
 item:=λi s Q E b a q=>Um a.1 a.2 (v:=vs[i]) (by simp[b]) λf d c=>q _ f s.toks (by simp[b]) ⟨d,a.2.extBut c.extBut ne⟩ c
 done:=λs Q E a q=>Ya g a.1 a.2 (by simp) q
def Jt:Bool->Heap->Addr->Addr->Nat->Prop
 |true,h,I,T,i=>h.IsTupleIter I T i
 |false,h,I,T,i=>h.IsListIter I T i
def Yx:Bool->Heap->Addr->Array oI->Prop
 |true,h,T,a=>h.IsTuple T a
 |false,h,T,a=>h.IsList T a
def gq:Bool->String
 |true=>"tuple_iterator"
 |false=>"list_iterator"
def Sq:Bool->W.Frag->Hp->Addr->List V->Prop
 |true,K,H,a,b=>Bm K H a b
 |false,K,H,a,b=>Be K H a b
theorem S2(a:A.handled=none)(b:Bool)(I T:Addr)(ne:T≠I)(vs:Array oI):Draws P w A I [I,T] vs.size (λi v=>vs[i]?=some v) (λi h=>Jt b h I T i/\Yx b h T vs):=by
 cases b
 ·exact Draws.list a I T ne vs
 ·exact kz a I T ne vs
theorem Jt.data(x:Jt b h I T i):∃o,h.get? I=some o/\o.cls=.type (gq b)/\o.data=.fields #[.ref T,.int i 0]:=by cases b<;>exact x
theorem Jt.of(x:∃o,h.get? I=some o/\o.cls=.type (gq b)/\o.data=.fields #[.ref T,.int i 0]):Jt b h I T i:=by cases b<;>exact x
theorem Jt.at'(x:Jt b h I T i)(k:∀o,h.get? I=some o->h'.get? I=some o):Jt b h' I T i:=by
 obtain⟨o,e,r⟩:=x.data;exact .of ⟨o,k _ e,r⟩
theorem Yx.lt(x:Yx b h T vs):T<h.objs.size:=by
 cases b<;>exact let⟨_,e,_⟩:=x;dt e
theorem Jt.lt(x:Jt b h I T i):I<h.objs.size:=by
 obtain⟨_,e,_⟩:=x.data;exact dt e
theorem Jt.ne(x:Jt b h I T i)(y:Yx c h T vs):T≠I:=by
 rintro rfl;obtain⟨o,e,k,_⟩:=x.data;cases c<;>(obtain⟨f,a,d,_⟩:=y;rw[e]at a;cases a;rw[k]at d;cases b<;>simp[gq]at d)
section
variable {X:Cx}{pins:List (Addr×Obj)}{σ:St}{H:Hp}{s:oF}
theorem Ao.sq(I:Ao X pins σ H s)(q:Sq b X.K H a xs):∃us,Av xs us/\Yx b s.heap a us.toArray:=by
 cases b
 ·obtain⟨us,r,p,_⟩:=I.list q;exact⟨us,r,p.isList⟩
 ·obtain⟨us,r,p,_⟩:=I.tuple q;exact⟨us,r,p⟩
theorem Ao.DN(I:Ao X pins σ H s)(q:Sq b X.K H a xs)(r:Sq b X.K H a c):xs=c:=by
 cases b
 ·exact I.mH q r
 ·exact I.jZ q r
end
open AutoSeq1 (wpAny_loadPart')
section
variable {P:oT}{w:px}{A:oW}{E:oi}{s:oF}
abbrev xk(b1:Bool)(h:Heap)(a:Addr):Heap:=h.push {cls:=.type (gq b1),data:=.fields #[.ref a,.int 0 0] }
end
open AutoSeq1 (wpAny_loadPart')
def X4(K:W.Frag)(b:Bool)(l:Addr):It:=
 ⟨λi H=>∃a x,Sq b K H l a/\a[i]?=some x,
  λi H v c=>∃T x,v=.ref T/\H T=none/\c=upd H T (.tup [.int i,x])/\∀a,Sq b K H l a->a[i]?=some x,
  λi H=>∃a,Sq b K H l a/\a.length=i⟩
theorem Vd{P:oT}{w:px}{K:W.Frag}{m:List Expr}{kk:Nat}{pos:Pos}{b:Bool}{e it l:Addr}(F:e≠it)(Y:e≠l):
  Tq P w K (.Tuple m kk pos) (X4 K b l) [e,it] e (λi h=>(∃d,IsEnum h e it i d)/\Jt b h it l i)where
 mem:=cI
 obj:=λi h ⟨⟨d,g⟩,f⟩ c a=>by
  obtain⟨o1,e1,c1,d1⟩:=f.data;simp only[List.mem_cons,List.not_mem_nil,or_false]at a;rcases a with rfl|rfl
  ·exact⟨_,g,λv q=>by cases q⟩
  ·exact⟨_,e1,λv q=>by rw[d1]at q;cases q⟩
 keep:=λi h U ⟨⟨d,g⟩,f⟩ j=>⟨⟨d,j e (by simp) _ g⟩,f.at' λo q=>j it (by simp) o q⟩
 item:=by
  intro X L M J a i r s σ H E I B ⟨⟨d,g⟩,f⟩ ⟨xs,x,C,T⟩;subst L M J;obtain⟨y,N,p⟩:=I.sq C;obtain⟨u1,n,Z⟩:=N.get T
  have WH:i<y.toArray.size:=by
   have:=(bA.mp n).1;simpa using this
  refine wpAny_pyNext_enum_itemD (S2 (A:=X.A.in1) (I.ok.hd a) b it l (f.ne p) y.toArray) g ⟨f,p⟩ WH F (by simp[F,Y]) λu U O eu a1 a2 a3 a4 j=>⟨_,rfl,?_⟩;have e2:u=u1:=eT (eu.symm.trans (by simpa using n));subst e2;refine wpAny_letOwnedTupleGo_enum a1 λWI WJ D=>?_;have R:e<s.heap.objs.size:=dt g;have S:WI.get? s.heap.objs.size=some {cls:=.type "tuple",data:=.seq #[.int i O,u] }:=D.extBut _ _ (Nat.ne_of_gt R) a3;refine⟨.ref s.heap.objs.size,upd H s.heap.objs.size (.tup [.int i,x]),I.mM (t':=O+1) (ch:=[e,it]) B (λc o a G=>?_) (da _) ?_,rfl,⟨_,x,rfl,I.fresh,rfl,λDQ q=>?_⟩,⟨⟨u,?_⟩,?_⟩,λc a=>?_⟩
  ·simp only[List.mem_cons,List.not_mem_nil,or_false,not_or]at a;exact D.extBut _ _ a.1 (j c o a.1 a.2 G)
  ·exact⟨⟨eI (by decide:2<=1000) (R0 (da _)),_,S,rfl⟩,[.int i O,u],.cons ⟨_,rfl⟩ (.cons Z .nil),⟨_,S,rfl,0,rfl⟩⟩
  ·rw[I.DN q C];exact T
  ·have z:=WJ;rw[show((i:Int)+1)=((i+1:Nat):Int)by omega]at z;exact z
  ·exact a2.1.at' λo eo=>D.extBut _ _ (Ne.symm F) eo
  ·rw[Ab]
   ·exact(B c a).1
   ·simp only[List.mem_cons,List.not_mem_nil,or_false]at a;rcases a with rfl|rfl
    ·exact gs R
    ·exact gs f.lt
 done:=by
  intro X L M J a i r s σ H E I B ⟨⟨d,g⟩,f⟩ ⟨xs,C,hl⟩;subst L M J;obtain⟨y,N,p⟩:=I.sq C;have n1:=N.length;have n2:i=y.toArray.size:=by simp only[List.size_toArray];omega
  subst n2;refine wpAny_pyNext_enum_endD (S2 (A:=X.A.in1) (I.ok.hd a) b it l (f.ne p) y.toArray) g ⟨f,p⟩ λU j=>⟨rfl,I.mN (t':=s.toks) (ch:=[e,it]) B λc o a G=>?_⟩;simp only[List.mem_cons,List.not_mem_nil,or_false,not_or]at a;exact j c o a.2 G
 self:=λA i s Q E ⟨⟨d,g⟩,_⟩ hQ=>wpAny_pyIter_enum g hQ
theorem S5(l:Addr)(items:Array oI)(n:Nat)(f:Option Addr)(m:Array (Option oI)):
  Meets (Builtin.«enumerate.__new__» ⟨[.type "enumerate",.ref l],[]⟩) (λ_ R s=>s.heap.get? l=some {cls:=.type "tuple",dict:=f,data:=.seq items n,slots:=m}/\
   R (.ok (.ret (.ref (xk true s.heap l).objs.size))) {s with heap:=(xk true s.heap l).push {cls:=.type "enumerate",data:=.fields #[.none,.bool false,.ref s.heap.objs.size,rawInt 0,.none,.none] } }):=
 .of_wp λe w A R s h=>by
  obtain⟨i,g,d,o,j⟩:=s;obtain⟨a,h⟩:=h;have q:=sub_enumerate;have b:Heap.IsTuple (Shared.heap ⟨i,g,d,o,j⟩) l items:=⟨_,a,rfl,n,rfl⟩
  wp_walk using wpAny_loadPart' a
  refine wpAny_stack_any λp=>bc ?_;split
  ·rename_i c _ _ _ _ _;cases(c==Value.type "enumerate")
   ·wp_walk using wpAny_loadPart' a,wpAny_pyIter_tuple b
    exact⟨_,rfl,h⟩
   ·wp_walk using wpAny_loadPart' a,wpAny_pyIter_tuple b
    exact⟨_,rfl,h⟩
  ·wp_walk using wpAny_loadPart' a,wpAny_pyIter_tuple b
   exact⟨_,rfl,h⟩
theorem U3{items:Array oI}(i:s.heap.IsTuple l items)
  (h:∀h',IsEnum h' (s.heap.objs.size+1) s.heap.objs.size 0 .none->h'.IsTupleIter s.heap.objs.size l 0->(∀b o,s.heap.get? b=some o->h'.get? b=some o)->Q (.ref (s.heap.objs.size+1)) {s with heap:=h'}):
  wpAny (model P w) A (call (.type "enumerate") [.ref l]) Q E s:=by
 obtain⟨⟨c,f,g,u⟩,p,j,n,m⟩:=i;have q:c=.type "tuple":=j;have r:g=.seq items n:=m;subst q r;refine callType_new F.called_enumerate (by decide) (F.typeCall_enumerate_1 _) (F.newCall_enumerate_1 _) (λd=>F.args_object_init_2 d _) F.entry_enumerate_new (S5 l items n f u) ⟨p,?_⟩;have e:(xk true s.heap l).objs.size=s.heap.objs.size+1:=Heap.size_push ..;show _/\_;rw[e];have a:=cb (xk true s.heap l) (o:={cls:=.type "enumerate",data:=.fields #[.none,.bool false,.ref s.heap.objs.size,rawInt 0,.none,.none] }) rfl;rw[e]at a;exact⟨⟨_,a,rfl⟩,h _ a ⟨_,b4 _ (cb _ rfl),rfl,rfl⟩ λb o x=>b4 _ (b4 _ x)⟩
section
variable {X:Cx}
def lj(K:W.Frag)(d:TA):TI:=λg H R=>d g H λe c=>∃(b:Bool) (a:Addr),e=[.ref a]/\(∃f,Sq b K c a f)/\R (X4 K b a) c
theorem Nh{i:List Expr}{z:Nat}{A:Pos}{a:Expr}{B:TA}{p pos:Pos}(G:Gl X "enumerate")(J:X.mg "enumerate"=none)(F:PA X [a] B)(K:starEach [a] X.env=[(false,eval a X.env)]:=by rfl):
  PI X (.Tuple i z A) (.Call (.Name "enumerate" p) [a] [] pos) (lj X.K B):=by
 intro f s w H R I h;refine Call_ (N3 I G J boot_enumerate (PyProof.Rows.callWith_type1 (C5 (F pos f s w H _ I h) λU d ⟨Y,x,u,O,N⟩=>?_) K rfl));obtain⟨b,M,e,⟨Z,L⟩,q⟩:=N;subst e;obtain⟨T,rfl,D⟩:=Kg O;cases D;obtain⟨S,P,v⟩:=u.sq L;have E:=v.lt
 have m:∀g,IsEnum g (d.heap.objs.size+1) d.heap.objs.size 0 .none->Jt b g d.heap.objs.size M 0->(∀b o,d.heap.get? b=some o->g.get? b=some o)->
   wpAny (model X.prog X.w) X.A (pyIter (.ref (d.heap.objs.size+1))) (xq X f w (.Tuple i z A) R) X.xe {d with heap:=g}:=λg j l n=>by
  refine wpAny_pyIter_enum j ?_;have C:Ao X f w x {d with heap:=g}:=u.kept (t':=d.toks) n;refine⟨d.heap.objs.size+1,[d.heap.objs.size+1,d.heap.objs.size],_,_,x,rfl,C,Vd (Nat.ne_of_gt (Nat.lt_succ_self _)) (Nat.ne_of_gt (Nat.lt_succ_of_lt E)),⟨⟨_,j⟩,l⟩,λc y=>?_,q⟩
  have r:d.heap.objs.size<=c:=by
   simp only[List.mem_cons,List.not_mem_nil,or_false]at y;rcases y with rfl|rfl<;>omega
  exact u.rL r (u.aH.fresh r)
 cases b with
 |false=>exact call_enumerate_list v λg j l Q n=>m g j l n
 |true=>exact U3 v λg j l n=>m g j l n
end
theorem Xs{K:PySem.W.Frag}{b:Bool}{c:Addr}{xs:List V}{g:TG}{r:TS}{D:Km}{a:St}{H:Hp}(d:Nat->St->Hp->Prop)(h0:d 0 a H)(A:∀i a H,i<=xs.length->d i a H->Sq b K H c xs)
  (B:∀i x T a H,xs[i]?=some x->d i a H->H T=none->g (.ref T) a (upd H T (.tup [.int i,x])) λj l=>r {D with nx:=d (i+1),ct:=d (i+1),bk:=D.nx} j l)(w:∀a H,d xs.length a H->D.nx a H):
  ∃W:Nat->Nat->St->Hp->Prop,(∃m,W 0 m a H)/\∀i m a H,W i m a H->
   ((X4 K b c).stop i H/\D.nx a H)\/((X4 K b c).go i H/\∃N:St->Hp->Prop,(∀h f,N h f->∃q,q<m/\W (i+1) q h f)/\∀x f,(X4 K b c).zB i H x f->g x a f λj l=>r {D with nx:=N,ct:=N,bk:=D.nx} j l):=by
 refine⟨λi m a H=>m=xs.length-i/\i<=xs.length/\d i a H,⟨xs.length,by simp,me _,h0⟩,?_⟩;rintro i m a H ⟨rfl,z,p⟩;have n:=A i a H z p;by_cases o:i<xs.length
 ·refine .inr ⟨⟨xs,xs[i],n,by simp[o]⟩,d (i+1),λh f C=>⟨xs.length-(i+1),by omega,rfl,o,C⟩,λv f y=>?_⟩;obtain⟨T,x,rfl,u,rfl,s⟩:=y;exact B i x T a H (s xs n) p u
 ·have e:i=xs.length:=by omega
  subst e;exact .inl ⟨⟨xs,n,rfl⟩,w a H p⟩
abbrev u7(K:W.Frag):TG:=gk K 2 (P1 (Gu 0) (P1 (Gu 1) lg))
theorem Mn{K:W.Frag}{b1:Bool}{c:Addr}{xs:List V}{s:List Nat}{l:TT}{j:TE}{f:St}{D:Addr}{w:Hp}{Q:Hp->Prop}(g:Nat->List V->Hp->Prop)(h0:g 0 [] (upd w D (.lst [])))
  (E:∀i a H,i<=xs.length->g i a H->Sq b1 K H c xs)
  (F:∀i x T a H,xs[i]?=some x->g i a H->H T=none->l (some (.int i)::some x::D6 s f) (upd H T (.tup [.int i,x])) λb n=>
   if b=true then j (some (.int i)::some x::D6 s f) n λv o=>o D=some (.lst a)/\a.length<sizeLine/\g (i+1) (a++[v]) (upd o D (.lst (a++[v])))else g (i+1) a n)
  (I:∀f H Q h,(∀b d,Q b d->h b d)->l f H Q->l f H h)(G:∀f H Q h,(∀v d,Q v d->h v d)->j f H Q->j f H h)
  (B:∀a H,g xs.length a H->Q H):E4 2 s (X4 K b1 c) (u7 K) l j f D w Q:=by
 refine⟨λi m a H=>m=xs.length-i/\i<=xs.length/\g i a H,⟨xs.length,by simp,me _,h0⟩,?_⟩;rintro i m a d ⟨rfl,C,p⟩;have u:=E i a d C p;by_cases r:i<xs.length
 ·refine .inr ⟨⟨xs,xs[i],u,by simp[r]⟩,λv N y=>?_⟩;obtain⟨T,x,rfl,A,rfl,z⟩:=y;refine⟨T,_,rfl,Bm.of A5,rfl,_,_,rfl,x,_,rfl,rfl,⟨[some (.int i),some x],rfl,rfl⟩,?_⟩;refine I _ _ _ _ ?_ (F i x T a d (z xs u) p A);intro b n q;cases b with
  |false=>exact⟨xs.length-(i+1),by omega,rfl,r,q⟩
  |true=>exact G _ _ _ _ (λv o ⟨J,L,M⟩=>⟨J,L,xs.length-(i+1),by omega,rfl,r,M⟩) q
 ·have e:i=xs.length:=by omega
  subst e;exact .inl ⟨⟨xs,u,rfl⟩,B a d p⟩
section
variable {X:Cx}{a b:Expr}{rest:List Expr}{ta tb:TE}{tA xH:TT}{pos:Pos}
def yq(ta tb:TE):TE:=λg H Q=>ta g H λx f=>∃(c:Bool) (N:Bool->Hp->Prop),x=.bl c/\(c=true->N true f)/\(c=false->tb g f λy e=>∃d:Bool,y=.bl d/\N d e)/\∀d e,N d e->Q (.bl d) e
theorem om(r:PE X a ta)(u:PE X (.BoolOp .Or (b::rest) pos) tb):PE X (.BoolOp .Or (a::b::rest) pos) (yq ta tb):=by
 intro f s o H Q I h;refine BoolOp_or (C5 (r f s o H _ I h) λv B q=>?_);obtain⟨x,i,l,z,g⟩:=q;obtain⟨c,N,rfl,w,g,m⟩:=g;cases z;refine k4 ?_;cases c with
 |false=>exact C5 (u f B o i _ l (g rfl)) λv C ⟨y,j,p,A,d,e,n⟩=>⟨y,j,p,A,by rw[e];exact m d j n⟩
 |true=>exact⟨.bl true,i,l,rfl,m _ _ (w rfl)⟩
def vz(t u:TT):TT:=λg H Q=>t g H λc e=>∃N:Bool->Hp->Prop,(c=false->N false e)/\(c=true->u g e N)/\∀d f,N d f->Q d f
def yp(t u:TT):TT:=λg H Q=>t g H λc e=>∃N:Bool->Hp->Prop,(c=true->N true e)/\(c=false->u g e N)/\∀d f,N d f->Q d f
theorem ie(p:PT X a tA)(q:PW X (.BoolOp .And (b::rest) pos) xH):PW X (.BoolOp .And (a::b::rest) pos) (vz tA xH):=by
 intro w e s l H Q I h;refine isTrue_and (C5 (p e s l H _ I h) λc v o=>?_);obtain⟨f,i,N,r,u,j⟩:=o;cases c with
 |true=>exact C5 (q w e v l f _ i (u rfl)) λd x ⟨g,m,n⟩=>⟨g,m,j d g n⟩
 |false=>exact⟨f,i,j _ _ (r rfl)⟩
theorem Jh(p:PT X a tA)(q:PW X (.BoolOp .Or (b::rest) pos) xH):PW X (.BoolOp .Or (a::b::rest) pos) (yp tA xH):=by
 intro w e s l H Q I h;refine isTrue_or (C5 (p e s l H _ I h) λc v o=>?_);obtain⟨f,i,N,r,u,j⟩:=o;cases c with
 |true=>exact⟨f,i,j _ _ (r rfl)⟩
 |false=>exact C5 (q w e v l f _ i (u rfl)) λd x ⟨g,m,n⟩=>⟨g,m,j d g n⟩
end
section
variable {prog:oT}{w:px}{A:oW}{E:oi}{s:oF}{l:Addr}
theorem Ow{a:String}{b:Builtin}{args:Args}{Q:oi}(n:builtinKind a=none)(o:plainId a=true)(m:entryFor table a=some b)(j:argsOk a args)
  (g:wpAny (model prog w) A.in1 (b args) (λc s'=>match c with
   | .done f=>(match(Except.ok f:Result)with| .ok (.ret v)=>Q v s'| .ok _=>False| .error e=>E e s')
   | .again d=>d.quiet=true/\codeAny (model prog w) A d (λr s'=>match r with| .ok (.ret v)=>Q v s'| .ok _=>False| .error e=>E e s') s') E s):
  wpAny (model prog w) A (call (.builtin a) args.pos args.kw) Q E s:=by
 refine wpAny_call (codeAny_call_builtin o m ?_);simp only[checkBuiltinCall,n];cases p:Manifest.signature? a with
 |none=>exact bc g
 |some q=>
  have h:Bind.checkArgs a q args=pure ():=by simpa only[argsOk,p]using j
  have i:(⟨args.pos,args.kw⟩:Args)=args:=rfl;simp only[i,h];exact bc g
end
open PySem PySem.Spec PyProof.Rows PySem.SeqAt
def kf(A:oW)(s:oF)(x y:oI)(b:Bool):Prop:=∀(a:oT) (w:px) (E:oi) (Q:oi),Q (.bool b) s->wpAny (model a w) A (richCompare .Lt x y) Q E s
theorem r9(l b:Addr)(xs a:Array oI)(n T:Nat)(H E:Option Addr)(X F:Array (Option oI))(e:Nat->Bool)(r:Bool):
  Meets (Builtin.«tuple.__lt__» ⟨[.ref l,.ref b],[]⟩)
   (λA R s=>s.heap.get? l=some {cls:=.type "tuple",dict:=H,data:=.seq xs n,slots:=X}/\s.heap.get? b=some {cls:=.type "tuple",dict:=E,data:=.seq a T,slots:=F}/\
    (∀j (o:j<xs.size) (p:j<a.size),EqAt A.in1 s xs[j] a[j] (e j))/\(∀j (o:j<xs.size) (p:j<a.size),(∀i,i<j->e i=true)->e j=false->kf A.in1 s xs[j] a[j] r)/\
    ((∀j,j<min xs.size a.size->e j=true)->r=decide (xs.size<a.size))/\R (.ok (.ret (.bool r))) s):=
 .of_wp λc w A R s h=>by
  obtain⟨N,g,d,tk,U⟩:=s;obtain⟨M,I,J,K,Q,h⟩:=h;have f2:=AutoSeq1.sub_tuple_tuple;have hZ:(xs.toList.zip a.toList).length=min xs.size a.size:=by simp
  wp_walk using wpAny_loadPart' M,wpAny_loadPart' I,wpAny_forIn_list _ (λf b C=>b.1=none/\C=⟨N,g,d,tk,U⟩/\∃i,f=(xs.toList.zip a.toList).drop i/\∀k,k<i->k<min xs.size a.size->e k=true) _
  case turn=>
   rintro⟨y,x⟩ f b C ⟨B,rfl,i,m,q⟩
   have G:i<(xs.toList.zip a.toList).length:=by
    apply Classical.byContradiction;intro z;rw[List.drop_of_length_le (by omega)]at m;cases m
   have o:i<xs.size:=by omega
   have p:i<a.size:=by omega
   rw[List.drop_eq_getElem_cons G]at m;injection m with D Y;have v:y=xs[i]:=by simpa using congrArg Prod.fst D
   have P:x=a[i]:=by simpa using congrArg Prod.snd D
   subst v P;refine a0 (J i o p c w _ _ ?_);cases v:e i with
   |true=>
    wp_walk
    refine⟨rfl,rfl,i+1,Y,λk u Z=>?_⟩;by_cases z:k=i
    ·rw[z];exact v
    ·exact q k (by omega) Z
   |false=>
    have S:=K i o p (λk u=>q k u (by omega)) v c w
    wp_walk using S _ _
    exact⟨_,rfl,h⟩
  case fin=>
   rintro⟨b1,b2⟩ C ⟨B,rfl,i,m,q⟩;simp only at B;subst B
   have sW:min xs.size a.size<=i:=by
    apply Classical.byContradiction;intro z;rw[List.drop_eq_getElem_cons (by omega)]at m;cases m
   have O:=Q λj L=>q j (by omega) L
   wp_walk
   refine⟨_,rfl,?_⟩;rw[O]at h;simpa[Builtin.Tuple.tupleCompareSizes]using h
  case h=>
   exact⟨rfl,rfl,0,rfl,λk u=>absurd u (mF k)⟩
mutual
def Kl:qE->qE->Bool
 | .int a,.int b=>decide (a<b)
 | .tuple c,.tuple d=>aJ c d
 |_,_=>false
def aJ:List qE->List qE->Bool
 |[],[]=>false
 |[],_::_=>true
 |_::_,[]=>false
 |x::a,y::b=>if PyData.eqv x y then aJ a b else Kl x y
end
mutual
def J5:qE->qE->Prop
 | .int _,.int _=>True
 | .tuple a,.tuple b=>bI a b
 |_,_=>False
def bI:List qE->List qE->Prop
 |x::a,y::b=>J5 x y/\bI a b
 |_,_=>True
end
theorem P6:∀(xs a:List qE),(∀j,j<min xs.length a.length->pairEq xs a j=true)->aJ xs a=decide (xs.length<a.length)
 |[],[],_=>rfl
 |[],y::a,_=>by simp[aJ]
 |x::xs,[],_=>by simp[aJ]
 |x::xs,y::a,h=>by
  have b:PyData.eqv x y=true:=h 0 (by simp only[List.length_cons];omega);have c:=P6 xs a λj d=>h (j+1) (by simp only[List.length_cons];omega);rw[aJ,if_pos b,c];simp
mutual
theorem K3:∀(i d:qE) (A:oW) (s:oF) (a b:oI) (X bs:List Addr),Reads s.heap a i X->Reads s.heap b d bs->i.canLay0=true->d.canLay0=true->J5 i d->
  A.units+min i.depth d.depth<cLine->kf A s a b (Kl i d)
 | .int x,d,A,s,_,_,_,_,I,J,_,_,c,p=>by
  cases d with
  |int y=>
   cases I with
   |int _ t=>
    cases J with
    |int _ u=>
     intro m w E Q h;exact richCompare_gives (op:=.Lt) (typeIs_int s _ t) (typeIs_int s _ u) F.slot_int_lt F.entry_int_lt (F.args_int_lt_2 _ _) (gives_int_lt _ _ t u) (λz=>nomatch z) h
  |none=>exact c.elim
  |bool _=>exact c.elim
  |str _=>exact c.elim
  |list _=>exact c.elim
  |tuple _=>exact c.elim
  |dict _=>exact c.elim
 | .tuple e,d,A,s,_,_,_,_,I,J,N,O,c,p=>by
  cases d with
  |tuple g=>
   cases I with
   |@tuple l o q n _ v K L M C=>
    cases J with
    |@tuple l' o' r n' _ B P R S H=>
     obtain⟨oc,od,TQ,iU⟩:=o;obtain⟨oc',U,WM,T⟩:=o';simp only at L M R S;subst L M R S;have n1:q.size=e.length:=by simpa using ReadsAll.length _ _ _ C
     have n2:r.size=g.length:=by simpa using ReadsAll.length _ _ _ H
     intro m w E Q h;refine richCompare_meets_room (op:=.Lt) ⟨_,K,rfl⟩ ⟨_,P,rfl⟩ F.slot_tuple_lt F.entry_tuple_lt (F.args_tuple_lt_2 _ _) (r9 l l' q r n n' od U iU T (pairEq e g) (aJ e g)) ⟨K,P,λj D G=>?_,λj D G Y Z=>?_,λf=>?_,(λz=>nomatch z),h⟩ (room_here p)
     ·have:=eqAt_readsAll e g A.in1 s q.toList r.toList _ _ C H N O (room_in p) j (by simpa using D) (by simpa using G);simpa using this
     ·have:=gA e g A.in1 s q.toList r.toList _ _ C H N O c (room_in p) j (by simpa using D) (by simpa using G) Y Z;simpa using this
     ·rw[n1,n2]at f⊢;exact P6 e g f
  |none=>exact c.elim
  |bool _=>exact c.elim
  |str _=>exact c.elim
  |list _=>exact c.elim
  |int _=>exact c.elim
  |dict _=>exact c.elim
 | .none,_,_,_,_,_,_,_,_,_,_,_,c,_=>c.elim
 | .bool _,_,_,_,_,_,_,_,_,_,_,_,c,_=>c.elim
 | .str _,_,_,_,_,_,_,_,_,_,_,_,c,_=>c.elim
 | .list _,_,_,_,_,_,_,_,_,_,_,_,c,_=>c.elim
 | .dict _,_,_,_,_,_,_,_,_,_,_,_,c,_=>c.elim
theorem gA:∀(xs a:List qE) (A:oW) (s:oF) (vs ws:List oI) (p bs:List Addr),ReadsAll s.heap vs xs p->ReadsAll s.heap ws a bs->PyData.canLayAll0 xs=true->PyData.canLayAll0 a=true->bI xs a->
  A.units+min (PyData.depthAll xs) (PyData.depthAll a)<cLine->∀j (h1:j<vs.length) (b:j<ws.length),(∀i,i<j->pairEq xs a i=true)->pairEq xs a j=false->kf A s vs[j] ws[j] (aJ xs a)
 |[],_,_,_,_,_,_,_,d,_,_,_,_,_,j,h1,_,_,_=>by cases d;exact absurd h1 (mF _)
 |_::_,[],_,_,_,_,_,_,_,f,_,_,_,_,j,_,b,_,_=>by cases f;exact absurd b (mF _)
 |x::xs,y::a,A,s,_,_,_,_,d,f,q,r,l,v,j,h1,b,g,h=>by
  cases d with
  |cons B C=>
   cases f with
   |cons w z=>
    have n:x.canLay0=true/\PyData.canLayAll0 xs=true:=by simpa[PyData.canLayAll0]using q
    have o:y.canLay0=true/\PyData.canLayAll0 a=true:=by simpa[PyData.canLayAll0]using r
    have m:A.units+min x.depth y.depth<cLine/\A.units+min (PyData.depthAll xs) (PyData.depthAll a)<cLine:=by
     simp only[PyData.depthAll]at v;omega
    cases j with
    |zero=>
     have e:aJ (x::xs) (y::a)=Kl x y:=by
      have c:PyData.eqv x y=false:=h;rw[aJ,c];rfl
     rw[e];exact K3 x y A s _ _ _ _ B w n.1 o.1 l.1 m.1
    |succ j=>
     have e:aJ (x::xs) (y::a)=aJ xs a:=by
      have c:PyData.eqv x y=true:=g 0 (Nat.succ_pos _);rw[aJ,c];rfl
     rw[e];exact gA xs a A s _ _ _ _ C z n.2 o.2 l.2 m.2 j (Nat.lt_of_succ_lt_succ h1) (Nat.lt_of_succ_lt_succ b) (λi u=>g (i+1) (Nat.succ_lt_succ u)) h
end
section
variable {X:Cx}{k:Nat}
def yc:R2:=λx y H Q=>∃d e:qE,Rp H d x/\Rp H e y/\J5 d e/\d.depth<=60/\Q (.bl (Kl d e)) H
theorem og(i:Cu k X.A):Im X (compareOp .Lt) yc:=by
 intro c s r H x y v u Q I m n h;obtain⟨d,e,a,b,g,o,q⟩:=h;obtain⟨f,j⟩:=Cn I d x v a m;obtain⟨bs,l⟩:=Cn I e y u b n;have p:=i.units;exact K3 d e X.A s v u f bs j l (C6 d x a) (C6 e y b) g (by omega) _ _ _ _ ⟨.bl (Kl d e),H,I,rfl,q⟩
end
section
variable {X:Cx}
def uw(K:W.Frag):R2:=λx y H Q=>∃a b e c,x=.ref a/\y=.ref b/\Bm K H a e/\H b=some (.tup c)/\c≠[]/\e.length+c.length<=sizeLine/\
 ∀p d,A8 H d->d p=some (.tup (e++c))->Q (.ref p) d
theorem Wf(K:W.Frag)(D:X.K=K:=by rfl):Im X (binaryOp .Add) (uw K):=by
 subst D;intro d s S H x y v u Q I w z h;obtain⟨a,b,A,R,rfl,rfl,g,f,F,G,q⟩:=h;by_cases m:A=[]
 ·subst m;cases w;cases z;obtain⟨T,P,N,_⟩:=I.tuple g;obtain⟨Z,r2,O,_⟩:=I.tuple (Bm.of f);cases P;obtain⟨⟨U,B,t1,J⟩,l,i,n,j⟩:=N;obtain⟨⟨Y,C,t2,L⟩,o,r,M,c⟩:=O;simp only at i j r c;subst i j r c;exact concat_meets ⟨_,l,rfl⟩ ⟨_,o,rfl⟩ noFill_tuple_add seq_tuple_add PySem.F.slot_tuple_add PySem.F.entry_tuple_add (PySem.F.args_tuple_add_2 _ _) (tuple_addW0 a b _ _ n M B C J L rfl) ⟨l,o,.ref b,H,I,rfl,q b H (A8.refl H) f⟩
 ·exact Wg d s S H _ _ v u Q I w z ⟨a,b,A,R,rfl,rfl,g,Bm.of f,m,G,λe=>absurd e F,λ_ p E=>q p _ (A8.upd E) A5⟩
end
theorem Tw{K:W.Frag}{a:Addr}{xs:List V}{s:List Nat}{l:TT}{j:TE}{d:St}{D:Addr}{w:Hp}{Q:Hp->Prop}(g:Nat->List V->Hp->Prop)(h0:g 0 [] (upd w D (.lst [])))
  (B:∀i c H,i<=xs.length->g i c H->Be K H a xs)
  (C:∀i x c H,xs[i]?=some x->g i c H->l (some x::D6 s d) H λb n=>
   if b=true then j (some x::D6 s d) n λv o=>o D=some (.lst c)/\c.length<sizeLine/\g (i+1) (c++[v]) (upd o D (.lst (c++[v])))else g (i+1) c n)
  (F:∀d H Q h,(∀b f,Q b f->h b f)->l d H Q->l d H h)(E:∀d H Q h,(∀v f,Q v f->h v f)->j d H Q->j d H h)
  (z:∀c H,g xs.length c H->Q H):E4 1 s (je K a) (Gu 0) l j d D w Q:=by
 refine⟨λi m c H=>m=xs.length-i/\i<=xs.length/\g i c H,⟨xs.length,by simp,me _,h0⟩,?_⟩;rintro i m c f ⟨rfl,A,p⟩;have u:=B i c f A p;by_cases r:i<xs.length
 ·refine .inr ⟨⟨xs,xs[i],u,by simp[r]⟩,λx L y=>?_⟩;obtain⟨e,y⟩:=y;subst e;refine⟨⟨[some x],rfl,rfl⟩,?_⟩;refine F _ _ _ _ ?_ (C i x c _ (y xs u) p);intro b n q;cases b with
  |false=>exact⟨xs.length-(i+1),by omega,rfl,r,q⟩
  |true=>exact E _ _ _ _ (λv o ⟨G,I,J⟩=>⟨G,I,xs.length-(i+1),by omega,rfl,r,J⟩) q
 ·have e:i=xs.length:=by omega
  subst e;exact .inl ⟨⟨xs,u,da _⟩,z c f p⟩
section
variable {prog:oT}{w:px}{A:oW}{E:oi}{s:oF}{l:Addr}{xs:Array (Int×Tok)}
theorem Sd{Q:oi}(d:s.heap.IsTuple l (intItems xs))
  (h:∀a:oF,a={s with heap:=s.heap.push {cls:=.type "tuple_iterator",data:=.fields #[.ref l,.int 0 0] } }->
   (a.heap.IsTupleIter s.heap.objs.size l 0/\a.heap.IsTuple l (intItems xs))->(∀b∈[s.heap.objs.size,l],b<a.heap.objs.size)->l≠s.heap.objs.size->Q (.ref s.heap.objs.size) a):
  wpAny (model prog w) A (pyIter (.ref l)) Q E s:=by
 have f:l<s.heap.objs.size:=by obtain⟨_,e,_⟩:=d;exact dt e
 refine wpAny_pyIter_tuple d (h _ rfl ⟨⟨_,cb _ rfl,rfl,rfl⟩,?_⟩ (λb c=>?_) (gs f))
 ·exact d.at λo e=>b4 _ e
 show b<(s.heap.push _).objs.size;rw[Heap.size_push];rcases fe.mp c with rfl|c
 ·exact Nat.lt_succ_self _
 ·rcases fe.mp c with rfl|c
  ·exact Nat.lt_succ_of_lt f
  ·cases c
theorem Yc{h':Heap}(d:∀b o,b∉[s.heap.objs.size]->(s.heap.push {cls:=.type "tuple_iterator",data:=.fields #[.ref l,.int 0 0] }).get? b=some o->h'.get? b=some o):
  ∀b o,s.heap.get? b=some o->h'.get? b=some o:=λb o e=>by
 refine d b o (λa=>?_) (b4 _ e);rcases fe.mp a with c|a
 ·exact absurd (c▸dt e) (Nat.lt_irrefl _)
 ·cases a
theorem Ul{Q:oi}(n:A.handled=none)(q:s.heap.IsTuple l (intItems xs))(g:0<xs.size)
  (h:∀v h' a,(intItems xs)[argBest (λi j=>decide (numAt xs i<numAt xs j)) (xs.size-1)]?=some v->(∀b o,s.heap.get? b=some o->h'.get? b=some o)->Q v {s with heap:=h',toks:=a}):
  wpAny (model prog w) A (call (.builtin "min") [.ref l]) Q E s:=by
 refine call_min_walk (Sd q λc e r d f=>?_);subst e;refine⟨_,_,_,_,_,_,_,rfl,Walks.tuple (A:=A.in1) n _ l f (intItems xs),r,d,by simpa[intItems]using g,CmpOf.ints_lt (numAt xs) (λ_ _=>intItems_at),λv h' a m p=>?_⟩;exact h v h' a (by simpa[intItems]using m) (Yc p)
end
section
variable {X:Cx}
theorem Xh(z:X.calm=true):Em X (.builtin "min") (λxs H Q=>∃(p:Addr) (b:oB),xs=[.ref p]/\Bm X.K H p (b.map V.int)/\0<b.length/\∀m:Int,m∈b->(∀a∈b,m<=a)->Q (.int m) H):=by
 intro o s P H O N Q I r q;obtain⟨p,b,rfl,C,f,q⟩:=q;obtain⟨u,rfl,G⟩:=Kg r;cases G;obtain⟨w,F,E,L⟩:=I.tuple C;have l:=N0 F;obtain⟨c,h⟩:=l.allInts.items
 have e:b=c.toList.map (·.1):=by
  have y:=l.numsOf;have g:=nums_intItems c;rw[<- h]at g;exact y.symm.trans g
 have d:0<c.size:=by
  rw[e,List.length_map,Array.length_toList]at f;exact f
 have n:s.heap.IsTuple p w.toArray:=E;rw[h]at n;refine Ul (I.ok.hd z) n d λv K M D B=>?_;obtain⟨t,rfl⟩:=intItems_at D;obtain⟨J,x⟩:=argBest_lt (numAt c) (c.size-1);refine⟨.int _,H,I.kept B,⟨t,rfl⟩,q _ ?_ λa i=>?_⟩
 ·rw[e,numAt_eq];exact getD_mem (by rw[List.length_map,Array.length_toList];omega)
 ·rw[e]at i;obtain⟨j,A,rfl⟩:=mem_getD i;rw[List.length_map,Array.length_toList]at A;rw[<- numAt_eq];exact x j (by omega)
theorem Ot(K:W.Frag)(f:X.calm=true)(i:X.K=K:=by rfl):Em X (.builtin "min") (λxs H Q=>∃(p:Addr) (b:oB),xs=[.ref p]/\(Be K H p (b.map V.int)\/Bm K H p (b.map V.int))/\0<b.length/\∀m:Int,m∈b->(∀a∈b,m<=a)->Q (.int m) H):=by
 subst i;intro c s h H j g Q I r q;obtain⟨p,b,rfl,d|d,e,q⟩:=q
 ·exact Xg f c s h H _ g Q I r ⟨p,b,rfl,d,e,q⟩
 ·exact Xh f c s h H _ g Q I r ⟨p,b,rfl,d,e,q⟩
end
section
variable {X:Cx}
theorem Wz(K:W.Frag)(a:X.K=K:=by rfl):tj X (vf K):=by
 subst a;exact qr
def uv(K:W.Frag):R2:=λx y H Q=>∃a b d e,x=.ref a/\y=.ref b/\H a=some (.tup d)/\H b=some (.tup e)/\d.length+e.length<=sizeLine/\
 ∀p c,A8 H c->c p=some (.tup (d++e))->Q (.ref p) c
theorem i6(K:W.Frag)(D:X.K=K:=by rfl):Im X (binaryOp .Add) (uv K):=by
 subst D;intro d s R H x y v u Q I w z h;obtain⟨a,b,A,P,rfl,rfl,f,g,F,q⟩:=h;by_cases m:A=[]
 ·subst m;cases w;cases z;obtain⟨S,O,M,_⟩:=I.tuple (Bm.of f);obtain⟨Y,Z,N,_⟩:=I.tuple (Bm.of g);cases O;obtain⟨⟨T,B,t1,G⟩,l,i,n,j⟩:=M;obtain⟨⟨U,C,t2,J⟩,o,r,L,c⟩:=N;simp only at i j r c;subst i j r c;exact concat_meets ⟨_,l,rfl⟩ ⟨_,o,rfl⟩ noFill_tuple_add seq_tuple_add PySem.F.slot_tuple_add PySem.F.entry_tuple_add (PySem.F.args_tuple_add_2 _ _) (tuple_addW0 a b _ _ n L B C G J rfl) ⟨l,o,.ref b,H,I,rfl,q b H (A8.refl H) g⟩
 ·refine Wg d s R H _ _ v u Q I w z ⟨a,b,A,P,rfl,rfl,Bm.of f,Bm.of g,m,F,λe=>?_,λ_ p E=>q p _ (A8.upd E) A5⟩;subst e;exact q a H (A8.refl H) (by rw[List.append_nil];exact f)
end
structure yz(K:W.Frag)(C:Addr):Prop where
 makes:W.makesIn K C=true
 init:W.findIn K (.ref C) "__init__"=some (some (.builtin "object.__init__"))
 kp:W.keepIn K (.ref C)=true
section
variable {K:W.Frag}{x C:Addr}
theorem Ps:∀(b:List Addr) (us:List oI),Av (b.map V.ref) us->us=b.map Value.ref
 |[],us,r=>by
  cases r;rfl
 |a::b,us,r=>by
  cases r with
  |cons h t=>
   cases(show _=Value.ref a from h);rw[Ps b _ t];rfl
end
theorem Oi(l:Addr)(items:Array oI)(n:Nat)(p:Option Addr)(z:Array (Option oI))(x:oI)(e:oI->Bool)(j:Nat)(C:j<items.size)
  (g:e items[j]=true)(v:∀m (D:m<items.size),m<j->e items[m]=false):
  Meets (Builtin.«tuple.index» ⟨[.ref l,x],[]⟩)
   (λA R s=>s.heap.get? l=some {cls:=.type "tuple",dict:=p,data:=.seq items n,slots:=z}/\(∀y,y∈items->PySem.SeqAt.EqAt A.in1 s y x (e y))/\R (.ok (.ret (.int j s.toks))) {s with toks:=s.toks+1}):=by
 intro c w A R s h;obtain⟨u,r,h⟩:=h;unfold Builtin.«tuple.index»;refine a0 (wpAny_of_eq (show selfAndSome "tuple.index" "index" 1 3 {pos:=[Value.ref l,x] }=pure (Value.ref l,[x])from rfl) ?_);refine a0 (wpAny_tupleItemsOf u rfl ?_);refine a0 (bc (a0 (bc (a0 ?_))));rw[Nat.min_self,Std.Legacy.Range.forIn_eq_forIn_range'];refine wpAny_forIn_list _ (λa b o=>b=(none,())/\o=s/\∃i,a=List.range' i (items.size-i)/\i<=j) _ ?_ ?_ _ _ ⟨rfl,rfl,0,by simp[Std.Legacy.Range.size],me _⟩
 ·rintro k a b o ⟨rfl,rfl,i,d,B⟩;have f:i<items.size:=by omega
  rw[show items.size-i=(items.size-i-1)+1 by omega,List.range'_succ]at d;obtain⟨rfl,rfl⟩:=List.cons.inj d;rw[Array.getElem?_eq_getElem f];refine a0 (r _ (Array.getElem_mem f) c w _ _ ?_);by_cases q:k=j
  ·subst q;rw[g];refine a0 (a0 (wpAny_mkInt ?_));exact bc (bc (bc h))
  ·rw[v k f (by omega)];refine bc ⟨rfl,rfl,k+1,?_,by omega⟩;rw[show items.size-(k+1)=items.size-k-1 by omega]
 ·rintro b o ⟨rfl,rfl,i,d,B⟩
  have:items.size-i=0:=by
   have:=congrArg List.length d;simpa using this.symm
  omega
section
variable {X:Cx}
def ip(K:W.Frag):V->List V->Hp->VK->Prop:=λx b H Q=>∃(l:Addr) (a:oB) (y:Int) (j:Nat),x=.ref l/\b=[.int y]/\Bm K H l (a.map V.int)/\a[j]?=some y/\(∀m,m<j->a[m]? ≠some y)/\Q (.int (j:Nat)) H
theorem Y8:rm X "tuple.index" (ip X.K):=by
 intro A s σ H x vs v Z Q I S R h;obtain⟨l,a,y,j,rfl,rfl,K,o,N,q⟩:=h;cases S;obtain⟨u,rfl,P⟩:=R.one;obtain⟨c,r,⟨⟨Y,O,T,L⟩,e,g,n,i⟩,U⟩:=I.tuple K;simp only at g i;subst g i;have b:=r.length;rw[List.length_map]at b;have J:j<a.length:=(bA.mp o).1
 have p:∀m (d:m<c.toArray.size),S6 (.int y) c.toArray[m]=decide (a[m]?=some y):=by
  intro m d
  have f:m<a.length:=by
   rw[List.size_toArray]at d;omega
  have D:(a.map V.int)[m]?=some (V.int a[m]):=by rw[List.getElem?_map,List.getElem?_eq_getElem f];rfl
  obtain⟨w,G,M⟩:=r.get D
  have E:c.toArray[m]=w:=by
   have:=(bA.mp G).2;simpa using this
  rw[E,U4 M rfl,List.getElem?_eq_getElem f];show(a[m]==y)=_;by_cases z:a[m]=y<;>simp[z]
 refine call_meets F.slot_tuple_index ⟨_,e,rfl⟩ F.entry_tuple_index (F.args_tuple_index_2 _ _) (Oi l c.toArray n O L u (S6 (.int y)) j (by rw[List.size_toArray];omega) ?_ ?_) ⟨e,λz B=>?_,?_⟩
 ·rw[p j (by rw[List.size_toArray];omega),o];simp
 ·intro m d C;rw[p m d];exact l7 (N m C)
 ·exact Hl P rfl r (Ix a) z (by simpa using B)
 ·exact⟨.int (j:Nat),H,I.tok _,⟨_,rfl⟩,q⟩
end
section
variable {κ:Type} [DecidableEq κ]
def Af(kvs:List (κ×V))(k:κ):Option V:=(kvs.find? λa=>decide (a.1=k)).map (·.2)
def B6(kvs:List (κ×V))(k:κ)(v:V):List (κ×V):=
 if(kvs.any λa=>decide (a.1=k))=true then kvs.map (λa=>if a.1=k then(a.1,v)else a)else kvs++[(k,v)]
def C0(kvs:List (κ×V))(k:κ):List (κ×V):=kvs.filter λa=>decide (a.1≠k)
theorem C9{p:κ×V}{r:List (κ×V)}{k:κ}(e:p.1=k):Af (p::r) k=some p.2:=by simp[Af,List.find?_cons,e]
theorem C8{p:κ×V}{r:List (κ×V)}{k:κ}(e:¬p.1=k):Af (p::r) k=Af r k:=by simp[Af,List.find?_cons,e]
theorem Eg(k:κ):∀kvs:List (κ×V),(kvs.any λa=>decide (a.1=k))=(Af kvs k).isSome
 |[]=>rfl
 |p::r=>by
  rw[List.any_cons];by_cases e:p.1=k
  ·simp only[C9 e,decide_eq_true e,Bool.true_or,Option.isSome_some]
  ·rw[C8 e,decide_eq_false e,Bool.false_or];exact Eg k r
theorem Tg(k j:κ)(y:V):∀kvs:List (κ×V),Af (kvs.map λa=>if a.1=k then(a.1,y)else a) j=(Af kvs j).map λx=>if j=k then y else x
 |[]=>rfl
 |p::r=>by
  have b:=Tg k j y r;rw[List.map_cons];by_cases h:p.1=k
  ·rw[if_pos h];by_cases e:p.1=j
   ·rw[C9 (p:=(p.1,y)) e,C9 e,Option.map_some,if_pos (e.symm.trans h)]
   ·rw[C8 (p:=(p.1,y)) e,C8 e,b]
  ·rw[if_neg h];by_cases e:p.1=j
   ·rw[C9 (p:=p) e,C9 e,Option.map_some,if_neg (λz=>h (e.trans z))]
   ·rw[C8 (p:=p) e,C8 e,b]
theorem Pp(k j:κ)(y:V):∀kvs:List (κ×V),Af kvs k=none->Af (kvs++[(k,y)]) j=if j=k then some y else Af kvs j
 |[],_=>by
  by_cases e:k=j
  ·rw[if_pos e.symm];exact C9 (p:=(k,y)) e
  ·rw[if_neg (λz=>e z.symm)];exact C8 (p:=(k,y)) e
 |p::r,a=>by
  rw[List.cons_append];have b:¬p.1=k:=λz=>by rw[C9 z]at a;cases a
  rw[C8 b]at a;have c:=Pp k j y r a;by_cases e:p.1=j
  ·rw[C9 e,C9 e,if_neg (λz=>b (e.trans z))]
  ·rw[C8 e,C8 e,c]
theorem Ga(kvs:List (κ×V))(k j:κ)(y:V):Af (B6 kvs k y) j=if j=k then some y else Af kvs j:=by
 unfold B6;by_cases a:(kvs.any λc=>decide (c.1=k))=true
 ·rw[if_pos a,Tg];rw[Eg]at a;by_cases e:j=k
  ·obtain⟨x,b⟩:=Option.isSome_iff_exists.mp a;rw[if_pos e,e,b,Option.map_some,if_pos rfl]
  ·rw[if_neg e];cases Af kvs j with
   |none=>rfl
   |some x=>rw[Option.map_some,if_neg e]
 ·rw[if_neg a];refine Pp k j y kvs ?_;rw[Eg]at a;cases q:Af kvs k with
  |none=>rfl
  |some x=>rw[q]at a;exact(a rfl).elim
theorem Dh(kvs:List (κ×V))(k:κ)(v:V):(B6 kvs k v).length<=kvs.length+1:=by
 unfold B6;split
 ·rw[List.length_map];omega
 ·rw[List.length_append,List.length_cons,List.length_nil];omega
theorem Cs{kvs:List (κ×V)}{k:κ}(v:V)(h:Af kvs k=none):B6 kvs k v=kvs++[(k,v)]:=by
 unfold B6;rw[Eg,h];exact if_neg (by decide)
theorem Ge.cM(r:Ge o u):o.isSome=u.isSome:=by
 cases o with
 |none=>cases u with
  |none=>rfl
  |some _=>exact(show False from r).elim
 |some _=>cases u with
  |none=>exact(show False from r).elim
  |some _=>rfl
theorem Ge.getD(r:Ge o u)(a:Az d d'):Az (o.getD d) (u.getD d'):=by
 cases o with
 |none=>cases u with
  |none=>exact a
  |some _=>exact(show False from r).elim
 |some _=>cases u with
  |none=>exact(show False from r).elim
  |some _=>exact r
theorem KV.val{kvs:List (κ×V)}{vs:List (κ×oI)}(r:KV kvs vs)(k:κ):Ge (Af kvs k) (valueAt vs k):=by
 unfold KV at r
 induction r with
 |nil=>exact True.intro
 |@cons p q i c h t g=>
  obtain⟨d,f⟩:=h;by_cases e:p.1=k
  ·have a:q.1=k:=d.symm.trans e;have b:valueAt (q::c) k=some q.2:=by simp[valueAt,List.find?_cons,a]
   rw[C9 e,b];exact f
  ·have a:¬q.1=k:=λz=>e (d.trans z);have b:valueAt (q::c) k=valueAt c k:=by simp[valueAt,List.find?_cons,a]
   rw[C8 e,b];exact g
theorem KV.any(r:KV kvs vs)(k:κ):(kvs.any λa=>decide (a.1=k))=vs.any λa=>decide (a.1=k):=by
 unfold KV at r
 induction r with
 |nil=>rfl
 |cons h t b=>rw[List.any_cons,List.any_cons,b,h.1]
theorem KV.DS(r:KV kvs vs)(k:κ)(f:Az y u):
  KV (kvs.map λa=>if a.1=k then(a.1,y)else a) (vs.map λa=>if a.1=k then(a.1,u)else a):=by
 unfold KV at r⊢
 induction r with
 |nil=>exact .nil
 |@cons p q g i h t d=>
  rw[List.map_cons,List.map_cons];refine .cons ?_ d;obtain⟨b,c⟩:=h;by_cases e:p.1=k
  ·rw[if_pos e,if_pos (b.symm.trans e)];exact⟨b,f⟩
  ·rw[if_neg e,if_neg (λz=>e (b.trans z))];exact⟨b,c⟩
theorem KV.put(r:KV kvs vs)(k:κ)(a:Az y u):KV (B6 kvs k y) (stored vs k u):=by
 unfold B6 stored;rw[r.any k];by_cases e:(vs.any λb=>decide (b.1=k))=true
 ·rw[if_pos e,if_pos e];exact r.DS k a
 ·rw[if_neg e,if_neg e];exact Paired.snoc r ⟨rfl,a⟩
theorem KV.drop(r:KV kvs vs)(k:κ):KV (C0 kvs k) (without vs k):=by
 unfold KV at r⊢;unfold C0 without
 induction r with
 |nil=>exact .nil
 |@cons p q i j h t d=>
  obtain⟨c,g⟩:=h;rw[List.filter_cons,List.filter_cons];by_cases e:p.1=k
  ·have a:¬decide (p.1≠k)=true:=by simp[e]
   have b:¬decide (q.1≠k)=true:=by simp[c.symm.trans e]
   rw[if_neg a,if_neg b];exact d
  ·have f:¬q.1=k:=λz=>e (c.trans z);have a:decide (p.1≠k)=true:=by simp[e]
   have b:decide (q.1≠k)=true:=by simp[f]
   rw[if_pos a,if_pos b];exact .cons ⟨c,g⟩ d
theorem KV.length(r:KV kvs vs):kvs.length=vs.length:=Paired.length r
theorem S3(kvs:List (κ×V))(k:κ):(C0 kvs k).length<=kvs.length:=List.length_filter_le _ _
end
theorem P3{k:Eu}(r:Az (kV k) u):(Dn P w).is k u=true:=by
 cases k with
 |inl i=>obtain⟨t,e⟩:=(show∃t,u=Value.int i t from r);subst e;exact Sm P w i t
 |inr x=>obtain⟨t,e⟩:=(show∃t,u=Value.str x t from r);subst e;exact Sn P w x t
abbrev KT(H:Hp):ov->List ((oB×Int)×Addr×oI)->Prop:=Paired λp q=>p.1=q.1/\D9 H q.2.1 p.1/\Az p.2 q.2.2
theorem KT.val{H:Hp}{kvs:ov}{xs:List ((oB×Int)×Addr×oI)}(r:KT H kvs xs)(k:(oB×Int)):Ge (Af kvs k) ((atKey xs k).map (·.2)):=by
 induction r with
 |nil=>exact True.intro
 |@cons p q i c h t g=>
  obtain⟨d,_,f⟩:=h;by_cases e:p.1=k
  ·have a:q.1=k:=d.symm.trans e;have b:atKey (q::c) k=some q.2:=by simp[atKey,List.find?_cons,a]
   rw[C9 e,b];exact f
  ·have a:¬q.1=k:=λz=>e (d.trans z);have b:atKey (q::c) k=atKey c k:=by simp[atKey,List.find?_cons,a]
   rw[C8 e,b];exact g
theorem KT.DS(r:KT H kvs xs)(k:(oB×Int))(g:Az y u):
  KT H (kvs.map λb=>if b.1=k then(b.1,y)else b) (xs.map (putAt k u)):=by
 induction r with
 |nil=>exact .nil
 |@cons p q i j h t f=>
  rw[List.map_cons,List.map_cons];refine .cons ?_ f;obtain⟨a,c,d⟩:=h;unfold putAt;by_cases e:p.1=k
  ·rw[if_pos e,if_pos (a.symm.trans e)];exact⟨a,c,g⟩
  ·rw[if_neg e,if_neg (λz=>e (a.trans z))];exact⟨a,c,d⟩
theorem KT.put(r:KT H kvs xs)(k:(oB×Int))(c:D9 H b k)(a:Az y u):
  KT H (B6 kvs k y) (storedH xs k b u):=by
 have e:(kvs.any λd=>decide (d.1=k))=(atKey xs k).isSome:=by
  rw[Eg,(r.val k).cM,Option.isSome_map]
 unfold B6 storedH;rw[e];by_cases q:(atKey xs k).isSome=true
 ·rw[if_pos q,if_pos q];exact r.DS k a
 ·rw[if_neg q,if_neg q];exact Paired.snoc r ⟨rfl,c,a⟩
theorem KT.keeps(r:KT H kvs xs)(d:∀b c,H b=some (.tup c)->a b=some (.tup c)):KT a kvs xs:=
 Paired.JF r λ_ _ z=>⟨z.1,z.2.1.up d,z.2.2⟩
section
variable {P:oT}{w:px}{H:Hp}{h:Heap}{a:Addr}
theorem jo(ok:Jr P w H h)(e:Rd H a u):Bw P w H h a u:=e.ok ok
theorem Li(ok:Jr P w H h)(e:Rd H a (.dK kvs)):kvs.length<=sizeLine/\(a==sysModules)=false/\∃vs,KV kvs vs/\h.DictOf (Dn P w) a vs:=
 show Bw P w H h a (.dK kvs)from jo ok e
theorem ji(ok:Jr P w H h)(e:H a=some (.dK kvs)):kvs.length<=sizeLine/\(a==sysModules)=false/\∃vs,KV kvs vs/\h.DictOf (Dn P w) a vs:=Li ok (.inl e)
theorem Sc:∀{b:oB}{us:List oI},Av (b.map V.int) us->ItemsAre (intKind P w) b us
 |[],us,r=>by
  cases r;exact .nil
 |k::b,us,r=>by
  cases r with
  |cons h t=>
   obtain⟨c,rfl⟩:=h;exact .cons (by simp[intKind,Value.isInt]) (Sc t)
theorem Df{P:oT}{w:px}{A:oW}(b:A.units+20<cLine):(C4 P w).room A.in1:=by
 first|(show A.units+1+8<cLine;omega)|(show A.units+8<cLine;omega)
theorem Hk(ok:Jr P w H h)(e:D9 H a b):(C4 P w).is h b a:=by
 obtain⟨u,d,f⟩:=e;obtain⟨_,A,r,o,p,q,n,s⟩:=(show Bw P w H h a (.tup [.ref u,.int b.2])from ok a _ d);obtain⟨_,g,y,v,i,j,m,l⟩:=(show Bw P w H h u (.tup (b.1.map V.int))from ok u _ f);cases r with
 |cons x c=>
  cases c with
  |cons z c=>
   cases c;cases(show _=Value.ref u from x);obtain⟨t,rfl⟩:=z;exact⟨o,n,u,t,p,q,s,v,g.toArray,m,i,j,l,by simpa using Sc y⟩
theorem Mx(ok:Jr P w H h)(e:Rd H a (.dT kvs)):kvs.length<=sizeLine/\(a==sysModules)=false/\
  ∃xs,KT H kvs xs/\h.DictOfH (C4 P w) a xs:=by
 obtain⟨z,y,xs,r,o,f,d,g,i,j,n,s⟩:=(show Bw P w H h a (.dT kvs)from jo ok e);refine⟨z,y,xs,r,o,f,d,g,i,j,n,λx b=>?_,s⟩
 have all:∀{l:ov}{m:List ((oB×Int)×Addr×oI)},KT H l m->∀x∈m,(C4 P w).is h x.1 x.2.1:=by
  intro l m q
  induction q with
  |nil=>intro x b;exact nomatch b
  |@cons p q v A c t u=>
   intro x b;rcases fe.mp b with e|b
   ·subst e;exact Hk ok (by rw[<- c.1];exact c.2.1)
   ·exact u x b
 exact all r x b
theorem Ze(ok:Jr P w H h)(e:H a=some (.dT kvs)):kvs.length<=sizeLine/\(a==sysModules)=false/\
  ∃xs,KT H kvs xs/\h.DictOfH (C4 P w) a xs:=Mx ok (.inl e)
end
def Ct(H:Hp)(a:Addr)(y:V)(r:Option V):Prop:=
 (∃c k,Rd H a (.dK c)/\y=kV k/\r=Af c k)\/∃c k b,Rd H a (.dT c)/\y=.ref b/\D9 H b k/\r=Af c k
def Rc(H:Hp)(a:Addr)(y v:V)(d:Hp):Prop:=
 (∃c k,H a=some (.dK c)/\y=kV k/\c.length<sizeLine/\d=upd H a (.dK (B6 c k v)))\/
 ∃c k b,H a=some (.dT c)/\y=.ref b/\D9 H b k/\c.length<sizeLine/\d=upd H a (.dT (B6 c k v))
theorem Ct.k{H:Hp}{a:Addr}{kvs:List (Eu×V)}{k:Eu}(e:H a=some (.dK kvs)):Ct H a (kV k) (Af kvs k):=.inl ⟨kvs,k,.inl e,rfl,rfl⟩
theorem Ct.t{H:Hp}{a b:Addr}{kvs:ov}{k:(oB×Int)}(e:H a=some (.dT kvs))(c:D9 H b k):Ct H a (.ref b) (Af kvs k):=.inr ⟨kvs,k,b,.inl e,rfl,c,rfl⟩
theorem Rc.t{H:Hp}{a b:Addr}{kvs:ov}{k:(oB×Int)}{v:V}(e:H a=some (.dT kvs))(c:D9 H b k)(d:kvs.length<sizeLine):
  Rc H a (.ref b) v (upd H a (.dT (B6 kvs k v))):=.inr ⟨kvs,k,b,e,rfl,c,d,rfl⟩
section
variable {X:Cx}{pins:List (Addr×Obj)}{σ:St}{H:Hp}{s:oF}{a:Addr}{y v:V}{u r:oI}{o:Option V}{A:oW}{E:oi}
theorem Ao.big(I:Ao X pins σ H s):sysModules<s.heap.objs.size:=by
 have h:mainGlobals<s.heap.objs.size:=(I.mod.glob.keeps I.bk).lt;exact Nat.lt_trans (by decide) h
theorem Xm(C:A.units+20<cLine)(I:Ao X pins σ H s)(g:Ct H a y (some v))(q:Az y u)(h:∀d s',Ao X pins σ H s'->Az v d->Q d s'):
  wpAny (model X.prog X.w) A (getItem (.ref a) u) Q E s:=by
 rcases g with⟨n,k,e,i,l⟩|⟨n,k,b,e,i,w,l⟩
 ·subst i;obtain⟨z,x,F,c,f⟩:=Li I.aH e;obtain⟨d,j,m⟩:=Ge.some_of (v:=v) (o:=valueAt F k) (by rw[l];exact c.val k);exact wpAny_getItem_of (P3 q) f.mapOf j (h d _ (I.tok _) m)
 ·subst i;cases(show u=Value.ref b from q);obtain⟨z,x,G,c,f⟩:=Mx I.aH e;obtain⟨d,j,m⟩:=Ge.some_of (v:=v) (o:=(atKey G k).map (·.2)) (by rw[l];exact c.val k);obtain⟨p,B,D⟩:=dI.mp j;refine wpAny_getItem_heap (Df C) (Hk I.aH w) f B ?_;rw[D];exact h d _ (I.tok _) m
theorem xv(p:A.units+20<cLine)(I:Ao X pins σ H s)(g:Ct H a y o)(m:Az y u)(h:∀s',Ao X pins σ H s'->Q (.bool o.isSome) s'):
  wpAny (model X.prog X.w) A (compareOp .In u (.ref a)) Q E s:=by
 rcases g with⟨j,k,e,f,l⟩|⟨j,k,b,e,f,n,l⟩
 ·subst f;obtain⟨z,i,w,c,d⟩:=Li I.aH e;refine wpAny_in_of (P3 m) i d.mapOf ?_;rw[<- (c.val k).cM,<- l];exact h _ (I.tok _)
 ·subst f;cases(show u=Value.ref b from m);obtain⟨z,i,x,c,d⟩:=Mx I.aH e;refine wpAny_in_heap (Df p) (Hk I.aH n) i d ?_;have q:=(c.val k).cM;rw[Option.isSome_map]at q;rw[<- q,<- l];exact h _ (I.tok _)
theorem g8(p:A.units+20<cLine)(I:Ao X pins σ H s)(g:Ct H a y o)(m:Az y u)(h:∀s',Ao X pins σ H s'->Q (.bool (!o.isSome)) s'):
  wpAny (model X.prog X.w) A (compareOp .NotIn u (.ref a)) Q E s:=by
 rcases g with⟨j,k,e,f,l⟩|⟨j,k,b,e,f,n,l⟩
 ·subst f;obtain⟨z,i,w,c,d⟩:=Li I.aH e;refine wpAny_notIn_of (P3 m) i d.mapOf ?_;rw[<- (c.val k).cM,<- l];exact h _ (I.tok _)
 ·subst f;cases(show u=Value.ref b from m);obtain⟨z,i,x,c,d⟩:=Mx I.aH e;refine wpAny_notIn_heap (Df p) (Hk I.aH n) i d ?_;have q:=(c.val k).cM;rw[Option.isSome_map]at q;rw[<- q,<- l];exact h _ (I.tok _)
theorem Mc{t':Nat}(I:Ao X pins σ H s)(g:sr (H a))(f:Heap.SameBut a s.heap h')(e:∃q,h'.get? a=some q)(new:Bw X.prog X.w (upd H a c) h' a c):
  Ao X pins σ (upd H a c) {s with heap:=h',toks:=t'}:=
 I.write (x:=a) (e:=a) g (.inl rfl) (λb q d z=>(f.2 b d).trans z) e new
theorem Zc(z:kvs.length<=sizeLine)(e:(a==sysModules)=false)(b:KV kvs vs)(d:h'.DictOf (Dn P w) a vs):
  Bw P w c h' a (.dK kvs):=⟨z,e,vs,b,d⟩
theorem Xn(U:A.units+20<cLine)(I:Ao X pins σ H s)(g:Rc H a y v D)(L:Az y u)(K:Az v r)(h:∀s',Ao X pins σ D s'->Q () s'):
  wpAny (model X.prog X.w) A (setItem (.ref a) u r) Q E s:=by
 rcases g with⟨d,k,e,p,l,n⟩|⟨d,k,b,e,p,F,l,n⟩
 ·subst p n;obtain⟨z,w,Y,f,m⟩:=ji I.aH e;have C:Y.length<=sizeLine:=by rw[<- f.length];exact z
  have x:(B6 d k v).length<=sizeLine:=by have:=Dh d k v;omega
  refine wpAny_setItem_pairs (hsz:=C) (P3 L) m λJ j B=>h _ ?_;have T:∃q,J.get? a=some q:=let⟨q,_,_,i,_⟩:=j;⟨q,i⟩;exact Mc I (by rw[e];exact True.intro) B T (Zc x w (f.put k K) j)
 ·subst p n;cases(show u=Value.ref b from L);obtain⟨z,w,Z,f,m⟩:=Ze I.aH e;have C:Z.length<=sizeLine:=by rw[<- Paired.length f];exact z
  have x:(B6 d k v).length<=sizeLine:=by have:=Dh d k v;omega
  refine wpAny_setItem_heap (hsz:=C) (Df U) (Hk I.aH F) m λJ j B=>h _ ?_;obtain⟨q,N,M,i,O,P,R,_,S⟩:=j;refine Mc I (by rw[e];exact True.intro) B ⟨q,i⟩ ⟨x,w,_,(f.put k F K).keeps λc ys G=>?_,q,N,M,i,O,P,R,S⟩;rw[Ab (Bl G e (λz=>nomatch z))];exact G
end
section
variable {X:Cx}{pins:List (Addr×Obj)}{σ:St}{H:Hp}{s:oF}{a:Addr}{kvs:List (Eu×V)}{k:Eu}{u:oI}{A:oW}{E:oi}
theorem u5{more:List oI}(I:Ao X pins σ H s)(e:H a=some (.dK kvs))(d:Az (kV k) u)(l:Af kvs k=some v)(g:more=[]\/∃x,more=[x])
  (h:∀c s',Ao X pins σ (upd H a (.dK (C0 kvs k))) s'->Az v c->Q c s'):wpAny (model X.prog X.w) A (call (.builtin "dict.pop") (.ref a::u::more)) Q E s:=by
 obtain⟨z,p,j,b,f⟩:=ji I.aH e;obtain⟨c,C,D⟩:=Ge.some_of (v:=v) (o:=valueAt j k) (by rw[<- l];exact b.val k)
 have w:(keyPart u).isSome=true:=by
  cases k with
  |inl i=>obtain⟨t,q⟩:=(show∃t,u=Value.int i t from d);subst q;rfl
  |inr x=>obtain⟨t,q⟩:=(show∃t,u=Value.str x t from d);subst q;rfl
 have o:argsOk "dict.pop" ⟨.ref a::u::more,[]⟩:=by
  rcases g with q|⟨x,q⟩
  ·subst q;exact PySem.F.args_dict_pop_2 _ _
  ·subst q;exact PySem.F.args_dict_pop_3 _ _ _
 refine call_meetsIn PySem.F.slot_dict_pop f.typeIs PySem.F.entry_dict_pop o (meets_dict_pop_there (Dn X.prog X.w) a (P3 d) more g w)
  ⟨j,c,f,by rw[<- b.length];exact z,C,λn m B=>h c _ ?_ D⟩
 have r:∃q,n.get? a=some q:=let⟨q,_,_,y,_⟩:=m;⟨q,y⟩;exact Mc I (by rw[e];exact True.intro) B r (Zc (eI (S3 kvs k) z) p (b.drop k) m)
end
def su(i:Expr):Prop:=∀b a,subscripted i false b a=operate [b,a] (getItem b a)
theorem iy{prog:oT}{w:px}{A:oW}{E:oi}{s:oF}{env:Env}{b a:Expr}{pos:Pos}{T q:String}{Q:oi}
  (n:typeLookup (.type T) "__getitem__"=pure (some (.builtin q)))(p:su a)
  (h:wpAny (model prog w) A (eval b env) (λo e=>wpAny (model prog w) A (eval a env) (λi c=>c.TypeIs o T/\wpAny (model prog w) A (getItem o i) Q E c) E e) E s):
  wpAny (model prog w) A (eval (.Subscript b a pos) env) Q E s:=by
 refine Subscript_ (ka h (λo e j=>ka j (λi c d=>?_) λ_ _ x=>x) λ_ _ x=>x);obtain⟨m,d⟩:=d;unfold subscriptTail;refine a0 ?_;rw[getitemInPython_of_ne m.not_modules];refine a0 (wpAny_specialOf m n ?_)
 have g:wpAny (model prog w) A (subscripted a false o i) (λr f=>wpAny (model prog w) A (letTemporaryGo b o r>>=λ_=>pure r) Q E f) E c:=by
  rw[p o i];exact wpAny_operating (ka d (λr f l=>a0 (wpAny_letTemporaryGo (bc l))) λ_ _ x=>x)
 first
  |exact bc (a0 g)
  |exact a0 (bc (a0 g))
  |exact a0 g
theorem S0(I:Ao X c h H s)(g:Ct H a y o):s.TypeIs (.ref a) "dict":=by
 rcases g with⟨f,k,e,_,_⟩|⟨f,k,b,e,_,_,_⟩
 ·obtain⟨_,_,i,_,d⟩:=Li I.aH e;exact d.typeIs
 ·obtain⟨_,_,j,_,d⟩:=Mx I.aH e;exact d.typeIs
def we(e f:TE):TE:=λc H Q=>e c H λx d=>f c d λy b=>∃a v,x=.ref a/\Ct b a y (some v)/\Q v b
def yg(f e:TE):TE:=λc H Q=>f c H λy d=>e c d λx b=>∃a o,x=.ref a/\Ct b a y o/\Q (.bl o.isSome) b
def iz(f e:TE):TE:=λc H Q=>f c H λy d=>e c d λx b=>∃a o,x=.ref a/\Ct b a y o/\Q (.bl (!o.isSome)) b
def vh(g h tv:TE):TS:=λD b H=>tv b H λv d=>g b d λx e=>h b e λy f=>∃a c,x=.ref a/\Rc f a y v c/\D.nx b c
section
variable {X:Cx}{o i e value:Expr}{pos pos' rM:Pos}{td ty tv:TE}
theorem Er(w:X.A.units+20<cLine)(q:PE X o td)(hi:PE X i ty)(r:su i):PE X (.Subscript o i pos) (we td ty):=by
 intro b s d H Q I h;refine iy PySem.F.slot_dict_getitem.lookup r (C5 (q b s d H _ I h) λu E ⟨x,f,l,C,A⟩=>C5 (hi b E d f _ l A) λF G n=>?_);obtain⟨y,j,c,D,a,v,p,g,B⟩:=n;subst p;obtain rfl:u=Value.ref a:=C;exact⟨S0 c g,Xm w c g D λK J m z=>⟨v,j,m,z,B⟩⟩
theorem Ng(r:X.A.units+20<cLine)(hi:PE X i ty)(q:PE X o td):PC X .In i o (yg ty td):=by
 intro b s c H Q I h;refine C5 (hi b s c H _ I h) λD C ⟨y,d,j,B,w⟩=>C5 (q b C c d _ j w) λu E n=>?_;obtain⟨x,f,l,A,a,v,p,g,z⟩:=n;subst p;obtain rfl:u=Value.ref a:=A;exact xv r l g B λF m=>⟨.bl v.isSome,f,m,rfl,z⟩
theorem Dx(r:X.A.units+20<cLine)(hi:PE X i ty)(q:PE X o td):PC X .NotIn i o (iz ty td):=by
 intro b s c H Q I h;refine C5 (hi b s c H _ I h) λD C ⟨y,d,j,B,w⟩=>C5 (q b C c d _ j w) λu E n=>?_;obtain⟨x,f,l,A,a,v,p,g,z⟩:=n;subst p;obtain rfl:u=Value.ref a:=A;exact g8 r l g B λF m=>⟨.bl (!v.isSome),f,m,rfl,z⟩
theorem Ka(A:X.A.units+20<cLine)(w:PE X o td)(hi:PE X i ty)(B:PE X value tv)(z:swapsWith value (some (.Subscript o i pos')) pos.line X.env=pure false):
  PS X (.Assign [.Subscript o i pos'] value pos) (vh td ty tv):=by
 intro b s c H D I h;refine wpAny_Assign_Subscript (C5 (B b s c H _ I h) λr L ⟨v,d,l,G,C⟩=>C5 (w b L c d _ l C) λu M ⟨x,f,m,J,E⟩=>C5 (hi b M c f _ m E) λO P ⟨y,N,n,K,a,j,q,g,F⟩=>?_) z;subst q;obtain rfl:u=Value.ref a:=J;exact Xn A n g K G λQ p=>⟨c,j,p,F⟩
end
theorem Zb(h:Heap)(a:sysModules<h.objs.size):Bw P w H (h.push {cls:=.type "dict",data:=.dict #[] }) h.objs.size (.dK []):=
 ⟨me _,beq_eq_false_iff_ne.mpr (Ne.symm (gs a)),[],.nil,Heap.DictOf.new h⟩
theorem Zd(h:Heap)(a:sysModules<h.objs.size):Bw P w H (h.push {cls:=.type "dict",data:=.dict #[] }) h.objs.size (.dT []):=
 ⟨me _,beq_eq_false_iff_ne.mpr (Ne.symm (gs a)),[],.nil,_,#[],0,cb _ rfl,⟨rfl,rfl,rfl⟩,rfl,rfl,List.nodup_nil⟩
def qw:TE:=λ_ H Q=>∀p,H p=none->Q (.ref p) (upd H p (.dK []))
def qx:TE:=λ_ H Q=>∀p,H p=none->Q (.ref p) (upd H p (.dT []))
section
variable {X:Cx}{pos:Pos}
theorem al:PE X (.Dict [] [] pos) qw:=λa s b H Q I h=>
 wpAny_Dict_empty ⟨.ref s.heap.objs.size,_,I.laid (a:=s.heap.objs.size) (o:=.dK []) (t':=s.toks) (λ_ _ q=>b4 _ q) (da _) (Zb s.heap I.big),rfl,h _ (I.aH.fresh (da _))⟩
theorem Hq:PE X (.Dict [] [] pos) qx:=λa s b H Q I h=>
 wpAny_Dict_empty ⟨.ref s.heap.objs.size,_,I.laid (a:=s.heap.objs.size) (o:=.dT []) (t':=s.toks) (λ_ _ q=>b4 _ q) (da _) (Zd s.heap I.big),rfl,h _ (I.aH.fresh (da _))⟩
end
structure M1(X:Cx)(o:Expr)(m:Str)(apos:Pos)(e:Expr)(bO:Pos):Prop where
 base:attributeBase o m X.env (eval o X.env)=eval o X.env
 TR:((backTo bO (starEach [e] X.env)).all (λx=>!x.1)&&(backToKw bO (keywordEach [] X.env)).all (λx=>x.1.isSome)
  &&decide (([e]:List Expr).length+([]:List Keyword).length+(if([]:List Keyword).isEmpty then 0 else 1)<30))=true
 line:(apos.endLine==bO.line)=true
 trees:backTo bO (starEach [e] X.env)=[(false,eval e X.env)]
structure M2(X:Cx)(o:Expr)(m:Str)(apos:Pos)(e f:Expr)(bO:Pos):Prop where
 base:attributeBase o m X.env (eval o X.env)=eval o X.env
 TR:((backTo bO (starEach [e,f] X.env)).all (λx=>!x.1)&&(backToKw bO (keywordEach [] X.env)).all (λx=>x.1.isSome)
  &&decide (([e,f]:List Expr).length+([]:List Keyword).length+(if([]:List Keyword).isEmpty then 0 else 1)<30))=true
 line:(apos.endLine==bO.line)=true
 trees:backTo bO (starEach [e,f] X.env)=[(false,eval e X.env),(false,eval f X.env)]
def xa(H:Hp)(a:Addr):Prop:=(∃b,Rd H a (.dK b))\/∃b,Rd H a (.dT b)
theorem Ua(I:Ao X g m H s)(d:xa H a):
  s.TypeIs (.ref a) "dict"/\(∀b,Value.ref a=.ref b->∃c,s.heap.get? b=some c/\c.dict=none)/\(a==sysModules)=false:=by
 rcases d with⟨l,e⟩|⟨l,e⟩
 ·obtain⟨_,j,n,_,f⟩:=Li I.aH e;refine⟨f.typeIs,λb q=>?_,j⟩;cases q;obtain⟨c,_,_,h,i,_⟩:=f;exact⟨c,h,i.2.1⟩
 ·obtain⟨_,j,o,_,f⟩:=Mx I.aH e;refine⟨f.typeIs,λb q=>?_,j⟩;cases q;obtain⟨c,_,_,h,i,_⟩:=f;exact⟨c,h,i.2.1⟩
section
variable {X:Cx}{pins:List (Addr×Obj)}{σ:St}{H:Hp}{s:oF}{a:Addr}{y d:V}{u r:oI}{o:Option V}{A:oW}{E:oi}
theorem kx(w:A.units+20<cLine)(I:Ao X pins σ H s)(g:Ct H a y o)(p:Az y u)(n:Az d r)(h:∀q s',Ao X pins σ H s'->Az (o.getD d) q->Q q s'):
  wpAny (model X.prog X.w) A (call (.builtin "dict.get") [.ref a,u,r]) Q E s:=by
 rcases g with⟨m,k,e,i,l⟩|⟨m,k,b,e,i,v,l⟩
 ·subst i;obtain⟨z,j,B,c,f⟩:=Li I.aH e;refine call_meetsIn PySem.F.slot_dict_get f.typeIs PySem.F.entry_dict_get (PySem.F.args_dict_get_3 _ _ _) (meets_dict_get_default (Dn X.prog X.w) a (P3 p) j r) ⟨_,f.mapOf,h _ _ (I.tok _) ?_⟩;rw[l];exact(c.val k).getD n
 ·subst i;cases(show u=Value.ref b from p);obtain⟨z,j,x,c,f⟩:=Mx I.aH e;refine call_meetsIn PySem.F.slot_dict_get f.typeIs PySem.F.entry_dict_get (PySem.F.args_dict_get_3 _ _ _) (meetsH_dict_get_default (C4 X.prog X.w) a b j r) ⟨Df w,k,x,Hk I.aH v,f,h _ _ (I.tok _) ?_⟩;rw[l];exact(c.val k).getD n
end
def qu(f h g:TE):TE:=λb H Q=>f b H λx c=>∃a,x=.ref a/\xa c a/\h b c λy e=>g b e λz d=>∃o,Ct d a y o/\Q (o.getD z) d
def qy(f g:TE):TE:=λe H Q=>f e H λx c=>∃a,x=.ref a/\xa c a/\g e c λy d=>∃b k v,d a=some (.dK b)/\y=kV k/\Af b k=some v/\Q v (upd d a (.dK (C0 b k)))
section
variable {X:Cx}{o e f:Expr}{apos bO:Pos}{td ty tx:TE}
theorem ak(D:X.A.units+20<cLine)(C:PE X o td)(A:PE X e ty)(B:PE X f tx)(m:M2 X o "get" apos e f bO):PE X (.Call (.Attribute o "get" apos) [e,f] [] bO) (qu td ty tx):=by
 intro b s c H Q I h;refine wpAny_Call_method m.base m.TR m.line PySem.F.plainAttrs_dict PySem.F.slot_dict_get PySem.F.type_dict_get (C5 (C b s c H _ I h) λu N v=>?_);obtain⟨x,j,i,K,a,w,d,F⟩:=v;subst w;obtain rfl:u=Value.ref a:=K;obtain⟨P,R,_⟩:=Ua i d;refine⟨P,R,?_⟩;rw[m.trees]
 refine Calls.callWith_builtin rfl (Calls.evalArgs_plain (Calls.spliced_cons (C5 (A b N c j _ i F) λT O ⟨y,l,p,L,G⟩=>
  Calls.spliced_cons (C5 (B b O c l _ p G) λS Y ⟨z,n,q,M,U,g,J⟩=>Calls.spliced_nil ?_))))
 exact kx D q g L M λw' Z r E=>⟨_,n,r,E,J⟩
theorem am(A:PE X o td)(z:PE X e ty)(m:M1 X o "pop" apos e bO):PE X (.Call (.Attribute o "pop" apos) [e] [] bO) (qy td ty):=by
 intro b s g H Q I h;refine wpAny_Call_method m.base m.TR m.line PySem.F.plainAttrs_dict PySem.F.slot_dict_pop PySem.F.type_dict_pop (C5 (A b s g H _ I h) λu J p=>?_);obtain⟨x,i,c,F,a,r,d,D⟩:=p;subst r;obtain rfl:u=Value.ref a:=F;obtain⟨K,L,_⟩:=Ua c d;refine⟨K,L,?_⟩;rw[m.trees];refine Calls.callWith_builtin rfl (Calls.evalArgs_plain (Calls.spliced_cons (C5 (z b J g i _ c D) λN O ⟨y,M,j,G,C,k,v,q,w,l,E⟩=>Calls.spliced_nil ?_)));subst w;exact u5 j q G l (.inl rfl) λR P n B=>⟨v,_,n,B,E⟩
end
section
variable {κ:Type} [DecidableEq κ]
theorem O2{kvs:List (κ×V)}{k:κ}(h:Af kvs k=none):¬k∈kvs.map (·.1):=by
 intro m;obtain⟨p,a,e⟩:=gB.mp m;have q:(kvs.any λb=>decide (b.1=k))=true:=List.any_eq_true.mpr ⟨p,a,decide_eq_true e⟩;rw[Eg,h]at q;exact absurd q (by simp)
theorem X1{kvs:List (κ×V)}{k:κ}{v:V}(h:Af kvs k=some v):k∈kvs.map (·.1):=by
 have q:(kvs.any λb=>decide (b.1=k))=true:=by
  rw[Eg,h]
  all_goals rfl
 obtain⟨p,a,e⟩:=List.any_eq_true.mp q;exact gB.mpr ⟨p,a,of_decide_eq_true e⟩
theorem We:∀{l:List κ}{k:κ},l.Nodup->¬k∈l->(l++[k]).Nodup
 |[],k,_,_=>by simp
 |a::r,k,h,b=>by
  obtain⟨c,d⟩:=List.nodup_cons.mp h;show(a::(r++[k])).Nodup;refine List.nodup_cons.mpr ⟨λm=>?_,We d λm=>b (fe.mpr (Or.inr m))⟩;rcases hH.mp m with q|q
  ·exact c q
  ·exact b (fe.mpr (Or.inl (ly.mp q).symm))
theorem Wd{kvs:List (κ×V)}{k:κ}(v:V)(a:(kvs.map (·.1)).Nodup)(h:Af kvs k=none):((B6 kvs k v).map (·.1)).Nodup:=by
 rw[Cs v h,List.map_append];exact We a (O2 h)
theorem Xq{p:κ×V}{r:List (κ×V)}{k:κ}(e:p.1=k):C0 (p::r) k=C0 r k:=by
 unfold C0;rw[List.filter_cons,if_neg (by simp[e])]
end
section
variable {P:oT}{w:px}{A:oW}{E:oi}{s:oF}
theorem ai{ok g a val:oI}(f:IsItemIter s.heap it d i n ep ok g)
  (K:∀h',IsItemIterOut h' it d i n ep a val s.heap.objs.size->h'.get? s.heap.objs.size=some {cls:=.type "tuple",data:=.seq #[a,val] }->(∀b o,b≠it->s.heap.get? b=some o->h'.get? b=some o)->Q (.ref s.heap.objs.size) {s with heap:=h'}):
  wpAny (model P w) A (Builtin.Dict_items.pairFromOwner (.ref it) 6 a val) Q E s:=by
 unfold Builtin.Dict_items.pairFromOwner;refine a0 (wpAny_newTuple ?_);have r:it<s.heap.objs.size:=dt f;have e:IsItemIter (s.heap.push {cls:=.type "tuple",data:=.seq #[a,val] }) it d i n ep ok g:=b4 _ f;have m:(s.heap.push {cls:=.type "tuple",data:=.seq #[a,val] }).get? s.heap.objs.size=some {cls:=.type "tuple",data:=.seq #[a,val] }:=cb _ rfl;have p:∀b o,s.heap.get? b=some o->(s.heap.push {cls:=.type "tuple",data:=.seq #[a,val] }).get? b=some o:=λb o z=>b4 _ z;show wpAny (model P w) A (Builtin.Dict_items.ownedTupleIsFree (.ref it)>>=_) Q E {s with heap:=s.heap.push {cls:=.type "tuple",data:=.seq #[a,val] } };generalize s.heap.push {cls:=.type "tuple",data:=.seq #[a,val] }=G at e m p⊢;unfold Builtin.Dict_items.ownedTupleIsFree;refine a0 (a0 (wpAny_field e rfl (x:=.none) rfl (bc ?_)));simp only[if_true];refine a0 (wpAny_field e rfl (x:=ok) rfl (a0 (wpAny_field e rfl (x:=g) rfl ?_)));refine a0 (wpAny_setField_rec e (by simp) λH u B=>a0 ?_);have h:IsItemIter H it d i n ep a g:=u;refine wpAny_setField_rec h (by simp) λI v C=>a0 ?_;have j:IsItemIter I it d i n ep a val:=v;refine wpAny_setField_rec j (by simp) λJ x D=>a0 ?_;have l:IsItemIterOut J it d i n ep a val s.heap.objs.size:=x;refine wpAny_setField_rec l (by simp) λq y F=>a0 (wpAny_letGo (bc ?_));have up:∀b o,b≠it->G.get? b=some o->q.get? b=some o:=λb o c z=>F.extBut b o c (D.extBut b o c (C.extBut b o c (B.extBut b o c z)));exact K q y (up _ _ (Nat.ne_of_gt r) m) λb o c z=>up b o c (p b o z)
theorem Rz{ok v:oI}(a:IsItemIter s.heap it d i es.size ep ok v)(u:s.heap.get? d=some o)(q:o.data=.dict es ep)
  (D:es[i]?=some c)
  (C:∀h',IsItemIterOut h' it d (i+1) es.size ep c.key c.val s.heap.objs.size->h'.get? s.heap.objs.size=some {cls:=.type "tuple",data:=.seq #[c.key,c.val] }->(∀b o,b≠it->s.heap.get? b=some o->h'.get? b=some o)->Q (some (.ref s.heap.objs.size)) {s with heap:=h'}):
  wpAny (model P w) A (pyNext (.ref it)) Q E s:=by
 have g:s.TypeIs (.ref it) "dict_itemiterator":=⟨_,a,rfl⟩;have h:Builtin.Dict_items.ownsTuple "dict_itemiterator"=true:=by decide
 unfold pyNext;refine a0 (n4 (nT (name:=Str.ofString "__next__") g F.slot_dict_itemiterator_next (jR F.slot_dict_itemiterator_next g F.entry_dict_itemiterator_next ?_ (F.args_dict_itemiterator_next_1 _))));refine a0 (bc (a0 (a0 (a0 (wpAny_typeNameOfWhole_itemiter g (bc (a0 (wpAny_fieldsOf a rfl ?_))))))));simp only[h,if_true];show wpAny _ _ (if(Value.ref d==Value.none)=true then _ else _) _ _ s;rw[if_neg (show¬(Value.ref d==Value.none)=true from Bool.false_ne_true)];refine a0 (bc (a0 (wpAny_dictEntries u q ?_)));rw[if_neg (show¬((es.size:Int) != (es.size:Int))=true by simp)];refine a0 (bc (a0 (wpAny_dictEpoch u q ?_)));rw[if_neg (show¬((ep:Int) != (ep:Int))=true by simp)];refine bc ?_;simp only[show¬((i:Int)<0)by omega,if_false,Int.toNat_natCast,D];refine a0 (a0 (wpAny_typeNameOfWhole_itemiter g (bc (a0 (wpAny_isOneOf_itemiter g ?_)))));show wpAny _ _ (setField (.ref it) 3 (rawInt ((i:Int)+1))>>=_) _ _ s;refine a0 (wpAny_setField_rec a (by simp) λf x m=>?_)
 have j:IsItemIter f it d (i+1) es.size ep ok v:=by
  have e:((i+1:Nat):Int)=(i:Int)+1:=by omega
  unfold IsItemIter;rw[e];simpa[rawInt]using x
 have l:Shared.TypeIs {s with heap:=f} (.ref it) "dict_itemiterator":=⟨_,j,rfl⟩;refine a0 (hJ (a0 (wpAny_isOneOf_itemiter l (a0 (wpAny_isOneOf_itemiter l ?_)))));have G:f.objs.size=s.heap.objs.size:=m.1;refine ai (s:={s with heap:=f}) j λB n p y=>?_;rw[show(Shared.heap {s with heap:=f}).objs.size=s.heap.objs.size from G]at n p⊢;exact bc ⟨_,rfl,bc (C B n p λb o r z=>y b o r (m.extBut b o r z))⟩
end
section
variable {X:Cx}
theorem L9{e:Expr}{t u:TE}(h:PE X e t)(g:PE X e u):PE X e (λb H Q=>t b H Q\/u b H Q):=by
 intro a s b H Q I z;rcases z with z|z
 ·exact h a s b H Q I z
 ·exact g a s b H Q I z
end
theorem Vy:entryFor table "dict.update.loop"=some Builtin.«dict.update.loop»:=entryFor_of_tree (by kernel_rfl)
theorem Qp:plainId "dict.update.loop"=true:=by decide+kernel
section
variable {P:oT}{w:px}{A:oW}{R:Result->oF->Prop}{K:Type} [DecidableEq K] {knd:HeapKind P w K}
def Hy(ps:Nat->K×Addr×oI)(xs:List (K×Addr×oI))(i k:Nat):List (K×Addr×oI):=(List.range' i k).foldl (λxs j=>storedH xs (ps j).1 (ps j).2.1 (ps j).2.2) xs
theorem Tf{xs:List (K×Addr×oI)}{k:K}{a:Addr}{v:oI}:(storedH xs k a v).length<=xs.length+1:=by
 cases h:atKey xs k with
 |none=>
  rw[storedH_new h,List.length_append];exact da _
 |some p=>
  unfold storedH;simp[h]
theorem rc{l I d:Addr}{items:Array oI}{ps:Nat->K×Addr×oI}{h0:Heap}(no:A.in1.handled=none)(hu:knd.room A.in1)(N:l≠I)(z:d≠I)(M:d≠l)
  (C:∀j v,items[j]?=some v->∃t o n,v=.ref t/\t≠I/\t≠d/\h0.get? t=some o/\o.cls=.type "tuple"/\o.data=.seq #[.ref (ps j).2.1,(ps j).2.2] n)
  (jE:∀j,j<items.size->∀h:Heap,(∀b o,b≠I->b≠d->h0.get? b=some o->h.get? b=some o)->knd.is h (ps j).1 (ps j).2.1)(J:∀(h h':Heap) (j:Nat) xs,h.IsListIter I l j->h.DictOfH knd d xs->(∀b o,b≠I->h.get? b=some o->h'.get? b=some o)->h'.DictOfH knd d xs):
  ∀(k i:Nat) (s:oF) (xs:List (K×Addr×oI)) (H:Tok),items.size=i+k->(s.heap.IsListIter I l i/\s.heap.IsList l items)->s.heap.DictOfH knd d xs->(∀b o,b≠I->b≠d->h0.get? b=some o->s.heap.get? b=some o)->xs.length+k<=sizeLine->
   (∀h' G,h'.DictOfH knd d (Hy ps xs i k)->(∀b o,b≠I->b≠d->s.heap.get? b=some o->h'.get? b=some o)->R (.ok (.ret .none)) {s with heap:=h',toks:=G})->
   codeAny (model P w) A (.builtin "dict.update.loop" ⟨[.ref d,.ref I,.int i H,.none],[]⟩) R s:=by
 have W:=Walks.list (prog:=P) (w:=w) (A:=A.in1) no I l N items;intro k
 induction k with
 |zero=>
  intro i s xs H Z m D B hz y;refine codeAny_builtin Vy ?_;rw[Around.under_plainId Qp _];show wpAny (model P w) A.in1 (pyNext (.ref I)>>=_) _ _ s;have Q:i=items.size:=by omega
  refine a0 (W.done s _ _ (Q▸m) λc u F=>?_);show wpAny (model P w) A.in1 (Builtin.Dict.addKeywords d []>>=_) _ _ _;refine a0 ?_;unfold Builtin.Dict.addKeywords;refine bc (bc ?_);have g:∀b o,b≠I->s.heap.get? b=some o->c.get? b=some o:=λb o a e=>F b o (by simpa using a) e;exact y c u (J _ _ _ _ m.1 D g) λb o a _ e=>g b o a e
 |succ k ih=>
  intro i s xs H Z m D B hz y;refine codeAny_builtin Vy ?_;rw[Around.under_plainId Qp _];show wpAny (model P w) A.in1 (pyNext (.ref I)>>=_) _ _ s;refine a0 (W.item i s _ _ (by omega) m λv c u U L F=>?_);have g:∀b o,b≠I->s.heap.get? b=some o->c.get? b=some o:=λb o a e=>F b o (by simpa using a) e;obtain⟨t,o,n,rfl,r,E,ht,X,Y⟩:=C i _ U;have q:=g _ _ r (B _ _ r E ht);have mO:=J _ _ _ _ m.1 D g;have p:∀b o,b≠I->b≠d->h0.get? b=some o->c.get? b=some o:=λb o a f e=>g b o a (B b o a f e);refine a0 ?_;refine hJ ?_;refine a0 (wpAny_tryCatch ?_);unfold Builtin.Dict.pairItems;refine a0 (wpAny_typeOf (T:="tuple") (s:={s with heap:=c,toks:=u}) ⟨o,q,X⟩ ?_);rw[if_pos (by decide)];refine a0 (hO (s:={s with heap:=c,toks:=u}) q Y ?_);refine bc ?_;show wpAny (model P w) A.in1 (holding [.ref (ps i).2.1,(ps i).2.2] (dictSet d (.ref (ps i).2.1) (ps i).2.2)) _ _ _;refine hJ ?_;refine wpAny_dictSet_heap (s:={s with heap:=c,toks:=u}) hu (jE i (by omega) c p) mO (λT oA sT=>?_) (by omega);have x:∀b o,b≠d->c.get? b=some o->T.get? b=some o:=λb o a e=>(sT.2 b a).trans e;refine bc ⟨mD Qp _,?_⟩;have kA:(storedH xs (ps i).1 (ps i).2.1 (ps i).2.2).length<=xs.length+1:=Tf;refine ih (i+1) _ (storedH xs (ps i).1 (ps i).2.1 (ps i).2.2) _ (by omega) ⟨?_,?_⟩ oA (λb o a f e=>x b o f (p b o a f e)) (by omega) λh' G S O=>?_
  ·exact L.1.at λo e=>x _ _ z.symm e
  ·exact L.2.at λo e=>x _ _ M.symm e
  ·exact y h' G S λb o a f e=>O b o a f (x b o f (g b o a e))
end
theorem ky:mroOf (.type "dict")=pure [.type "dict",.type "object"]:=by rw[mroOf_type];kernel_rfl
theorem Xp:typeLookup (.type "dict") "__new__"=pure (some (.builtin "dict.__new__")):=by rw[typeLookup_type,builtinLookup_eq_fast];kernel_rfl
theorem Q6:TypeCalled "dict" "dict.__new__" "dict.__init__":=
 ⟨by decide+kernel,by decide+kernel,⟨_,_,ky⟩,madeBy_type ky Xp (by decide+kernel),by decide+kernel,by rw[isSubtype_type];kernel_rfl,PySem.F.slot_dict_init⟩
theorem O0(a:oI):checkTypeCall "dict" ⟨[a],[]⟩=pure ():=by kernel_rfl
theorem Og(a:oI):checkBuiltinCall "dict.__new__" ⟨[.type "dict",a],[]⟩=pure ():=by kernel_rfl
theorem Lx:entryFor table "dict.__new__"=some Builtin.«dict.__new__»:=entryFor_of_tree (by kernel_rfl)
theorem Gw:plainId "dict.__new__"=true:=by decide+kernel
theorem Nx:isSubtype (.type "dict") (.type "dict")=pure true:=by rw[isSubtype_type];kernel_rfl
theorem Lu(a b:oI):argsOk "dict.__init__" ⟨[a,b],[]⟩:=by
 unfold argsOk
 kernel_rfl
theorem Qd:typeLookup (.type "list") (Str.ofString "keys")=pure none:=by rw[typeLookup_type,builtinLookup_eq_fast];kernel_rfl
section
variable {prog:oT}{w:px}{A:oW}{E:oi}{s:oF}
theorem Mm(a:oI){Q₁:oi}
  (h:Q₁ (.ref s.heap.objs.size) {s with heap:=s.heap.push {cls:=.type "dict",data:=.dict #[] } }):
  codeAny (model prog w) A (.call (.builtin "dict.__new__") ⟨[.type "dict",a],[]⟩) (wants Q₁ E) s:=by
 refine codeAny_of_tree ?_;show wpAny _ A.in1 (do checkBuiltinCall "dict.__new__" ⟨[.type "dict",a],[]⟩;again (.builtin "dict.__new__" ⟨[.type "dict",a],[]⟩)) _ _ s;refine a0 (wpAny_of_eq (Og a) (bc ⟨mD Gw _,codeAny_builtin Lx ?_⟩));rw[Around.under_plainId Gw _];have i:=Nx;have b:=ky;obtain⟨c,g,d,f,e⟩:=s;unfold Builtin.«dict.__new__»;dsimp only
 wp_walk
 exact h
theorem i0{l:Addr}{xs:Array oI}{k:Nat}{r:Array (Option oI)}{Q:Option oI->oF->Prop}(f:s.heap.get? l=some {cls:=.type "list",dict:=none,data:=.seq xs k,slots:=r})
  (n:A.handled=none)(h:∀h' j,(∀b o,s.heap.get? b=some o->h'.get? b=some o)->Q none {s with heap:=h',toks:=j}):wpAny (model prog w) A (getAttr? (.ref l) (Str.ofString "keys")) Q E s:=by
 obtain⟨p,g,d,j,q⟩:=s;have c:∀a,(⟨p,g,d,a,q⟩:oF).TypeIs (.ref l) "list":=λ_=>⟨_,f,rfl⟩;have v:=PySem.F.slot_list_getattribute.lookup;have x:=PySem.F.slot_list_getattribute.bind (.ref l);have y:=am_list_getattr_none;have m:=Qd;have u:=sub_AttributeError;unfold getAttr? getAttrBy?
 repeat (any_goals (first|assumption|exact c _|((with_reducible show wpAny _ _ (call (Value.builtin "list.__getattribute__") _ _) _ _ _);refine call_meets PySem.F.slot_list_getattribute (c _) am_entry_list_getattribute (PySem.F.args_list_getattribute_2 _ _) (meets_getattribute_miss_list _ _ _ _ _ _ m (by decide)) ⟨f,n,λh' a e i=>?_⟩)|wp_step))
 obtain⟨B,C,z⟩:=i.there;show wpAny _ _ (getattributeRaised _ _ _ _ _ _ _) _ _ _;unfold getattributeRaised
 repeat (any_goals (first|assumption|wp_step))
 exact h h' a i.keeps
end
section
variable {P:oT}{w:px}{A:oW}{E:oi}{s:oF}{R:Result->oF->Prop}
theorem S1{d l:Addr}{xs:Array oI}{k:Nat}{j:Array (Option oI)}{Q:PySem.Fin->oF->Prop}(g:A.handled=none)(i:s.TypeIs (.ref d) "dict")(a:s.heap.get? l=some {cls:=.type "list",dict:=none,data:=.seq xs k,slots:=j})
  (h:∀(h':Heap) (m:Nat),(∀b o,s.heap.get? b=some o->h'.get? b=some o)->Q (.again (.builtin "dict.update.loop" ⟨[.ref d,.ref h'.objs.size,.int 0 0,.none],[]⟩)) {s with heap:=h'.push {cls:=.type "list_iterator",data:=.fields #[.ref l,.int 0 0] },toks:=m}):
  wpAny (model P w) A (Builtin.«dict.__init__» ⟨[.ref d,.ref l],[]⟩) Q E s:=by
 unfold Builtin.«dict.__init__» Builtin.Dict.selfAndRest;refine a0 (a0 (wpAny_notOrdered_dict i ?_));refine a0 ?_;show wpAny _ _ (pure d) _ _ _;refine bc (bc ?_);show wpAny _ _ (Builtin.Dict.updateFrom "dict.__init__" d (.ref l) [] .none) _ _ _;unfold Builtin.Dict.updateFrom;refine a0 (wpAny_typeOf (T:="list") ⟨_,a,rfl⟩ ?_);rw[if_pos (by decide)];refine a0 (i0 a g λc f e=>?_);rw[if_pos (show(none:Option oI).isNone=true from rfl)];refine a0 (mC ?_);refine a0 (wpAny_pyIter_list (s:={s with heap:=c,toks:=f}) (items:=xs) ⟨_,e _ _ a,rfl,k,rfl⟩ ?_);exact bc (h c f e)
theorem Tu{K:Type}[DecidableEq K]{knd:HeapKind P w K}{l:Addr}{xs:Array oI}{k:Nat}{Z:Array (Option oI)}{ps:Nat->K×Addr×oI}{Q:oi}(F:A.handled=none)(U:knd.room A.in1.in1)(hz:xs.size<=sizeLine)
  (z:s.heap.get? l=some {cls:=.type "list",dict:=none,data:=.seq xs k,slots:=Z})
  (y:∀j v,xs[j]?=some v->∃t o n,v=.ref t/\s.heap.get? t=some o/\o.cls=.type "tuple"/\o.data=.seq #[.ref (ps j).2.1,(ps j).2.2] n)
  (Y:∀j,j<xs.size->∀h:Heap,(∀b o,s.heap.get? b=some o->h.get? b=some o)->knd.is h (ps j).1 (ps j).2.1)
  (G:∀d I (h h':Heap) (j:Nat) xs,h.IsListIter I l j->h.DictOfH knd d xs->(∀b o,b≠I->h.get? b=some o->h'.get? b=some o)->h'.DictOfH knd d xs)
  (x:∀(h:Heap) d,h.get? d=some {cls:=.type "dict",data:=.dict #[] }->h.DictOfH knd d [])
  (q:∀h' tk,h'.DictOfH knd s.heap.objs.size (Hy ps [] 0 xs.size)->(∀b o,s.heap.get? b=some o->h'.get? b=some o)->Q (.ref s.heap.objs.size) {s with heap:=h',toks:=tk}):
  wpAny (model P w) A (call (.type "dict") [.ref l]) Q E s:=by
 refine callType_codes (Q₁:=λg i=>g=.ref s.heap.objs.size/\i={s with heap:=s.heap.push {cls:=.type "dict",data:=.dict #[] } }) Q6 (O0 _) PySem.F.entry_dict_init (Mm _ ⟨rfl,rfl⟩) λg s1 f=>?_;obtain⟨rfl,rfl⟩:=f;have m:(s.heap.push {cls:=.type "dict",data:=.dict #[] }).get? s.heap.objs.size=some {cls:=.type "dict",data:=.dict #[] }:=cb _ rfl;refine⟨⟨_,m,rfl⟩,Lu _ _,?_⟩;refine S1 (s:={s with heap:=s.heap.push {cls:=.type "dict",data:=.dict #[] } }) F ⟨_,m,rfl⟩ (b4 _ z) λa kT f=>?_;refine⟨mD Qp _,?_⟩;have r:∀b o,s.heap.get? b=some o->a.get? b=some o:=λb o e=>f b o (b4 _ e);have u:s.heap.objs.size<a.objs.size:=dt (f _ _ m);have c:∀b o,s.heap.get? b=some o->b≠s.heap.objs.size/\b≠a.objs.size:=λb o e=>⟨gs (dt e),gs (dt (r b o e))⟩;have p:∀b o,a.get? b=some o->(a.push {cls:=.type "list_iterator",data:=.fields #[.ref l,.int 0 0] }).get? b=some o:=λb o e=>b4 _ e;have M:(a.push {cls:=.type "list_iterator",data:=.fields #[.ref l,.int 0 0] }).get? a.objs.size=some {cls:=.type "list_iterator",data:=.fields #[.ref l,.int 0 0] }:=cb _ rfl;obtain⟨C,D⟩:=c _ _ z;refine rc (knd:=knd) (A:=A.in1) (l:=l) (I:=a.objs.size) (d:=s.heap.objs.size) (items:=xs) (ps:=ps) (h0:=s.heap) F U D (gs u) C.symm ?_ ?_ (G _ _) xs.size 0 _ [] 0 (by omega) ⟨⟨_,M,rfl,rfl⟩,⟨_,p _ _ (r _ _ z),rfl,k,rfl⟩⟩ (x _ _ (p _ _ (f _ _ m))) (λb o _ _ e=>p _ _ (r b o e)) (by simpa using hz) λh' tW J H=>?_
 ·intro j v X;obtain⟨t,o,n,rfl,B,N,O⟩:=y j v X;exact⟨t,o,n,rfl,(c _ _ B).2,(c _ _ B).1,B,N,O⟩
 ·intro j T L S;exact Y j T L λb o e=>S b o (c _ _ e).2 (c _ _ e).1 e
 ·exact⟨rfl,q h' tW J λb o e=>H b o (c _ _ e).2 (c _ _ e).1 (p _ _ (r b o e))⟩
end
theorem Bq.frame{prog:oT}{w:px}{h h':Heap}{k:oB×Int}{a I l:Addr}{j:Nat}(x:Bq prog w h k a)(s:h.IsListIter I l j)(p:∀b o,b≠I->h.get? b=some o->h'.get? b=some o):Bq prog w h' k a:=by
 obtain⟨o,n,u,t,e,c,v,B,r,A,f,g,d,y⟩:=x;obtain⟨C,i,m,_⟩:=s
 have z:a≠I:=by
  rintro rfl;rw[i]at e;cases e;rw[m]at c;exact absurd c (by decide)
 have q:u≠I:=by
  rintro rfl;rw[i]at f;cases f;rw[m]at g;exact absurd g (by decide)
 exact⟨o,n,u,t,p _ _ z e,c,v,B,r,A,p _ _ q f,g,d,y⟩
theorem Bq.ext{prog:oT}{w:px}{h h':Heap}{k:oB×Int}{a:Addr}(x:Bq prog w h k a)(d:∀b o,h.get? b=some o->h'.get? b=some o):Bq prog w h' k a:=by
 obtain⟨o,n,u,t,j,f,g,q,e,p,l,m,c,i⟩:=x;exact⟨o,n,u,t,d _ _ j,f,g,q,e,p,d _ _ l,m,c,i⟩
theorem U1{prog:oT}{w:px}{d I l:Addr}{h h':Heap}{j:Nat}{xs:List ((oB×Int)×Addr×oI)}(f:h.IsListIter I l j)(s:h.DictOfH (C4 prog w) d xs)(g:∀b o,b≠I->h.get? b=some o->h'.get? b=some o):h'.DictOfH (C4 prog w) d xs:=by
 obtain⟨o,p,n,e,q,a,r,i,u⟩:=s
 have y:d≠I:=by
  rintro rfl;obtain⟨A,m,z,c⟩:=f;rw[m]at e;cases e;rw[c]at a;exact nomatch a
 exact⟨o,p,n,g _ _ y e,q,a,r,λx v=>Bq.frame (i x v) f g,u⟩
def B9(kvs:ov)(ps:ov):ov:=ps.foldl (λa p=>B6 a p.1 p.2) kvs
theorem Ez:∀(ps kvs:ov),(B9 kvs ps).length<=kvs.length+ps.length
 |[],kvs=>da _
 |p::ps,kvs=>by
  have a:=Ez ps (B6 kvs p.1 p.2);have b:=Dh kvs p.1 p.2;show(B9 (B6 kvs p.1 p.2) ps).length<=_;rw[List.length_cons];omega
theorem Zs{H:Hp}{ps:ov}{f:Nat->(oB×Int)×Addr×oI}(a:∀(j:Nat) q,ps[j]?=some q->(f j).1=q.1/\D9 H (f j).2.1 q.1/\Az q.2 (f j).2.2):
  ∀(k i:Nat) (kvs:ov) (xs:List ((oB×Int)×Addr×oI)),i+k=ps.length->KT H kvs xs->KT H (B9 kvs (ps.drop i)) (Hy f xs i k)
 |0,i,kvs,xs,e,r=>by
  rw[List.drop_of_length_le (by omega)];exact r
 |k+1,i,kvs,xs,e,r=>by
  have b:i<ps.length:=by omega
  obtain⟨c,d,g⟩:=a i ps[i] (eH b);rw[List.drop_eq_getElem_cons b];show KT H (B9 (B6 kvs ps[i].1 ps[i].2) (ps.drop (i+1))) (Hy f (storedH xs (f i).1 (f i).2.1 (f i).2.2) (i+1) k);rw[c];exact Zs a k (i+1) _ _ (by omega) (r.put _ d g)
section
variable {X:Cx}
def oy(K:W.Frag):List V->Hp->VK->Prop:=λe H Q=>∃(p:Addr) (c:List V) (a:ov),e=[.ref p]/\Be K H p c/\c.length=a.length/\
 (∀(j:Nat) u q,c[j]?=some u->a[j]?=some q->∃t b,u=.ref t/\H t=some (.tup [.ref b,q.2])/\D9 H b q.1)/\∀d,H d=none->Q (.ref d) (upd H d (.dT (B9 [] a)))
theorem Gg(K:W.Frag)(hu:X.A.units+24<cLine)(hc:X.calm=true)(hK:X.K=K:=by rfl):Em X (.type "dict") (oy K):=by
 subst hK;intro T s σ H xs WT Q I r h;obtain⟨p,Y,a,rfl,hq,M,bW,q⟩:=h;obtain⟨u0,rfl,ru⟩:=Av.one r;cases ru;obtain⟨u,U,pl,hz⟩:=I.list hq;obtain⟨⟨S,od,E,iU⟩,n,e,N,Z,zH⟩:=pl;simp only at N Z zH;subst N Z zH;have kA:=Av.length U
 have ex:∀j:Nat,∃x:(oB×Int)×Addr×oI,∀q,a[j]?=some q->(x.1=q.1/\D9 H x.2.1 q.1/\Az q.2 x.2.2)/\∀v,u[j]?=some v->∃t o n,v=.ref t/\s.heap.get? t=some o/\o.cls=.type "tuple"/\o.data=.seq #[.ref x.2.1,x.2.2] n:=by
  intro j;cases i:a[j]? with
  |none=>exact⟨(([],0),0,.none),λq z=>nomatch z⟩
  |some q=>
   have WU:=(bA.mp i).1;have g:Y[j]?=some Y[j]:=eH (by omega);obtain⟨t,b,eu,ht,hb⟩:=bW j _ q g i;obtain⟨_,fQ,r2,o,h1,w,m,h3⟩:=I.aH t _ ht;obtain⟨v1,v2,rfl,F,G⟩:=Av.two r2;cases F;refine⟨(q.1,b,v2),λq' z=>?_⟩;cases z;refine⟨⟨rfl,hb,G⟩,λv c=>?_⟩;obtain⟨w',ew,O⟩:=U.get g;rw[ew]at c;cases c;rw[eu]at O;cases O;exact⟨t,o,m,rfl,h1,w,h3⟩
 obtain⟨f,B⟩:=Classical.axiomOfChoice ex;have hA:=I.ok.hd hc;refine Tu (knd:=C4 X.prog X.w) (ps:=f) hA (Df (A:=X.A.in1) (by show X.A.units+1+20<cLine;omega)) (by rw[List.size_toArray];omega) e ?_ ?_ (λd I' h L j xs hI l C=>U1 hI l C) ?_ λL tk l C=>?_
 ·intro j v c;rw[List.getElem?_toArray]at c;have WU:=(bA.mp c).1;exact(B j _ (eH (show j<a.length by omega))).2 v c
 ·intro j i w tV;rw[List.size_toArray]at i;obtain⟨⟨e1,e2,_⟩,_⟩:=B j _ (eH (show j<a.length by omega));rw[e1];exact Bq.ext (Hk I.aH e2) tV
 ·intro w d y;exact⟨_,#[],0,y,⟨rfl,rfl,rfl⟩,rfl,rfl,(λx hx=>nomatch hx),List.nodup_nil⟩
 ·have P:H s.heap.objs.size=none:=I.aH.fresh (da _);rw[List.size_toArray]at l;have R:KT H (B9 [] (a.drop 0)) (Hy f [] 0 u.length):=Zs (λj q z=>(B j q z).1) u.length 0 [] [] (by omega) .nil;rw[List.drop_zero]at R;obtain⟨o,es,ep,ho,A,y,he,_,hn⟩:=l
  have D:(B9 [] a).length<=sizeLine:=by
   have z1:=Ez a [];rw[List.length_nil]at z1;omega
  have KJ:Bw X.prog X.w (upd H s.heap.objs.size (.dT (B9 [] a))) L s.heap.objs.size (.dT (B9 [] a)):=
   ⟨D,beq_eq_false_iff_ne.mpr (Ne.symm (gs I.big)),_,R.keeps (λb ys J=>by rw[Ab (Ag J P)];exact J),o,es,ep,ho,A,y,he,hn⟩
  exact⟨.ref s.heap.objs.size,_,I.laid (t':=tk) C (da _) KJ,rfl,q _ P⟩
end
section
variable {X:Cx}{pins:List (Addr×Obj)}{σ:St}{H:Hp}{s:oF}{k:Nat}
theorem Ik(I:Ao X pins σ H s){d:qE}{v:V}{u:oI}(h:Rp H d v)(r:Az v u):∃a,Reads s.heap u d a:=Cn I d v u h r
noncomputable def K2(h:Heap)(d:qE)(w:oI):Bool:=open Classical in if z:∃e a,Reads h w e a/\e.canLay0=true then PyData.eqv z.choose d else false
theorem N5{h:Heap}{d e:qE}{w:oI}{a:List Addr}(r:Reads h w e a)(b:e.canLay0=true):K2 h d w=PyData.eqv e d:=by
 have z:∃e a,Reads h w e a/\e.canLay0=true:=⟨e,a,r,b⟩;unfold K2;rw[dif_pos z];obtain⟨bs,c,f⟩:=z.choose_spec;rw[(PySem.SeqAt.Reads.unique e _ w a bs b r c)]
theorem Rn(I:Ao X pins σ H s){d:qE}:∀{ds:List qE}{vs:List V}{us:List oI},aF H ds vs->Av vs us->us.any (K2 s.heap d)=ds.any λe=>PyData.eqv e d
 |[],vs,us,h,r=>by
  unfold aF at h;subst h;cases r;rfl
 |e::ds,vs,us,h,r=>by
  unfold aF at h;obtain⟨x,i,rfl,a,b⟩:=h;cases r with
  |cons c f=>
   obtain⟨g,q⟩:=Ik I a c;rw[List.any_cons,List.any_cons,N5 q (C6 e x a),Rn I b f]
theorem N6(I:Ao X pins σ H s){A:oW}{d:qE}{x:V}{v:oI}(c:Rp H d x)(f:Az x v)(i:A.units+d.depth<cLine):∀{ds:List qE}{vs:List V}{us:List oI},aF H ds vs->Av vs us->∀w∈us,SeqAt.EqAt A s w v (K2 s.heap d w)
 |[],vs,us,h,r,w,b=>by
  unfold aF at h;subst h;cases r;cases b
 |e::ds,vs,us,h,r,w,b=>by
  unfold aF at h;obtain⟨y,o,rfl,a,g⟩:=h;cases r with
  |cons l m=>
   rcases fe.mp b with z|z
   ·subst z;obtain⟨n,q⟩:=Ik I a l;obtain⟨bs,j⟩:=Ik I c f;rw[N5 q (C6 e y a)];exact PySem.SeqAt.eqAt_reads e d A s _ _ _ _ q j (C6 e y a) (C6 d x c) (by omega)
   ·exact N6 I c f i g m w z
end
section
variable {X:Cx}{k:Nat}
def y6(K:W.Frag)(b:Bool):R2:=λx y H Q=>∃(p:Addr) (c:List V) (d:qE) (a:List qE),y=.ref p/\Be K H p c/\Rp H d x/\aF H a c/\d.depth<=50/\Q (.bl (if b then !(a.any λe=>PyData.eqv e d)else a.any λe=>PyData.eqv e d)) H
theorem Ye(K:W.Frag)(g:Cu k X.A)(e:X.K=K:=by rfl):Im X (compareOp .NotIn) (y6 K true):=by
 subst e;intro c s D H x y v u Q I m n h;obtain⟨p,C,d,o,rfl,f,j,a,z,q⟩:=h;cases n;obtain⟨b,r,l,B⟩:=I.list f;have A:=g.units;refine SeqAt.notIn_listAt (K2 s.heap d) l.isList (λw i=>N6 I j m (by show X.A.units+1+d.depth<cLine;omega) a r w (by simpa using i)) ⟨.bl _,H,I,rfl,?_⟩;rw[show b.toArray.any (K2 s.heap d)=b.any (K2 s.heap d)by simp,Rn I a r];exact q
end
abbrev lh(K:W.Frag):TG:=gk K 3 (P1 (Gu 0) (P1 (Gu 1) (P1 (Gu 2) lg)))
theorem Mp{K:W.Frag}{a:Addr}{xs:List V}{s:List Nat}{l:TT}{j:TE}{d:St}{D:Addr}{A:Hp}{Q:Hp->Prop}(g:Nat->List V->Hp->Prop)(h0:g 0 [] (upd A D (.lst [])))
  (I:∀i c H,i<=xs.length->g i c H->Be K H a xs)
  (J:∀i x c H,xs[i]?=some x->g i c H->∃T y z w,x=.ref T/\Bm K H T [y,z,w]/\l (some y::some z::some w::D6 s d) H λb n=>
   if b=true then j (some y::some z::some w::D6 s d) n λv o=>o D=some (.lst c)/\c.length<sizeLine/\g (i+1) (c++[v]) (upd o D (.lst (c++[v])))else g (i+1) c n)
  (N:∀d H Q h,(∀b f,Q b f->h b f)->l d H Q->l d H h)(M:∀d H Q h,(∀v f,Q v f->h v f)->j d H Q->j d H h)
  (F:∀c H,g xs.length c H->Q H):E4 3 s (je K a) (lh K) l j d D A Q:=by
 refine⟨λi m c H=>m=xs.length-i/\i<=xs.length/\g i c H,⟨xs.length,by simp,me _,h0⟩,?_⟩;rintro i m c f ⟨rfl,G,p⟩;have u:=I i c f G p;by_cases r:i<xs.length
 ·refine .inr ⟨⟨xs,xs[i],u,by simp[r]⟩,λv U y=>?_⟩;obtain⟨e,y⟩:=y;subst e;obtain⟨T,S,C,B,rfl,E,L⟩:=J i v c _ (y xs u) p;refine⟨T,_,rfl,E,rfl,_,_,rfl,C,_,rfl,B,_,rfl,rfl,⟨[some S,some C,some B],rfl,rfl⟩,?_⟩;refine N _ _ _ _ ?_ L;intro b n q;cases b with
  |false=>exact⟨xs.length-(i+1),by omega,rfl,r,q⟩
  |true=>exact M _ _ _ _ (λv o ⟨O,P,R⟩=>⟨O,P,xs.length-(i+1),by omega,rfl,r,R⟩) q
 ·have e:i=xs.length:=by omega
  subst e;exact .inl ⟨⟨xs,u,da _⟩,F c f p⟩
theorem Ds{k:Nat}{A:oW}(a:Cu k A):A.units+20<cLine:=by have:=a.units;omega
theorem gn{k:Nat}{A:oW}(a:Cu k A):A.units+24<cLine:=by have:=a.units;omega
section
variable {X:Cx}
theorem Yh{e:Expr}{t:TE}(h:PE X e t):PE X e (λb H Q=>∃N:VK,t b H N/\∀v c,N v c->Q v c):=by
 intro a s b H Q I z;obtain⟨N,z,m⟩:=z;refine C5 (h a s b H N I z) λv l j=>?_;obtain⟨x,d,f,i,g⟩:=j;exact⟨x,d,f,i,m _ _ g⟩
end
def N1:HO->Prop
 | .dK _=>True
 | .dT _=>True
 |_=>False
section
variable {X:Cx}{pins:List (Addr×Obj)}{σ:St}{H:Hp}{s:oF}{d:Addr}
theorem Ao.swap(I:Ao X pins σ H s)(e:H d=some v)(l:∀xs,v≠ .tup xs)(r:∀ps,v≠ .xS ps)(w:∀y,v≠ .own y)(A:∀o u,X.H₀ d≠some (.cF o u))(ok:Bw X.prog X.w (upd H d u) s.heap d u):Ao X pins σ (upd H d u) s:=by
 have h:∀b xs,H b=some (.tup xs)->(upd H d u) b=some (.tup xs):=λb xs z=>by
  rw[Ab (λy=>by rw[y,e]at z;exact l _ (Option.some.inj z))];exact z
 have g:∀b,H b=none->(upd H d u) b=none:=λb z=>by
  rw[Ab (λy=>by rw[y,e]at z;cases z)];exact z
 refine⟨I.ok,I.os,I.bare,⟨I.base.keep,I.base.slot,λb o q n j=>g b (I.base.free b o q n j),I.base.there,λb xs q=>h b xs (I.base.aZ b xs q),λb o x q=>?_,λb ps q=>?_⟩,I.loc,I.cell,g _ I.free,λx c z=>g c (I.cQ x c z),λp i=>?_,λb o q=>?_,I.len⟩
 ·have f:b≠d:=λy=>by
   rw[y]at q;exact A o x q
  rw[Ab f];exact I.base.eJ b o x q
 ·obtain⟨m,z⟩:=I.base.iM b ps q;refine⟨m,?_⟩;rw[Ab (λy=>by rw[y,e]at z;exact r _ (Option.some.inj z))];exact z
 ·obtain⟨a,b,c⟩:=I.pin p i;exact⟨a,g _ b,c⟩
 ·by_cases f:b=d
  ·subst f;rw[A5]at q;cases q;exact ok
  ·rw[Ab f]at q;refine(I.aH b o q).jD (λ_ _ _ z=>z) (λc z=>?_) h;rw[Ab (λy=>by rw[y,e]at z;exact w _ (Option.some.inj z))];exact z
theorem Ao.DT(I:Ao X pins σ H s)(e:H d=some v)(a:N1 v):∀o u,X.H₀ d≠some (.cF o u):=λo u z=>by
 have y:=I.base.eJ d o u z;rw[e]at y;cases y;exact a
theorem Ao.cF(I:Ao X pins σ H s)(e:H d=some v)(a:N1 v):∃o,s.heap.get? d=some o/\Ao X pins σ (upd H d (.cF o v)) s:=by
 have f:=I.aH d v e
 obtain⟨o,i⟩:∃o,s.heap.get? d=some o:=by
  cases v with
  |dK g=>obtain⟨_,_,_,_,o,_,_,z,_⟩:=f;exact⟨o,z⟩
  |dT g=>obtain⟨_,_,_,_,o,_,_,z,_⟩:=f;exact⟨o,z⟩
  |_=>exact a.elim
 have j:∀h,v≠ .tup h:=λh z=>by rw[z]at a;exact a
 have n:∀m,v≠ .xS m:=λm z=>by rw[z]at a;exact a
 have l:∀y,v≠ .own y:=λy z=>by rw[z]at a;exact a
 refine⟨o,i,I.swap e j n l (I.DT e a) ⟨i,f.jD (λ_ _ _ z=>z) (λc z=>?_) (λb h z=>?_)⟩⟩
 ·rw[Ab (λy=>by rw[y,e]at z;exact l _ (Option.some.inj z))];exact z
 ·rw[Ab (λy=>by rw[y,e]at z;exact j _ (Option.some.inj z))];exact z
theorem Ao.KL(I:Ao X pins σ H s)(e:H d=some (.cF o v))(a:∀o u,X.H₀ d≠some (.cF o u)):Ao X pins σ (upd H d v) s:=by
 refine I.swap e (λ_ z=>nomatch z) (λ_ z=>nomatch z) (λ_ z=>nomatch z) a ((I.aH d _ e).2.jD (λ_ _ _ z=>z) (λc z=>?_) (λb f z=>?_))
 ·rw[Ab (λy=>by rw[y,e]at z;cases z)];exact z
 ·rw[Ab (λy=>by rw[y,e]at z;cases z)];exact z
end
def vk(t:TS):TS:=λD c H=>∃d u,N1 u/\H d=some u/\t {D with nx:=λa b=>∃o,b d=some (.cF o u)/\D.nx a (upd b d u) } c H
def wu(t:TE):TE:=λb H Q=>∃d u,N1 u/\H d=some u/\t b H λv a=>∃o,a d=some (.cF o u)/\Q v (upd a d u)
section
variable {X:Cx}
theorem Qr{st:Stmt}{t:TS}(h:PS X st t):PS X st (vk t):=by
 intro a s m H D I z;obtain⟨d,u,i,e,z⟩:=z;have j:=I.DT e i;refine C5 (h a s m H _ I z) λf p q=>?_;cases f with
 |next=>
  obtain⟨b,n,c,o,g,l⟩:=q;exact⟨b,_,c.KL g j,l⟩
 |brk=>exact q
 |cont=>exact q
 |ret v=>exact q
theorem i9{t:TE}(h:PE X e t):PE X e (wu t):=by
 intro a s l H Q I z;obtain⟨d,u,g,f,z⟩:=z;have i:=I.DT f g;refine C5 (h a s l H _ I z) λv n q=>?_;obtain⟨x,m,b,r,o,c,j⟩:=q;exact⟨x,_,b.KL c i,r,j⟩
end
section
variable {P:oT}{w:px}{A:oW}{E:oi}{s:oF}
theorem Ry(c:(d==sysModules)=false)(b:s.heap.get? d=some o)(e:o.ExactDict)
  (h:Q (.ref s.heap.objs.size) {s with heap:=s.heap.push {cls:=.type "dict_items",data:=.fields #[.ref d] } }):wpAny (model P w) A (call (.builtin "dict.items") [.ref d]) Q E s:=by
 have a:s.TypeIs (.ref d) "dict":=⟨o,b,e.1⟩;refine jR F.slot_dict_items a F.entry_dict_items ?_ (F.args_dict_items_1 _);unfold Builtin.«dict.items» Builtin.Dict.noArgs;refine a0 (a0 (wpAny_notOrdered_dict a ?_));refine a0 (wpAny_of_eq (a:=()) rfl ?_);refine a0 (wpAny_of_eq (a:=Value.ref d) rfl ?_);refine wpAny_of_eq (a:=d) rfl ?_;refine a0 ?_;unfold Builtin.Dict.showsAll;rw[c,if_neg Bool.false_ne_true];refine bc ?_;refine a0 ?_;unfold newFields;exact jQ (bc ⟨_,rfl,h⟩)
theorem Vx(i:s.heap.IsItemsView v d)(e:s.heap.get? d=some o)(b:o.data=.dict es ep)
  (h:Q (.ref s.heap.objs.size) {s with heap:=s.heap.push {cls:=.type "dict_itemiterator",data:=.fields #[.none,.bool false,.ref d,.int 0 0,.int es.size 0,.int ep 0,.none,.none] } }):wpAny (model P w) A (pyIter (.ref v)) Q E s:=by
 obtain⟨j,a,f,g⟩:=i;have c:s.TypeIs (.ref v) "dict_items":=⟨j,a,f⟩;refine wpAny_pyIter_slot c F.slot_dict_items_iter (jR F.slot_dict_items_iter c F.entry_dict_items_iter ?_ (F.args_dict_items_iter_1 _));unfold Builtin.«dict_items.__iter__» Builtin.Dict_items.slot0 Builtin.Dict_items.dictOf Builtin.Dict_items.newIterator;refine a0 (a0 (wpAny_of_eq (a:=(Value.ref v,[])) rfl (bc ?_)));refine a0 (a0 (wpAny_field a g (x:=.ref d) rfl (wpAny_of_eq (a:=d) rfl ?_)));refine a0 (a0 (wpAny_dictEntries e b (a0 (wpAny_dictEpoch e b ?_))));show wpAny (model P w) _ (newObj (.type "dict_itemiterator") (.fields #[.none,.bool false,.ref d,.int 0 0,.int es.size 0,.int ep 0,.none,.none]) none) _ _ _;refine jQ (bc ⟨_,rfl,"dict_itemiterator",_,⟨_,cb _ rfl,rfl⟩,F.slot_dict_itemiterator_next.lookup,h⟩)
theorem Za{ok u:oI}(j:A.handled=none)(a:IsItemIter s.heap it d i es.size ep ok u)(l:s.heap.get? d=some o)(g:o.data=.dict es ep)
  (q:es[i]?=none)(n:∀h',Heap.ExtBut it s.heap h'->Q none {s with heap:=h'}):wpAny (model P w) A (pyNext (.ref it)) Q E s:=by
 have c:s.TypeIs (.ref it) "dict_itemiterator":=⟨_,a,rfl⟩;have f:Builtin.Dict_items.ownsTuple "dict_itemiterator"=true:=by decide
 unfold pyNext;refine a0 (n4 (nT (name:=Str.ofString "__next__") c F.slot_dict_itemiterator_next (jR F.slot_dict_itemiterator_next c F.entry_dict_itemiterator_next ?_ (F.args_dict_itemiterator_next_1 _))));refine a0 (bc (a0 (a0 (a0 (wpAny_typeNameOfWhole_itemiter c (bc (a0 (wpAny_fieldsOf a rfl ?_))))))));simp only[f,if_true];show wpAny _ _ (if(Value.ref d==Value.none)=true then _ else _) _ _ s;rw[if_neg (show¬(Value.ref d==Value.none)=true from Bool.false_ne_true)];refine a0 (bc (a0 (wpAny_dictEntries l g ?_)));rw[if_neg (show¬((es.size:Int) != (es.size:Int))=true by simp)];refine a0 (bc (a0 (wpAny_dictEpoch l g ?_)));rw[if_neg (show¬((ep:Int) != (ep:Int))=true by simp)];refine bc ?_;simp only[show¬((i:Int)<0)by omega,if_false,Int.toNat_natCast,q];refine a0 (a0 (wpAny_typeNameOfWhole_itemiter c (bc ?_)));show wpAny _ _ (setField (.ref it) 2 Value.none>>=_) _ _ s;refine a0 (wpAny_setField a rfl (by simp) ?_);generalize r:Heap.update s.heap it (Obj.mapFields (·.setIfInBounds 2 Value.none))=h
 have m:Heap.ExtBut it s.heap h:=by
  rw[<- r];exact λb v p e=>(fC _ _ (Ne.symm p)).trans e
 show wpAny (model P w) _ (newExc (.type "StopIteration") []>>=_) _ _ {s with heap:=h};refine a0 ?_;simp only[newExc,newTuple];refine a0 (jQ (T:="tuple") ?_ (by size_fits));refine a0 (m:=firstArgMember _ _) (wpAny_of_eq (a:=Value.none) (by first|rfl|simp only[firstArgMember]) ?_);refine jQ (T:="StopIteration") ?_ (by size_fits);simp only[raiseNew];refine a0 (wpAny_handled ?_)
 first|rw[show A.in1.handled=Option.none from j]|rw[j]
 refine a0 (bc (wpAny_throw ?_));refine a0 (my (T:="StopIteration") (b:=true) ⟨_,cb _ rfl,rfl⟩ isSubtype_stop ?_);exact bc (n _ ((m.push _).push _))
end
theorem Xo:entryFor table "dict_itemiterator.__iter__"=some Builtin.«dict_keyiterator.__iter__»:=
 entryFor_alias (id':="dict_keyiterator.__iter__") (by kernel_rfl) (by first|rfl|decide+kernel|(unfold String.splitOn;simp+decide [String.splitOnAux])) (by decide+kernel) (by kernel_rfl)
def xg:HO->Hp->Nat->V->V->Prop
 | .dT a,H,i,x,y=>∃k b,a[i]?=some (k,y)/\x=.ref b/\D9 H b k
 | .dK a,_,i,x,y=>∃k,a[i]?=some (k,y)/\x=kV k
 |_,_,_,_,_=>False
def Dk:HO->Nat
 | .dT a=>a.length
 | .dK a=>a.length
 |_=>0
def kd(d:Addr)(o:Obj)(u:HO):It:=
 ⟨λi H=>H d=some (.cF o u)/\i<Dk u,λi H v a=>∃T x y,v=.ref T/\H T=none/\a=upd H T (.tup [x,y])/\xg u H i x y,λi H=>H d=some (.cF o u)/\Dk u<=i⟩
theorem gz{k:Eu}(h:(Dn P w).is k u=true):Az (kV k) u:=by
 have a:K1 k u=true:=h;cases k with
 |inl i=>
  cases u<;>simp[K1,Value.isInt]at a
  subst a;exact⟨_,rfl⟩
 |inr x=>
  cases u<;>simp[K1,Value.isStrOf]at a
  subst a;exact⟨_,rfl⟩
theorem Gm:∀{xs:List b}{a:List c}{i:Nat},Paired F xs a->i<xs.length->∃x y,xs[i]?=some x/\a[i]?=some y/\F x y
 |_,_,i,.nil,h=>absurd h (by simp)
 |_,_,0,.cons r _,_=>⟨_,_,rfl,rfl,r⟩
 |_,_,i+1,.cons _ t,h=>by
  obtain⟨x,y,d,e,f⟩:=Gm (i:=i) t (by simpa using h);exact⟨x,y,by simpa using d,by simpa using e,f⟩
theorem Uo(h:Paired F xs a):xs.length=a.length:=by
 induction h with
 |nil=>rfl
 |cons r t d=>rw[List.length_cons,List.length_cons,d]
theorem P8{P:oT}{w:px}{K:Type}[DecidableEq K]{knd:PySem.KeyKind P w K}:∀{es:List DictEntry}{vs:List (K×oI)}{i:Nat}{a:K×oI},Pairs knd es vs->vs[i]?=some a->∃e,es[i]?=some e/\knd.is a.1 e.key=true/\e.val=a.2
 |_,_,i,a,.nil,h=>by simp at h
 |_,_,0,a,.cons d f _,h=>by
  cases(show some _=some _ from h);exact⟨_,rfl,d,f⟩
 |_,_,i+1,a,.cons _ _ t,h=>by
  obtain⟨e,b,c⟩:=P8 t (i:=i) (by simpa using h);exact⟨e,by simpa using b,c⟩
theorem Yg{P:oT}{w:px}{K:Type}[DecidableEq K]{knd:PySem.KeyKind P w K}{es:List DictEntry}{vs:List (K×oI)}(h:Pairs knd es vs):es.length=vs.length:=by
 induction h with
 |nil=>rfl
 |cons r q t a=>rw[List.length_cons,List.length_cons,a]
theorem Zf(ok:Bw P w H h d u)(G:N1 u)(z:h.get? d=some o)(v:o.data=.dict es ep):
  es.size=Dk u/\∀i,i<Dk u->∃e x y,es[i]?=some e/\Az x e.key/\Az y e.val/\xg u H i x y:=by
 cases u with
 |dT a=>
  obtain⟨_,_,N,r,I,K,L,b,F,c,l,m⟩:=ok;rw[z]at b;cases b;rw[v]at c;cases c;have s:=Uo r;refine⟨?_,λi n=>?_⟩
  ·show es.size=a.length;rw[<- Array.length_toList,l,List.length_map,s]
  ·obtain⟨p,q,f,g,j,A,B⟩:=Gm r n;refine⟨entryOfKey (C4 P w) q,.ref q.2.1,p.2,?_,rfl,B,p.1,q.2.1,f,rfl,A⟩;rw[<- Array.getElem?_toList,l,List.getElem?_map,g];rfl
 |dK a=>
  obtain⟨_,_,J,r,I,K,L,b,F,c,l,m,M⟩:=ok;rw[z]at b;cases b;rw[v]at c;cases c;have s:a.length=J.length:=r.length;refine⟨?_,λi n=>?_⟩
  ·show es.size=a.length;rw[<- Array.length_toList,Yg m,s]
  ·obtain⟨p,q,f,g,j⟩:=Gm r n;obtain⟨e,C,D,E⟩:=P8 m g;refine⟨e,kV p.1,p.2,by rw[<- Array.getElem?_toList];exact C,?_,?_,p.1,f,rfl⟩
   ·rw[j.1];exact gz D
   ·rw[E];exact j.2
 |_=>exact G.elim
theorem Ve{P:oT}{w:px}{K:W.Frag}{l:List Expr}{kk:Nat}{pos:Pos}{it d:Addr}{o:Obj}{u:HO}{es:Array DictEntry}{ep:Nat}(U:N1 u)(q:o.data=.dict es ep)(cE:d≠it):
  Tq P w K (.Tuple l kk pos) (kd d o u) [it] it (λi h=>∃ok g,IsItemIter h it d i es.size ep ok g)where
 mem:=by simp
 obj:=λi h ⟨ok,g,a⟩ b hb=>by
  have e:b=it:=by simpa using hb
  subst e;exact⟨_,a,λv z=>by cases z⟩
 keep:=λi h C ⟨ok,g,a⟩ k=>⟨ok,g,k it (by simp) _ a⟩
 item:=by
  intro X G M D f i p s σ H E I r ⟨ok,g,a⟩ ⟨N,m⟩;subst G M D;obtain⟨n,B⟩:=I.aH d _ N;obtain⟨L,Y⟩:=Zf B U n q;obtain⟨e,x,y,e1,rx,ry,hi⟩:=Y i m;have S:it<s.heap.objs.size:=dt a;refine Rz a n q e1 λC a1 a2 a3=>⟨_,rfl,?_⟩;refine wpAny_letOwnedTupleGo_items (s:={s with heap:=C}) a1 λZ b1 T=>?_;have R:Z.get? s.heap.objs.size=some {cls:=.type "tuple",data:=.seq #[e.key,e.val] }:=T.extBut _ _ (Nat.ne_of_gt S) a2;refine⟨.ref s.heap.objs.size,upd H s.heap.objs.size (.tup [x,y]),I.mM (t':=s.toks) (ch:=[it]) r (λc O f e=>?_) (da _) ?_,rfl,⟨_,x,y,rfl,I.fresh,rfl,hi⟩,⟨_,_,b1⟩,λc f=>?_⟩
  ·have j:c≠it:=by simpa using f
   exact T.extBut _ _ j (a3 c O j e)
  ·exact⟨⟨eI (by decide:2<=1000) (R0 (da _)),_,R,rfl⟩,[e.key,e.val],.cons rx (.cons ry .nil),⟨_,R,rfl,0,rfl⟩⟩
  ·have j:c=it:=by simpa using f
   subst j;rw[Ab (Nat.ne_of_lt S)];exact(r c f).1
 done:=by
  intro X G M D f i p s σ H E I r ⟨ok,g,a⟩ ⟨N,m⟩;subst G M D;obtain⟨n,B⟩:=I.aH d _ N;obtain⟨L,Y⟩:=Zf B U n q;refine Za (I.ok.hd f) a n q (Array.getElem?_eq_none (by omega)) λC eb=>⟨rfl,I.mN (t':=s.toks) (ch:=[it]) r λc O f e=>?_⟩;have j:c≠it:=by simpa using f
  exact eb c O j e
 self:=λA i s Q E ⟨ok,g,a⟩ hQ=>by
  have J:s.TypeIs (.ref it) "dict_itemiterator":=⟨_,a,rfl⟩;refine wpAny_pyIter_slot J F.slot_dict_itemiterator_iter (jR F.slot_dict_itemiterator_iter J Xo ?_ (F.args_dict_itemiterator_iter_1 _));exact bc ⟨_,rfl,"dict_itemiterator",_,J,F.slot_dict_itemiterator_next.lookup,hQ⟩
section
variable {X:Cx}
def ll(b:TE):TI:=λc H R=>b c H λx a=>∃d u,x=.ref d/\N1 u/\a d=some u/\∀o,R (kd d o u) (upd a d (.cF o u))
theorem K7{j:List Expr}{kk:Nat}{rM g pos:Pos}{e:Expr}{Q:TE}(he:PE X e Q)(mK:attributeBase e "items" X.env (eval e X.env)=eval e X.env:=by rfl)(mL:(g.endLine==pos.line)=true:=by rfl):
  PI X (.Tuple j kk rM) (.Call (.Attribute e "items" g) [] [] pos) (ll Q):=by
 intro p s σ H R I h;refine wpAny_Call_method0_late mK mL (C5 (he p s σ H _ I h) λv f Z=>?_);obtain⟨x,S,M,r1,d,u,ex,E,P,q⟩:=Z;subst ex;obtain rfl:v=Value.ref d:=r1;obtain⟨o,i,B⟩:=M.cF P E
 obtain⟨A,w,F,O,Y⟩:∃A w,o.ExactDict/\o.data=.dict A w/\(d==sysModules)=false:=by
  have N:=M.aH d u P;cases u with
  |dT G=>
   obtain⟨_,y,xs,r,o',K,L,l,C,D,_⟩:=N;rw[i]at l;cases l;exact⟨K,L,C,D,y⟩
  |dK G=>
   obtain⟨_,y,vs,r,o',K,L,l,C,D,_⟩:=N;rw[i]at l;cases l;exact⟨K,L,C,D,y⟩
  |_=>exact E.elim
 have hT:f.TypeIs (.ref d) "dict":=⟨o,i,F.1⟩;refine⟨"dict","dict.items",PySem.F.plainAttrs_dict,PySem.F.slot_dict_items,PySem.F.type_dict_items,hT,?_,Calls.callWith_builtin rfl (PySem.evalArgs_none (Ry Y i F ?_))⟩
 ·intro a z;cases z;exact⟨o,i,F.2.1⟩
 have U:(f.heap.push {cls:=.type "dict_items",data:=.fields #[.ref d] }).get? d=some o:=b4 _ i;refine Vx (s:={f with heap:=f.heap.push {cls:=.type "dict_items",data:=.fields #[.ref d] } }) ⟨_,cb _ rfl,rfl,rfl⟩ U O ?_;have hk:∀b J,f.heap.get? b=some J->((f.heap.push {cls:=.type "dict_items",data:=.fields #[.ref d] }).push {cls:=.type "dict_itemiterator",data:=.fields #[.none,.bool false,.ref d,.int 0 0,.int A.size 0,.int w 0,.none,.none] }).get? b=some J:=λb J z=>b4 _ (b4 _ z);have n:(f.heap.push {cls:=.type "dict_items",data:=.fields #[.ref d] }).objs.size=f.heap.objs.size+1:=by simp[Heap.push]
 have T:d<f.heap.objs.size:=dt i;refine⟨_,[_],_,kd d o u,upd S d (.cF o u),rfl,B.kept (t':=f.toks) hk,Ve (es:=A) (ep:=w) E O ?_,⟨.none,.none,cb _ rfl⟩,λc hc=>?_,q o⟩
 ·rw[n];exact gs (Nat.lt_succ_of_lt T)
 ·have m:f.heap.objs.size<=c:=by
   have:c=(f.heap.push {cls:=.type "dict_items",data:=.fields #[.ref d] }).objs.size:=by simpa using hc
   rw[this,n];omega
  exact B.rL m (B.aH.fresh m)
end
theorem Oz{o:Obj}{u:HO}{d:Addr}{g:TG}{r:TS}{D:Km}{a:St}{H:Hp}(b:Nat->St->Hp->Prop)(h0:b 0 a H)(C:∀i a H,i<=Dk u->b i a H->H d=some (.cF o u))
  (E:∀i x y T a H,i<Dk u->xg u H i x y->b i a H->H T=none->g (.ref T) a (upd H T (.tup [x,y])) λh j=>r {D with nx:=b (i+1),ct:=b (i+1),bk:=D.nx} h j)(A:∀a H,b (Dk u) a H->D.nx a H):
  ∃W:Nat->Nat->St->Hp->Prop,(∃m,W 0 m a H)/\∀i m a H,W i m a H->
   ((kd d o u).stop i H/\D.nx a H)\/((kd d o u).go i H/\∃N:St->Hp->Prop,(∀f c,N f c->∃n,n<m/\W (i+1) n f c)/\∀x c,(kd d o u).zB i H x c->g x a c λh j=>r {D with nx:=N,ct:=N,bk:=D.nx} h j):=by
 refine⟨λi m a H=>m=Dk u-i/\i<=Dk u/\b i a H,⟨Dk u,by simp,me _,h0⟩,?_⟩;rintro i m a H ⟨rfl,B,p⟩;have q:=C i a H B p;by_cases l:i<Dk u
 ·refine .inr ⟨⟨q,l⟩,b (i+1),λf c F=>⟨Dk u-(i+1),by omega,rfl,l,F⟩,λv c y=>?_⟩;obtain⟨T,x,z,rfl,w,rfl,s⟩:=y;exact E i x z T a H l s p w
 ·have e:i=Dk u:=by omega
  subst e;exact .inl ⟨⟨q,da _⟩,A a H p⟩
theorem Mo{K:W.Frag}{o:Obj}{u:HO}{d:Addr}{w:List Nat}{n:TT}{l:TE}{f:St}{D:Addr}{A:Hp}{Q:Hp->Prop}(g:Nat->List V->Hp->Prop)(h0:g 0 [] (upd A D (.lst [])))
  (I:∀i a H,i<=Dk u->g i a H->H d=some (.cF o u))
  (J:∀i x y T a H,i<Dk u->xg u H i x y->g i a H->H T=none->n (some x::some y::D6 w f) (upd H T (.tup [x,y])) λb r=>
   if b=true then l (some x::some y::D6 w f) r λv s=>s D=some (.lst a)/\a.length<sizeLine/\g (i+1) (a++[v]) (upd s D (.lst (a++[v])))else g (i+1) a r)
  (M:∀f H Q h,(∀b c,Q b c->h b c)->n f H Q->n f H h)(L:∀f H Q h,(∀v c,Q v c->h v c)->l f H Q->l f H h)
  (F:∀a H,g (Dk u) a H->Q H):E4 2 w (kd d o u) (u7 K) n l f D A Q:=by
 refine⟨λi m a H=>m=Dk u-i/\i<=Dk u/\g i a H,⟨Dk u,by simp,me _,h0⟩,?_⟩;rintro i m a c ⟨rfl,G,p⟩;have B:=I i a c G p;by_cases j:i<Dk u
 ·refine .inr ⟨⟨B,j⟩,λv R y=>?_⟩;obtain⟨T,x,z,rfl,E,rfl,C⟩:=y;refine⟨T,_,rfl,Bm.of A5,rfl,x,_,rfl,z,_,rfl,rfl,⟨[some x,some z],rfl,rfl⟩,?_⟩;refine M _ _ _ _ ?_ (J i x z T a c j C p E);intro b r q;cases b with
  |false=>exact⟨Dk u-(i+1),by omega,rfl,j,q⟩
  |true=>exact L _ _ _ _ (λv s ⟨N,O,P⟩=>⟨N,O,Dk u-(i+1),by omega,rfl,j,P⟩) q
 ·have e:i=Dk u:=by omega
  subst e;exact .inl ⟨⟨B,da _⟩,F a c p⟩
section
variable {prog:oT}{w:px}{K:Type} [DecidableEq K] {knd:HeapKind prog w K}{A:oW}{E:oi}{s:oF}{d a:Addr}{k:K}{xs:List (K×Addr×oI)}
theorem Xz{v:oI}(c:(xs.map (·.1)).Nodup)(b:k∉xs.map (·.1)):((xs++[(k,a,v)]).map (·.1)).Nodup:=by
 rw[List.map_append,List.nodup_append];refine⟨c,by simp,λx f y g=>?_⟩;have e:y=k:=by simpa using g
 rw[e];exact λe=>b (e▸f)
theorem d3{b:oI}{Q:oi}(r:knd.room A)(i:knd.is s.heap k a)(D:s.heap.DictOfH knd d xs)(hsz:xs.length<=sizeLine)
  (h1:∀p,atKey xs k=some p->Q p.2 {s with toks:=s.toks+knd.draws k})
  (B:atKey xs k=none->∀h',h'.DictOfH knd d (xs++[(k,a,b)])->Heap.SameBut d s.heap h'->Q b {s with heap:=h',toks:=s.toks+knd.draws k}):
  wpAny (model prog w) A (dictSetDefault d (.ref a) b) Q E s:=by
 obtain⟨o,z,y,f,C,c,h,n,l⟩:=D;unfold dictSetDefault
 try with_reducible refine hJ ?_
 refine a0 (knd.pyHash r i ?_);refine a0 (wpAny_dictFind_heap (s:={s with toks:=s.toks+knd.draws k}) r i f c h n l ?_ ?_)
 ·intro u;have v:k∉xs.map (·.1):=not_mem_keys_of_get u;have m:=atKey_none_of_get u
  have F:z.size<=sizeLine:=by
   have e:=size_of_entries h;omega
  refine a0 (mC (a0 (wpAny_updateDictKeys (hz:=F) (s:={s with toks:=s.toks+knd.draws k}) f c (bc (B m _
   ⟨_,_,y+1,iv _ f (Obj.isFreed_of_dict (Obj.data_mapDictKeys c _)),C.mapDictKeys _,Obj.data_mapDictKeys c _,?_,?_,Xz l v⟩ (jV ..))))))
  ·simp[h,entryOfKey]
  ·intro x g;rcases hH.mp g with g|g
   ·exact knd.keeps (n x g) f c (jV ..)
   ·cases ly.mp g;exact knd.keeps i f c (jV ..)
 ·intro j p q;have m:=atKey_of_get l q;refine a0 (wpAny_dictEntries (s:={s with toks:=s.toks+knd.draws k}) f c ?_);rw[entry_at h j,q];exact a0 (mC (bc (h1 p m)))
theorem Uk(l:(d==sysModules)=false)(b:oI):
  MeetsIn prog w (Builtin.«dict.setdefault» ⟨[.ref d,.ref a,b],[]⟩) (λA R s=>knd.room A.in1/\∃k xs,knd.is s.heap k a/\s.heap.DictOfH knd d xs/\xs.length<=sizeLine/\
   (∀p,atKey xs k=some p->R (.ok (.ret p.2)) {s with toks:=s.toks+knd.draws k})/\
   (atKey xs k=none->∀c,c.DictOfH knd d (xs++[(k,a,b)])->Heap.SameBut d s.heap c->R (.ok (.ret b)) {s with heap:=c,toks:=s.toks+knd.draws k})):=
 .of_wp λA R s ⟨o,k,xs,g,e,q,i,j⟩=>by
  unfold Builtin.«dict.setdefault» Builtin.Dict.keyAndDefault;refine a0 (a0 (wpAny_notOrdered_dict e.typeIs ?_));show wpAny _ _ (pure (d,Value.ref a,some b)) _ _ s;refine bc ?_;show wpAny _ _ (if(d==sysModules)=true then _ else(dictSetDefault d (.ref a) b>>=_)) _ _ s;rw[if_neg (by rw[l];exact Bool.false_ne_true)];exact a0 (d3 o g e q (λp n=>bc ⟨p.2,rfl,i p n⟩) λm c h f=>bc ⟨b,rfl,j m c h f⟩)
end
section
variable {X:Cx}{pins:List (Addr×Obj)}{σ:St}{H:Hp}{s:oF}{a b:Addr}{kvs:ov}{k:oB×Int}{z:V}{r:oI}{A:oW}{E:oi}
theorem u6(K:A.units+20<cLine)(I:Ao X pins σ H s)(e:H a=some (.dT kvs))(j:D9 H b k)(R:kvs.length<sizeLine)(M:Az z r)
  (h1:∀v o s',Af kvs k=some v->Ao X pins σ H s'->Az v o->Q o s')(F:Af kvs k=none->∀s',Ao X pins σ (upd H a (.dT (B6 kvs k z))) s'->Q r s'):
  wpAny (model X.prog X.w) A (call (.builtin "dict.setdefault") [.ref a,.ref b,r]) Q E s:=by
 obtain⟨O,m,u,g,i⟩:=Ze I.aH e;have L:u.length<=sizeLine:=by rw[<- Paired.length g];exact O
 have d:=g.val k;refine call_meetsIn PySem.F.slot_dict_setdefault i.typeIs PySem.F.entry_dict_setdefault (PySem.F.args_dict_setdefault_3 _ _ _) (Uk (knd:=C4 X.prog X.w) m r) ⟨Df K,k,u,Hk I.aH j,i,L,λp h=>?_,λG P N J=>?_⟩
 ·rw[h]at d;cases f:Af kvs k with
  |none=>rw[f]at d;exact d.elim
  |some v=>
   rw[f]at d;exact h1 v p.2 _ f (I.tok _) d
 ·rw[G]at d;cases f:Af kvs k with
  |some v=>rw[f]at d;exact d.elim
  |none=>
   have h:B6 kvs k z=kvs++[(k,z)]:=Cs z f;refine F f _ ?_;rw[h];obtain⟨q,x,w,n,y,B,C,_,D⟩:=N;refine Mc I (by rw[e];exact True.intro) J ⟨q,n⟩ ⟨by rw[List.length_append,List.length_singleton];omega,m,_,KT.keeps (Paired.snoc g ⟨rfl,j,M⟩) (λc S l=>?_),q,x,w,n,y,B,C,D⟩;rw[Ab (Bl l e (λz=>nomatch z))];exact l
end
def wf(h j i:TE):TE:=λe H Q=>h e H λx f=>∃a,x=.ref a/\xa f a/\j e f λy g=>i e g λz d=>∃c k b,y=.ref b/\D9 d b k/\d a=some (.dT c)/\c.length<sizeLine/\
 (∀v,Af c k=some v->Q v d)/\(Af c k=none->Q z (upd d a (.dT (B6 c k z))))
section
variable {X:Cx}{o e f:Expr}{apos bO:Pos}{td ty tx:TE}
theorem i8(M:X.A.units+20<cLine)(L:PE X o td)(F:PE X e ty)(G:PE X f tx)(m:M2 X o "setdefault" apos e f bO):PE X (.Call (.Attribute o "setdefault" apos) [e,f] [] bO) (wf td ty tx):=by
 intro c s i H Q I h;refine wpAny_Call_method m.base m.TR m.line PySem.F.plainAttrs_dict PySem.F.slot_dict_setdefault PySem.F.type_dict_setdefault (C5 (L c s i H _ I h) λu s1 A=>?_);obtain⟨x,n,j,Z,a,D,d,S⟩:=A;subst D;obtain rfl:u=Value.ref a:=Z;obtain⟨t1,t2,_⟩:=Ua j d;refine⟨t1,t2,?_⟩;rw[m.trees]
 refine Calls.callWith_builtin rfl (Calls.evalArgs_plain (Calls.spliced_cons (C5 (F c s1 i n _ j S) λO s2 ⟨y,p,r,ry,T⟩=>
  Calls.spliced_cons (C5 (G c s2 i p _ r T) λfv s3 ⟨z,q,w,l,R,k,b,E,C,B,J,U,Y⟩=>Calls.spliced_nil ?_))))
 subst E;obtain rfl:O=Value.ref b:=ry;exact u6 M w B C J l (λv w' s4 N g P=>⟨v,q,g,P,U v N⟩) λK s4 g=>⟨z,_,g,l,Y K⟩
theorem Wk(w:PE X a n)(A:∀b,isTrue a X.env b=(do let v <- b;standAt a.pos;holding [v] (truthy v)):=by intro _;rfl):
  PT X a (λj H Q=>n j H λx l=>∃d kvs,x=.ref d/\Rd l d (.dK kvs)/\Q (!kvs.isEmpty) l):=by
 intro c s j H Q I h;refine isTrue_plain (C5 (w c s j H _ I h) λv F ⟨x,p,m,E,d,kvs,r,y,D⟩=>?_) (A _);subst r;obtain rfl:v=Value.ref d:=E;obtain⟨z,C,i,g,q⟩:=Li m.aH y;have B:kvs.length=i.length:=g.length;have u:sizeLine<2^30:=by decide
 refine wpAny_truthy_dict C q (by omega) ⟨p,m.tok _,?_⟩
 have e:kvs.isEmpty=i.isEmpty:=by
  cases kvs<;>cases i<;>simp at B<;>rfl
 rw[<- e];exact D
end
open PySem PySem.Spec PyProof.Rows PySem.SeqAt
def kc(A:oW)(s:oF)(x y:oI)(b:Bool):Prop:=∀(a:oT) (w:px) (E:oi) (Q:oi),Q (.bool b) s->wpAny (model a w) A (richCompare .Gt x y) Q E s
theorem r8(l b:Addr)(xs a:Array oI)(n T:Nat)(H E:Option Addr)(X F:Array (Option oI))(e:Nat->Bool)(r:Bool):
  Meets (Builtin.«tuple.__gt__» ⟨[.ref l,.ref b],[]⟩)
   (λA R s=>s.heap.get? l=some {cls:=.type "tuple",dict:=H,data:=.seq xs n,slots:=X}/\s.heap.get? b=some {cls:=.type "tuple",dict:=E,data:=.seq a T,slots:=F}/\
    (∀j (o:j<xs.size) (p:j<a.size),EqAt A.in1 s xs[j] a[j] (e j))/\(∀j (o:j<xs.size) (p:j<a.size),(∀i,i<j->e i=true)->e j=false->kc A.in1 s xs[j] a[j] r)/\
    ((∀j,j<min xs.size a.size->e j=true)->r=decide (xs.size>a.size))/\R (.ok (.ret (.bool r))) s):=
 .of_wp λc w A R s h=>by
  obtain⟨N,g,d,tk,U⟩:=s;obtain⟨M,I,J,K,Q,h⟩:=h;have f2:=AutoSeq1.sub_tuple_tuple;have hZ:(xs.toList.zip a.toList).length=min xs.size a.size:=by simp
  wp_walk using wpAny_loadPart' M,wpAny_loadPart' I,wpAny_forIn_list _ (λf b C=>b.1=none/\C=⟨N,g,d,tk,U⟩/\∃i,f=(xs.toList.zip a.toList).drop i/\∀k,k<i->k<min xs.size a.size->e k=true) _
  case turn=>
   rintro⟨y,x⟩ f b C ⟨B,rfl,i,m,q⟩
   have G:i<(xs.toList.zip a.toList).length:=by
    apply Classical.byContradiction;intro z;rw[List.drop_of_length_le (by omega)]at m;cases m
   have o:i<xs.size:=by omega
   have p:i<a.size:=by omega
   rw[List.drop_eq_getElem_cons G]at m;injection m with D Y;have v:y=xs[i]:=by simpa using congrArg Prod.fst D
   have P:x=a[i]:=by simpa using congrArg Prod.snd D
   subst v P;refine a0 (J i o p c w _ _ ?_);cases v:e i with
   |true=>
    wp_walk
    refine⟨rfl,rfl,i+1,Y,λk u Z=>?_⟩;by_cases z:k=i
    ·rw[z];exact v
    ·exact q k (by omega) Z
   |false=>
    have S:=K i o p (λk u=>q k u (by omega)) v c w
    wp_walk using S _ _
    exact⟨_,rfl,h⟩
  case fin=>
   rintro⟨b1,b2⟩ C ⟨B,rfl,i,m,q⟩;simp only at B;subst B
   have sW:min xs.size a.size<=i:=by
    apply Classical.byContradiction;intro z;rw[List.drop_eq_getElem_cons (by omega)]at m;cases m
   have O:=Q λj L=>q j (by omega) L
   wp_walk
   refine⟨_,rfl,?_⟩;rw[O]at h;simpa[Builtin.Tuple.tupleCompareSizes]using h
  case h=>
   exact⟨rfl,rfl,0,rfl,λk u=>absurd u (mF k)⟩
mutual
def Yo:qE->qE->Bool
 | .int a,.int b=>decide (a>b)
 | .tuple c,.tuple d=>bL c d
 |_,_=>false
def bL:List qE->List qE->Bool
 |[],[]=>false
 |[],_::_=>false
 |_::_,[]=>true
 |x::a,y::b=>if PyData.eqv x y then bL a b else Yo x y
end
theorem P2:∀(xs a:List qE),(∀j,j<min xs.length a.length->pairEq xs a j=true)->bL xs a=decide (xs.length>a.length)
 |[],[],_=>rfl
 |[],y::a,_=>by simp[bL]
 |x::xs,[],_=>by simp[bL]
 |x::xs,y::a,h=>by
  have b:PyData.eqv x y=true:=h 0 (by simp only[List.length_cons];omega);have c:=P2 xs a λj d=>h (j+1) (by simp only[List.length_cons];omega);rw[bL,if_pos b,c];simp
mutual
theorem Sa:∀(i d:qE) (A:oW) (s:oF) (a b:oI) (X bs:List Addr),Reads s.heap a i X->Reads s.heap b d bs->i.canLay0=true->d.canLay0=true->J5 i d->
  A.units+min i.depth d.depth<cLine->kc A s a b (Yo i d)
 | .int x,d,A,s,_,_,_,_,I,J,_,_,c,p=>by
  cases d with
  |int y=>
   cases I with
   |int _ t=>
    cases J with
    |int _ u=>
     intro m w E Q h;exact richCompare_gives (op:=.Gt) (typeIs_int s _ t) (typeIs_int s _ u) F.slot_int_gt F.entry_int_gt (F.args_int_gt_2 _ _) (gives_int_gt _ _ t u) (λz=>nomatch z) h
  |none=>exact c.elim
  |bool _=>exact c.elim
  |str _=>exact c.elim
  |list _=>exact c.elim
  |tuple _=>exact c.elim
  |dict _=>exact c.elim
 | .tuple e,d,A,s,_,_,_,_,I,J,N,O,c,p=>by
  cases d with
  |tuple g=>
   cases I with
   |@tuple l o q n _ v K L M C=>
    cases J with
    |@tuple l' o' r n' _ B P R S H=>
     obtain⟨oc,od,TQ,iU⟩:=o;obtain⟨oc',U,WM,T⟩:=o';simp only at L M R S;subst L M R S;have n1:q.size=e.length:=by simpa using ReadsAll.length _ _ _ C
     have n2:r.size=g.length:=by simpa using ReadsAll.length _ _ _ H
     intro m w E Q h;refine richCompare_meets_room (op:=.Gt) ⟨_,K,rfl⟩ ⟨_,P,rfl⟩ F.slot_tuple_gt F.entry_tuple_gt (F.args_tuple_gt_2 _ _) (r8 l l' q r n n' od U iU T (pairEq e g) (bL e g)) ⟨K,P,λj D G=>?_,λj D G Y Z=>?_,λf=>?_,(λz=>nomatch z),h⟩ (room_here p)
     ·have:=eqAt_readsAll e g A.in1 s q.toList r.toList _ _ C H N O (room_in p) j (by simpa using D) (by simpa using G);simpa using this
     ·have:=gC e g A.in1 s q.toList r.toList _ _ C H N O c (room_in p) j (by simpa using D) (by simpa using G) Y Z;simpa using this
     ·rw[n1,n2]at f⊢;exact P2 e g f
  |none=>exact c.elim
  |bool _=>exact c.elim
  |str _=>exact c.elim
  |list _=>exact c.elim
  |int _=>exact c.elim
  |dict _=>exact c.elim
 | .none,_,_,_,_,_,_,_,_,_,_,_,c,_=>c.elim
 | .bool _,_,_,_,_,_,_,_,_,_,_,_,c,_=>c.elim
 | .str _,_,_,_,_,_,_,_,_,_,_,_,c,_=>c.elim
 | .list _,_,_,_,_,_,_,_,_,_,_,_,c,_=>c.elim
 | .dict _,_,_,_,_,_,_,_,_,_,_,_,c,_=>c.elim
theorem gC:∀(xs a:List qE) (A:oW) (s:oF) (vs ws:List oI) (p bs:List Addr),ReadsAll s.heap vs xs p->ReadsAll s.heap ws a bs->PyData.canLayAll0 xs=true->PyData.canLayAll0 a=true->bI xs a->
  A.units+min (PyData.depthAll xs) (PyData.depthAll a)<cLine->∀j (h1:j<vs.length) (b:j<ws.length),(∀i,i<j->pairEq xs a i=true)->pairEq xs a j=false->kc A s vs[j] ws[j] (bL xs a)
 |[],_,_,_,_,_,_,_,d,_,_,_,_,_,j,h1,_,_,_=>by cases d;exact absurd h1 (mF _)
 |_::_,[],_,_,_,_,_,_,_,f,_,_,_,_,j,_,b,_,_=>by cases f;exact absurd b (mF _)
 |x::xs,y::a,A,s,_,_,_,_,d,f,q,r,l,v,j,h1,b,g,h=>by
  cases d with
  |cons B C=>
   cases f with
   |cons w z=>
    have n:x.canLay0=true/\PyData.canLayAll0 xs=true:=by simpa[PyData.canLayAll0]using q
    have o:y.canLay0=true/\PyData.canLayAll0 a=true:=by simpa[PyData.canLayAll0]using r
    have m:A.units+min x.depth y.depth<cLine/\A.units+min (PyData.depthAll xs) (PyData.depthAll a)<cLine:=by
     simp only[PyData.depthAll]at v;omega
    cases j with
    |zero=>
     have e:bL (x::xs) (y::a)=Yo x y:=by
      have c:PyData.eqv x y=false:=h;rw[bL,c];rfl
     rw[e];exact Sa x y A s _ _ _ _ B w n.1 o.1 l.1 m.1
    |succ j=>
     have e:bL (x::xs) (y::a)=bL xs a:=by
      have c:PyData.eqv x y=true:=g 0 (Nat.succ_pos _);rw[bL,c];rfl
     rw[e];exact gC xs a A s _ _ _ _ C z n.2 o.2 l.2 m.2 j (Nat.lt_of_succ_lt_succ h1) (Nat.lt_of_succ_lt_succ b) (λi u=>g (i+1) (Nat.succ_lt_succ u)) h
end
section
variable {X:Cx}{k:Nat}
def z7:R2:=λx y H Q=>∃d e:qE,Rp H d x/\Rp H e y/\J5 d e/\d.depth<=60/\Q (.bl (Yo d e)) H
end
open PySem PySem.Spec PyProof.Rows PySem.SeqAt
theorem Es(bt:Nat->Nat->Bool)(j:Nat):argBest bt (j+1)=if bt (j+1) (argBest bt j)=true then j+1 else argBest bt j:=by
 first
  |rfl
  |(show(if bt (j+1) (argBest bt j)then j+1 else argBest bt j)=_;rfl)
section
variable {prog:oT}{w:px}{A:oW}{R:Result->oF->Prop}{I S:Addr}{fp wr:List Addr}{St:Nat->Heap->Prop}{aG:Array oI}{bt:Nat->Nat->Bool}{Good:Heap->Prop}
theorem Qv(h:wpAny (model prog w) A.in1 (Builtin.«min.loop» a) (λb s'=>match b with
   | .done f=>R (.ok f) s'
   | .again c=>c.quiet=true/\codeAny (model prog w) A c R s') (λe s'=>R (.error e) s') s):codeAny (model prog w) A (.builtin "min.loop" a) R s:=by
 refine codeAny_builtin F.entry_min_loop ?_;rw[Around.under_plainId F.plain_min_loop _];exact h
theorem ii(W:Walks prog w A.in1 I fp wr aG.size (λi v=>aG[i]?=some v) St)(L:∀h h',Good h->(∀b o,b∉wr->b≠S->h.get? b=some o->h'.get? b=some o)->Good h')
  (hc:∀i j X Y (s:oF),Good s.heap->aG[i]?=some X->aG[j]?=some Y->∀E Q,Q (.bool (bt i j)) s->wpAny (model prog w) A.in1 (richCompare .Lt X Y) Q E s)(U:S∉fp):
  ∀(k j:Nat) (s:oF) (f:oI) (c:Nat),aG.size=j+1+k->St (j+1) s.heap->Good s.heap->aG[argBest bt j]?=some f->
  s.heap.get? S=some {cls:=.type "list",dict:=none,data:=.seq #[f,f] c,slots:=#[] }->
  (∀v h' tk,aG[argBest bt (aG.size-1)]?=some v->(∀b o,b∉wr->b≠S->s.heap.get? b=some o->h'.get? b=some o)->R (.ok (.ret v)) {s with heap:=h',toks:=tk})->
  codeAny (model prog w) A (.builtin "min.loop" ⟨[.ref I,.none,.ref S],[]⟩) R s:=by
 have Z:S∉wr:=λz=>U (W.sub _ z);have T:(toString "min"++toString ".loop":String)="min.loop":=by decide
 intro k
 induction k with
 |zero=>
  intro j s f c hk u O r m q;refine Qv ?_;refine a0 ( hO m rfl ?_);show wpAny (model prog w) A.in1 (tryCatch (pyNext (.ref I)) _>>=_) _ _ s;have ej:j+1=aG.size:=by omega
  refine a0 (wpAny_tryCatch (W.done s _ _ (ej▸u) λx D l=>?_));have n:=l S _ Z m;show wpAny (model prog w) A.in1 (updateSeq S (λ_=>#[])>>=_) _ _ _;refine a0 ?_;refine wpAny_updateSeq n rfl (a0 (wpAny_letGo (bc ?_)));have e2:aG.size-1=j:=by omega
  exact q f _ D (by rw[e2];exact r) λb o d g e=>(fC _ _ (Ne.symm g)).trans (l b o d e)
 |succ k P=>
  intro j s f c hk u O r m q;refine Qv ?_;refine a0 ( hO m rfl ?_);show wpAny (model prog w) A.in1 (tryCatch (pyNext (.ref I)) _>>=_) _ _ s;refine a0 (wpAny_tryCatch (W.item (j+1) s _ _ (by omega) u λv x D M K l=>?_));have n:=l S _ Z m;have G:Good x:=L _ _ O λb o d _ e=>l b o d e;refine a0 (bc ?_);refine a0 (wpAny_tryCatch (hJ (a0 ?_)));refine hc (j+1) (argBest bt j) v f {s with heap:=x,toks:=D} G M r _ _ ?_;refine a0 (hJ (k4 ?_));refine a0 (wpAny_letGo (bc ?_));have p:=Es bt j;cases N:bt (j+1) (argBest bt j)with
  |true=>
   rw[N,if_pos rfl]at p;simp only[if_true];refine a0 ?_;refine wpAny_updateSeq n rfl (a0 (wpAny_letGo ?_));rw[T];refine bc ⟨mD F.plain_min_loop _,P (j+1) _ v _ (by omega) (W.frame _ _ _ K λb z o e=>?_) (L _ _ G λb o d g e=>(fC _ _ (Ne.symm g)).trans e) (by rw[p];exact M) (iv _ n rfl) λJ B H a C=>?_⟩
   ·exact(fC _ _ (λy:S=b=>U (by rw[y];exact z))).trans e
   ·exact q J B H a λb o d g e=>C b o d g ((fC _ _ (Ne.symm g)).trans (l b o d e))
  |false=>
   rw[N,if_neg Bool.false_ne_true]at p;simp only[Bool.false_eq_true,if_false];refine a0 (wpAny_letGo ?_);rw[T];refine bc ⟨mD F.plain_min_loop _,P (j+1) _ f c (by omega) K G (by rw[p];exact r) n λJ B H a C=>?_⟩;exact q J B H a λb o d g e=>C b o d g (l b o d e)
theorem Ut(W:Walks prog w A.in1 I fp wr aG.size (λi v=>aG[i]?=some v) St)(g:∀h h',Good h->(∀b o,b∉wr->b≠S->h.get? b=some o->h'.get? b=some o)->Good h')
  (H:∀i j q r (s:oF),Good s.heap->aG[i]?=some q->aG[j]?=some r->∀E Q,Q (.bool (bt i j)) s->wpAny (model prog w) A.in1 (richCompare .Lt q r) Q E s)(m:S∉fp){s:oF}{c:Nat}(u:St 0 s.heap)(J:Good s.heap)
  (n:s.heap.get? S=some {cls:=.type "list",dict:=none,data:=.seq #[] c,slots:=#[] })(K:0<aG.size)
  (G:∀v h' P,aG[argBest bt (aG.size-1)]?=some v->(∀b o,b∉wr->b≠S->s.heap.get? b=some o->h'.get? b=some o)->R (.ok (.ret v)) {s with heap:=h',toks:=P}):
  codeAny (model prog w) A (.builtin "min.loop" ⟨[.ref I,.none,.ref S],[]⟩) R s:=by
 have U:S∉wr:=λz=>m (W.sub _ z);have M:(toString "min"++toString ".loop":String)="min.loop":=by decide
 refine Qv ?_;refine a0 ( hO n rfl ?_);show wpAny (model prog w) A.in1 (tryCatch (pyNext (.ref I)) _>>=_) _ _ s;refine a0 (wpAny_tryCatch (W.item 0 s _ _ K u λv B X D x l=>?_));have p:=l S _ U n;have N:Good B:=g _ _ J λb o d _ e=>l b o d e;show wpAny (model prog w) A.in1 (updateSeq S (λ_=>#[v,v])>>=_) _ _ _;refine a0 ?_;refine wpAny_updateSeq p rfl ?_;rw[M];refine bc ⟨mD F.plain_min_loop _,ii W g H m (aG.size-1) 0 _ v _ (by omega) (W.frame _ _ _ x λb z o e=>?_) (g _ _ N λb o d f e=>(fC _ _ (Ne.symm f)).trans e) D (iv _ p rfl) λT C O a L=>?_⟩
 ·exact(fC _ _ (λy:S=b=>m (by rw[y];exact z))).trans e
 ·exact G T C O a λb o d f e=>L b o d f ((fC _ _ (Ne.symm f)).trans (l b o d e))
end
section
variable {prog:oT}{w:px}{A:oW}{R:Result->oF->Prop}{I S:Addr}{fp wr:List Addr}{St:Nat->Heap->Prop}{aG:Array oI}{bt:Nat->Nat->Bool}{Good:Heap->Prop}
theorem Qu(h:wpAny (model prog w) A.in1 (Builtin.«max.loop» a) (λb s'=>match b with
   | .done f=>R (.ok f) s'
   | .again c=>c.quiet=true/\codeAny (model prog w) A c R s') (λe s'=>R (.error e) s') s):codeAny (model prog w) A (.builtin "max.loop" a) R s:=by
 refine codeAny_builtin F.entry_max_loop ?_;rw[Around.under_plainId F.plain_max_loop _];exact h
theorem ig(W:Walks prog w A.in1 I fp wr aG.size (λi v=>aG[i]?=some v) St)(L:∀h h',Good h->(∀b o,b∉wr->b≠S->h.get? b=some o->h'.get? b=some o)->Good h')
  (hc:∀i j X Y (s:oF),Good s.heap->aG[i]?=some X->aG[j]?=some Y->∀E Q,Q (.bool (bt i j)) s->wpAny (model prog w) A.in1 (richCompare .Gt X Y) Q E s)(U:S∉fp):
  ∀(k j:Nat) (s:oF) (f:oI) (c:Nat),aG.size=j+1+k->St (j+1) s.heap->Good s.heap->aG[argBest bt j]?=some f->
  s.heap.get? S=some {cls:=.type "list",dict:=none,data:=.seq #[f,f] c,slots:=#[] }->
  (∀v h' tk,aG[argBest bt (aG.size-1)]?=some v->(∀b o,b∉wr->b≠S->s.heap.get? b=some o->h'.get? b=some o)->R (.ok (.ret v)) {s with heap:=h',toks:=tk})->
  codeAny (model prog w) A (.builtin "max.loop" ⟨[.ref I,.none,.ref S],[]⟩) R s:=by
 have Z:S∉wr:=λz=>U (W.sub _ z);have T:(toString "max"++toString ".loop":String)="max.loop":=by decide
 intro k
 induction k with
 |zero=>
  intro j s f c hk u O r m q;refine Qu ?_;refine a0 ( hO m rfl ?_);show wpAny (model prog w) A.in1 (tryCatch (pyNext (.ref I)) _>>=_) _ _ s;have ej:j+1=aG.size:=by omega
  refine a0 (wpAny_tryCatch (W.done s _ _ (ej▸u) λx D l=>?_));have n:=l S _ Z m;show wpAny (model prog w) A.in1 (updateSeq S (λ_=>#[])>>=_) _ _ _;refine a0 ?_;refine wpAny_updateSeq n rfl (a0 (wpAny_letGo (bc ?_)));have e2:aG.size-1=j:=by omega
  exact q f _ D (by rw[e2];exact r) λb o d g e=>(fC _ _ (Ne.symm g)).trans (l b o d e)
 |succ k P=>
  intro j s f c hk u O r m q;refine Qu ?_;refine a0 ( hO m rfl ?_);show wpAny (model prog w) A.in1 (tryCatch (pyNext (.ref I)) _>>=_) _ _ s;refine a0 (wpAny_tryCatch (W.item (j+1) s _ _ (by omega) u λv x D M K l=>?_));have n:=l S _ Z m;have G:Good x:=L _ _ O λb o d _ e=>l b o d e;refine a0 (bc ?_);refine a0 (wpAny_tryCatch (hJ (a0 ?_)));refine hc (j+1) (argBest bt j) v f {s with heap:=x,toks:=D} G M r _ _ ?_;refine a0 (hJ (k4 ?_));refine a0 (wpAny_letGo (bc ?_));have p:=Es bt j;cases N:bt (j+1) (argBest bt j)with
  |true=>
   rw[N,if_pos rfl]at p;simp only[if_true];refine a0 ?_;refine wpAny_updateSeq n rfl (a0 (wpAny_letGo ?_));rw[T];refine bc ⟨mD F.plain_max_loop _,P (j+1) _ v _ (by omega) (W.frame _ _ _ K λb z o e=>?_) (L _ _ G λb o d g e=>(fC _ _ (Ne.symm g)).trans e) (by rw[p];exact M) (iv _ n rfl) λJ B H a C=>?_⟩
   ·exact(fC _ _ (λy:S=b=>U (by rw[y];exact z))).trans e
   ·exact q J B H a λb o d g e=>C b o d g ((fC _ _ (Ne.symm g)).trans (l b o d e))
  |false=>
   rw[N,if_neg Bool.false_ne_true]at p;simp only[Bool.false_eq_true,if_false];refine a0 (wpAny_letGo ?_);rw[T];refine bc ⟨mD F.plain_max_loop _,P (j+1) _ f c (by omega) K G (by rw[p];exact r) n λJ B H a C=>?_⟩;exact q J B H a λb o d g e=>C b o d g (l b o d e)
theorem Us(W:Walks prog w A.in1 I fp wr aG.size (λi v=>aG[i]?=some v) St)(g:∀h h',Good h->(∀b o,b∉wr->b≠S->h.get? b=some o->h'.get? b=some o)->Good h')
  (H:∀i j q r (s:oF),Good s.heap->aG[i]?=some q->aG[j]?=some r->∀E Q,Q (.bool (bt i j)) s->wpAny (model prog w) A.in1 (richCompare .Gt q r) Q E s)(m:S∉fp){s:oF}{c:Nat}(u:St 0 s.heap)(J:Good s.heap)
  (n:s.heap.get? S=some {cls:=.type "list",dict:=none,data:=.seq #[] c,slots:=#[] })(K:0<aG.size)
  (G:∀v h' P,aG[argBest bt (aG.size-1)]?=some v->(∀b o,b∉wr->b≠S->s.heap.get? b=some o->h'.get? b=some o)->R (.ok (.ret v)) {s with heap:=h',toks:=P}):
  codeAny (model prog w) A (.builtin "max.loop" ⟨[.ref I,.none,.ref S],[]⟩) R s:=by
 have U:S∉wr:=λz=>m (W.sub _ z);have M:(toString "max"++toString ".loop":String)="max.loop":=by decide
 refine Qu ?_;refine a0 ( hO n rfl ?_);show wpAny (model prog w) A.in1 (tryCatch (pyNext (.ref I)) _>>=_) _ _ s;refine a0 (wpAny_tryCatch (W.item 0 s _ _ K u λv B X D x l=>?_));have p:=l S _ U n;have N:Good B:=g _ _ J λb o d _ e=>l b o d e;show wpAny (model prog w) A.in1 (updateSeq S (λ_=>#[v,v])>>=_) _ _ _;refine a0 ?_;refine wpAny_updateSeq p rfl ?_;rw[M];refine bc ⟨mD F.plain_max_loop _,ig W g H m (aG.size-1) 0 _ v _ (by omega) (W.frame _ _ _ x λb z o e=>?_) (g _ _ N λb o d f e=>(fC _ _ (Ne.symm f)).trans e) D (iv _ p rfl) λT C O a L=>?_⟩
 ·exact(fC _ _ (λy:S=b=>m (by rw[y];exact z))).trans e
 ·exact G T C O a λb o d f e=>L b o d f ((fC _ _ (Ne.symm f)).trans (l b o d e))
end
open PySem PySem.Spec PyProof.Rows PySem.SeqAt
theorem La:∀{ds:List qE}{us:List V}{i:Nat}{d:qE},aF H ds us->ds[i]?=some d->∃u,us[i]?=some u/\Rp H d u
 |[],_,i,d,_,e=>by simp at e
 |x::ds,us,0,d,h,e=>by
  unfold aF at h;obtain⟨u,a,rfl,f,_⟩:=h;cases e;exact⟨u,rfl,f⟩
 |x::ds,us,i+1,d,h,e=>by
  unfold aF at h;obtain⟨u,a,rfl,_,g⟩:=h;obtain⟨j,b,c⟩:=La (i:=i) g (by simpa using e);exact⟨j,by simpa using b,c⟩
theorem G0:∀{ds:List qE}{us:List V},aF H ds us->us.length=ds.length
 |[],us,h=>by
  unfold aF at h;rw[h];rfl
 |x::ds,us,h=>by
  unfold aF at h;obtain⟨u,b,rfl,_,a⟩:=h;rw[List.length_cons,List.length_cons,G0 a]
theorem Ki{xs:List V}{us:List oI}{i:Nat}{u:oI}(r:Av xs us)(h:us[i]?=some u):∃x,xs[i]?=some x/\Az x u:=by
 have c:=(bA.mp h).1;have d:=r.length;obtain⟨e,a,b⟩:=r.get (eH (show i<xs.length by omega));rw[h]at a;cases a;exact⟨_,eH (by omega),b⟩
section
variable {X:Cx}{k:Nat}
theorem Y6(a:oI):argsOk "min" ⟨[a],[]⟩:=by
 unfold argsOk
 kernel_rfl
def Mb(ds:List qE):Nat:=argBest (λi j=>Kl (ds.getD i .none) (ds.getD j .none)) (ds.length-1)
theorem ko{a:List (Addr×Obj)}{s:oF}{B:St}{H:Hp}{us:List V}{g:List oI}{ds:List qE}(M:Cu k X.A)(I:Ao X a B H s)(S:Av us g)(v:aF H ds us)(O:∀d∈ds,∀e∈ds,J5 d e)(C:∀d∈ds,d.depth<=50)(i j:Nat)(c f:oI)(s':oF)
  (K:∀b o,s.heap.get? b=some o->s'.heap.get? b=some o)(h1:g.toArray[i]?=some c)(J:g.toArray[j]?=some f)(E Q:oi)(q:Q (.bool (Kl (ds.getD i .none) (ds.getD j .none))) s'):wpAny (model X.prog X.w) X.A.in1 (richCompare .Lt c f) Q E s':=by
 have Z:=G0 v
 have get:∀(m:Nat) (l:oI),g.toArray[m]?=some l->∃x,Az x l/\Rp H (ds.getD m .none) x/\ds.getD m .none∈ds:=λm l h=>by
  obtain⟨x,p,F⟩:=Ki S (by simpa using h)
  have L:m<ds.length:=by
   have:=(bA.mp p).1;omega
  have r:ds[m]?=some (ds.getD m .none):=by
   rw[List.getD_eq_getElem?_getD,List.getElem?_eq_getElem L];rfl
  obtain⟨x2,u,G⟩:=La v r;rw[p]at u;cases u;exact⟨x,F,G,b5 r⟩
 obtain⟨x,T,z,w⟩:=get i c h1;obtain⟨y,U,A,N⟩:=get j f J;have n:Ao X a B H {s with heap:=s'.heap,toks:=s'.toks}:=I.kept (t':=s'.toks) K;obtain⟨D,P⟩:=Cn n _ x c z T;obtain⟨bs,R⟩:=Cn n _ y f A U;have hu:=M.units;have Y:=C _ w;exact K3 _ _ X.A.in1 s' c f D bs P R (C6 _ x z) (C6 _ y A) (O _ w _ N) (by show X.A.units+1+_<_;omega) _ _ _ _ q
def vc(K:W.Frag):List V->Hp->VK->Prop:=λc H Q=>∃(p:Addr) (b:List V) (a:List qE),c=[.ref p]/\Be K H p b/\aF H a b/\0<b.length/\(∀d∈a,∀e∈a,J5 d e)/\(∀d∈a,d.depth<=50)/\∀v,b[Mb a]?=some v->Q v H
theorem Xf(K:PySem.W.Frag)(Y:Cu k X.A)(R:X.calm=true)(P:X.K=K:=by rfl):Em X (.builtin "min") (vc K):=by
 subst P;intro A s σ H xs WT Q I r h;obtain⟨p,us,d,rfl,U,w,cE,Z,C,q⟩:=h;obtain⟨u,rfl,rx⟩:=Kg r;cases rx;obtain⟨n,m,l,hz⟩:=I.list U;have hl:=G0 w;have S:=m.length;have nm:(toString "min"++toString ".loop":String)="min.loop":=by decide
 refine Ow (args:=⟨[.ref p],[]⟩) F.kind_min F.plain_min F.entry_min (Y6 _) ?_;show wpAny (model X.prog X.w) X.A.in1 (Builtin.Builtins.bindParams "min" ["key","default"] 0 ⟨[],[]⟩>>=_) _ _ s;refine a0 (wpAny_of_eq (show Builtin.Builtins.bindParams "min" ["key","default"] 0 ⟨[],[]⟩=pure [none,none]from ?_) ?_)
 ·kernel_rfl
 refine a0 (bc ?_);refine a0 (wpAny_pyIter_list l.isList ?_);refine a0 (jQ ?_);rw[nm];refine bc ⟨mD F.plain_min_loop _,?_⟩;have B:p<s.heap.objs.size:=l.lt;have W:=Walks.list (prog:=X.prog) (w:=X.w) (A:=X.A.in1) (I.ok.hd R) s.heap.objs.size p (gs B) n.toArray;have a:(s.heap.push {cls:=.type "list_iterator",data:=.fields #[.ref p,.int 0 0] }).objs.size=s.heap.objs.size+1:=by simp[Heap.push]
 refine Ut (S:=(s.heap.push {cls:=.type "list_iterator",data:=.fields #[.ref p,.int 0 0] }).objs.size) (bt:=λi j=>Kl (d.getD i .none) (d.getD j .none)) (Good:=λh=>∀b o,s.heap.get? b=some o->h.get? b=some o) W (λh M g f b o e=>f b o ?_ ?_ (g b o e)) (λi j vi vj s' g N O E D q'=>ko Y I m w Z C i j vi vj s' g N O E D q') ?_ ⟨⟨_,b4 _ (cb _ rfl),rfl,rfl⟩,?_⟩ (λb o e=>b4 _ (b4 _ e)) (cb _ rfl) (by simp;omega) (λv M tk e f=>?_)
 ·exact λz=>gs (dt e) (by simpa using z)
 ·rw[a];exact gs (Nat.lt_succ_of_lt (dt e))
 ·rw[a];intro z;have c:s.heap.objs.size+1=s.heap.objs.size\/s.heap.objs.size+1=p:=by simpa using z
  rcases c with c|c
  ·exact Nat.succ_ne_self _ c
  ·exact Nat.lt_irrefl _ (Nat.lt_trans (Nat.lt_succ_self _) (c.symm▸B:s.heap.objs.size+1<s.heap.objs.size))
 ·obtain⟨o,T,r1⟩:=l.isList;exact⟨o,b4 _ (b4 _ T),r1⟩
 ·have G:n.toArray.size-1=d.length-1:=by
   simp;omega
  rw[G]at e;obtain⟨x,J,L⟩:=Ki m (by simpa using e);refine⟨x,H,I.kept (t':=tk) (λb o z=>f b o ?_ ?_ (b4 _ (b4 _ z))),L,q x J⟩
  ·exact λy=>gs (dt z) (by simpa using y)
  ·rw[a];exact gs (Nat.lt_succ_of_lt (dt z))
end
section
variable {X:Cx}{k:Nat}
theorem Y5(a:oI):argsOk "max" ⟨[a],[]⟩:=by
 unfold argsOk
 kernel_rfl
def E5(ds:List qE):Nat:=argBest (λi j=>Yo (ds.getD i .none) (ds.getD j .none)) (ds.length-1)
theorem kn{a:List (Addr×Obj)}{s:oF}{B:St}{H:Hp}{us:List V}{g:List oI}{ds:List qE}(M:Cu k X.A)(I:Ao X a B H s)(S:Av us g)(v:aF H ds us)(O:∀d∈ds,∀e∈ds,J5 d e)(C:∀d∈ds,d.depth<=50)(i j:Nat)(c f:oI)(s':oF)
  (K:∀b o,s.heap.get? b=some o->s'.heap.get? b=some o)(h1:g.toArray[i]?=some c)(J:g.toArray[j]?=some f)(E Q:oi)(q:Q (.bool (Yo (ds.getD i .none) (ds.getD j .none))) s'):wpAny (model X.prog X.w) X.A.in1 (richCompare .Gt c f) Q E s':=by
 have Z:=G0 v
 have get:∀(m:Nat) (l:oI),g.toArray[m]?=some l->∃x,Az x l/\Rp H (ds.getD m .none) x/\ds.getD m .none∈ds:=λm l h=>by
  obtain⟨x,p,F⟩:=Ki S (by simpa using h)
  have L:m<ds.length:=by
   have:=(bA.mp p).1;omega
  have r:ds[m]?=some (ds.getD m .none):=by
   rw[List.getD_eq_getElem?_getD,List.getElem?_eq_getElem L];rfl
  obtain⟨x2,u,G⟩:=La v r;rw[p]at u;cases u;exact⟨x,F,G,b5 r⟩
 obtain⟨x,T,z,w⟩:=get i c h1;obtain⟨y,U,A,N⟩:=get j f J;have n:Ao X a B H {s with heap:=s'.heap,toks:=s'.toks}:=I.kept (t':=s'.toks) K;obtain⟨D,P⟩:=Cn n _ x c z T;obtain⟨bs,R⟩:=Cn n _ y f A U;have hu:=M.units;have Y:=C _ w;exact Sa _ _ X.A.in1 s' c f D bs P R (C6 _ x z) (C6 _ y A) (O _ w _ N) (by show X.A.units+1+_<_;omega) _ _ _ _ q
def v9(K:W.Frag):List V->Hp->VK->Prop:=λc H Q=>∃(p:Addr) (b:List V) (a:List qE),c=[.ref p]/\Be K H p b/\aF H a b/\0<b.length/\(∀d∈a,∀e∈a,J5 d e)/\(∀d∈a,d.depth<=50)/\∀v,b[E5 a]?=some v->Q v H
theorem Xe(K:PySem.W.Frag)(Y:Cu k X.A)(R:X.calm=true)(P:X.K=K:=by rfl):Em X (.builtin "max") (v9 K):=by
 subst P;intro A s σ H xs WT Q I r h;obtain⟨p,us,d,rfl,U,w,cE,Z,C,q⟩:=h;obtain⟨u,rfl,rx⟩:=Kg r;cases rx;obtain⟨n,m,l,hz⟩:=I.list U;have hl:=G0 w;have S:=m.length;have nm:(toString "max"++toString ".loop":String)="max.loop":=by decide
 refine Ow (args:=⟨[.ref p],[]⟩) F.kind_max F.plain_max F.entry_max (Y5 _) ?_;show wpAny (model X.prog X.w) X.A.in1 (Builtin.Builtins.bindParams "max" ["key","default"] 0 ⟨[],[]⟩>>=_) _ _ s;refine a0 (wpAny_of_eq (show Builtin.Builtins.bindParams "max" ["key","default"] 0 ⟨[],[]⟩=pure [none,none]from ?_) ?_)
 ·kernel_rfl
 refine a0 (bc ?_);refine a0 (wpAny_pyIter_list l.isList ?_);refine a0 (jQ ?_);rw[nm];refine bc ⟨mD F.plain_max_loop _,?_⟩;have B:p<s.heap.objs.size:=l.lt;have W:=Walks.list (prog:=X.prog) (w:=X.w) (A:=X.A.in1) (I.ok.hd R) s.heap.objs.size p (gs B) n.toArray;have a:(s.heap.push {cls:=.type "list_iterator",data:=.fields #[.ref p,.int 0 0] }).objs.size=s.heap.objs.size+1:=by simp[Heap.push]
 refine Us (S:=(s.heap.push {cls:=.type "list_iterator",data:=.fields #[.ref p,.int 0 0] }).objs.size) (bt:=λi j=>Yo (d.getD i .none) (d.getD j .none)) (Good:=λh=>∀b o,s.heap.get? b=some o->h.get? b=some o) W (λh M g f b o e=>f b o ?_ ?_ (g b o e)) (λi j vi vj s' g N O E D q'=>kn Y I m w Z C i j vi vj s' g N O E D q') ?_ ⟨⟨_,b4 _ (cb _ rfl),rfl,rfl⟩,?_⟩ (λb o e=>b4 _ (b4 _ e)) (cb _ rfl) (by simp;omega) (λv M tk e f=>?_)
 ·exact λz=>gs (dt e) (by simpa using z)
 ·rw[a];exact gs (Nat.lt_succ_of_lt (dt e))
 ·rw[a];intro z;have c:s.heap.objs.size+1=s.heap.objs.size\/s.heap.objs.size+1=p:=by simpa using z
  rcases c with c|c
  ·exact Nat.succ_ne_self _ c
  ·exact Nat.lt_irrefl _ (Nat.lt_trans (Nat.lt_succ_self _) (c.symm▸B:s.heap.objs.size+1<s.heap.objs.size))
 ·obtain⟨o,T,r1⟩:=l.isList;exact⟨o,b4 _ (b4 _ T),r1⟩
 ·have G:n.toArray.size-1=d.length-1:=by
   simp;omega
  rw[G]at e;obtain⟨x,J,L⟩:=Ki m (by simpa using e);refine⟨x,H,I.kept (t':=tk) (λb o z=>f b o ?_ ?_ (b4 _ (b4 _ z))),L,q x J⟩
  ·exact λy=>gs (dt z) (by simpa using y)
  ·rw[a];exact gs (Nat.lt_succ_of_lt (dt z))
end
section
variable {prog:oT}{w:px}{K:Type} [DecidableEq K] {knd:HeapKind prog w K}{A:oW}{E:oi}{s:oF}{d:Addr}{xs:List (K×Addr×oI)}
theorem Uj(knd:HeapKind prog w K)(c:(d==sysModules)=false):
  MeetsIn prog w (Builtin.«dict.__len__» ⟨[.ref d],[]⟩) (λ_ R s=>∃xs,s.heap.DictOfH knd d xs/\R (.ok (.ret (.int xs.length s.toks))) {s with toks:=s.toks+1}):=
 .of_wp λA R s ⟨xs,g,h⟩=>by
  obtain⟨o,b,l,i,m,a,f,j,n⟩:=g;show wpAny _ _ (dictSize d>>=_) _ _ s;unfold dictSize;refine a0 (a0 (wpAny_dictEntries i a (bc ?_)));show wpAny _ _ (Builtin.Dict.pendingCount d>>=_) _ _ s;refine a0 (wpAny_pendingCount_other c ?_);refine wpAny_ret_mkInt ?_;have e:b.size=xs.length:=size_of_entries f;rw[Nat.add_zero,e];exact h
theorem Y2{Q:oi}(c:(d==sysModules)=false)(b:s.heap.DictOfH knd d xs)(e:(xs.length:Int)<2^63)
  (h:Q (.int xs.length (s.toks+1)) {s with toks:=s.toks+1+1}):wpAny (model prog w) A (Builtin.«len» ⟨[.ref d],[]⟩) (λa s'=>∃r,a=.done (.ret r)/\Q r s') E s:=by
 unfold Builtin.«len»;refine a0 (m:=oneArg "len" _) (bc ?_)
 refine a0 (m:=callSpecial? (.ref d) (Str.ofString "__len__")) (nT (name:=Str.ofString "__len__") b.typeIs F.slot_dict_len
  (call_meetsIn F.slot_dict_len b.typeIs F.entry_dict_len (F.args_dict_len_1 _) (Uj knd c) ⟨xs,b,?_⟩))
 show wpAny _ _ _ _ _ {s with toks:=s.toks+1};refine a0 (hJ (bc ?_));refine a0 (wpAny_letGo ?_);show wpAny _ _ (if((xs.length:Nat):Int)<0 then _ else _) _ _ _;rw[if_neg (by omega)];show wpAny _ _ (if((xs.length:Nat):Int)>=2^63 then _ else _) _ _ _;rw[if_neg (by omega)];exact a0 (wpAny_mkInt (bc ⟨_,rfl,h⟩))
theorem xy{Q:oi}(b:(d==sysModules)=false)(c:s.heap.DictOfH knd d xs)(a:(xs.length:Int)<2^63)
  (h:Q (.int xs.length (s.toks+1)) {s with toks:=s.toks+1+1}):wpAny (model prog w) A (call (.builtin "len") [.ref d]) Q E s:=
 Calls.call_function_entry kind_len plain_len entry_len (args_len1 _) (Y2 b c a h)
end
section
variable {X:Cx}
theorem Os:Em X (.builtin "len") (λxs H Q=>∃d kvs,xs=[.ref d]/\H d=some (.dT kvs)/\Q (.int kvs.length) H):=by
 intro b s o H xs l Q I r h;obtain⟨d,kvs,rfl,f,q⟩:=h;obtain⟨u,rfl,j⟩:=Kg r;cases j;obtain⟨n,i,m,a,c⟩:=Ze I.aH f;have g:=Paired.length a;have e:sizeLine<2^30:=by decide
 refine xy i c (by omega) ⟨.int kvs.length,H,I.tok _,⟨_,by rw[g]⟩,q⟩
end
section
variable {X:Cx}{pins:List (Addr×Obj)}{σ:St}{H:Hp}{s:oF}{k:Nat}
theorem Sg(I:Ao X pins σ H s):∀{ds:List qE}{vs:List V}{us:List oI},aF H ds vs->Av vs us->ds.length=us.length/\∀(m:Nat) (w:oI) (e:qE),us[m]?=some w->ds[m]?=some e->K2 s.heap d w=PyData.eqv e d
 |[],vs,us,h,r=>by
  unfold aF at h;subst h;cases r;exact⟨rfl,λm w e z=>by simp at z⟩
 |e::ds,vs,us,h,r=>by
  unfold aF at h;obtain⟨x,p,rfl,c,g⟩:=h;cases r with
  |cons j n=>
   obtain⟨o,q⟩:=Ik I c j;obtain⟨l,i⟩:=Sg I g n;refine⟨by rw[List.length_cons,List.length_cons,l],λm w f a b=>?_⟩;cases m with
   |zero=>
    rw[List.getElem?_cons_zero]at a b;cases a;cases b;exact N5 q (C6 e x c)
   |succ m=>
    rw[List.getElem?_cons_succ]at a b;exact i m w f a b
def im(K:W.Frag):V->List V->Hp->VK->Prop:=λx c H Q=>∃(l:Addr) (b:List V) (y:V) (d:qE) (a:List qE) (j:Nat),x=.ref l/\c=[y]/\Be K H l b/\Rp H d y/\aF H a b/\d.depth<=50/\(∃e,a[j]?=some e/\PyData.eqv e d=true)/\(∀m e,m<j->a[m]?=some e->PyData.eqv e d=false)/\Q (.int (j:Nat)) H
theorem Y7(M:Cu k X.A):rm X "list.index" (im X.K):=by
 intro pins s σ H x vs v us Q I rx rv h;obtain⟨l,ys,y,d,g,j,rfl,rfl,L,O,b,i,⟨E,o,S⟩,R,q⟩:=h;cases rx;obtain⟨u,rfl,Z⟩:=rv.one;obtain⟨a,r,Y,hz⟩:=I.list L;obtain⟨⟨T,U,B,P⟩,n,e,J,hd,N⟩:=Y;obtain rfl:T=.type "list":=J;obtain rfl:B=.seq a.toArray n:=N;have p:=r.length;have hu:=M.units;obtain⟨kA,A⟩:=Sg (d:=d) I b r;have K:j<g.length:=(bA.mp o).1;have G:=Je;refine call_meets F.slot_list_index ⟨_,e,rfl⟩ F.entry_list_index (F.args_list_index_2 _ _) (PySem.SeqAt.list_indexAt l a.toArray n U P u (K2 s.heap d) j (by rw[List.size_toArray];omega) ?_ ?_ ?_) ⟨e,λz C=>?_,?_⟩
 ·omega
 ·have f:j<a.length:=by omega
  have c:a.toArray[j]'(by rw[List.size_toArray];omega)=a[j]:=by simp
  rw[c,A j a[j] E (List.getElem?_eq_getElem f) o];exact S
 ·intro m w D;rw[List.size_toArray]at w;have c:a.toArray[m]'(by rw[List.size_toArray];omega)=a[m]:=by simp
  rw[c,A m a[m] g[m] (List.getElem?_eq_getElem w) (List.getElem?_eq_getElem (by omega))];exact R m _ D (eH (by omega))
 ·exact N6 I O Z (by show X.A.units+1+d.depth<cLine;omega) b r z (by simpa using C)
 ·exact⟨.int (j:Nat),H,I.tok _,⟨_,rfl⟩,q⟩
end
def Jz:Bool->Keyed->Array Keyed->Nat->Nat->Nat->StateT SortSt Sem (Option Nat):=sortPriv%PySem.Builtin.gallop
def ab:Array Keyed->Array Keyed->StateT SortSt Sem (Array Keyed):=sortPriv%PySem.Builtin.mergeLo
def aa:Array Keyed->Array Keyed->StateT SortSt Sem (Array Keyed):=sortPriv%PySem.Builtin.mergeHi
def fa(f:Keyed->Nat)(a:Array Keyed)(i:Nat):Nat:=match a[i]? with
 |some p=>f p
 |none=>0
theorem Aw{f:Keyed->Nat}{a:Array Keyed}{i:Nat}{p:Keyed}(h:a[i]?=some p):fa f a i=f p:=by unfold fa;rw[h]
theorem Ev{f:Keyed->Nat}{a b:Array Keyed}{i j:Nat}(h:a[i]?=b[j]?):fa f a i=fa f b j:=by unfold fa;rw[h]
def Jq(f:Keyed->Nat)(a:Array Keyed)(lo hi:Nat):Prop:=∀i j,lo<=i->i<=j->j<hi->fa f a i<=fa f a j
section
variable {prog:oT}{w:px}{A:oW}{E:oi}{s:oF}{κ:SortKind}{f:Keyed->Nat}{a₀:Array Keyed}{st:SortSt}
def J1(prog:oT)(w:px)(A:oW)(s:oF)(κ:SortKind)(f:Keyed->Nat)(a₀:Array Keyed):Prop:=∀x y,x∈a₀->y∈a₀->∀(Q:Bool->oF->Prop) (E:oi),Q (decide (f x<f y)) s->wpAny (model prog w) A (keyLt' κ x.1 y.1) Q E s
structure Bs(κ:SortKind)(a₀:Array Keyed)(st:SortSt):Prop where
 perm:(arrOf st).Perm a₀
 kind:kindOf st=κ
 failed:failedOf st=none
theorem Bs.size(h:Bs κ a₀ st):(arrOf st).size=a₀.size:=h.perm.size_eq
theorem Bs.mem(h:Bs κ a₀ st){i:Nat}{p:Keyed}(e:(arrOf st)[i]?=some p):p∈a₀:=h.perm.mem_iff.mp (Array.mem_of_getElem? e)
theorem O3(a:J1 prog w A s κ f a₀)(b:kindOf st=κ){x y:Keyed}(c:x∈a₀)(d:y∈a₀){Q:Option Bool->SortSt->Prop}(h:Q (some (decide (f x<f y))) st):wpS (model prog w) A E s (lt' x y) Q st:=by
 rw[lt'_eq];refine wpS_bind (wpS_get ?_);rw[b];refine wpS_bind (wpS_lift (n4 (a x y c d _ _ ⟨rfl,?_⟩)));exact wpS_pure h
theorem Bc{a:Array Keyed}{i:Nat}{p:Keyed}(e:a[i]?=some p){Q:Keyed->SortSt->Prop}(h:Q p st):wpS (model prog w) A E s (elem' a i) Q st:=by
 rw[elem'_eq,e];exact wpS_pure h
theorem Bz{a:Array Keyed}{i:Nat}(h:i<a.size):∃p,a[i]?=some p:=⟨a[i],getElem?_pos a i h⟩
theorem Il(d:J1 prog w A s κ f a₀)(a:Bs κ a₀ st){i j:Nat}(hi:i<a₀.size)(e:j<a₀.size){Q:Option Bool->SortSt->Prop}(h:Q (some (decide (fa f (arrOf st) i<fa f (arrOf st) j))) st):wpS (model prog w) A E s (ltAt' i j) Q st:=by
 obtain⟨p,b⟩:=Bz (a:=arrOf st) (i:=i) (by rw[a.size];exact hi);obtain⟨q,c⟩:=Bz (a:=arrOf st) (i:=j) (by rw[a.size];exact e);rw[Aw b,Aw c]at h;rw[ltAt'_eq];refine wpS_bind (wpS_get ?_);exact wpS_bind (Bc b (wpS_bind (Bc c (O3 d a.kind (a.mem b) (a.mem c) h))))
theorem Vi(g:J1 prog w A s κ f a₀)(j:kindOf st=κ){left:Bool}{c:Keyed}{a:Array Keyed}{i:Nat}(e:c∈a₀)(m:∀p,p∈a->p∈a₀)(hi:i<a.size){Q:Option Bool->SortSt->Prop}
  (h:Q (some (if left=true then decide (fa f a i<f c)else !decide (f c<fa f a i))) st):wpS (model prog w) A E s (elem' a i>>=λx=>if left=true then lt' x c else lt' c x>>=λr=>pure (r.map λb=>!b)) Q st:=by
 obtain⟨p,d⟩:=Bz hi;rw[Aw d]at h;refine wpS_bind (Bc d ?_);have l:=m p (Array.mem_of_getElem? d);cases left with
 |true=>exact O3 g j l e h
 |false=>exact wpS_bind (O3 g j e l (wpS_pure h))
theorem E3(hA:J1 prog w A s κ f a₀)(hk:kindOf st=κ){left:Bool}{q:Keyed}{m:Array Keyed}{base n a:Nat}(cW:q∈a₀)(rT:∀p,p∈m->p∈a₀)(hn:base+n<=m.size)(X:a<n)(hs:Jq f m base (base+n)){Q:Option Nat->SortSt->Prop}
  (h:∀k,k<=n->(∀i,i<k->if left=true then fa f m (base+i)<f q else fa f m (base+i)<=f q)->(∀i,k<=i->i<n->if left=true then f q<=fa f m (base+i)else f q<fa f m (base+i))->Q (some k) st):wpS (model prog w) A E s (Jz left q m base n a) Q st:=by
 obtain⟨P,O⟩:∃P:Nat->Bool,∀i,P i=if left=true then decide (fa f m (base+i)<f q)else !decide (f q<fa f m (base+i)):=⟨_,λ_=>rfl⟩
 have mono:∀i j,i<=j->j<n->P j=true->P i=true:=λi j B v u=>by
  have C:=hs (base+i) (base+j) (by omega) (by omega) (by omega);rw[O]at u⊢;cases left<;>simp at u⊢<;>omega
 have R:∀i j,i<=j->j<n->P i=false->P j=false:=λi j B v u=>by
  cases e:P j with
  |false=>rfl
  |true=>rw[mono i j B v e]at u;cases u
 have I:∀i,i<n->∀{S:Option Bool->SortSt->Prop},S (some (P i)) st->wpS (model prog w) A E s (elem' m (base+i)>>=λx=>if left=true then lt' x q else lt' q x>>=λr=>pure (r.map λb=>!b)) S st:=λi d S Y=>by
  rw[O]at Y;exact Vi hA hk cW rT (by omega) Y
 have N:∀k,k<=n->(∀i,i<k->P i=true)->(∀i,k<=i->i<n->P i=false)->Q (some k) st:=λk B v u=>by
  refine h k B (λi d=>?_) (λi d K=>?_)
  ·have:=v i d;rw[O]at this;cases left<;>simp at this⊢<;>omega
  ·have:=u i d K;rw[O]at this;cases left<;>simp at this⊢<;>omega
 refine wpS_bind (I a X ?_);dsimp only;cases Z:P a with
 |true=>
  rw[if_pos rfl];refine wpS_bind (wpS_mono (wpS_forRange (I:=λx c y=>y=st/\∃l o,c=(none,l,o)/\l<o/\P (a+l)=true/\a+l<n/\x+1<=o) (Q:=λc y=>y=st/\∃l o,c=(none,l,o)/\l<o/\P (a+l)=true/\a+l<n/\(n-a<=o\/P (a+o)=false)) ?_ ?_ ⟨rfl,0,1,rfl,by omega,Z,X,by omega⟩) ?_)
  ·rintro x c y _ U ⟨rfl,l,o,rfl,B,v,u,C⟩;dsimp only;by_cases H:o>=n-a
   ·rw[if_pos H];exact wpS_pure ⟨rfl,l,o,rfl,B,v,u,.inl H⟩
   ·rw[if_neg H];refine wpS_bind (I (a+o) (by omega) ?_);dsimp only;cases e:P (a+o)with
    |false=>exact wpS_pure ⟨rfl,l,o,rfl,B,v,u,.inr e⟩
    |true=>exact wpS_pure ⟨rfl,o,2*o+1,rfl,by omega,e,by omega,by omega⟩
  ·rintro c y ⟨rfl,l,o,rfl,B,v,u,C⟩;exact⟨rfl,l,o,rfl,B,v,u,.inl (by omega)⟩
  rintro c y ⟨rfl,l,o,rfl,B,v,u,C⟩;dsimp only;refine wpS_bind (wpS_mono (wpS_forRange (I:=λx c D=>D=y/\∃g d,c=(none,g,d)/\g<=d/\d<=n/\(∀i,i<g->P i=true)/\(∀i,d<=i->i<n->P i=false)/\d+x<=g+n) (Q:=λc D=>D=y/\∃k,c=(none,k,k)/\k<=n/\(∀i,i<k->P i=true)/\(∀i,k<=i->i<n->P i=false)) ?_ ?_ ⟨rfl,_,_,rfl,by omega,by omega,λi d=>?_,λi d K=>?_,by omega⟩) ?_)
  ·rintro x c D _ U ⟨rfl,g,d,rfl,L,F,G,J,T⟩;dsimp only;by_cases H:g>=d
   ·rw[if_pos H];obtain rfl:g=d:=by omega
    exact wpS_pure ⟨rfl,g,rfl,F,G,J⟩
   ·rw[if_neg H];refine wpS_bind (I (g+(d-g)/2) (by omega) ?_);dsimp only;cases e:P (g+(d-g)/2)with
    |false=>
     refine wpS_pure ⟨rfl,g,_,rfl,by omega,by omega,G,λi M K=>R _ i M K e,by omega⟩
    |true=>
     refine wpS_pure ⟨rfl,_,d,rfl,by omega,F,λi M=>mono i _ (by omega) (by omega) e,J,by omega⟩
  ·rintro c D ⟨rfl,g,d,rfl,L,F,G,J,T⟩;obtain rfl:g=d:=by omega
   exact⟨rfl,g,rfl,F,G,J⟩
  ·exact mono i (a+l) (by omega) u v
  ·rcases C with C|C
   ·omega
   ·by_cases z:n-a<=o
    ·omega
    ·exact R (a+o) i (by omega) K C
  rintro c D ⟨rfl,k,rfl,L,F,G⟩;dsimp only;exact wpS_pure (N k L F G)
 |false=>
  rw[if_neg (by decide)];refine wpS_bind (wpS_mono (wpS_forRange (I:=λx c y=>y=st/\∃l o,c=(none,l,o)/\l<o/\P (a-l)=false/\l<=a/\x+1<=o) (Q:=λc y=>y=st/\∃l o,c=(none,l,o)/\l<o/\P (a-l)=false/\l<=a/\(a+1<=o\/P (a-o)=true)) ?_ ?_ ⟨rfl,0,1,rfl,by omega,Z,by omega,by omega⟩) ?_)
  ·rintro x c y _ U ⟨rfl,l,o,rfl,B,v,u,C⟩;dsimp only;by_cases H:o>=a+1
   ·rw[if_pos H];exact wpS_pure ⟨rfl,l,o,rfl,B,v,u,.inl H⟩
   ·rw[if_neg H];refine wpS_bind (I (a-o) (by omega) ?_);dsimp only;cases e:P (a-o)with
    |true=>exact wpS_pure ⟨rfl,l,o,rfl,B,v,u,.inr e⟩
    |false=>exact wpS_pure ⟨rfl,o,2*o+1,rfl,by omega,e,by omega,by omega⟩
  ·rintro c y ⟨rfl,l,o,rfl,B,v,u,C⟩;exact⟨rfl,l,o,rfl,B,v,u,.inl (by omega)⟩
  rintro c y ⟨rfl,l,o,rfl,B,v,u,C⟩;dsimp only;refine wpS_bind (wpS_mono (wpS_forRange (I:=λx c D=>D=y/\∃g d,c=(none,g,d)/\g<=d/\d<=n/\(∀i,i<g->P i=true)/\(∀i,d<=i->i<n->P i=false)/\d+x<=g+n) (Q:=λc D=>D=y/\∃k,c=(none,k,k)/\k<=n/\(∀i,i<k->P i=true)/\(∀i,k<=i->i<n->P i=false)) ?_ ?_ ⟨rfl,_,_,rfl,by omega,by omega,λi d=>?_,λi d K=>?_,by omega⟩) ?_)
  ·rintro x c D _ U ⟨rfl,g,d,rfl,L,F,G,J,T⟩;dsimp only;by_cases H:g>=d
   ·rw[if_pos H];obtain rfl:g=d:=by omega
    exact wpS_pure ⟨rfl,g,rfl,F,G,J⟩
   ·rw[if_neg H];refine wpS_bind (I (g+(d-g)/2) (by omega) ?_);dsimp only;cases e:P (g+(d-g)/2)with
    |false=>
     refine wpS_pure ⟨rfl,g,_,rfl,by omega,by omega,G,λi M K=>R _ i M K e,by omega⟩
    |true=>
     refine wpS_pure ⟨rfl,_,d,rfl,by omega,F,λi M=>mono i _ (by omega) (by omega) e,J,by omega⟩
  ·rintro c D ⟨rfl,g,d,rfl,L,F,G,J,T⟩;obtain rfl:g=d:=by omega
   exact⟨rfl,g,rfl,F,G,J⟩
  ·rcases C with C|C
   ·omega
   ·by_cases z:a+1<=o
    ·omega
    ·exact mono i (a-o) (by omega) (by omega) C
  ·exact R (a-l) i (by omega) K v
  rintro c D ⟨rfl,k,rfl,L,F,G⟩;dsimp only;exact wpS_pure (N k L F G)
end
section
variable {f:Keyed->Nat}
def Dl(f:Keyed->Nat)(l:List Keyed):Prop:=l.Pairwise λp q=>f p<=f q
def Iv(f:Keyed->Nat)(l m:List Keyed):Prop:=∀p∈l,∀q∈m,f p<=f q
theorem Ij{l m:List Keyed}(h1:Dl f l)(a:Dl f m)(b:Iv f l m):Dl f (l++m):=List.pairwise_append.mpr ⟨h1,a,b⟩
theorem Ht{l:List Keyed}(h:Dl f l)(n:Nat):Dl f (l.drop n):=h.sublist (List.drop_sublist n l)
theorem Hu{l:List Keyed}(h:Dl f l)(n:Nat):Dl f (l.take n):=h.sublist (List.take_sublist n l)
theorem Nj{l:List Keyed}(h:Dl f l){i j:Nat}{p q:Keyed}(hi:l[i]?=some p)(e:l[j]?=some q)(g:i<=j):f p<=f q:=by
 obtain⟨c,b⟩:=bA.mp hi;obtain⟨d,a⟩:=bA.mp e;rcases la i j with z|z
 ·have:=List.pairwise_iff_getElem.mp h i j c d z;rw[b,a]at this;exact this
 ·obtain rfl:i=j:=by omega
  rw[b]at a;rw[a];exact da _
theorem Fb{l:List Keyed}{i:Nat}{p:Keyed}(h:p∈l.drop i):∃j,l[i+j]?=some p:=by
 obtain⟨j,a⟩:=il.mp h;rw[List.getElem?_drop]at a;exact⟨j,a⟩
theorem Ex{l:List Keyed}{i k:Nat}{p:Keyed}(h:p∈(l.drop i).take k):∃j,j<k/\l[i+j]?=some p:=by
 obtain⟨j,b⟩:=il.mp h
 have a:j<k:=by
  have:=(bA.mp b).1;rw[List.length_take]at this;omega
 rw[List.getElem?_take_of_lt a,List.getElem?_drop]at b;exact⟨j,a,b⟩
def MI(f:Keyed->Nat)(x y:List Keyed)(i j:Nat)(o:List Keyed):Prop:=o.Perm (x.take i++y.take j)/\Dl f o/\Iv f o (x.drop i++y.drop j)
theorem Ph(l:List Keyed)(i k:Nat):l.take (i+k)=l.take i++(l.drop i).take k:=by rw[List.take_add]
theorem Jd(l:List Keyed)(i k:Nat):l.drop i=(l.drop i).take k++l.drop (i+k):=by
 have:=(List.take_append_drop k (l.drop i)).symm;rw[List.drop_drop]at this;exact this
theorem MI.mQ{x y o:List Keyed}{i j k:Nat}(h:MI f x y i j o)(m:Dl f x)(d:Iv f ((x.drop i).take k) (y.drop j)):MI f x y (i+k) j (o++(x.drop i).take k):=by
 obtain⟨n,r,c⟩:=h;have g:=Jd x i k;refine⟨?_,?_,?_⟩
 ·rw[Ph];refine(n.append_right _).trans ?_;rw[List.append_assoc,List.append_assoc];exact List.Perm.append_left _ List.perm_append_comm
 ·refine Ij r (Hu (Ht m i) k) λp e q b=>c p e q (ib _ (List.mem_of_mem_take b))
 ·intro p e q b;rcases hH.mp e with z|z
  ·rcases hH.mp b with a|a
   ·refine c p z q (ib _ ?_);rw[g];exact ia _ a
   ·exact c p z q (ia _ a)
  ·rcases hH.mp b with a|a
   ·have l:=Ht m i;rw[g]at l;exact(List.pairwise_append.mp l).2.2 p z q a
   ·exact d p z q a
theorem MI.swap{x y o:List Keyed}{i j:Nat}(h:MI f x y i j o):MI f y x j i o:=⟨h.1.trans List.perm_append_comm,h.2.1,λp a q b=>h.2.2 p a q (List.perm_append_comm.mem_iff.mp b)⟩
theorem MI.KP{x y o:List Keyed}{i j k:Nat}(h:MI f x y i j o)(b:Dl f y)(a:Iv f ((y.drop j).take k) (x.drop i)):MI f x y i (j+k) (o++(y.drop j).take k):=(h.swap.mQ b a).swap
def D2(f:Keyed->Nat)(x y r:List Keyed):Prop:=r.Perm (x++y)/\Dl f r
theorem MI.done{x y o:List Keyed}{i j:Nat}(h:MI f x y i j o)(g:Dl f x)(l:Dl f y)(a:Iv f (x.drop i) (y.drop j)):D2 f x y (o++x.drop i++y.drop j):=by
 obtain⟨b,c,d⟩:=h;refine⟨?_,?_⟩
 ·rw[List.append_assoc];refine(b.append_right _).trans ?_;have e:x++y=(x.take i++x.drop i)++(y.take j++y.drop j):=by rw[List.take_append_drop,List.take_append_drop]
  rw[e,List.append_assoc,List.append_assoc];refine List.Perm.append_left _ ?_;rw[<- List.append_assoc,<- List.append_assoc];exact List.Perm.append_right _ List.perm_append_comm
 ·rw[List.append_assoc];exact Ij c (Ij (Ht g i) (Ht l j) a) d
theorem MI.uA{x y o:List Keyed}{i j:Nat}(h:MI f x y i j o)(d:Dl f x)(e:Dl f y)(a:Iv f (y.drop j) (x.drop i)):D2 f x y (o++y.drop j++x.drop i):=by
 obtain⟨b,c⟩:=h.swap.done e d a;exact⟨b.trans List.perm_append_comm,c⟩
theorem Ql{l:List Keyed}{i:Nat}{p:Keyed}(h:l[i]?=some p):(l.drop i).take 1=[p]:=by
 obtain⟨a,e⟩:=bA.mp h;rw[List.drop_eq_getElem_cons a,e];rfl
theorem MI.zI{x y o:List Keyed}{i j:Nat}{p q:Keyed}(h:MI f x y i j o)(n:Dl f x)(r:Dl f y)(e:x[i]?=some p)(m:y[j]?=some q)(c:f p<=f q):MI f x y (i+1) j (o++[p]):=by
 rw[<- Ql e];refine h.mQ n λa d b g=>?_;rw[Ql e]at d;cases ly.mp d;obtain⟨k,l⟩:=Fb g;exact eI c (Nj r m l (by omega))
theorem MI.KQ{x y o:List Keyed}{i j:Nat}{p q:Keyed}(h:MI f x y i j o)(d:Dl f x)(e:Dl f y)(b:x[i]?=some p)(c:y[j]?=some q)(a:f q<=f p):MI f x y i (j+1) (o++[q]):=(h.swap.zI e d c b a).swap
end
section
variable {f:Keyed->Nat}{a b o:Array Keyed}{i j k:Nat}
theorem Me(a:Array Keyed)(i:Nat):(a.extract i).toList=a.toList.drop i:=by
 rw[Array.toList_extract];show(a.toList.drop i).take (a.size-i)=_;rw[List.take_of_length_le (by rw[List.length_drop,Array.length_toList];omega)]
theorem Ia(a:Array Keyed)(i k:Nat):(a.extract i (i+k)).toList=(a.toList.drop i).take k:=by
 simp[List.extract]
theorem Q9(a:Array Keyed)(k:Nat):(a.extract 0 k).toList=a.toList.take k:=by simp
theorem MI.bM(h:MI f a.toList b.toList i j o.toList)(g:Dl f a.toList)(l:Dl f b.toList)(e:j=b.size\/i=a.size):D2 f a.toList b.toList (o++a.extract i++b.extract j).toList:=by
 rw[Array.toList_append,Array.toList_append,Me,Me];refine h.done g l ?_;rcases e with e|e
 ·rw[List.drop_of_length_le (l:=b.toList) (by rw[Array.length_toList];omega)];intro p _ q d;cases d
 ·rw[List.drop_of_length_le (l:=a.toList) (by rw[Array.length_toList];omega)];intro p c;cases c
theorem MI.iZ(h:MI f a.toList b.toList i j o.toList)(s:Dl f a.toList)(u:Dl f b.toList)(e:i+1=a.size)(l:∀q∈b.toList,f q<=fa f a i):D2 f a.toList b.toList (o++b.extract j++a.extract i).toList:=by
 rw[Array.toList_append,Array.toList_append,Me,Me];refine h.uA s u λp n q r=>?_;obtain⟨m,c⟩:=Fb r;have g:=(bA.mp c).1;rw[Array.length_toList]at g;obtain rfl:m=0:=by omega
 have d:=l p (List.mem_of_mem_drop n);rw[Nat.add_zero,Array.getElem?_toList]at c;rw[Aw c]at d;exact d
theorem MI.jG(h:MI f a.toList b.toList i j o.toList)(l:Dl f a.toList)(m:Dl f b.toList){p:Keyed}(g:a[i]?=some p)(e:j<b.size)(c:f p<=fa f b j):MI f a.toList b.toList (i+1) j (o.push p).toList:=by
 obtain⟨q,d⟩:=Bz e;rw[Aw d]at c;rw[Array.toList_push];exact h.zI l m (by rw[Array.getElem?_toList];exact g) (by rw[Array.getElem?_toList];exact d) c
theorem MI.kD(h:MI f a.toList b.toList i j o.toList)(g:Dl f a.toList)(l:Dl f b.toList){q:Keyed}(e:b[j]?=some q)(hi:i<a.size)(c:f q<=fa f a i):MI f a.toList b.toList i (j+1) (o.push q).toList:=by
 obtain⟨p,d⟩:=Bz hi;rw[Aw d]at c;rw[Array.toList_push];exact h.KQ g l (by rw[Array.getElem?_toList];exact d) (by rw[Array.getElem?_toList];exact e) c
theorem MI.uB(h:MI f a.toList b.toList i j o.toList)(p:Dl f a.toList)(r:Dl f b.toList){q:Keyed}(n:b[j]?=some q)(c:∀m,m<k->fa f a (i+m)<=f q):MI f a.toList b.toList (i+k) j (o++a.extract i (i+k)).toList:=by
 rw[Array.toList_append,Ia];refine h.mQ p λx s y u=>?_;obtain⟨m,l,e⟩:=Ex s;obtain⟨v,g⟩:=Fb u;have d:=c m l;rw[Array.getElem?_toList]at e;rw[Aw e]at d;exact eI d (Nj r (by rw[Array.getElem?_toList];exact n) g (by omega))
theorem MI.DW(h:MI f a.toList b.toList i j o.toList)(q:Dl f a.toList)(r:Dl f b.toList){p:Keyed}(n:a[i]?=some p)(c:∀m,m<k->fa f b (j+m)<=f p):MI f a.toList b.toList i (j+k) (o++b.extract j (j+k)).toList:=by
 rw[Array.toList_append,Ia];refine h.KP r λx s y u=>?_;obtain⟨m,l,e⟩:=Ex s;obtain⟨v,g⟩:=Fb u;have d:=c m l;rw[Array.getElem?_toList]at e;rw[Aw e]at d;exact eI d (Nj q (by rw[Array.getElem?_toList];exact n) g (by omega))
theorem Mf(h:Dl f a.toList){lo hi:Nat}(m:hi<=a.size):Jq f a lo hi:=λi j g e l=>by
 obtain⟨p,c⟩:=Bz (a:=a) (i:=i) (by omega);obtain⟨q,d⟩:=Bz (a:=a) (i:=j) (by omega);rw[Aw c,Aw d];exact Nj h (by rw[Array.getElem?_toList];exact c) (by rw[Array.getElem?_toList];exact d) e
theorem Ff{m n:Nat}(h:m=n):(m==n)=true:=by simp[h]
theorem Fe{m n:Nat}(h:¬m=n):¬(m==n)=true:=by simp[h]
end
section
variable {prog:oT}{w:px}{A:oW}{E:oi}{s:oF}{κ:SortKind}{f:Keyed->Nat}{a₀:Array Keyed}{st:SortSt}
def Gs(st a:SortSt):Prop:=∃g,a=SortSt.mk' (kindOf st) (arrOf st) (pendingOf st) g (failedOf st)
theorem Gs.refl:Gs st st:=⟨gallopOf st,rfl⟩
theorem ff{a b:Type}{M:Model}{c:Prop}[Decidable c]{Q:b->a->Prop}{st:a}{g:Nat->StateT a Sem b}{X Y:StateT a Sem b}(y x:Nat)(d:Y=g y)(ex:X=g x)(h:∀z,wpS M A E s (g z) Q st):wpS M A E s (if c then X else Y) Q st:=by
 subst d ex;split
 ·exact h x
 ·exact h y
theorem Mg{a b:Type}{M:Model}{c:Prop}[Decidable c]{Q:b->a->Prop}{st:a}{g:Array Keyed->Nat->StateT a Sem b}{X Y:StateT a Sem b}(P:Array Keyed->Nat->Prop)(o:Array Keyed)(i:Nat)(d:Y=g o i)(j:¬c->P o i)(e:c->(∀o i,P o i->wpS M A E s (g o i) Q st)->wpS M A E s X Q st)(h:∀o i,P o i->wpS M A E s (g o i) Q st):wpS M A E s (if c then X else Y) Q st:=by
 subst d;split
 ·rename_i z;exact e z h
 ·rename_i z;exact h o i (j z)
theorem Tj(hA:J1 prog w A s κ f a₀)(hk:kindOf st=κ){a b:Array Keyed}(ha:∀p,p∈a->p∈a₀)(hb:∀p,p∈b->p∈a₀)(C:Dl f a.toList)(D:Dl f b.toList)(ha0:0<a.size)(zJ:0<b.size)
  (dW:fa f b 0<=fa f a 0)(uC:∀q∈b.toList,f q<=fa f a (a.size-1)){Q:Array Keyed->SortSt->Prop}(h:∀r B,Gs st B->D2 f a.toList b.toList r.toList->Q r B):wpS (model prog w) A E s (ab a b) Q st:=by
 have L:∀i,i+1=a.size->∀q∈b.toList,f q<=fa f a i:=λi hi q O=>by
  have:=uC q O;rwa[show a.size-1=i by omega]at this
 have dH:∀g,kindOf (SortSt.mk' (kindOf st) (arrOf st) (pendingOf st) g (failedOf st))=κ:=λg=>hk;obtain⟨q0,WY⟩:=Bz zJ;refine wpS_bind (wpS_lift (mC ⟨rfl,?_⟩));refine wpS_bind (Bc WY ?_);have M0:MI f a.toList b.toList 0 0 (#[]:Array Keyed).toList:=⟨by simp,List.Pairwise.nil,λp H=>by cases H⟩;have M1:=M0.kD C D WY ha0 (by rw[Aw WY]at dW;exact dW);rw[show(#[]:Array Keyed).push q0=#[q0]from rfl]at M1;dsimp-zeta only;by_cases e1:0+1=b.size
 ·rw[if_pos (Ff e1)];exact wpS_pure (h _ _ Gs.refl (M1.bM C D (.inl e1)))
 rw[if_neg (Fe e1)];by_cases e2:0+1=a.size
 ·rw[if_pos (Ff e2)];exact wpS_pure (h _ _ Gs.refl (M1.iZ C D e2 (L 0 e2)))
 rw[if_neg (Fe e2)];refine wpS_bind (wpS_get ?_)
 refine wpS_bind (wpS_mono (wpS_forRange (I:=λx c B=>Gs st B/\∃o d l g,c=(none,o,d,l,g)/\MI f a.toList b.toList d l o.toList/\d+1<a.size/\l<b.size/\x+1<=d+l)
  (Q:=λc B=>Gs st B/\∃r z,c=(some r,z)/\D2 f a.toList b.toList r.toList) ?_ ?_ ⟨Gs.refl,_,_,_,_,rfl,M1,by omega,by omega,by omega⟩) ?_)
 ·rintro x c cC _ kS ⟨I,o,d,l,g,rfl,M,u,n,N⟩;dsimp-zeta only
  refine wpS_bind (wpS_mono (wpS_forRange (I:=λy c B=>Gs st B/\∃o d l F G,c=(none,o,d,l,F,G)/\MI f a.toList b.toList d l o.toList/\d+1<a.size/\l<b.size/\x+1+y<=d+l)
   (Q:=λc B=>Gs st B/\((∃r z,c=(some r,z)/\D2 f a.toList b.toList r.toList)\/∃o d l F G,c=(none,o,d,l,F,G)/\MI f a.toList b.toList d l o.toList/\d+1<a.size/\l<b.size/\x+2<=d+l)) ?_ ?_ ⟨I,_,_,_,_,_,rfl,M,u,n,by omega⟩) ?_)
  ·clear M u n N I;rintro y c cC _ tQ ⟨I,o,d,l,F,G,rfl,M,u,n,N⟩;obtain⟨gx,rfl⟩:=I;obtain⟨q,O⟩:=Bz n;obtain⟨p,H⟩:=Bz (a:=a) (i:=d) (by omega);dsimp-zeta only;refine wpS_bind (Bc O (wpS_bind (Bc H (wpS_bind (O3 hA (dH gx) (hb q (Array.mem_of_getElem? O)) (ha p (Array.mem_of_getElem? H)) ?_)))));dsimp-zeta only;by_cases z:f q<f p
   ·rw[if_pos (decide_eq_true z)];have M2:=M.kD C D O (by omega) (by rw[Aw H];omega);refine wpS_bind (Bc O ?_);by_cases e:l+1=b.size
    ·rw[if_pos (Ff e)];exact wpS_pure ⟨⟨_,rfl⟩,.inl ⟨_,_,rfl,M2.bM C D (.inl e)⟩⟩
    rw[if_neg (Fe e)];split
    ·exact wpS_pure ⟨⟨_,rfl⟩,.inr ⟨_,_,_,_,_,rfl,M2,u,by omega,by omega⟩⟩
    ·exact wpS_pure ⟨⟨_,rfl⟩,_,_,_,_,_,rfl,M2,u,by omega,by omega⟩
   ·rw[if_neg (by rw[decide_eq_true_eq];exact z)];have M2:=M.jG C D H n (by rw[Aw O];omega);refine wpS_bind (Bc H ?_);by_cases e:d+1+1=a.size
    ·rw[if_pos (Ff e)];exact wpS_pure ⟨⟨_,rfl⟩,.inl ⟨_,_,rfl,M2.iZ C D e (L _ e)⟩⟩
    rw[if_neg (Fe e)];split
    ·exact wpS_pure ⟨⟨_,rfl⟩,.inr ⟨_,_,_,_,_,rfl,M2,by omega,n,by omega⟩⟩
    ·exact wpS_pure ⟨⟨_,rfl⟩,_,_,_,_,_,rfl,M2,by omega,n,by omega⟩
  ·rintro c B ⟨I,o,d,l,F,G,rfl,M,u,n,N⟩;exact⟨I,.inr ⟨o,d,l,F,G,rfl,M,u,n,by omega⟩⟩
  clear M u n N I;rintro c aQ ⟨R,⟨r,z,rfl,J⟩|⟨o,d,l,F,G,rfl,M,u,n,N⟩⟩
  ·dsimp-zeta only;exact wpS_pure ⟨R,r,_,rfl,J⟩
  dsimp-zeta only;refine wpS_bind (wpS_lift (mC ⟨rfl,?_⟩))
  refine wpS_bind (wpS_mono (wpS_forRange (I:=λy c B=>Gs st B/\∃o d l v F G,c=(none,o,d,l,v,F,G)/\MI f a.toList b.toList d l o.toList/\d+1<a.size/\l<b.size/\x+2<=d+l)
   (Q:=λc B=>Gs st B/\((∃r z,c=(some r,z)/\D2 f a.toList b.toList r.toList)\/∃o d l v F G,c=(none,o,d,l,v,F,G)/\MI f a.toList b.toList d l o.toList/\d+1<a.size/\l<b.size/\x+2<=d+l)) ?_ ?_ ⟨R,_,_,_,_,_,_,rfl,M,u,n,N⟩) ?_)
  ·clear M u n N R;rintro y c cC _ tQ ⟨I,o,d,l,v,F,G,rfl,M,u,n,N⟩;obtain⟨gx,rfl⟩:=I;obtain⟨q,O⟩:=Bz n;dsimp-zeta only
   have ga:∀{S:Option Nat->SortSt->Prop}{v},(∀k,d+k<=a.size->(∀m,m<k->fa f a (d+m)<=f q)->(∀m,k<=m->d+m<a.size->f q<fa f a (d+m))->S (some k) (SortSt.mk' (kindOf st) (arrOf st) (pendingOf st) v (failedOf st)))->
     wpS (model prog w) A E s (Jz false q a d (a.size-d) 0) S (SortSt.mk' (kindOf st) (arrOf st) (pendingOf st) v (failedOf st)):=λ{S}{v} rN=>by
    refine E3 hA (dH v) (hb q (Array.mem_of_getElem? O)) ha (by omega) (by omega) (Mf C (by omega)) λk g1 X T=>rN k (by omega) (λm hm=>?_) (λm mO oA=>?_)
    ·have:=X m hm;simpa using this
    ·have:=T m mO (by omega);simpa using this
   have gb:∀{S:Option Nat->SortSt->Prop}{v i j p},a[i]?=some p->j<b.size->(∀k,j+k<=b.size->(∀m,m<k->fa f b (j+m)<=f p)->(∀m,k<=m->j+m<b.size->f p<=fa f b (j+m))->S (some k) (SortSt.mk' (kindOf st) (arrOf st) (pendingOf st) v (failedOf st)))->
     wpS (model prog w) A E s (Jz true p b j (b.size-j) 0) S (SortSt.mk' (kindOf st) (arrOf st) (pendingOf st) v (failedOf st)):=λ{S}{v i j p} H hj rN=>by
    refine E3 hA (dH v) (ha p (Array.mem_of_getElem? H)) hb (by omega) (by omega) (Mf D (by omega)) λk g1 X T=>rN k (by omega) (λm hm=>?_) (λm mO oA=>?_)
    ·have:=X m hm;simp at this;omega
    ·have:=T m mO (by omega);simpa using this
   dsimp only;apply ff v (v-1) (Eq.refl _) (Eq.refl _);intro v;refine wpS_bind (wpS_modify ?_);refine wpS_bind (Bc O (wpS_bind (ga λk g1 X T=>?_)));dsimp only;apply Mg (λo2 P=>MI f a.toList b.toList P l o2.toList/\P+1<a.size/\f q<fa f a P/\d<=P) o d (Eq.refl _) (λz=>⟨M,u,T 0 (by omega) (by omega),da _⟩)
   ·intro z K;have M2:=M.uB C D O X;by_cases e:d+k+1=a.size
    ·rw[if_pos (Ff e)];exact wpS_pure ⟨⟨_,rfl⟩,.inl ⟨_,_,rfl,M2.iZ C D e (L _ e)⟩⟩
    rw[if_neg (Fe e)];by_cases e':d+k=a.size
    ·rw[if_pos (Ff e')];exact wpS_pure ⟨⟨_,rfl⟩,.inl ⟨_,_,rfl,M2.bM C D (.inr e')⟩⟩
    rw[if_neg (Fe e')];exact K _ _ ⟨M2,by omega,T k (da _) (by omega),by omega⟩
   rintro o2 P ⟨M2,sX,g3',hle⟩;clear g1 X T M u;refine wpS_bind (Bc O ?_);have U:=M2.kD C D O (by omega) (nf g3');generalize hib:l+1=WZ at U⊢;generalize o2.push q=o3 at U⊢;by_cases e:WZ=b.size
   ·rw[if_pos (Ff e)];exact wpS_pure ⟨⟨_,rfl⟩,.inl ⟨_,_,rfl,U.bM C D (.inl e)⟩⟩
   rw[if_neg (Fe e)];obtain⟨p,H⟩:=Bz (a:=a) (i:=P) (by omega);refine wpS_bind (Bc H (wpS_bind (gb H (by omega) λk2 c1 c2 c3=>?_)));dsimp only;apply Mg (λo3 Y=>MI f a.toList b.toList P Y o3.toList/\Y<b.size/\f p<=fa f b Y/\l<Y) o3 WZ (Eq.refl _) (λz=>⟨U,by omega,c3 0 (by omega) (by omega),by omega⟩)
   ·intro z K;have Z:=U.DW C D H c2;by_cases e4:WZ+k2=b.size
    ·rw[if_pos (Ff e4)];exact wpS_pure ⟨⟨_,rfl⟩,.inl ⟨_,_,rfl,Z.bM C D (.inl e4)⟩⟩
    rw[if_neg (Fe e4)];exact K _ _ ⟨Z,by omega,c3 k2 (da _) (by omega),by omega⟩
   rintro o4 Y ⟨Z,hj,c4,aP⟩;clear c1 c2 c3 U M2;refine wpS_bind (Bc H ?_);have M5:=Z.jG C D H hj c4;by_cases e5:P+1+1=a.size
   ·rw[if_pos (Ff e5)];exact wpS_pure ⟨⟨_,rfl⟩,.inl ⟨_,_,rfl,M5.iZ C D e5 (L _ e5)⟩⟩
   rw[if_neg (Fe e5)];split
   ·exact wpS_pure ⟨⟨_,rfl⟩,.inr ⟨_,_,_,_,_,_,rfl,M5,by omega,hj,by omega⟩⟩
   ·exact wpS_pure ⟨⟨_,rfl⟩,_,_,_,_,_,_,rfl,M5,by omega,hj,by omega⟩
  ·rintro c B ⟨I,o,d,l,v,F,G,rfl,M,u,n,N⟩;exact⟨I,.inr ⟨o,d,l,v,F,G,rfl,M,u,n,N⟩⟩
  clear M u n N R;rintro c aQ ⟨R,⟨r,z,rfl,J⟩|⟨o,d,l,v,F,G,rfl,M,u,n,N⟩⟩
  ·dsimp-zeta only;exact wpS_pure ⟨R,r,_,rfl,J⟩
  dsimp-zeta only;obtain⟨gx,rfl⟩:=R;refine wpS_bind (wpS_modify ?_);exact wpS_pure ⟨⟨_,rfl⟩,_,_,_,_,rfl,M,u,n,by omega⟩
 ·rintro c B ⟨I,o,d,l,g,rfl,M,u,n,N⟩;exfalso;omega
 rintro c B ⟨I,r,z,rfl,J⟩;dsimp-zeta only;exact wpS_pure (h _ _ I J)
end
section
variable {f:Keyed->Nat}
def MH(f:Keyed->Nat)(x y:List Keyed)(i j:Nat)(o:List Keyed):Prop:=o.reverse.Perm (x.drop i++y.drop j)/\Dl f o.reverse/\Iv f (x.take i++y.take j) o.reverse
theorem MH.swap{x y o:List Keyed}{i j:Nat}(h:MH f x y i j o):MH f y x j i o:=⟨h.1.trans List.perm_append_comm,h.2.1,λp a=>h.2.2 p (List.perm_append_comm.mem_iff.mp a)⟩
theorem MH.mQ{x y o:List Keyed}{i j k:Nat}(h:MH f x y (i+k) j o)(n:Dl f x)(g:Iv f (y.take j) ((x.drop i).take k)):MH f x y i j (o++((x.drop i).take k).reverse):=by
 obtain⟨r,s,d⟩:=h;have u:=Jd x i k;have m:=Ph x i k;have e:(o++((x.drop i).take k).reverse).reverse=(x.drop i).take k++o.reverse:=by rw[List.reverse_append,List.reverse_reverse]
 have b:Dl f (x.take (i+k)):=Hu n _;rw[m]at b;unfold MH;rw[e];refine⟨?_,?_,?_⟩
 ·refine(List.Perm.append_left _ r).trans ?_;rw[<- List.append_assoc,<- u]
 ·refine Ij (Hu (Ht n i) k) s λp l q c=>d p (ib _ ?_) q c;rw[m];exact ia _ l
 ·intro p l q c;rcases hH.mp l with z|z
  ·rcases hH.mp c with a|a
   ·exact(List.pairwise_append.mp b).2.2 p z q a
   ·refine d p (ib _ ?_) q a;rw[m];exact ib _ z
  ·rcases hH.mp c with a|a
   ·exact g p z q a
   ·exact d p (ia _ z) q a
theorem MH.done{x y o:List Keyed}{i j:Nat}(h:MH f x y i j o)(g:Dl f x)(l:Dl f y)(a:Iv f (x.take i) (y.take j)):D2 f x y (x.take i++y.take j++o.reverse):=by
 obtain⟨b,c,d⟩:=h;refine⟨?_,Ij (Ij (Hu g i) (Hu l j) a) c d⟩;refine(List.Perm.append_left _ b).trans ?_;have e:x++y=(x.take i++x.drop i)++(y.take j++y.drop j):=by rw[List.take_append_drop,List.take_append_drop]
 rw[e,List.append_assoc,List.append_assoc];refine List.Perm.append_left _ ?_;rw[<- List.append_assoc,<- List.append_assoc];exact List.Perm.append_right _ List.perm_append_comm
theorem MH.uA{x y o:List Keyed}{i j:Nat}(h:MH f x y i j o)(d:Dl f x)(e:Dl f y)(a:Iv f (y.take j) (x.take i)):D2 f x y (y.take j++x.take i++o.reverse):=by
 obtain⟨b,c⟩:=h.swap.done e d a;exact⟨b.trans List.perm_append_comm,c⟩
variable {a b o:Array Keyed}{i j k:Nat}
theorem Lo{l:List Keyed}{i:Nat}{p:Keyed}(h:p∈l.take i):∃m,m<i/\l[m]?=some p:=by
 have d:p∈(l.drop 0).take i:=h;obtain⟨m,e,c⟩:=Ex d;exact⟨m,e,by rw[Nat.zero_add]at c;exact c⟩
theorem MH.bM(h:MH f a.toList b.toList i j o.toList)(g:Dl f a.toList)(l:Dl f b.toList)(e:i=0\/j=0):D2 f a.toList b.toList (a.extract 0 i++b.extract 0 j++o.reverse).toList:=by
 rw[Array.toList_append,Array.toList_append,Q9,Q9,Array.toList_reverse];refine h.done g l ?_;rcases e with e|e<;>subst e
 ·intro p c;simp at c
 ·intro p _ q d;simp at d
theorem MH.eP(h:MH f a.toList b.toList i j o.toList)(n:Dl f a.toList)(r:Dl f b.toList)(e:j=1)(d:∀p∈a.toList,fa f b 0<=f p):D2 f a.toList b.toList (b.extract 0 j++a.extract 0 i++o.reverse).toList:=by
 rw[Array.toList_append,Array.toList_append,Q9,Q9,Array.toList_reverse];refine h.uA n r λp g q l=>?_;obtain⟨m,s,c⟩:=Lo g;obtain rfl:m=0:=by omega
 rw[Array.getElem?_toList]at c;have:=d q (List.mem_of_mem_take l);rw[Aw c]at this;exact this
theorem MH.uB(h:MH f a.toList b.toList i j o.toList)(p:Dl f a.toList)(v:Dl f b.toList){m:Nat}(s:m<=i)(c:∀n,m<=n->n<i->∀l,l<j->fa f b l<=fa f a n):MH f a.toList b.toList m j (o++(a.extract m i).reverse).toList:=by
 obtain⟨k,rfl⟩:∃k,i=m+k:=⟨i-m,by omega⟩;rw[Array.toList_append,Array.toList_reverse,Ia];refine h.mQ p λx q y r=>?_;obtain⟨l,g,e⟩:=Lo q;obtain⟨n,u,d⟩:=Ex r;rw[Array.getElem?_toList]at e d;have:=c (m+n) (by omega) (by omega) l g;rw[Aw e,Aw d]at this;exact this
theorem MH.DW(h:MH f a.toList b.toList i j o.toList)(e:Dl f a.toList)(g:Dl f b.toList){m:Nat}(d:m<=j)(c:∀n,m<=n->n<j->∀l,l<i->fa f a l<=fa f b n):MH f a.toList b.toList i m (o++(b.extract m j).reverse).toList:=(h.swap.uB g e d c).swap
theorem gi{a:Array Keyed}{i:Nat}{p:Keyed}(c:a[i]?=some p):(a.extract i (i+1)).toList=[p]:=by
 rw[Ia];exact Ql (by rw[Array.getElem?_toList];exact c)
theorem MH.jG(h:MH f a.toList b.toList (i+1) j o.toList)(g:Dl f a.toList)(m:Dl f b.toList){p:Keyed}(d:a[i]?=some p)(c:∀l,l<j->fa f b l<=f p):MH f a.toList b.toList i j (o.push p).toList:=by
 have:=h.uB g m (m:=i) (by omega) λn q r l e=>by
  obtain rfl:n=i:=by omega
  rw[Aw d];exact c l e
 rw[Array.toList_append,Array.toList_reverse,gi d]at this;rw[Array.toList_push];exact this
theorem MH.kD(h:MH f a.toList b.toList i (j+1) o.toList)(e:Dl f a.toList)(g:Dl f b.toList){q:Keyed}(d:b[j]?=some q)(c:∀l,l<i->fa f a l<=f q):MH f a.toList b.toList i j (o.push q).toList:=(h.swap.jG g e d c).swap
end
section
variable {prog:oT}{w:px}{A:oW}{E:oi}{s:oF}{κ:SortKind}{f:Keyed->Nat}{a₀:Array Keyed}{st:SortSt}
theorem Ti(hA:J1 prog w A s κ f a₀)(hk:kindOf st=κ){a b:Array Keyed}(ha:∀p,p∈a->p∈a₀)(hb:∀p,p∈b->p∈a₀)(H:Dl f a.toList)(I:Dl f b.toList)(ha0:0<a.size)(zJ:0<b.size)
  (dW:∀p∈a.toList,fa f b 0<=f p)(uC:∀j,j<b.size->fa f b j<=fa f a (a.size-1)){Q:Array Keyed->SortSt->Prop}(h:∀r C,Gs st C->D2 f a.toList b.toList r.toList->Q r C):wpS (model prog w) A E s (aa a b) Q st:=by
 have dH:∀g,kindOf (SortSt.mk' (kindOf st) (arrOf st) (pendingOf st) g (failedOf st))=κ:=λg=>hk;have XA:∀{lo hi},hi<=a.size->Jq f a lo hi:=λh=>Mf H h;have XB:∀{lo hi},hi<=b.size->Jq f b lo hi:=λh=>Mf I h;obtain⟨p0,XC⟩:=Bz (a:=a) (i:=a.size-1) (by omega);refine wpS_bind (wpS_lift (mC ⟨rfl,?_⟩));refine wpS_bind (Bc XC ?_)
 have M0:MH f a.toList b.toList (a.size-1+1) b.size (#[]:Array Keyed).toList:=by
  refine⟨?_,List.Pairwise.nil,λp _ q P=>by cases P⟩;rw[List.drop_of_length_le (l:=a.toList) (by rw[Array.length_toList];omega),List.drop_of_length_le (l:=b.toList) (by rw[Array.length_toList];omega)];exact List.Perm.refl _
 have M1:=M0.jG H I XC (λl U=>by have:=uC l U;rw[Aw XC]at this;exact this);rw[show(#[]:Array Keyed).push p0=#[p0]from rfl]at M1;dsimp-zeta only;by_cases e1:a.size-1=0
 ·rw[if_pos (Ff e1)];exact wpS_pure (h _ _ Gs.refl (M1.bM H I (.inl e1)))
 rw[if_neg (Fe e1)];by_cases e2:b.size=1
 ·rw[if_pos (Ff e2)];exact wpS_pure (h _ _ Gs.refl (M1.eP H I e2 dW))
 rw[if_neg (Fe e2)];refine wpS_bind (wpS_get ?_)
 refine wpS_bind (wpS_mono (wpS_forRange (I:=λx c C=>Gs st C/\∃o u d g,c=(none,u,d,o,g)/\MH f a.toList b.toList u d o.toList/\0<u/\u<=a.size/\1<d/\d<=b.size/\u+d+x+1<=a.size+b.size)
  (Q:=λc C=>Gs st C/\∃r z,c=(some r,z)/\D2 f a.toList b.toList r.toList) ?_ ?_ ⟨Gs.refl,_,_,_,_,rfl,M1,by omega,by omega,by omega,by omega,by omega⟩) ?_)
 ·rintro x c cC _ kS ⟨O,o,u,d,g,rfl,M,B,F,D,G,R⟩;dsimp-zeta only
  refine wpS_bind (wpS_mono (wpS_forRange (I:=λy c C=>Gs st C/\∃o u d L N,c=(none,u,d,o,L,N)/\MH f a.toList b.toList u d o.toList/\0<u/\u<=a.size/\1<d/\d<=b.size/\u+d+x+1+y<=a.size+b.size)
   (Q:=λc C=>Gs st C/\((∃r z,c=(some r,z)/\D2 f a.toList b.toList r.toList)\/∃o u d L N,c=(none,u,d,o,L,N)/\MH f a.toList b.toList u d o.toList/\0<u/\u<=a.size/\1<d/\d<=b.size/\u+d+x+2<=a.size+b.size)) ?_ ?_ ⟨O,_,_,_,_,_,rfl,M,B,F,D,G,by omega⟩) ?_)
  ·clear M B D R O F G;rintro y c cC _ tQ ⟨O,o,u,d,L,N,rfl,M,B,F,D,G,R⟩;obtain⟨gx,rfl⟩:=O;obtain⟨q,P⟩:=Bz (a:=b) (i:=d-1) (by omega);obtain⟨p,S⟩:=Bz (a:=a) (i:=u-1) (by omega);dsimp-zeta only;refine wpS_bind (Bc P (wpS_bind (Bc S (wpS_bind (O3 hA (dH gx) (hb q (Array.mem_of_getElem? P)) (ha p (Array.mem_of_getElem? S)) ?_)))));dsimp-zeta only;by_cases z:f q<f p
   ·rw[if_pos (decide_eq_true z)];have M2:=MH.jG (i:=u-1) (by rw[show u-1+1=u by omega];exact M) H I S (λl U=>by have:=XB (lo:=0) (hi:=b.size) (da _) l (d-1) (by omega) (by omega) (by omega);rw[Aw P]at this;omega);refine wpS_bind (Bc S ?_);by_cases e:u-1=0
    ·rw[if_pos (Ff e)];exact wpS_pure ⟨⟨_,rfl⟩,.inl ⟨_,_,rfl,M2.bM H I (.inl e)⟩⟩
    rw[if_neg (Fe e)];split
    ·exact wpS_pure ⟨⟨_,rfl⟩,.inr ⟨_,_,_,_,_,rfl,M2,by omega,by omega,D,G,by omega⟩⟩
    ·exact wpS_pure ⟨⟨_,rfl⟩,_,_,_,_,_,rfl,M2,by omega,by omega,D,G,by omega⟩
   ·rw[if_neg (by rw[decide_eq_true_eq];exact z)];have M2:=MH.kD (j:=d-1) (by rw[show d-1+1=d by omega];exact M) H I P (λl U=>by have:=XA (lo:=0) (hi:=a.size) (da _) l (u-1) (by omega) (by omega) (by omega);rw[Aw S]at this;omega);refine wpS_bind (Bc P ?_);by_cases e:d-1=1
    ·rw[if_pos (Ff e)];exact wpS_pure ⟨⟨_,rfl⟩,.inl ⟨_,_,rfl,M2.eP H I e dW⟩⟩
    rw[if_neg (Fe e)];split
    ·exact wpS_pure ⟨⟨_,rfl⟩,.inr ⟨_,_,_,_,_,rfl,M2,B,F,by omega,by omega,by omega⟩⟩
    ·exact wpS_pure ⟨⟨_,rfl⟩,_,_,_,_,_,rfl,M2,B,F,by omega,by omega,by omega⟩
  ·rintro c C ⟨O,o,u,d,L,N,rfl,M,B,F,D,G,R⟩;exact⟨O,.inr ⟨o,u,d,L,N,rfl,M,B,F,D,G,by omega⟩⟩
  clear M B D R O F G;rintro c aQ ⟨X,⟨r,z,rfl,J⟩|⟨o,u,d,L,N,rfl,M,B,F,D,G,R⟩⟩
  ·dsimp-zeta only;exact wpS_pure ⟨X,r,_,rfl,J⟩
  dsimp-zeta only;refine wpS_bind (wpS_lift (mC ⟨rfl,?_⟩))
  refine wpS_bind (wpS_mono (wpS_forRange (I:=λy c C=>Gs st C/\∃o u d v L N,c=(none,u,d,o,v,L,N)/\MH f a.toList b.toList u d o.toList/\0<u/\u<=a.size/\1<d/\d<=b.size/\u+d+x+2<=a.size+b.size)
   (Q:=λc C=>Gs st C/\((∃r z,c=(some r,z)/\D2 f a.toList b.toList r.toList)\/∃o u d v L N,c=(none,u,d,o,v,L,N)/\MH f a.toList b.toList u d o.toList/\0<u/\u<=a.size/\1<d/\d<=b.size/\u+d+x+2<=a.size+b.size)) ?_ ?_ ⟨X,_,_,_,_,_,_,rfl,M,B,F,D,G,R⟩) ?_)
  ·clear M B D R X F G;rintro y c cC _ tQ ⟨O,o,u,d,v,L,N,rfl,M,B,F,D,G,R⟩;obtain⟨gx,rfl⟩:=O;obtain⟨q,P⟩:=Bz (a:=b) (i:=d-1) (by omega);dsimp-zeta only
   have ga:∀{Y:Option Nat->SortSt->Prop}{v},(∀k,k<=u->(∀m,m<k->fa f a m<=f q)->(∀m,k<=m->m<u->f q<=fa f a m)->Y (some k) (SortSt.mk' (kindOf st) (arrOf st) (pendingOf st) v (failedOf st)))->
     wpS (model prog w) A E s (Jz false q a 0 u (u-1)) Y (SortSt.mk' (kindOf st) (arrOf st) (pendingOf st) v (failedOf st)):=λ{Y}{v} rN=>by
    refine E3 hA (dH v) (hb q (Array.mem_of_getElem? P)) ha (by omega) (by omega) (XA (by omega)) λk g1 Z g3=>rN k (by omega) (λm hm=>?_) (λm mO oA=>?_)
    ·have:=Z m hm;simpa using this
    ·have:=g3 m mO (by omega);simp at this;omega
   have gb:∀{Y:Option Nat->SortSt->Prop}{v i j p},a[i]?=some p->0<j->j<=b.size->(∀k,k<=j->(∀m,m<k->fa f b m<=f p)->(∀m,k<=m->m<j->f p<=fa f b m)->Y (some k) (SortSt.mk' (kindOf st) (arrOf st) (pendingOf st) v (failedOf st)))->
     wpS (model prog w) A E s (Jz true p b 0 j (j-1)) Y (SortSt.mk' (kindOf st) (arrOf st) (pendingOf st) v (failedOf st)):=λ{Y}{v i j p} S hj hj2 rN=>by
    refine E3 hA (dH v) (ha p (Array.mem_of_getElem? S)) hb (by omega) (by omega) (XB (by omega)) λk g1 Z g3=>rN k (by omega) (λm hm=>?_) (λm mO oA=>?_)
    ·have:=Z m hm;simp at this;omega
    ·have:=g3 m mO (by omega);simpa using this
   dsimp only;apply ff v (v-1) (Eq.refl _) (Eq.refl _);intro v;refine wpS_bind (wpS_modify ?_);refine wpS_bind (Bc P (wpS_bind (ga λk g1 Z g3=>?_)));dsimp only
   have zK:∀l,l<d->fa f b l<=f q:=λl U=>by
    have:=XB (lo:=0) (hi:=b.size) (da _) l (d-1) (by omega) (by omega) (by omega);rw[Aw P]at this;exact this
   generalize hac:u-k=ac2;apply Mg (λo2 T=>MH f a.toList b.toList T d o2.toList/\0<T/\T<=u/\∀l,l<T->fa f a l<=f q) o u (Eq.refl _) (λz=>⟨M,B,da _,λl U=>Z l (by omega)⟩)
   ·intro z K;have M2:=M.uB H I g1 (λn zL xY l U=>eI (zK l U) (g3 n zL xY));by_cases e:k=0
    ·rw[if_pos (Ff e)];exact wpS_pure ⟨⟨_,rfl⟩,.inl ⟨_,_,rfl,M2.bM H I (.inl e)⟩⟩
    rw[if_neg (Fe e)];exact K _ _ ⟨M2,by omega,g1,Z⟩
   rintro o2 T ⟨M2,xY,hn2',g2'⟩;clear Z g3 M zK;refine wpS_bind (Bc P ?_);have M3:=MH.kD (j:=d-1) (by rw[show d-1+1=d by omega];exact M2) H I P g2';generalize hnb:d-1=TY at M3 P⊢;generalize o2.push q=o3 at M3⊢;by_cases e':TY=1
   ·rw[if_pos (Ff e')];exact wpS_pure ⟨⟨_,rfl⟩,.inl ⟨_,_,rfl,M3.eP H I e' dW⟩⟩
   rw[if_neg (Fe e')];obtain⟨p,S⟩:=Bz (a:=a) (i:=T-1) (by omega);refine wpS_bind (Bc S (wpS_bind (gb S (by omega) (by omega) λk2 c1 c2 c3=>?_)));dsimp only;generalize hbc:TY-k2=bc2;apply Mg (λo4 j4=>MH f a.toList b.toList T j4 o4.toList/\1<j4/\j4<=TY/\∀l,l<j4->fa f b l<=f p) o3 TY (Eq.refl _) (λz=>⟨M3,by omega,da _,λl U=>c2 l (by omega)⟩)
   ·intro z K
    have M4:=M3.DW H I c1 (λn zL xY l U=>eI (by
     have:=XA (lo:=0) (hi:=a.size) (da _) l (T-1) (by omega) (by omega) (by omega);rw[Aw S]at this;exact this) (c3 n zL xY))
    by_cases e4:k2=1
    ·rw[if_pos (Ff e4)];exact wpS_pure ⟨⟨_,rfl⟩,.inl ⟨_,_,rfl,M4.eP H I e4 dW⟩⟩
    rw[if_neg (Fe e4)];by_cases e5:k2=0
    ·rw[if_pos (Ff e5)];exact wpS_pure ⟨⟨_,rfl⟩,.inl ⟨_,_,rfl,M4.bM H I (.inr e5)⟩⟩
    rw[if_neg (Fe e5)];exact K _ _ ⟨M4,by omega,c1,c2⟩
   rintro o4 j4 ⟨M4,hj4,hj4',c2'⟩;clear c1 c2 c3 M3 M2;refine wpS_bind (Bc S ?_);have M5:=MH.jG (i:=T-1) (by rw[show T-1+1=T by omega];exact M4) H I S c2';by_cases e6:T-1=0
   ·rw[if_pos (Ff e6)];exact wpS_pure ⟨⟨_,rfl⟩,.inl ⟨_,_,rfl,M5.bM H I (.inl e6)⟩⟩
   rw[if_neg (Fe e6)];split
   ·exact wpS_pure ⟨⟨_,rfl⟩,.inr ⟨_,_,_,_,_,_,rfl,M5,by omega,by omega,hj4,by omega,by omega⟩⟩
   ·exact wpS_pure ⟨⟨_,rfl⟩,_,_,_,_,_,_,rfl,M5,by omega,by omega,hj4,by omega,by omega⟩
  ·rintro c C ⟨O,o,u,d,v,L,N,rfl,M,B,F,D,G,R⟩;exact⟨O,.inr ⟨o,u,d,v,L,N,rfl,M,B,F,D,G,R⟩⟩
  clear M B D R X F G;rintro c aQ ⟨X,⟨r,z,rfl,J⟩|⟨o,u,d,v,L,N,rfl,M,B,F,D,G,R⟩⟩
  ·dsimp-zeta only;exact wpS_pure ⟨X,r,_,rfl,J⟩
  dsimp-zeta only;obtain⟨gx,rfl⟩:=X;refine wpS_bind (wpS_modify ?_);exact wpS_pure ⟨⟨_,rfl⟩,_,_,_,_,rfl,M,B,F,D,G,by omega⟩
 ·rintro c C ⟨O,o,u,d,g,rfl,M,B,F,D,G,R⟩;exfalso;omega
 rintro c C ⟨O,r,z,rfl,J⟩;dsimp-zeta only;exact wpS_pure (h _ _ O J)
end
section
variable {f:Keyed->Nat}
theorem Fs{xs:Array Keyed}{i j:Nat}(a:j<=xs.size)(k:Nat):fa f (mirror xs i j ((j-i)/2)) k=if i<=k/\k<j then fa f xs (i+j-1-k)else fa f xs k:=by
 have e:=getElem?_mirror_all (i:=i) a k;by_cases h:i<=k/\k<j
 ·rw[if_pos h]at e⊢;exact Ev e
 ·rw[if_neg h]at e⊢;exact Ev e
theorem Jy{xs:Array Keyed}{i j:Nat}(a:j<=xs.size)(h:∀k l,i<=k->k<j->i<=l->l<j->fa f xs k=fa f xs l)(k:Nat):fa f (mirror xs i j ((j-i)/2)) k=fa f xs k:=by
 rw[Fs a];split
 ·exact h _ _ (by omega) (by omega) (by omega) (by omega)
 ·rfl
theorem Xr{xs:Array Keyed}{a d:Nat}(h:a<xs.size)(g:d<=a)(k:Nat):fa f (bubble xs a d) k=if k=a-d then fa f xs a else if a-d<k/\k<=a then fa f xs (k-1)else fa f xs k:=by
 have e:=getElem?_bubble h d g k;by_cases b:k=a-d
 ·rw[if_pos b]at e⊢;exact Ev e
 ·rw[if_neg b]at e⊢;by_cases c:a-d<k/\k<=a
  ·rw[if_pos c]at e⊢;exact Ev e
  ·rw[if_neg c]at e⊢;exact Ev e
theorem fb:∀(m:List Keyed) (n base:Nat) (a:Array Keyed),base+n+m.length<=a.size->∀k:Nat,(List.foldl (λ(a:Array Keyed) (x:Keyed×Nat)=>a.setIfInBounds (base+x.snd) x.fst) a (m.zipIdx n))[k]?=if base+n<=k/\k<base+n+m.length then m[k-(base+n)]? else a[k]?
 |[],n,base,a,h,k=>by
  rw[if_neg (by rw[List.length_nil];omega)];rfl
 |p::m,n,base,a,h,k=>by
  rw[List.length_cons]at h;rw[List.zipIdx_cons,List.foldl_cons,fb m (n+1) base _ (by rw[Array.size_setIfInBounds];omega) k,List.length_cons];by_cases z:k=base+n
  ·subst z;rw[if_neg (by omega),if_pos (by omega),Nat.sub_self,List.getElem?_cons_zero];show(a.setIfInBounds (base+n) p)[base+n]?=some p;rw[Array.getElem?_setIfInBounds_self_of_lt (by omega)]
  ·by_cases y:base+n<=k/\k<base+n+(m.length+1)
   ·rw[if_pos (by omega),if_pos y,show k-(base+n)=(k-(base+(n+1)))+1 by omega,List.getElem?_cons_succ]
   ·rw[if_neg (by omega),if_neg y];show(a.setIfInBounds (base+n) p)[k]?=_;rw[Array.getElem?_setIfInBounds_ne (by omega)]
theorem j6{a:Array Keyed}{m:List Keyed}{base:Nat}(h:base+m.length<=a.size)(g:m.Perm ((a.toList.drop base).take m.length)):(List.foldl (λ(a:Array Keyed) (x:Keyed×Nat)=>a.setIfInBounds (base+x.snd) x.fst) a m.zipIdx).Perm a:=by
 generalize i:List.foldl (λ(a:Array Keyed) (x:Keyed×Nat)=>a.setIfInBounds (base+x.snd) x.fst) a m.zipIdx=r
 have e:∀k:Nat,r[k]?=if base<=k/\k<base+m.length then m[k-base]? else a[k]?:=λk=>by
  rw[<- i];exact fb m 0 base a (by omega) k
 have d:r.toList=a.toList.take base++(m++a.toList.drop (base+m.length)):=by
  apply List.ext_getElem?;intro k;rw[Array.getElem?_toList,e k];have b:(a.toList.take base).length=base:=by rw[List.length_take,Array.length_toList];omega
  by_cases z:k<base
  ·rw[if_neg (by omega),List.getElem?_append_left (by omega),List.getElem?_take_of_lt z,Array.getElem?_toList]
  ·rw[List.getElem?_append_right (by omega),b];by_cases y:k<base+m.length
   ·rw[if_pos (by omega),List.getElem?_append_left (by omega)]
   ·rw[if_neg (by omega),List.getElem?_append_right (by omega),List.getElem?_drop,Array.getElem?_toList];congr 1;omega
 have c:a.toList=a.toList.take base++((a.toList.drop base).take m.length++a.toList.drop (base+m.length)):=by
  rw[<- Jd,List.take_append_drop]
 refine Array.perm_iff_toList_perm.mpr ?_;rw[d];refine(List.Perm.append_left _ (g.append_right _)).trans ?_;rw[<- c]
end
section
variable {prog:oT}{w:px}{A:oW}{E:oi}{s:oF}{κ:SortKind}{f:Keyed->Nat}{a₀:Array Keyed}{st:SortSt}
theorem S7(a:Array Keyed){i j:Nat}(h:i<=j):(a.extract i j).toList=(a.toList.drop i).take (j-i):=by
 obtain⟨k,rfl⟩:∃k,j=i+k:=⟨j-i,by omega⟩;rw[Ia];congr 1;omega
theorem I9{a:Array Keyed}{i j:Nat}{p:Keyed}(h:p∈(a.extract i j).toList)(c:i<=j):∃k,i<=k/\k<j/\a[k]?=some p:=by
 rw[S7 a c]at h;obtain⟨m,d,b⟩:=Ex h;rw[Array.getElem?_toList]at b;exact⟨i+m,by omega,by omega,b⟩
theorem W1{a:Array Keyed}{i j k:Nat}(b:j<=a.size)(h:i+k<j):(a.extract i j)[k]?=a[i+k]?:=by
 rw[Array.getElem?_extract];split
 ·rfl
 ·omega
theorem Vo{a:Array Keyed}{i j:Nat}(h:Jq f a i j)(d:j<=a.size)(p:i<=j):Dl f (a.extract i j).toList:=by
 refine List.pairwise_iff_getElem.mpr λm n g o l=>?_;have e:(a.extract i j).toList.length=j-i:=by rw[Array.length_toList,Array.size_extract];omega
 rw[e]at g o;have b:(a.extract i j)[m]?=some (a.extract i j).toList[m]:=by rw[<- Array.getElem?_toList];exact eH _
 have c:(a.extract i j)[n]?=some (a.extract i j).toList[n]:=by rw[<- Array.getElem?_toList];exact eH _
 rw[W1 d (by omega)]at b c;have:=h (i+m) (i+n) (by omega) (by omega) (by omega);rw[Aw b,Aw c]at this;exact this
theorem Zk{a:Array Keyed}{i j k:Nat}(b:j<=a.size)(h:i+k<j):fa f (a.extract i j) k=fa f a (i+k):=Ev (W1 b h)
theorem j7{a:Type}{s' st:a}{Q:PUnit->a->Prop}{M:Model}(h:Q ⟨⟩ s'):wpS M A E s (set s':StateT a Sem PUnit) Q st:=by
 unfold wpS;rw[StateT.run_set];exact bc ⟨rfl,h⟩
theorem Th(hA:J1 prog w A s κ f a₀)(d:Bs κ a₀ st){i c o pw b C pb:Nat}(hi:(pendingOf st)[i]?=some (c,o,pw))(hj:(pendingOf st)[i+1]?=some (b,C,pb))(hs:b=c+o)(hna:0<o)(hnb:0<C)(hsz:b+C<=a₀.size)
  (N:Jq f (arrOf st) c b)(O:Jq f (arrOf st) b (b+C)){Q:Bool->SortSt->Prop}
  (h:∀X,Bs κ a₀ X->pendingOf X=((pendingOf st).setIfInBounds i (c,o+C,pw)).eraseIdxIfInBounds (i+1)->Jq f (arrOf X) c (b+C)->(∀k,k<c\/b+C<=k->fa f (arrOf X) k=fa f (arrOf st) k)->Q true X):wpS (model prog w) A E s (mergeAt' i) Q st:=by
 have hsize:=d.size;have rT:∀p,p∈arrOf st->p∈a₀:=λp I=>d.perm.mem_iff.mp I;refine wpS_bind (wpS_get ?_);dsimp only;rw[hi,hj];dsimp only;obtain⟨q,T⟩:=Bz (a:=arrOf st) (i:=b) (by omega);have xK:∀P g,kindOf (SortSt.mk' (kindOf st) (arrOf st) P g (failedOf st))=κ:=λ_ _=>d.kind;refine wpS_bind (j7 ?_);refine wpS_bind (Bc T (wpS_bind (E3 hA (xK _ _) (d.mem T) rT (base:=c) (n:=o) (by omega) (by omega) (by rw[<- hs];exact N) λk k1 k2 k3=>?_)));dsimp only
 have k2':∀m,c<=m->m<c+k->fa f (arrOf st) m<=fa f (arrOf st) b:=λm m1 H=>by
  have:=k2 (m-c) (by omega);rw[show c+(m-c)=m by omega]at this;rw[Aw T];simpa using this
 have k3':∀m,c+k<=m->m<b->fa f (arrOf st) b<=fa f (arrOf st) m:=λm m1 H=>by
  have:=k3 (m-c) (by omega) (by omega);rw[show c+(m-c)=m by omega]at this;rw[Aw T];simp at this;omega
 by_cases e1:o-k=0
 ·rw[if_pos (Ff e1)];refine wpS_pure (h _ ⟨d.perm,d.kind,d.failed⟩ rfl (λm n v B F=>?_) λ_ _=>rfl);by_cases z:n<b
  ·exact N m n v B z
  ·by_cases y:m<b
   ·exact eI (k2' m v (by omega)) (O b n (da _) (by omega) F)
   ·exact O m n (by omega) B F
 rw[if_neg (Fe e1)];obtain⟨p,I⟩:=Bz (a:=arrOf st) (i:=c+k+(o-k)-1) (by omega);have KR:(arrOf st)[b-1]?=some p:=by rw[<- I];congr 1;omega
 refine wpS_bind (Bc I (wpS_bind (E3 hA (xK _ _) (d.mem I) rT (base:=b) (n:=C) (by omega) (by omega) O λl l1 l2 l3=>?_)));dsimp only
 have l2':∀m,b<=m->m<b+l->fa f (arrOf st) m<=fa f (arrOf st) (b-1):=λm m1 H=>by
  have:=l2 (m-b) (by omega);rw[show b+(m-b)=m by omega]at this;rw[Aw KR];simp at this;omega
 have XD:∀m,b+l<=m->m<b+C->fa f (arrOf st) (b-1)<=fa f (arrOf st) m:=λm m1 H=>by
  have:=l3 (m-b) (by omega) (by omega);rw[show b+(m-b)=m by omega]at this;rw[Aw KR];simpa using this
 by_cases e2:l=0
 ·rw[if_pos (Ff e2)];refine wpS_pure (h _ ⟨d.perm,d.kind,d.failed⟩ rfl (λm n v B F=>?_) λ_ _=>rfl);by_cases z:n<b
  ·exact N m n v B z
  ·by_cases y:m<b
   ·exact eI (N m (b-1) v (by omega) (by omega)) (XD n (by omega) F)
   ·exact O m n (by omega) B F
 rw[if_neg (Fe e2)];have hx:Dl f ((arrOf st).extract (c+k) b).toList:=Vo (λm n v B F=>N m n (by omega) B F) (by omega) (by omega);have hy:Dl f ((arrOf st).extract b (b+l)).toList:=Vo (λm n v B F=>O m n v B (by omega)) (by omega) (by omega)
 have ax:∀p,p∈(arrOf st).extract (c+k) b->p∈a₀:=λp I=>by
  obtain⟨m,_,_,e⟩:=I9 (Array.mem_toList_iff.mpr I) (by omega);exact d.mem e
 have ay:∀p,p∈(arrOf st).extract b (b+l)->p∈a₀:=λp I=>by
  obtain⟨m,_,_,e⟩:=I9 (Array.mem_toList_iff.mpr I) (by omega);exact d.mem e
 have sx:((arrOf st).extract (c+k) b).size=o-k:=by rw[Array.size_extract];omega
 have sy:((arrOf st).extract b (b+l)).size=l:=by rw[Array.size_extract];omega
 have fx:∀m,m<o-k->fa f ((arrOf st).extract (c+k) b) m=fa f (arrOf st) (c+k+m):=λm R=>Zk (by omega) (by omega);have fy:∀m,m<l->fa f ((arrOf st).extract b (b+l)) m=fa f (arrOf st) (b+m):=λm R=>Zk (by omega) (by omega)
 have Y:∀(r:Array Keyed) (D:SortSt),D2 f ((arrOf st).extract (c+k) b).toList ((arrOf st).extract b (b+l)).toList r.toList->kindOf D=κ->failedOf D=none->arrOf D=arrOf st->pendingOf D=((pendingOf st).setIfInBounds i (c,o+C,pw)).eraseIdxIfInBounds (i+1)->
   Q true (setArr D (List.foldl (λ(a:Array Keyed) (x:Keyed×Nat)=>a.setIfInBounds (c+k+x.snd) x.fst) (arrOf D) r.toList.zipIdx)):=λr D J g1 g2 g3 g4=>by
  have Z:r.toList.length=o-k+l:=by
   rw[J.1.length_eq,List.length_append,Array.length_toList,Array.length_toList,sx,sy]
  have XE:((arrOf st).extract (c+k) b).toList++((arrOf st).extract b (b+l)).toList=((arrOf st).toList.drop (c+k)).take r.toList.length:=by
   rw[Z,S7 _ (by omega),Ia,show b-(c+k)=o-k by omega,List.take_add,List.drop_drop,show c+k+(o-k)=b by omega]
  have XF:∀m:Nat,(List.foldl (λ(a:Array Keyed) (x:Keyed×Nat)=>a.setIfInBounds (c+k+x.snd) x.fst) (arrOf D) r.toList.zipIdx)[m]?=if c+k<=m/\m<c+k+r.toList.length then r.toList[m-(c+k)]? else(arrOf st)[m]?:=λm=>by
   rw[g3];exact fb r.toList 0 (c+k) (arrOf st) (by omega) m
  have dM:(List.foldl (λ(a:Array Keyed) (x:Keyed×Nat)=>a.setIfInBounds (c+k+x.snd) x.fst) (arrOf D) r.toList.zipIdx).Perm (arrOf st):=by
   rw[g3];refine j6 (by omega) ?_;rw[<- XE];exact J.1
  generalize List.foldl (λ(a:Array Keyed) (x:Keyed×Nat)=>a.setIfInBounds (c+k+x.snd) x.fst) (arrOf D) r.toList.zipIdx=a' at XF dM⊢
  have U:∀m,m<c+k\/b+l<=m->fa f a' m=fa f (arrOf st) m:=λm R=>by
   refine Ev ?_;rw[XF m,if_neg (by omega)]
  have u:∀m,c+k<=m->m<b+l->∃p,r.toList[m-(c+k)]?=some p/\fa f a' m=f p/\∃n,c+k<=n/\n<b+l/\(arrOf st)[n]?=some p:=λm v B=>by
   have R:m-(c+k)<r.toList.length:=by omega
   refine⟨r.toList[m-(c+k)],eH R,?_,?_⟩
   ·refine Aw ?_;rw[XF m,if_pos (by omega)];exact eH R
   ·have cP:=J.1.mem_iff.mp (nr R);rcases hH.mp cP with z|z
    ·obtain⟨n,L,M,S⟩:=I9 z (by omega);exact⟨n,L,by omega,S⟩
    ·obtain⟨n,L,M,S⟩:=I9 z (by omega);exact⟨n,by omega,M,S⟩
  have K:∀m,c<=m->m<c+k->∀n,c+k<=n->n<b+l->fa f (arrOf st) m<=fa f (arrOf st) n:=λm m1 H n L M=>by
   by_cases z:n<b
   ·exact N m n m1 (by omega) z
   ·exact eI (k2' m m1 H) (O b n (da _) (by omega) (by omega))
  have KS:∀m,b+l<=m->m<b+C->∀n,c+k<=n->n<b+l->fa f (arrOf st) n<=fa f (arrOf st) m:=λm m1 H n L M=>by
   by_cases z:n<b
   ·exact eI (N n (b-1) (by omega) (by omega) (by omega)) (XD m m1 H)
   ·exact O n m (by omega) (by omega) H
  refine h _ ⟨dM.trans d.perm,g1,g2⟩ g4 (λm n v B F=>?_) (λm R=>U m (by omega));by_cases c1:m<c+k
  ·rw[U m (.inl c1)];by_cases c2:n<c+k
   ·rw[U n (.inl c2)];exact N m n v B (by omega)
   ·by_cases c3:n<b+l
    ·obtain⟨p,_,e,n',L,M,S⟩:=u n (by omega) c3;rw[e,<- Aw (f:=f) S];exact K m v c1 n' L M
    ·rw[U n (.inr (by omega))];exact eI (K m v c1 (b-1) (by omega) (by omega)) (XD n (by omega) F)
  ·by_cases c3:n<b+l
   ·obtain⟨p,e1,e2,_⟩:=u m (by omega) (by omega);obtain⟨q,e3,e4,_⟩:=u n (by omega) c3;rw[e2,e4];exact Nj J.2 e1 e3 (by omega)
   ·rw[U n (.inr (by omega))];by_cases c4:m<b+l
    ·obtain⟨p,_,e,n',L,M,S⟩:=u m (by omega) c4;rw[e,<- Aw (f:=f) S];exact KS n (by omega) F n' L M
    ·rw[U m (.inr (by omega))];exact O m n (by omega) B F
 by_cases e3:o-k<=l
 ·rw[if_pos e3];refine wpS_bind (Tj hA (xK _ _) ax ay hx hy (by omega) (by omega) ?_ ?_ λr D G J=>?_)
  ·rw[fx 0 (by omega),fy 0 (by omega)];exact k3' _ (by omega) (by omega)
  ·intro q T;obtain⟨m,m1,H,m3⟩:=I9 T (by omega);rw[sx,fx _ (by omega),show c+k+(o-k-1)=b-1 by omega,<- Aw (f:=f) m3];exact l2' m m1 H
  ·obtain⟨g,rfl⟩:=G;refine wpS_bind (wpS_modify ?_);refine wpS_bind (wpS_get (wpS_pure ?_));have e:(failedOf st).isNone=true:=by rw[d.failed];rfl
   have:=Y r (SortSt.mk' (kindOf st) (arrOf st) (((pendingOf st).setIfInBounds i (c,o+C,pw)).eraseIdxIfInBounds (i+1)) g (failedOf st)) J d.kind d.failed rfl rfl;rw[<- e]at this;exact this
 ·rw[if_neg e3];refine wpS_bind (Ti hA (xK _ _) ax ay hx hy (by omega) (by omega) ?_ ?_ λr D G J=>?_)
  ·intro p I;obtain⟨m,m1,H,m3⟩:=I9 I (by omega);rw[fy 0 (by omega),<- Aw (f:=f) m3];exact k3' m m1 H
  ·intro j hj;rw[sx,fx _ (by omega),fy j (by omega),show c+k+(o-k-1)=b-1 by omega];exact l2' _ (by omega) (by omega)
  ·obtain⟨g,rfl⟩:=G;refine wpS_bind (wpS_modify ?_);refine wpS_bind (wpS_get (wpS_pure ?_));have e:(failedOf st).isNone=true:=by rw[d.failed];rfl
   have:=Y r (SortSt.mk' (kindOf st) (arrOf st) (((pendingOf st).setIfInBounds i (c,o+C,pw)).eraseIdxIfInBounds (i+1)) g (failedOf st)) J d.kind d.failed rfl rfl;rw[<- e]at this;exact this
end
section
variable {prog:oT}{w:px}{A:oW}{E:oi}{s:oF}{κ:SortKind}{f:Keyed->Nat}{a₀:Array Keyed}{st:SortSt}
def Ch(f:Keyed->Nat)(lo:Nat)(st a:SortSt):Prop:=pendingOf a=pendingOf st/\∀k,k<lo->fa f (arrOf a) k=fa f (arrOf st) k
theorem Ch.refl{lo:Nat}:Ch f lo st st:=⟨rfl,λ_ _=>rfl⟩
theorem Ch.trans{lo:Nat}{b a c:SortSt}(h:Ch f lo b a)(g:Ch f lo a c):Ch f lo b c:=⟨g.1.trans h.1,λk d=>(g.2 k d).trans (h.2 k d)⟩
theorem Kk{i j:Nat}{Q:Unit->SortSt->Prop}(h:Q () (setArr st (mirror (arrOf st) i j ((j-i)/2)))):wpS (model prog w) A E s (reverseSlice' i j) Q st:=by
 rw[reverseSlice'_eq];exact wpS_modify h
theorem Bs.rev(a:Bs κ a₀ st)(i j:Nat):Bs κ a₀ (setArr st (mirror (arrOf st) i j ((j-i)/2))):=⟨(mirror_perm _ _ _ _).trans a.perm,a.kind,a.failed⟩
theorem fq{a:Array Keyed}{lo:Nat}:Jq f a lo (lo+1):=λi j b c d=>by
 obtain rfl:i=j:=by omega
 exact da _
theorem Ro{a:Array Keyed}{lo n:Nat}(h:Jq f a lo (lo+n))(g:0<n)(e:fa f a (lo+n-1)<=fa f a (lo+n)):Jq f a lo (lo+(n+1)):=λi j b c d=>by
 by_cases z:j<lo+n
 ·exact h i j b c z
 ·obtain rfl:j=lo+n:=by omega
  by_cases y:i<lo+n
  ·exact eI (h i (lo+n-1) b (by omega) (by omega)) e
  ·obtain rfl:i=lo+n:=by omega
   exact da _
def jd(f:Keyed->Nat)(a:Array Keyed)(lo n q:Nat):Prop:=(∀i j,lo<=i->i<=j->j<lo+n->fa f a j<=fa f a i)/\q<n/\∀i,lo+n-(q+1)<=i->i<lo+n->fa f a i=fa f a (lo+n-1)
theorem jd.flat{a:Array Keyed}{lo n q:Nat}(h:jd f a lo n q)(g:lo+n<=a.size)(k:Nat):fa f (mirror a (lo+n-(q+1)) (lo+n) ((lo+n-(lo+n-(q+1)))/2)) k=fa f a k:=Jy g (λk l b c d e=>(h.2.2 k b c).trans (h.2.2 l d e).symm) k
theorem jd.asc{a b:Array Keyed}{lo n q:Nat}(h:jd f a lo n q)(c:lo+n<=b.size)(e:∀k,fa f b k=fa f a k):Jq f (mirror b lo (lo+n) ((lo+n-lo)/2)) lo (lo+n):=λi j d g l=>by
 rw[Fs c,Fs c,if_pos (by omega),if_pos (by omega),e,e];exact h.1 _ _ (by omega) (by omega) (by omega)
theorem Vj(N:J1 prog w A s κ f a₀)(G:Bs κ a₀ st){lo g:Nat}(zO:0<g)(hsz:lo+g<=a₀.size){Q:Option Nat->SortSt->Prop}
  (h:∀m a,0<m->m<=g->Bs κ a₀ a->Ch f lo st a->Jq f (arrOf a) lo (lo+m)->Q (some m) a):wpS (model prog w) A E s (countRun' lo g) Q st:=by
 refine wpS_bind (wpS_mono (wpS_forRange (I:=λx c a=>a=st/\c=(none,x)/\Jq f (arrOf st) lo (lo+x)) (Q:=λc a=>a=st/\∃n,c=(none,n)/\0<n/\n<=g/\Jq f (arrOf st) lo (lo+n)/\(n<g->fa f (arrOf st) (lo+n)<fa f (arrOf st) (lo+n-1))) ?_ ?_ ⟨rfl,rfl,fq⟩) ?_)
 ·rintro x c a X Y ⟨rfl,rfl,r⟩;dsimp only;refine wpS_bind (Il N G (by omega) (by omega) ?_);dsimp only;by_cases z:fa f (arrOf a) (lo+x)<fa f (arrOf a) (lo+x-1)
  ·rw[if_pos (decide_eq_true z)];exact wpS_pure ⟨rfl,x,rfl,by omega,by omega,r,λ_=>z⟩
  ·rw[if_neg (by rw[decide_eq_true_eq];exact z)];exact wpS_pure ⟨rfl,rfl,Ro r (by omega) (by omega)⟩
 ·rintro c a ⟨rfl,rfl,r⟩;have e:max 1 g=g:=by omega
  rw[e]at r⊢;exact⟨rfl,g,rfl,zO,da _,r,λz=>absurd z (Nat.lt_irrefl _)⟩
 rintro c a ⟨rfl,n,rfl,X,Y,r,h4⟩;dsimp only;by_cases e1:n=g
 ·rw[if_pos (Ff e1)];exact wpS_pure (h _ _ X Y G Ch.refl r)
 rw[if_neg (Fe e1)];have h4':=h4 (by omega)
 have H:∀J,Bs κ a₀ J->pendingOf J=pendingOf a->(∀k,fa f (arrOf J) k=fa f (arrOf a) k)->(∀i,lo<=i->i<lo+n->fa f (arrOf a) i=fa f (arrOf a) (lo+n-1))->jd f (arrOf J) lo (n+1) 0:=λJ K p1 M I=>by
  refine⟨λi j o B i3=>?_,by omega,λi o B=>?_⟩
  ·rw[M,M];by_cases z:j<lo+n
   ·rw[I i o (by omega),I j (by omega) z];exact da _
   ·obtain rfl:j=lo+n:=by omega
    by_cases y:i<lo+n
    ·rw[I i o y];omega
    ·obtain rfl:i=lo+n:=by omega
     exact da _
  ·obtain rfl:i=lo+n:=by omega
   rfl
 by_cases e2:n>1
 case' pos=>
  rw[if_pos e2];refine wpS_bind (Il N G (by omega) (by omega) ?_);dsimp only;by_cases z:fa f (arrOf a) lo<fa f (arrOf a) (lo+n-1)
  ·rw[if_pos (decide_eq_true z)];exact wpS_pure (h _ _ X Y G Ch.refl r)
  rw[if_neg (by rw[decide_eq_true_eq];exact z)]
  have I:∀i,lo<=i->i<lo+n->fa f (arrOf a) i=fa f (arrOf a) (lo+n-1):=λi o B=>by
   have U:=r lo i (da _) o B;have a2:=r i (lo+n-1) o (by omega) (by omega);omega
  refine wpS_bind (Kk ?_);have K:=G.rev lo (lo+n);have M:∀k,fa f (arrOf (setArr a (mirror (arrOf a) lo (lo+n) ((lo+n-lo)/2)))) k=fa f (arrOf a) k:=Jy (by rw[G.size];omega) λk l k1 k2 l1 l2=>(I k k1 k2).trans (I l l1 l2).symm;have T:=H _ K rfl M I;have S:Ch f lo a (setArr a (mirror (arrOf a) lo (lo+n) ((lo+n-lo)/2))):=⟨rfl,λk _=>M k⟩;generalize setArr a (mirror (arrOf a) lo (lo+n) ((lo+n-lo)/2))=J at K T S⊢
 case' neg=>
  rw[if_neg e2];obtain rfl:n=1:=by omega
  have T:=H a G rfl (λ_=>rfl) λi o B=>by
   obtain rfl:i=lo:=by omega
   rfl
  have S:Ch f lo a a:=Ch.refl;have K:=G
 all_goals
  refine wpS_bind (wpS_lift (mC ⟨rfl,?_⟩));refine wpS_bind (wpS_mono (wpS_forRange (I:=λx c b=>∃q,c=(none,x,q)/\x<=g/\Bs κ a₀ b/\Ch f lo a b/\jd f (arrOf b) lo x q) (Q:=λc b=>∃n q,c=(none,n,q)/\n<=g/\Bs κ a₀ b/\Ch f lo a b/\jd f (arrOf b) lo n q) ?_ ?_ ⟨0,rfl,by omega,K,S,T⟩) ?_)
  ·rintro x c b x1 x2 ⟨q,rfl,_,p,C,d⟩;dsimp only;have sz:=p.size;refine wpS_bind (Il N p (by omega) (by omega) ?_);dsimp only;by_cases z:fa f (arrOf b) (lo+x)<fa f (arrOf b) (lo+x-1)
   ·rw[if_pos (decide_eq_true z)]
    have Z:∀D,(∀k,fa f (arrOf D) k=fa f (arrOf b) k)->jd f (arrOf D) lo (x+1) 0:=λD e3=>by
     have q1:=d.2.1;refine⟨λi j o B i3=>?_,by omega,λi o B=>?_⟩
     ·rw[e3,e3];by_cases y:j<lo+x
      ·exact d.1 i j o B y
      ·obtain rfl:j=lo+x:=by omega
       by_cases v:i<lo+x
       ·exact eI (nf z) (d.1 i (lo+x-1) o (by omega) (by omega))
       ·obtain rfl:i=lo+x:=by omega
        exact da _
     ·obtain rfl:i=lo+x:=by omega
      rfl
    by_cases e:q>0
    ·rw[if_pos e];exact wpS_bind (Kk (wpS_pure ⟨0,rfl,by omega,p.rev _ _,C.trans ⟨rfl,λk _=>d.flat (by omega) k⟩,Z _ λk=>d.flat (by omega) k⟩))
    ·rw[if_neg e];exact wpS_pure ⟨0,rfl,by omega,p,C,Z _ λ_=>rfl⟩
   ·rw[if_neg (by rw[decide_eq_true_eq];exact z)];refine wpS_bind (Il N p (by omega) (by omega) ?_);dsimp only;by_cases y:fa f (arrOf b) (lo+x-1)<fa f (arrOf b) (lo+x)
    ·rw[if_pos (decide_eq_true y)];exact wpS_pure ⟨x,q,rfl,by omega,p,C,d⟩
    ·rw[if_neg (by rw[decide_eq_true_eq];exact y)];have q1:=d.2.1;refine wpS_pure ⟨q+1,rfl,by omega,p,C,λi j o B i3=>?_,by omega,λi o B=>?_⟩
     ·by_cases v:j<lo+x
      ·exact d.1 i j o B v
      ·obtain rfl:j=lo+x:=by omega
       by_cases u:i<lo+x
       ·have:=d.1 i (lo+x-1) o (by omega) (by omega);omega
       ·obtain rfl:i=lo+x:=by omega
        exact da _
     ·rw[show lo+(x+1)-1=lo+x by omega];by_cases v:i<lo+x
      ·have:=d.2.2 i (by omega) v;omega
      ·obtain rfl:i=lo+x:=by omega
       rfl
  ·rintro c b ⟨q,rfl,U,p,C,d⟩;exact⟨_,q,rfl,U,p,C,d⟩
  rintro c b ⟨m,q,rfl,U,p,C,d⟩;dsimp only;have sz:=p.size;have q1:=d.2.1;by_cases e:q>0
  case' pos=>
   rw[if_pos e];refine wpS_bind (Kk (wpS_bind (Kk ?_)));have L:=(p.rev (lo+m-(q+1)) (lo+m)).rev lo (lo+m);have P:Jq f (arrOf (setArr (setArr b (mirror (arrOf b) (lo+m-(q+1)) (lo+m) ((lo+m-(lo+m-(q+1)))/2))) (mirror (mirror (arrOf b) (lo+m-(q+1)) (lo+m) ((lo+m-(lo+m-(q+1)))/2)) lo (lo+m) ((lo+m-lo)/2)))) lo (lo+m):=d.asc (b:=mirror (arrOf b) (lo+m-(q+1)) (lo+m) ((lo+m-(lo+m-(q+1)))/2)) (by rw[mirror_size];omega) (λk=>d.flat (by omega) k)
   have R:Ch f lo a (setArr (setArr b (mirror (arrOf b) (lo+m-(q+1)) (lo+m) ((lo+m-(lo+m-(q+1)))/2))) (mirror (mirror (arrOf b) (lo+m-(q+1)) (lo+m) ((lo+m-(lo+m-(q+1)))/2)) lo (lo+m) ((lo+m-lo)/2))):=C.trans ⟨rfl,λk hk=>by
    show fa f (mirror (mirror (arrOf b) (lo+m-(q+1)) (lo+m) ((lo+m-(lo+m-(q+1)))/2)) lo (lo+m) ((lo+m-lo)/2)) k=_;rw[Fs (by rw[mirror_size];omega),if_neg (by omega)];exact d.flat (by omega) k⟩
   generalize setArr (setArr b (mirror (arrOf b) (lo+m-(q+1)) (lo+m) ((lo+m-(lo+m-(q+1)))/2))) (mirror (mirror (arrOf b) (lo+m-(q+1)) (lo+m) ((lo+m-(lo+m-(q+1)))/2)) lo (lo+m) ((lo+m-lo)/2))=D at L R P⊢
  case' neg=>
   rw[if_neg e];refine wpS_bind (Kk ?_);have L:=p.rev lo (lo+m);have P:Jq f (arrOf (setArr b (mirror (arrOf b) lo (lo+m) ((lo+m-lo)/2)))) lo (lo+m):=d.asc (b:=arrOf b) (by omega) (λk=>rfl)
   have R:Ch f lo a (setArr b (mirror (arrOf b) lo (lo+m) ((lo+m-lo)/2))):=C.trans ⟨rfl,λk hk=>by
    show fa f (mirror (arrOf b) lo (lo+m) ((lo+m-lo)/2)) k=_;rw[Fs (by omega),if_neg (by omega)]⟩
   generalize setArr b (mirror (arrOf b) lo (lo+m) ((lo+m-lo)/2))=D at L R P⊢
  all_goals
   refine wpS_bind (wpS_mono (wpS_forRange (I:=λx c F=>F=D/\c=(none,x)/\Jq f (arrOf D) lo (lo+x)) (Q:=λc F=>F=D/\∃n,c=(none,n)/\0<n/\n<=g/\Jq f (arrOf D) lo (lo+n)) ?_ ?_ ⟨rfl,rfl,P⟩) ?_)
   ·rintro x c F y1 y2 ⟨rfl,rfl,O⟩;dsimp only;refine wpS_bind (Il N L (by omega) (by omega) ?_);dsimp only;by_cases z:fa f (arrOf F) (lo+x)<fa f (arrOf F) (lo+x-1)
    ·rw[if_pos (decide_eq_true z)];exact wpS_pure ⟨rfl,x,rfl,by omega,by omega,O⟩
    ·rw[if_neg (by rw[decide_eq_true_eq];exact z)];exact wpS_pure ⟨rfl,rfl,Ro O (by omega) (by omega)⟩
   ·rintro c F ⟨rfl,rfl,O⟩;have e:max m g=g:=by omega
    rw[e]at O⊢;exact⟨rfl,g,rfl,zO,da _,O⟩
   rintro c F ⟨rfl,n,rfl,n1,n2,n3⟩;dsimp only;exact wpS_pure (h _ _ n1 n2 L R n3)
end
section
variable {f:Keyed->Nat}
def D3(f:Keyed->Nat)(a:Array Keyed):Nat->List (Nat×Nat×Nat)->Nat->Prop
 |s0,[],b=>s0=b
 |s0,x::r,b=>x.1=s0/\0<x.2.1/\Jq f a s0 (s0+x.2.1)/\D3 f a (s0+x.2.1) r b
theorem D3.len{a:Array Keyed}:∀{l:List (Nat×Nat×Nat)}{s0 hi:Nat},D3 f a s0 l hi->s0+l.length<=hi
 |[],s0,hi,h=>Nat.le_of_eq h
 |x::r,s0,hi,h=>by
  have:=h.2.2.2.len;have b:=h.2.1;rw[List.length_cons];omega
theorem D3.congr{a b:Array Keyed}:∀{l:List (Nat×Nat×Nat)}{s0 hi:Nat},D3 f a s0 l hi->(∀k,s0<=k->k<hi->fa f b k=fa f a k)->D3 f b s0 l hi
 |[],s0,hi,h,e=>h
 |x::r,s0,hi,h,e=>by
  obtain⟨g,m,n,c⟩:=h;have s:=c.len;refine⟨g,m,λi j d o p=>?_,c.congr λk u q=>e k (by omega) q⟩;rw[e i d (by omega),e j (by omega) (by omega)];exact n i j d o p
theorem D3.app{a:Array Keyed}:∀{l m:List (Nat×Nat×Nat)}{c hi:Nat},D3 f a c (l++m) hi↔∃b,D3 f a c l b/\D3 f a b m hi
 |[],m,c,hi=>⟨λh=>⟨c,rfl,h⟩,λ⟨b,d,e⟩=>by rw[show c=b from d];exact e⟩
 |x::r,m,c,hi=>by
  constructor
  ·rintro⟨d,e,j,n⟩;obtain⟨b,g,i⟩:=D3.app.mp n;exact⟨b,⟨d,e,j,g⟩,i⟩
  ·rintro⟨b,⟨d,e,j,g⟩,i⟩;exact⟨d,e,j,D3.app.mpr ⟨b,g,i⟩⟩
theorem D3.mod{a:Array Keyed}{c:Nat}:∀{l:List (Nat×Nat×Nat)}{i b hi:Nat},D3 f a b l hi->D3 f a b (l.modify i λx=>(x.fst,x.2.fst,c)) hi
 |[],i,b,hi,h=>by rw[List.modify_nil];exact h
 |x::r,0,b,hi,h=>by rw[List.modify_zero_cons];exact h
 |x::r,i+1,b,hi,h=>by
  rw[List.modify_succ_cons];exact⟨h.1,h.2.1,h.2.2.1,D3.mod h.2.2.2⟩
theorem Vz(p:Array (Nat×Nat×Nat))(i:Nat)(x:Nat×Nat×Nat)(h:i+1<p.size):((p.setIfInBounds i x).eraseIdxIfInBounds (i+1)).toList=p.toList.take i++x::p.toList.drop (i+2):=by
 have e:((p.setIfInBounds i x).eraseIdxIfInBounds (i+1)).toList=(p.toList.set i x).eraseIdx (i+1):=by
  unfold Array.eraseIdxIfInBounds;rw[dif_pos (by rw[Array.size_setIfInBounds];exact h),Array.toList_eraseIdx,Array.toList_setIfInBounds]
 rw[e,List.eraseIdx_eq_take_drop_succ];have a:i<p.toList.length:=by rw[Array.length_toList];omega
 rw[List.drop_set_of_lt (by omega),List.take_set,List.take_add_one,List.getElem?_eq_getElem a];have b:(p.toList.take i).length=i:=by rw[List.length_take];omega
 rw[List.set_append_right _ _ (by omega),b,Nat.sub_self,List.append_assoc];rfl
end
section
variable {prog:oT}{w:px}{A:oW}{E:oi}{s:oF}{κ:SortKind}{f:Keyed->Nat}{a₀:Array Keyed}{st:SortSt}
theorem fc(L:J1 prog w A s κ f a₀)(M:Bs κ a₀ st){lo n ok:Nat}(O:0<ok)(U:ok<=n)(hsz:lo+n<=a₀.size)(N:Jq f (arrOf st) lo (lo+ok)){Q:Bool->SortSt->Prop}
  (h:∀a,Bs κ a₀ a->Ch f lo st a->Jq f (arrOf a) lo (lo+n)->Q true a):wpS (model prog w) A E s (binarySort' lo n ok) Q st:=by
 refine wpS_bind (wpS_mono (wpS_forRange (I:=λk c a=>c=(none,())/\Bs κ a₀ a/\Ch f lo st a/\Jq f (arrOf a) lo (lo+k)) (Q:=λc a=>c=(none,())/\Bs κ a₀ a/\Ch f lo st a/\Jq f (arrOf a) lo (lo+n)) ?_ ?_ ⟨rfl,M,Ch.refl,by rw[show max ok 1=ok by omega];exact N⟩) ?_)
 ·rintro k c a Z k2 ⟨rfl,g,u,d⟩;dsimp only;have sz:=g.size
  refine wpS_bind (wpS_mono (wpS_forRange (I:=λx c b=>b=a/\∃l r,c=(none,l,r)/\l<=r/\r<=k/\r+x<=l+k/\(∀i,i<l->fa f (arrOf a) (lo+i)<=fa f (arrOf a) (lo+k))/\(∀i,r<=i->i<k->fa f (arrOf a) (lo+k)<=fa f (arrOf a) (lo+i)))
   (Q:=λc b=>b=a/\∃l,c=(none,l,l)/\l<=k/\(∀i,i<l->fa f (arrOf a) (lo+i)<=fa f (arrOf a) (lo+k))/\(∀i,l<=i->i<k->fa f (arrOf a) (lo+k)<=fa f (arrOf a) (lo+i))) ?_ ?_ ⟨rfl,0,k,rfl,by omega,by omega,by omega,λi S=>by omega,λi P R=>by omega⟩) ?_)
  ·rintro x c b _ X ⟨rfl,l,r,rfl,J,y,K,p,q⟩;dsimp only;by_cases e:l>=r
   ·rw[if_pos e];obtain rfl:l=r:=by omega
    exact wpS_pure ⟨rfl,l,rfl,y,p,q⟩
   ·rw[if_neg e];refine wpS_bind (Il L g (by omega) (by omega) ?_);dsimp only;by_cases z:fa f (arrOf b) (lo+k)<fa f (arrOf b) (lo+(l+r)/2)
    ·rw[if_pos (decide_eq_true z)];refine wpS_pure ⟨rfl,l,_,rfl,by omega,by omega,by omega,p,λi o B=>?_⟩;have:=d (lo+(l+r)/2) (lo+i) (by omega) (by omega) (by omega);omega
    ·rw[if_neg (by rw[decide_eq_true_eq];exact z)];refine wpS_pure ⟨rfl,_,r,rfl,by omega,by omega,by omega,λi o=>?_,q⟩;have:=d (lo+i) (lo+(l+r)/2) (by omega) (by omega) (by omega);omega
  ·rintro c b ⟨rfl,l,r,rfl,J,y,K,p,q⟩;obtain rfl:l=r:=by omega
   exact⟨rfl,l,rfl,y,p,q⟩
  rintro c b ⟨rfl,l,rfl,y,p,q⟩;dsimp only
  have C:∀m,fa f (bubble (arrOf b) (lo+k) (lo+k-(lo+l))) m=if m=lo+l then fa f (arrOf b) (lo+k)else if lo+l<m/\m<=lo+k then fa f (arrOf b) (m-1)else fa f (arrOf b) m:=λm=>by
   rw[Xr (by omega) (by omega),show lo+k-(lo+k-(lo+l))=lo+l by omega]
  refine wpS_bind (m:=moveDown' (lo+k) (lo+l)) ?_;rw[moveDown'_eq];refine wpS_modify (wpS_pure ⟨rfl,⟨(bubble_perm _ _ _).trans g.perm,g.kind,g.failed⟩,u.trans ⟨rfl,λm T=>?_⟩,λi j o B Y=>?_⟩)
  ·show fa f (bubble (arrOf b) (lo+k) (lo+k-(lo+l))) m=_;rw[C m,if_neg (by omega),if_neg (by omega)]
  ·show fa f (bubble (arrOf b) (lo+k) (lo+k-(lo+l))) i<=fa f (bubble (arrOf b) (lo+k) (lo+k-(lo+l))) j;rw[C i,C j]
   have D:∀i,lo<=i->i<lo+l->fa f (arrOf b) i<=fa f (arrOf b) (lo+k):=λi o B=>by
    have:=p (i-lo) (by omega);rwa[show lo+(i-lo)=i by omega]at this
   have F:∀i,lo+l<=i->i<lo+k->fa f (arrOf b) (lo+k)<=fa f (arrOf b) i:=λi o B=>by
    have:=q (i-lo) (by omega) (by omega);rwa[show lo+(i-lo)=i by omega]at this
   by_cases G:i=lo+l
   ·rw[if_pos G];by_cases v:j=lo+l
    ·rw[if_pos v];exact da _
    ·rw[if_neg v,if_pos (by omega)];exact F (j-1) (by omega) (by omega)
   ·rw[if_neg G];by_cases H:lo+l<i/\i<=lo+k
    ·rw[if_pos H,if_neg (by omega),if_pos (by omega)];exact d (i-1) (j-1) (by omega) (by omega) (by omega)
    ·rw[if_neg H];by_cases v:j=lo+l
     ·rw[if_pos v];exact D i o (by omega)
     ·rw[if_neg v];by_cases I:lo+l<j/\j<=lo+k
      ·rw[if_pos I];exact eI (D i o (by omega)) (F (j-1) (by omega) (by omega))
      ·rw[if_neg I];exact d i j o B (by omega)
 ·rintro c a ⟨rfl,g,u,d⟩;rw[show max (max ok 1) n=n by omega]at d;exact⟨rfl,g,u,d⟩
 rintro c a ⟨rfl,g,u,d⟩;exact wpS_pure (h _ g u d)
theorem O4(I:J1 prog w A s κ f a₀)(J:Bs κ a₀ st){i hi:Nat}(K:D3 f (arrOf st) 0 (pendingOf st).toList hi)(R:hi<=a₀.size)(g:i+1<(pendingOf st).size){Q:Bool->SortSt->Prop}
  (h:∀a,Bs κ a₀ a->D3 f (arrOf a) 0 (pendingOf a).toList hi->(pendingOf a).size+1=(pendingOf st).size->(∀k,hi<=k->fa f (arrOf a) k=fa f (arrOf st) k)->Q true a):wpS (model prog w) A E s (mergeAt' i) Q st:=by
 have L:i+1<(pendingOf st).toList.length:=by rw[Array.length_toList];exact g
 obtain⟨b,c,m,y⟩:∃b c m,(pendingOf st).toList[i]?=some (b,c,m):=⟨_,_,_,eH (by omega)⟩;obtain⟨o,d,l,z⟩:∃o d l,(pendingOf st).toList[i+1]?=some (o,d,l):=⟨_,_,_,eH (by omega)⟩
 have H:(pendingOf st).toList=(pendingOf st).toList.take i++(b,c,m)::(o,d,l)::(pendingOf st).toList.drop (i+2):=by
  have B:=(List.take_append_drop i (pendingOf st).toList).symm;rw[List.drop_eq_getElem_cons (by omega),(List.getElem?_eq_some_iff.mp y).2,List.drop_eq_getElem_cons L,(List.getElem?_eq_some_iff.mp z).2]at B;exact B
 have e:=K;rw[H]at e;obtain⟨O,D,P⟩:=D3.app.mp e;obtain⟨p,q,r,u,v,x,n⟩:=P;dsimp only at p q r u v x n;subst p u;have T:=D.len;have U:=n.len;refine Th I J (by rw[<- Array.getElem?_toList];exact y) (by rw[<- Array.getElem?_toList];exact z) rfl q v (by omega) r x λa G C F j=>?_;refine h a G ?_ ?_ λk S=>j k (by omega)
 ·rw[C,Vz _ _ _ g];refine D3.app.mpr ⟨b,D.congr λk M N=>j k (by omega),rfl,by show 0<c+d;omega,?_,?_⟩
  ·show Jq f (arrOf a) b (b+(c+d));rw[<- Nat.add_assoc];exact F
  ·show D3 f (arrOf a) (b+(c+d)) _ _;rw[<- Nat.add_assoc];exact n.congr λk M N=>j k (by omega)
 ·rw[C,<- Array.length_toList,Vz _ _ _ g,<- Array.length_toList (xs:=pendingOf st)];rw[List.length_append,List.length_cons,List.length_take,List.length_drop];omega
end
section
variable {prog:oT}{w:px}{A:oW}{E:oi}{s:oF}{κ:SortKind}{f:Keyed->Nat}{a₀:Array Keyed}{st:SortSt}
theorem D3.push{a b:Array Keyed}{p:Array (Nat×Nat×Nat)}{lo n i:Nat}(h:D3 f a 0 p.toList lo)(e:∀k,k<lo->fa f b k=fa f a k)(d:0<n)(g:Jq f b lo (lo+n)):D3 f b 0 (p.push (lo,n,i)).toList (lo+n):=by
 rw[Array.toList_push];exact D3.app.mpr ⟨lo,h.congr λk _ c=>e k c,rfl,d,g,rfl⟩
theorem Tk(F:J1 prog w A s κ f a₀)(hB:Bs κ a₀ st)(hp:pendingOf st=#[]){Q:Unit->SortSt->Prop}(h:∀l,Bs κ a₀ l->Jq f (arrOf l) 0 a₀.size->Q () l):wpS (model prog w) A E s sortRuns' Q st:=by
 have R:=hB.size;rw[sortRuns'_eq];refine wpS_bind (wpS_get ?_);refine wpS_bind (wpS_mono (wpS_forRange (I:=λx c l=>∃b,c=(none,b)/\Bs κ a₀ l/\D3 f (arrOf l) 0 (pendingOf l).toList b/\b<=a₀.size/\(b<a₀.size->x<=b)) (Q:=λc l=>c=(none,a₀.size)/\Bs κ a₀ l/\D3 f (arrOf l) 0 (pendingOf l).toList a₀.size) ?_ ?_ ⟨0,rfl,hB,by rw[hp];rfl,by omega,λ_=>da _⟩) ?_)
 ·rintro x c M _ x2 ⟨b,rfl,p,o,l1,l2⟩;dsimp only;rw[show(arrOf st).size=a₀.size from R];by_cases Y:b>=a₀.size
  ·rw[if_pos Y];obtain rfl:b=a₀.size:=by omega
   exact wpS_pure ⟨rfl,p,o⟩
  rw[if_neg Y];refine wpS_bind (Vj F p (by omega) (by omega) λm D m1 m2 T U S=>?_);dsimp only
  have R2:D3 f (arrOf D) 0 (pendingOf D).toList b:=by
   rw[U.1];exact o.congr λk _ O=>U.2 k O
  by_cases Z:m<minRun' a₀.size a₀.size 0
  case' pos=>
   rw[if_pos Z];refine wpS_bind (wpS_lift (mC ⟨rfl,?_⟩));generalize hn:min (a₀.size-b) (minRun' a₀.size a₀.size 0)=n;have H:0<n/\n<=a₀.size-b/\m<=n:=by omega
   refine wpS_bind (fc F T m1 H.2.2 (by omega) S λz C X I=>?_);rw[if_neg (by decide)]
   have K:D3 f (arrOf z) 0 (pendingOf z).toList b:=by
    rw[X.1];exact R2.congr λk _ O=>X.2 k O
  case' neg=>
   rw[if_neg Z];obtain⟨n,rfl⟩:∃n,n=m:=⟨m,rfl⟩;have H:0<n/\n<=a₀.size-b:=⟨m1,m2⟩;have C:=T;have I:=S;have K:=R2;obtain⟨z,rfl⟩:∃z,z=D:=⟨D,rfl⟩
  all_goals
   refine wpS_bind (wpS_get ?_);cases hb:(pendingOf z).back? with
   |none=>
    dsimp only;refine wpS_bind (wpS_modify (wpS_pure ⟨b+n,rfl,⟨C.perm,C.kind,C.failed⟩,K.push (λ_ _=>rfl) H.1 I,by omega,λ_=>by omega⟩))
   |some v=>
    obtain⟨s1,n1,v1⟩:=v;dsimp only;refine wpS_bind (wpS_mono (wpS_forRange (I:=λy c a=>c=(none,())/\Bs κ a₀ a/\D3 f (arrOf a) 0 (pendingOf a).toList b/\Jq f (arrOf a) b (b+n)) (Q:=λc a=>c=(none,())/\Bs κ a₀ a/\D3 f (arrOf a) 0 (pendingOf a).toList b/\Jq f (arrOf a) b (b+n)) ?_ (λc a h4=>h4) ⟨rfl,C,K,I⟩) ?_)
    ·rintro y c a _ y2 ⟨rfl,g,d,B⟩;refine wpS_bind (wpS_get ?_);by_cases q:(pendingOf a).size>1
     ·rw[if_pos q];obtain⟨⟨u1,u2,u3⟩,hu⟩:∃u,(pendingOf a)[(pendingOf a).size-2]?=some u:=⟨_,getElem?_pos (pendingOf a) _ (by omega)⟩;rw[hu];dsimp only;split
      ·exact wpS_pure ⟨rfl,g,d,B⟩
      ·refine wpS_bind (O4 F g d l1 (by omega) λxX J L _ N=>?_);rw[if_neg (by decide)];refine wpS_pure ⟨rfl,J,L,λi j i1 i2 i3=>?_⟩;rw[N i i1,N j (by omega)];exact B i j i1 i2 i3
     ·rw[if_neg q];exact wpS_pure ⟨rfl,g,d,B⟩
    ·rintro c a ⟨rfl,g,d,B⟩;dsimp only;refine wpS_bind (wpS_modify (wpS_bind (wpS_modify (wpS_pure ⟨b+n,rfl,⟨g.perm,g.kind,g.failed⟩,?_,by omega,λ_=>by omega⟩))));refine D3.push (a:=arrOf a) ?_ (λ_ _=>rfl) H.1 B;show D3 f (arrOf a) 0 ((pendingOf a).modify ((pendingOf a).size-1) _).toList b;rw[Array.toList_modify];exact d.mod
 ·rintro c M ⟨b,rfl,p,o,l1,l2⟩;obtain rfl:b=a₀.size:=by omega
  exact⟨rfl,p,o⟩
 rintro c M ⟨rfl,p,o⟩;dsimp only
 have n1:(pendingOf M).size<=a₀.size:=by
  have:=o.len;rw[Array.length_toList]at this;omega
 refine wpS_bind (wpS_mono (wpS_forRange (I:=λy c a=>c=(none,())/\Bs κ a₀ a/\D3 f (arrOf a) 0 (pendingOf a).toList a₀.size/\(pendingOf a).size+y<=a₀.size+1) (Q:=λc a=>c=(none,())/\Bs κ a₀ a/\D3 f (arrOf a) 0 (pendingOf a).toList a₀.size/\(pendingOf a).size<=1) ?_ ?_ ⟨rfl,p,o,by omega⟩) ?_)
 ·rintro y c a _ y2 ⟨rfl,g,d,G⟩;refine wpS_bind (wpS_get ?_);by_cases q:(pendingOf a).size<=1
  ·rw[if_pos q];exact wpS_pure ⟨rfl,g,d,q⟩
  rw[if_neg q];refine wpS_bind (O4 F g d (da _) ?_ λxX J L n5 N=>?_)
  ·(repeat' split)<;>omega
  rw[if_neg (by decide)];exact wpS_pure ⟨rfl,J,L,by omega⟩
 ·rintro c a ⟨rfl,g,d,G⟩;exact⟨rfl,g,d,by omega⟩
 rintro c a ⟨rfl,g,d,G⟩;dsimp only;refine wpS_pure (h _ g ?_);rw[<- Array.length_toList]at G
 match P:(pendingOf a).toList with
 |[]=>
  rw[P]at d;have e:0=a₀.size:=d;rw[<- e];exact λi j _ _ h3=>absurd h3 (mF _)
 |[x]=>
  rw[P]at d;obtain⟨_,_,r3,r4⟩:=d;rw[show 0+x.2.1=a₀.size from r4]at r3;exact r3
 |x::y::r=>
  rw[P,List.length_cons,List.length_cons]at G;omega
end
open PySem PySem.Spec PySem.SeqAt PyProof.Rows
section
variable {prog:oT}{w:px}{E:oi}
def J2:List qE->List qE->Prop
 |x::a,y::b=>if PyData.eqv x y=true then J2 a b else J5 x y
 |_,_=>True
def Ys:qE->qE->Prop
 | .tuple a,.tuple b=>J2 a b
 |_,_=>False
theorem Vr:∀{xs a:List qE},bI xs a->J2 xs a
 |[],_,_=>by unfold J2;trivial
 |_::_,[],_=>by unfold J2;trivial
 |x::xs,y::a,h=>by
  unfold J2;split
  ·exact Vr h.2
  ·exact h.1
theorem Se{A:oW}{s:oF}{b:Bool}{Q:Bool->oF->Prop}:∀(xs ys:List qE) (vs ws:List oI) (F bs:List Addr) (i:Nat),ReadsAll s.heap vs xs F->ReadsAll s.heap ws ys bs->PyData.canLayAll0 xs=true->PyData.canLayAll0 ys=true->J2 xs ys->
  A.units+min (PyData.depthAll xs) (PyData.depthAll ys)<cLine->(b=true->i=0->∀x C y D,xs=x::C->ys=y::D->∃m n,x=.int m/\y=.int n)->Q (aJ xs ys) s->W.KatLex prog w A b (decide (xs.length<ys.length)) Q (vs.zip ws) i s
 |[],ys,_,ws,_,_,i,c,d,_,_,_,_,_,h=>by
  cases c;rw[List.zip_nil_left];refine W.kat_nil ?_;cases ys<;>exact h
 |x::xs,[],_,_,_,_,i,c,d,_,_,_,_,_,h=>by
  cases d;rw[List.zip_nil_right];exact W.kat_nil h
 |x::xs,y::ys,_,_,_,_,i,c,d,f,g,a,l,J,h=>by
  have G:=eqAt_readsAll (x::xs) (y::ys) A s _ _ _ _ c d f g l 0;cases c with
  |@cons v vs _ _ M N p L=>
   cases d with
   |@cons u R _ _ O P o K=>
    have r:x.canLay0=true/\PyData.canLayAll0 xs=true:=by simpa[PyData.canLayAll0]using f
    have B:y.canLay0=true/\PyData.canLayAll0 ys=true:=by simpa[PyData.canLayAll0]using g
    have j:A.units+min x.depth y.depth<cLine/\A.units+min (PyData.depthAll xs) (PyData.depthAll ys)<cLine:=by
     simp only[PyData.depthAll]at l;omega
    have H:SeqAt.EqAt A s v u (PyData.eqv x y):=G (by simp) (by simp);have I:decide ((x::xs).length<(y::ys).length)=decide (xs.length<ys.length):=by simp
    rw[List.zip_cons_cons,I];refine W.kat_cons (H prog w _ _ ?_);cases e:PyData.eqv x y with
    |true=>
     unfold J2 at a;rw[if_pos e]at a;refine W.kat_yes (Se xs ys _ _ _ _ (i+1) L K r.2 B.2 a j.2 (λ_ z=>by omega) ?_);rw[aJ,if_pos e]at h;exact h
    |false=>
     unfold J2 at a;rw[if_neg (by rw[e];decide)]at a;rw[aJ,if_neg (by rw[e];decide)]at h;refine W.kat_no ?_;by_cases z:(b&&i==0)=true
     ·have q:b=true/\i=0:=by simpa using z
      obtain⟨m,n,rfl,rfl⟩:=J q.1 q.2 x xs y ys rfl rfl;cases p;cases o;rw[z];exact oneLt_int h
     ·rw[show(b&&i==0)=false from Bool.eq_false_iff.mpr z];refine W.kat_one _ _ ?_;exact K3 x y A s _ _ _ _ p o r.1 B.1 a j.1 prog w _ _ (show W.BoolBack Q (.bool (Kl x y)) s from h)
def Kn(b:Bool)(d:qE):Prop:=∃x r,d=.tuple (x::r)/\if b=true then∃m,x=.int m else∃l,x=.tuple l
theorem Zr{A:oW}{s:oF}{b:Bool}{Q:Bool->oF->Prop}{v u:oI}{d e:qE}{o bs:List Addr}(O:Reads s.heap v d o)(N:Reads s.heap u e bs)(F:Kn b d)(G:Kn b e)(z:d.canLay0=true)(B:e.canLay0=true)(K:Ys d e)(T:A.units+d.depth<cLine)(h:Q (Kl d e) s):
  wpAny (model prog w) A (keyLt' (PyProof.Rows.tuples' b) v u) Q E s:=by
 obtain⟨x,r,rfl,f⟩:=F;obtain⟨y,j,rfl,g⟩:=G;cases O with
 |@tuple X o1 P Z _ p H S I c=>
  cases N with
  |@tuple Y o2 R n2 _ q L U M i=>
   have a:P.size=(x::r).length:=by simpa using ReadsAll.length _ _ _ c
   have l:R.size=(y::j).length:=by simpa using ReadsAll.length _ _ _ i
   refine W.kat_lt H I L M ?_;rw[a,l];refine Se (x::r) (y::j) _ _ _ _ 0 c i z B K ?_ (λJ _ x' _ y' _ C D=>?_) h
   ·have e:(PyData.tuple (x::r)).depth=PyData.depthAll (x::r)+1:=by simp[PyData.depth]
    omega
   ·cases C;cases D;rw[if_pos J]at f g;obtain⟨m,rfl⟩:=f;obtain⟨n,rfl⟩:=g;exact⟨m,n,rfl,rfl⟩
theorem Y0{A:oW}{s:oF}{b:Bool}{Q:SortKind->oF->Prop}:∀{vs:List oI},vs≠[]->(∀v∈vs,∃d g,Reads s.heap v d g/\Kn b d)->Q (PyProof.Rows.tuples' b) s->wpAny (model prog w) A (keyKind' vs.toArray) Q E s:=by
 intro vs I c h
 have q:∀vs:List oI,(∀v∈vs,∃d g,Reads s.heap v d g/\Kn b d)->∃fs,W.KatTups s.heap vs fs/\fs.length=vs.length/\∀f∈fs,W.Looks (model prog w) s.heap (typeOf f) (.type (if b=true then "int" else "tuple")):=by
  intro vs
  induction vs with
  |nil=>exact λ_=>⟨[],W.KatTups.nil,rfl,λf p=>by cases p⟩
  |cons v vs R=>
   intro c;obtain⟨fs,y,B,C⟩:=R λv P=>c v (ea _ P);obtain⟨d,g,T,x,r,rfl,G⟩:=c v cI;cases T with
   |tuple M N O i=>
    rename_i a o D n
    obtain⟨u,j,F⟩:∃u j,D.toList=u::j:=by
     cases S:D.toList with
     |nil=>rw[S]at i;cases i
     |cons u j=>exact⟨u,j,rfl⟩
    have J:D[0]?=some u:=by rw[<- Array.getElem?_toList,F];rfl
    refine⟨u::fs,W.KatTups.cons M N O J y,by simp[B],λf p=>?_⟩;rcases fe.mp p with z|z
    ·subst z;rw[F]at i;cases i with
     |cons H Y=>
      cases b with
      |true=>
       obtain⟨m,rfl⟩:=G;cases H;exact W.Looks.now
      |false=>
       obtain⟨l,rfl⟩:=G;cases H with
       |tuple K L U X=>
        show W.Looks (model prog w) s.heap _ (Value.type "tuple");rw[<- L];exact(W.Looks.ld K).andThen .now
    ·exact C f z
 obtain⟨fs,y,B,C⟩:=q vs c;refine W.kat_kind y ?_ C (by cases b<;>rfl) ?_
 ·rw[B];exact List.length_pos_iff.mpr I
 ·have e:(Value.type (if b=true then "int" else "tuple") != Value.type "tuple")=b:=by cases b<;>decide
  rw[e];exact h
theorem I8(vs:List oI):vs.toArray.zip vs.toArray=(vs.map λv=>(v,v)).toArray:=by
 apply Array.toList_inj.mp;rw[Array.toList_zip,List.toList_toArray]
 induction vs with
 |nil=>rfl
 |cons v r a=>rw[List.zip_cons_cons,a,List.map_cons]
theorem Wc(vs:List oI):(vs.map λv=>(v,v)).map (λx:oI×oI=>x.2)=vs:=by
 rw[List.map_map];exact List.map_id'' (λ_=>rfl) vs
theorem Tc{A:oW}{s:oF}{a:Addr}{vs:List oI}{n:Nat}{κ:SortKind}{g:oI->Nat}{P:PySem.Fin->oF->Prop}(B:s.heap.get? a=some (seqObj "list" vs.toArray n))(hsz:vs.length<=sizeLine)
  (sY:∀m:Heap,(∀b o,b≠a->s.heap.get? b=some o->m.get? b=some o)->2<=vs.length->(∀Q,Q κ {s with heap:=m}->wpAny (model prog w) A (keyKind' vs.toArray) Q E {s with heap:=m})/\J1 prog w A {s with heap:=m} κ (λp=>g p.1) (vs.toArray.zip vs.toArray))
  (h:∀l:Array oI,l.toList.Perm vs->l.toList.Pairwise (λx y=>g x<=g y)->P (.done (.ret .none)) {s with heap:=sortedHeap s.heap a vs l}):
  wpAny (model prog w) A (Builtin.«list.sort» ⟨[.ref a],[]⟩) P E s:=by
 rw[list_sort_plain];have ha:a<s.heap.objs.size:=dt B;refine a0 (listItems_at B rfl (a0 (listUpdate_at B rfl ?_ (by rw[List.size_toArray];exact hsz) (me _))));obtain⟨u,G⟩:∃u,(s.heap.update a (Obj.mapSeq λ_=>(#[]:Array oI))).get? a=some (seqObj "list" #[] u):=⟨_,get?_update_seq B (λ_=>#[])⟩;refine a0 (seqEpoch_at G rfl (a0 (wpAny_newTuple (a0 (wpAny_newList (hJ ?_))))));have q:(((s.heap.update a (Obj.mapSeq λ_=>(#[]:Array oI))).push (seqObj "tuple" vs.toArray 0)).push (seqObj "list" #[] 0)).get? a=some (seqObj "list" #[] u):=b4 _ (b4 _ G);have R:∀b o,b≠a->s.heap.get? b=some o->(((s.heap.update a (Obj.mapSeq λ_=>(#[]:Array oI))).push (seqObj "tuple" vs.toArray 0)).push (seqObj "list" #[] 0)).get? b=some o:=λb o Y e=>b4 _ (b4 _ ((fC _ _ (Ne.symm Y)).trans e));have O:=sY _ R;have d:=h;unfold sortedHeap at d;generalize((s.heap.update a (Obj.mapSeq λ_=>(#[]:Array oI))).push (seqObj "tuple" vs.toArray 0)).push (seqObj "list" #[] 0)=m at q R O d;show wpAny (model prog w) A _ P E {s with heap:=m};dsimp only;have C:vs.toArray.size=vs.length:=by simp
 by_cases f:vs.toArray.size<2
 ·rw[if_pos f,if_pos f];refine a0 (bc ?_);rw[StateT.run_pure];refine a0 (bc ?_);dsimp only
  have L:Array.map (λx=>x.snd) (vs.toArray.zip vs.toArray)=vs.toArray:=by
   rw[I8];apply Array.toList_inj.mp;rw[Array.toList_map];exact Wc vs
  refine a0 (seqEpoch_at q rfl (a0 (listUpdate_at q rfl ?_ (me _) (by rw[L,C];omega))));simp only[bne_self_eq_false,Bool.false_eq_true,if_false];rw[show Array.map (λx=>x.snd) (arrOf (SortSt.mk' general' (vs.toArray.zip vs.toArray) #[] 7 none))=vs.toArray from L];refine bc (d vs.toArray (by simp) ?_)
  match vs,C,f with
  |[],_,_=>exact List.Pairwise.nil
  |[x],_,_=>exact List.pairwise_singleton _ _
  |x::y::r,C,f=>exact absurd f (by rw[C,List.length_cons,List.length_cons];omega)
 ·rw[if_neg f,if_neg f];obtain⟨xK,tV⟩:=O (by omega);refine a0 (xK _ ?_);have hz:(vs.toArray.zip vs.toArray).size=vs.length:=by rw[I8];simp
  refine a0 (ka (Tk (st:=SortSt.mk' κ (vs.toArray.zip vs.toArray) #[] 7 none) tV ⟨Array.Perm.refl _,rfl,rfl⟩ rfl (Q:=λ_ c=>Bs κ (vs.toArray.zip vs.toArray) c/\Jq (λp=>g p.1) (arrOf c) 0 (vs.toArray.zip vs.toArray).size) λc S T=>⟨S,T⟩) ?_ λ_ _ e=>e);rintro⟨⟨⟩,c⟩ s' ⟨rfl,z,M⟩;dsimp only at z M⊢
  have H:∀p∈arrOf c,p.1=p.2/\p.1∈vs:=λp Z=>by
   have:=z.perm.mem_iff.mp Z;rw[I8]at this;have X:p∈vs.map λv=>(v,v):=by simpa using this
   obtain⟨v,hv,rfl⟩:=gB.mp X;exact⟨rfl,hv⟩
  have I:((arrOf c).map (·.2)).toList.Perm vs:=by
   rw[Array.toList_map];have:=(Array.perm_iff_toList_perm.mp z.perm).map (·.2);rw[I8,Wc]at this;exact this
  have mR:((arrOf c).map (·.2)).toList.Pairwise (λx y=>g x<=g y):=by
   rw[Array.toList_map];refine List.pairwise_iff_getElem.mpr λi j N F yE=>?_;rw[List.length_map,Array.length_toList]at N F;have J:(arrOf c)[i]?=some (arrOf c)[i]:=getElem?_pos (arrOf c) i N;have K:(arrOf c)[j]?=some (arrOf c)[j]:=getElem?_pos (arrOf c) j F;have D:=M i j (me _) (nf yE) (by rw[<- z.size];exact F);rw[Aw J,Aw K]at D;have u:=(H _ (Array.mem_of_getElem? J)).1;have U:=(H _ (Array.mem_of_getElem? K)).1;rw[u,U]at D;simpa using D
  refine a0 (seqEpoch_at q rfl (a0 (listUpdate_at q rfl ?_ (me _) (by
   have:=I.length_eq;rw[Array.length_toList]at this;rw[this];omega))))
  rw[show failedOf c=none from z.failed];simp only[bne_self_eq_false,Bool.false_eq_true,if_false];exact bc (d _ I mR)
end
open PySem PySem.Spec PySem.SeqAt PyProof.Rows
section
variable {prog:oT}{w:px}{E:oi}
theorem Yk{A:oW}{s:oF}{vs:List oI}{κ:SortKind}{g:oI->Nat}{r:oI}{Q:oi}{h1:Heap}{t1:Nat}(hsz:vs.length<=sizeLine)(j:∀R:List oI->oF->Prop,R vs {s with heap:=h1,toks:=t1}->wpAny (model prog w) A.in1 (collect r) R E s)
  (C:∀(d:Heap) (f:oW),f.units<=A.units+4->(∀b o,h1.get? b=some o->d.get? b=some o)->2<=vs.length->(∀Q E,Q κ {s with heap:=d,toks:=t1}->wpAny (model prog w) f (keyKind' vs.toArray) Q E {s with heap:=d,toks:=t1})/\J1 prog w f {s with heap:=d,toks:=t1} κ (λp=>g p.1) (vs.toArray.zip vs.toArray))
  (h:∀(a:Array oI) (h':Heap) (c:Nat),a.toList.Perm vs->a.toList.Pairwise (λx y=>g x<=g y)->(∀b o,h1.get? b=some o->h'.get? b=some o)->h'.get? h1.objs.size=some (seqObj "list" a c)->Q (.ref h1.objs.size) {s with heap:=h',toks:=t1}):
  wpAny (model prog w) A (call (.builtin "sorted") [r]) Q E s:=by
 refine Calls.call_function_entry kind_sorted plain_sorted entry_sorted (args_sorted1 _) ?_;unfold Builtin.«sorted»;refine a0 (m:=checkCount "sorted" 1 1 _) (bc ?_);refine a0 (j _ (a0 (wpAny_newList ?_ )));have i:(h1.push (seqObj "list" vs.toArray 0)).get? h1.objs.size=some (seqObj "list" vs.toArray 0):=cb _ rfl;show wpAny _ _ _ _ _ {s with heap:=h1.push (seqObj "list" vs.toArray 0),toks:=t1};refine a0 (hJ (jR slot_list_sort ⟨_,i,rfl⟩ entry_list_sort (Tc (κ:=κ) (g:=g) (s:={s with heap:=h1.push (seqObj "list" vs.toArray 0),toks:=t1}) i hsz (λd v l=>?_) λa z B=>⟨_,rfl,?_⟩) (args_list_sort _)))
 ·obtain⟨q,u⟩:=C d A.in1.in1 (show A.units+1+1<=A.units+4 by omega) (λb o e=>v b o (gs (dt e)) (b4 _ e)) l;exact⟨λQ n=>q Q _ n,u⟩
 ·obtain⟨c,m⟩:∃c,(sortedHeap (h1.push (seqObj "list" vs.toArray 0)) h1.objs.size vs a).get? h1.objs.size=some (seqObj "list" a c):=sortedHeap_at i;refine bc ⟨_,rfl,h a _ c z B (λb o e=>?_) m⟩;rw[sortedHeap_old (Nat.ne_of_lt (Heap.lt_size e)) (by rw[size_push'];exact Nat.lt_succ_of_lt (Heap.lt_size e))];exact b4 _ e
end
section
variable {X:Cx}{k:Nat}
def O6:oI->Addr
 | .ref a=>a
 |_=>0
def Ol(H:Hp)(b:Bool)(D:V->qE)(g:V->Nat)(us:List V):Prop:=(∀u∈us,Rp H (D u) u/\Kn b (D u)/\(D u).depth<=50)/\∀u∈us,∀v∈us,Ys (D u) (D v)/\Kl (D u) (D v)=decide (g u<g v)
theorem Ol.ref{H:Hp}{b:Bool}{D:V->qE}{g:V->Nat}{us:List V}(h:Ol H b D g us):∃d:List Addr,us=d.map V.ref:=by
 have i:∀us:List V,(∀u∈us,Rp H (D u) u/\Kn b (D u))->∃d:List Addr,us=d.map V.ref:=by
  intro us
  induction us with
  |nil=>exact λ_=>⟨[],rfl⟩
  |cons u us n=>
   intro c;obtain⟨d,rfl⟩:=n λv m=>c v (ea _ m);obtain⟨f,x,r,e,_⟩:=c u cI;rw[e]at f;unfold Rp at f;obtain⟨a,o,l,_⟩:=f;exact⟨a::d,by rw[l];rfl⟩
 exact i us λu j=>⟨(h.1 u j).1,(h.1 u j).2.1⟩
theorem Ol.asks{P:oT}{w:px}{i:List (Addr×Obj)}{Y:St}{H:Hp}{s:oF}{b:Bool}{D:V->qE}{g:V->Nat}{d:List Addr}{m:oW}{E:oi}(I:Ao X i Y H s)(L:X.prog=P)(M:X.w=w)(h:Ol H b D g (d.map V.ref))(hu:m.units+50<cLine)(Z:2<=d.length):
  (∀Q E,Q (PyProof.Rows.tuples' b) s->wpAny (model P w) m (keyKind' (d.map Value.ref).toArray) Q E s)/\J1 P w m s (PyProof.Rows.tuples' b) (λp=>g (.ref (O6 p.1))) ((d.map Value.ref).toArray.zip (d.map Value.ref).toArray):=by
 subst L M;have u:∀a∈d,∃j,Reads s.heap (.ref a) (D (.ref a)) j:=λa f=>Cn I _ _ _ (h.1 _ (List.mem_map_of_mem f)).1 rfl;refine⟨λQ E n=>Y0 (b:=b) ?_ (λv o=>?_) n,λx y N O Q E n=>?_⟩
 ·intro e;have:=congrArg List.length e;rw[List.length_map,List.length_nil]at this;omega
 ·obtain⟨a,f,rfl⟩:=gB.mp o;obtain⟨j,r⟩:=u a f;exact⟨_,j,r,(h.1 _ (List.mem_map_of_mem f)).2.1⟩
 ·have mem:∀z,z∈(d.map Value.ref).toArray.zip (d.map Value.ref).toArray->∃a∈d,z.1=Value.ref a:=λz B=>by
   rw[I8]at B;have K:z∈(d.map Value.ref).map λv=>(v,v):=by simpa using B
   obtain⟨v,o,rfl⟩:=gB.mp K;obtain⟨a,f,rfl⟩:=gB.mp o;exact⟨a,f,rfl⟩
  obtain⟨a,f,G⟩:=mem x N;obtain⟨c,A,J⟩:=mem y O;have l:=List.mem_map_of_mem (f:=V.ref) f;have q:=List.mem_map_of_mem (f:=V.ref) A;obtain⟨j,R⟩:=u a f;obtain⟨ys,S⟩:=u c A;obtain⟨C,F⟩:=h.2 _ l _ q;obtain⟨T,x2⟩:=x;obtain⟨U,y2⟩:=y;obtain rfl:T=Value.ref a:=G;obtain rfl:U=Value.ref c:=J;refine Zr R S (h.1 _ l).2.1 (h.1 _ q).2.1 (C6 _ _ (h.1 _ l).1) (C6 _ _ (h.1 _ q).1) C ?_ ?_
  ·have:=(h.1 _ l).2.2;omega
  ·rw[F];exact n
theorem Pj{g:V->Nat}{f:List Addr}{b:List oI}(i:b.Perm (f.map Value.ref))(m:b.Pairwise (λx y=>g (.ref (O6 x))<=g (.ref (O6 y)))):∃c:List V,Av c b/\c.Perm (f.map V.ref)/\c.Pairwise (λx y=>g x<=g y):=by
 have j:∀v∈b,v=.ref (O6 v):=λv d=>by
  obtain⟨a,_,rfl⟩:=gB.mp (i.mem_iff.mp d);rfl
 refine⟨b.map λv=>.ref (O6 v),?_,?_,?_⟩
 ·have e:∀l:List oI,(∀v∈l,v=.ref (O6 v))->Av (l.map λv=>V.ref (O6 v)) l:=by
   intro l
   induction l with
   |nil=>exact λ_=>.nil
   |cons v l n=>exact λh=>.cons (h v cI) (n λv d=>h v (ea _ d))
  exact e b j
 ·have:=i.map λv=>V.ref (O6 v);rw[List.map_map]at this;exact this
 ·rw[List.pairwise_map];exact m
def au(K:W.Frag):List V->Hp->VK->Prop:=λd H Q=>∃(l:Addr) (a:List V) (b:Bool) (D:V->qE) (g:V->Nat),d=[.ref l]/\Be K H l a/\a.length<=20000/\Ol H b D g a/\∀(p:Addr) (c:List V),H p=none->c.Perm a->c.Pairwise (λx y=>g x<=g y)->Q (.ref p) (upd H p (.lst c))
theorem Q5(w:Cu k X.A):Em X (.builtin "sorted") (au X.K):=by
 intro d s Z H xs us Q I r h;obtain⟨l,vs,b,D,g,rfl,J,p,n,q⟩:=h;obtain⟨u,rfl,S⟩:=r.one;cases S;obtain⟨A,T,P,K⟩:=I.list J;obtain⟨f,rfl⟩:=n.ref;obtain rfl:=Ps f A T;have hu:=w.units;have E:=Je
 have a:(f.map Value.ref).length<=sizeLine:=by
  rw[List.length_map];rw[List.length_map]at p;exact eI p (by rw[sizeLine_eq];decide)
 have x:∀b o,s.heap.get? b=some o->((s.heap.push (seqObj "list" #[] 0)).update s.heap.objs.size (Obj.mapSeq (·++(f.map Value.ref).toArray))).get? b=some o:=λb o e=>(fC _ _ (Ne.symm (gs (dt e)))).trans (b4 _ e);refine Yk (h1:=(s.heap.push (seqObj "list" #[] 0)).update s.heap.objs.size (Obj.mapSeq (·++(f.map Value.ref).toArray))) (t1:=s.toks) (κ:=PyProof.Rows.tuples' b) (g:=λv=>g (.ref (O6 v))) a (λR G=>collect_list P.isList G a) (λC A' F M m=>?_) λi h' c N O L B=>?_
 ·have z:Ao X d Z H {s with heap:=C}:=I.kept (t':=s.toks) λb o e=>M b o (x b o e);rw[List.length_map]at m;exact n.asks (E:=λ_ _=>True) z rfl rfl (by have:=w.un;omega) m
 ·obtain⟨j,U,y,Y⟩:=Pj N O;refine⟨.ref _,upd H _ (.lst j),I.laid (t':=s.toks) (λb o e=>L b o (x b o e)) ?_ ?_,rfl,q _ j (I.aH.fresh ?_) y Y⟩
  ·rw[Heap.size_update,size_push'];exact Nat.le_succ _
  ·exact⟨by rw[y.length_eq];exact K,i.toList,c,U,B⟩
  ·rw[Heap.size_update,size_push'];exact Nat.le_succ _
end
open PySem.W (KdxIt)
section
variable {P:oT}{w:px}{A:oW}{E:oi}{s:oF}
theorem l5{it d a:Addr}{f:Bool}{C D:Obj}{i ep:Nat}{es:Array DictEntry}{c:DictEntry}{ok p:oI}{Q:Option oI->oF->Prop}(h:KdxIt s.heap it d i es.size ep ok p a f)(N:s.heap.get? a=some C)(I:a≠it)(B:s.heap.get? d=some D)(y:D.data=.dict es ep)(O:es[i]?=some c)
  (z:∀h',KdxIt h' it d (i+1) es.size ep ok p a true->h'.get? s.heap.objs.size=some {cls:=.type "tuple",data:=.seq #[c.key,c.val] }->(∀b o,b≠it->s.heap.get? b=some o->h'.get? b=some o)->Q (some (.ref s.heap.objs.size)) {s with heap:=h'}):wpAny (model P w) A (pyNext (.ref it)) Q E s:=by
 have l:s.TypeIs (.ref it) "dict_itemiterator":=⟨_,h,rfl⟩;have q:Builtin.Dict_items.ownsTuple "dict_itemiterator"=true:=by decide
 unfold pyNext;refine a0 (n4 (nT (name:=Str.ofString "__next__") l F.slot_dict_itemiterator_next (jR F.slot_dict_itemiterator_next l F.entry_dict_itemiterator_next ?_ (F.args_dict_itemiterator_next_1 _))));refine a0 (bc (a0 (a0 (a0 (wpAny_typeNameOfWhole_itemiter l (bc (a0 (wpAny_fieldsOf h rfl ?_))))))));simp only[q,if_true];show wpAny _ _ (if(Value.ref d==Value.none)=true then _ else _) _ _ s;rw[if_neg (show¬(Value.ref d==Value.none)=true from Bool.false_ne_true)];refine a0 (bc (a0 (wpAny_dictEntries B y ?_)));rw[if_neg (show¬((es.size:Int) != (es.size:Int))=true by simp)];refine a0 (bc (a0 (wpAny_dictEpoch B y ?_)));rw[if_neg (show¬((ep:Int) != (ep:Int))=true by simp)];refine bc ?_;simp only[show¬((i:Int)<0)by omega,if_false,Int.toNat_natCast,O];refine a0 (a0 (wpAny_typeNameOfWhole_itemiter l (bc (a0 (wpAny_isOneOf_itemiter l ?_)))));show wpAny _ _ (setField (.ref it) 3 (rawInt ((i:Int)+1))>>=_) _ _ s;refine a0 (wpAny_setField_rec h (by simp) λg J x=>?_)
 have u:KdxIt g it d (i+1) es.size ep ok p a f:=by
  have e:((i+1:Nat):Int)=(i:Int)+1:=by omega
  unfold KdxIt;rw[e];simpa[rawInt]using J
 have v:Shared.TypeIs {s with heap:=g} (.ref it) "dict_itemiterator":=⟨_,u,rfl⟩;refine a0 (hJ (a0 (wpAny_isOneOf_itemiter v (a0 (wpAny_isOneOf_itemiter v ?_)))));have H:g.objs.size=s.heap.objs.size:=x.1;show wpAny _ _ (Builtin.Dict_items.pairFromOwner (.ref it) 6 c.key c.val) _ _ {s with heap:=g};unfold Builtin.Dict_items.pairFromOwner;refine a0 (wpAny_newTuple ?_);have R:it<s.heap.objs.size:=dt h;have j:KdxIt (g.push {cls:=.type "tuple",data:=.seq #[c.key,c.val] }) it d (i+1) es.size ep ok p a f:=b4 _ u;have r:(g.push {cls:=.type "tuple",data:=.seq #[c.key,c.val] }).get? s.heap.objs.size=some {cls:=.type "tuple",data:=.seq #[c.key,c.val] }:=by rw[<- H];exact cb _ rfl
 have n:∀b o,b≠it->s.heap.get? b=some o->(g.push {cls:=.type "tuple",data:=.seq #[c.key,c.val] }).get? b=some o:=λb o m e=>b4 _ (x.extBut b o m e);show wpAny _ _ (Builtin.Dict_items.ownedTupleIsFree (.ref it)>>=_) _ _ {s with heap:=g.push {cls:=.type "tuple",data:=.seq #[c.key,c.val] } };rw[show(Shared.heap {s with heap:=g}).objs.size=s.heap.objs.size from H];generalize g.push {cls:=.type "tuple",data:=.seq #[c.key,c.val] }=L at j r n;unfold Builtin.Dict_items.ownedTupleIsFree;refine a0 (a0 (wpAny_field j rfl (x:=rawInt a) rfl ?_));show wpAny _ _ (loadIfAlive ((a:Int).toNat)>>=_) _ _ _;rw[Int.toNat_natCast];refine a0 (W.kdx_alive (n a C I N) ?_);simp only[Option.isNone_some,Bool.false_eq_true,if_false];refine a0 (wpAny_field j rfl (x:=.bool f) rfl ?_);cases f with
 |true=>
  rw[if_neg (show¬(Value.bool true != Value.bool true)=true from Bool.false_ne_true)];refine bc ?_;simp only[Bool.false_eq_true,if_false];exact bc (bc ⟨_,rfl,bc (z L j r n)⟩)
 |false=>
  rw[if_pos (show(Value.bool false != Value.bool true)=true from rfl)];refine a0 (wpAny_setField_rec j (by simp) λM K G=>bc ?_);simp only[Bool.false_eq_true,if_false];exact bc (bc ⟨_,rfl,bc (z M K (G.extBut _ _ (Nat.ne_of_gt R) r) λb o m e=>G.extBut b o m (n b o m e))⟩)
theorem l0{it d a:Addr}{f:Bool}{o:Obj}{i ep:Nat}{es:Array DictEntry}{ok x:oI}{Q:Option oI->oF->Prop}(m:A.handled=none)(c:KdxIt s.heap it d i es.size ep ok x a f)(n:s.heap.get? d=some o)(j:o.data=.dict es ep)(u:es[i]?=none)
  (q:∀h',Heap.ExtBut it s.heap h'->Q none {s with heap:=h'}):wpAny (model P w) A (pyNext (.ref it)) Q E s:=by
 have g:s.TypeIs (.ref it) "dict_itemiterator":=⟨_,c,rfl⟩;have h:Builtin.Dict_items.ownsTuple "dict_itemiterator"=true:=by decide
 unfold pyNext;refine a0 (n4 (nT (name:=Str.ofString "__next__") g F.slot_dict_itemiterator_next (jR F.slot_dict_itemiterator_next g F.entry_dict_itemiterator_next ?_ (F.args_dict_itemiterator_next_1 _))));refine a0 (bc (a0 (a0 (a0 (wpAny_typeNameOfWhole_itemiter g (bc (a0 (wpAny_fieldsOf c rfl ?_))))))));simp only[h,if_true];show wpAny _ _ (if(Value.ref d==Value.none)=true then _ else _) _ _ s;rw[if_neg (show¬(Value.ref d==Value.none)=true from Bool.false_ne_true)];refine a0 (bc (a0 (wpAny_dictEntries n j ?_)));rw[if_neg (show¬((es.size:Int) != (es.size:Int))=true by simp)];refine a0 (bc (a0 (wpAny_dictEpoch n j ?_)));rw[if_neg (show¬((ep:Int) != (ep:Int))=true by simp)];refine bc ?_;simp only[show¬((i:Int)<0)by omega,if_false,Int.toNat_natCast,u];refine a0 (a0 (wpAny_typeNameOfWhole_itemiter g (bc ?_)));show wpAny _ _ (setField (.ref it) 2 Value.none>>=_) _ _ s;refine a0 (wpAny_setField c rfl (by simp) ?_);generalize v:Heap.update s.heap it (Obj.mapFields (·.setIfInBounds 2 Value.none))=l
 have p:Heap.ExtBut it s.heap l:=by
  rw[<- v];exact λb y r e=>(fC _ _ (Ne.symm r)).trans e
 show wpAny (model P w) _ (newExc (.type "StopIteration") []>>=_) _ _ {s with heap:=l};refine a0 ?_;simp only[newExc,newTuple];refine a0 (jQ (T:="tuple") ?_ (by size_fits));refine a0 (m:=firstArgMember _ _) (wpAny_of_eq (a:=Value.none) (by first|rfl|simp only[firstArgMember]) ?_);refine jQ (T:="StopIteration") ?_ (by size_fits);simp only[raiseNew];refine a0 (wpAny_handled ?_)
 first|rw[show A.in1.handled=Option.none from m]|rw[m]
 refine a0 (bc (wpAny_throw ?_));refine a0 (my (T:="StopIteration") (b:=true) ⟨_,cb _ rfl,rfl⟩ isSubtype_stop ?_);exact bc (q _ ((p.push _).push _))
def Tn(h:Heap)(it d S:Addr)(i n ep:Nat):Prop:=(i=0/\∃ok b,IsItemIter h it d 0 n ep ok b)\/∃ok b a f c,KdxIt h it d i n ep ok b a f/\h.get? a=some c/\a≠it/\a≠S
structure jc(es:Array DictEntry)(lo:Addr)(h:Heap)(as:List Addr):Prop where
 rise:as.Pairwise (·<·)
 above:∀a∈as,lo<a
 at_:∀(j:Nat) (a:Addr),as[j]?=some a->∃en,es[j]?=some en/\h.get? a=some {cls:=.type "tuple",data:=.seq #[en.key,en.val] }
theorem jc.lt{es:Array DictEntry}{lo:Addr}{h:Heap}{b:List Addr}(g:jc es lo h b){a:Addr}(c:a∈b):a<h.objs.size:=by
 obtain⟨j,d⟩:=il.mp c;obtain⟨_,_,e⟩:=g.at_ j a d;exact dt e
theorem gd{it d S:Addr}{v:Obj}{i ep:Nat}{es:Array DictEntry}{e:DictEntry}{Q:Option oI->oF->Prop}(st:Tn s.heap it d S i es.size ep)(z:S<s.heap.objs.size)(r:s.heap.get? d=some v)(m:v.data=.dict es ep)(q:es[i]?=some e)
  (n:∀h',Tn h' it d S (i+1) es.size ep->h'.get? s.heap.objs.size=some {cls:=.type "tuple",data:=.seq #[e.key,e.val] }->(∀b o,b≠it->s.heap.get? b=some o->h'.get? b=some o)->Q (some (.ref s.heap.objs.size)) {s with heap:=h'}):wpAny (model P w) A (pyNext (.ref it)) Q E s:=by
 rcases st with⟨rfl,ok,x,c⟩|⟨ok,x,a,f,u,c,p,j,y⟩
 ·exact Rz c r m q λh' l g h=>n h' (.inr ⟨e.key,e.val,_,false,_,l,g,Nat.ne_of_gt (dt c),Nat.ne_of_gt z⟩) g h
 ·exact l5 c p j r m q λh' l g h=>n h' (.inr ⟨ok,x,a,true,u,l,h a u j p,j,y⟩) g h
theorem gc{it d S:Addr}{l:Obj}{i ep:Nat}{es:Array DictEntry}{Q:Option oI->oF->Prop}(h:A.handled=none)(st:Tn s.heap it d S i es.size ep)(j:s.heap.get? d=some l)(c:l.data=.dict es ep)(g:es[i]?=none)
  (e:∀h',Heap.ExtBut it s.heap h'->Q none {s with heap:=h'}):wpAny (model P w) A (pyNext (.ref it)) Q E s:=by
 rcases st with⟨rfl,ok,m,b⟩|⟨ok,m,a,f,n,b,_,_,_⟩
 ·exact Za h b j c g e
 ·exact l0 h b j c g e
theorem Tn.keep{h h':Heap}{it d S:Addr}{i n ep:Nat}(x:Tn h it d S i n ep)(g:∀b o,b≠S->h.get? b=some o->h'.get? b=some o)(m:it≠S):Tn h' it d S i n ep:=by
 rcases x with⟨e,ok,j,c⟩|⟨ok,j,a,f,r,c,q,p,l⟩
 ·exact .inl ⟨e,ok,j,g it _ m c⟩
 ·exact .inr ⟨ok,j,a,f,r,g it _ m c,g a _ l q,p,l⟩
theorem ge{S I d:Addr}{es:Array DictEntry}{ep:Nat}{od:Obj}{R:Result->oF->Prop}(hh:A.handled=none)(x:S<I)(Q:d≠S)(O:d≠I)(hn:es.size<=sizeLine)(res:oI)(eO:od.data=.dict es ep){h0:Heap}
  (hR:∀h' n f c g,(∀b o,b≠S->b≠I->h0.get? b=some o->h'.get? b=some o)->h'.get? S=some {cls:=.type "list",dict:=none,data:=.seq f c,slots:=#[] }->g.length=es.size->jc es I h' g->f.toList=g.map Value.ref->R (.ok (.ret res)) {s with heap:=h',toks:=n}):
  ∀(k i:Nat) (h:Heap) (n c:Nat) (f:Array oI) (g:List Addr),es.size-i=k->i<=es.size->Tn h I d S i es.size ep->h.get? d=some od->(∀b o,b≠S->b≠I->h0.get? b=some o->h.get? b=some o)->
   h.get? S=some {cls:=.type "list",dict:=none,data:=.seq f c,slots:=#[] }->f.toList=g.map Value.ref->g.length=i->jc es I h g->I<h.objs.size->
   codeAny (model P w) A (.builtin "list.extend.loop" ⟨[.ref S,.ref I,res],[]⟩) R {s with heap:=h,toks:=n}:=by
 have K:S≠I:=gs x;intro k
 induction k with
 |zero=>
  intro i h n c f g hk hi Z D Y u H G l J;refine codeAny_builtin F.entry_extend_loop ?_;rw[Around.under_plainId F.plain_extend_loop _];show wpAny _ A.in1 (pyNext (.ref I)>>=_) _ _ _;refine a0 (gc (s:={s with heap:=h,toks:=n}) (A:=A.in1) hh Z D eO (Array.getElem?_eq_none (by omega)) λh' U=>bc (hR h' n f c g (λb o C r e=>U b o r (Y b o C r e)) (U S _ K u) (by omega) ⟨l.rise,l.above,λj a m=>?_⟩ H));obtain⟨N,L,M⟩:=l.at_ j a m;exact⟨N,L,U a _ (Nat.ne_of_gt (l.above a (b5 m))) M⟩
 |succ k ih=>
  intro i h n c f g hk hi Z D Y u H G l J;have aP:i<es.size:=by omega
  have hx:es[i]?=some es[i]:=getElem?_pos es i aP;have B:f.size=i:=by rw[<- Array.length_toList,H,List.length_map,G]
  refine codeAny_builtin F.entry_extend_loop ?_;rw[Around.under_plainId F.plain_extend_loop _];show wpAny _ A.in1 (pyNext (.ref I)>>=_) _ _ _;refine a0 (gd (s:={s with heap:=h,toks:=n}) (S:=S) Z (dt u) D eO hx λh' aI X q=>?_);dsimp only at X q⊢;have v:=q S _ K u;have up:∀b o,b≠S->h'.get? b=some o->(h'.update S (Obj.mapSeq (·.push (Value.ref h.objs.size)))).get? b=some o:=λb o p e=>(fC _ _ (Ne.symm p)).trans e;have y:S<h.objs.size:=dt u
  have hI':h'.get? I≠none:=by
   rcases aI with⟨_,_,_,z⟩|⟨_,_,_,_,_,z,_⟩<;>rw[z]<;>exact Option.some_ne_none _
  show wpAny _ A.in1 (updateSeq S (·.push (Value.ref h.objs.size))>>=_) _ _ _
  refine a0 (wpAny_updateSeq v rfl (bc ⟨mD F.plain_extend_loop _,ih (i+1) _ n _ (f.push (Value.ref h.objs.size)) (g++[h.objs.size]) (by omega) aP (aI.keep up (Ne.symm K)) (up d _ Q (q d _ O D))
   (λb o C r e=>up b o C (q b o r (Y b o C r e))) (iv _ v rfl) (by rw[Array.toList_push,H,List.map_append];rfl) (by rw[List.length_append,G];rfl) ⟨?_,λa T=>?_,λj b m=>?_⟩ ?_⟩) (by rw[B];omega) (by show(f.push (Value.ref h.objs.size)).size<=sizeLine+1;rw[Array.size_push,B];omega))
  ·exact List.pairwise_append.mpr ⟨l.rise,List.pairwise_singleton _ _,λa T b p=>by rw[List.mem_singleton.mp p];exact l.lt T⟩
  ·rcases hH.mp T with z|z
   ·exact l.above a z
   ·rw[List.mem_singleton.mp z];exact J
  ·by_cases z:j<g.length
   ·rw[List.getElem?_append_left z]at m;obtain⟨N,L,M⟩:=l.at_ j b m;have p:=l.above b (b5 m);exact⟨N,L,up b _ (Nat.ne_of_gt (Nat.lt_trans x p)) (q b _ (Nat.ne_of_gt p) M)⟩
   ·rw[List.getElem?_append_right (by omega)]at m
    have XH:j=i:=by
     have:=(bA.mp m).1;rw[List.length_singleton]at this;omega
    subst XH;rw[G,Nat.sub_self]at m;cases m;exact⟨_,hx,up _ _ (Nat.ne_of_gt y) X⟩
  ·exact Nat.lt_trans J (dt (up _ _ (Nat.ne_of_gt y) X))
theorem U2{r d:Addr}{I:Obj}{es:Array DictEntry}{ep:Nat}{R:List oI->oF->Prop}(hh:A.handled=none)(hv:s.heap.IsItemsView r d)(X:s.heap.get? d=some I)(Y:I.data=.dict es ep)(hn:es.size<=sizeLine)
  (h:∀(h':Heap) (i:Nat) (g:List Addr),(∀b o,s.heap.get? b=some o->h'.get? b=some o)->g.length=es.size->jc es s.heap.objs.size h' g->R (g.map Value.ref) {s with heap:=h',toks:=i}):wpAny (model P w) A (collect (.ref r)) R E s:=by
 have hr:r<s.heap.objs.size:=let⟨_,G,_⟩:=hv;dt G;have T:d<s.heap.objs.size:=dt X;unfold collect;refine a0 (wpAny_runValue (codeAny_builtin entry_proto_collect' ?_));rw[Around.under_plainId F.plain_proto_collect _];show wpAny _ A.in1 (newList []>>=λl=>again (.builtin "list.__iadd__" ⟨[l,.ref r],[]⟩)) _ _ s;refine a0 (jQ (bc ⟨mD F.plain_list_iadd _,codeAny_builtin entry_list_iadd' ?_⟩));rw[Around.under_plainId F.plain_list_iadd _];generalize L:({s with heap:=s.heap.push {cls:=.type "list",data:=.seq ([]:List oI).toArray} }:oF)=m;have z1:m.heap.objs.size=s.heap.objs.size+1:=by rw[<- L];exact Heap.size_push ..
 have K:s.heap.objs.size<m.heap.objs.size:=by rw[z1];exact Nat.lt_succ_self _
 have J:∀b o,s.heap.get? b=some o->m.heap.get? b=some o:=λb o e=>by rw[<- L];exact b4 _ e
 have hS:m.heap.get? s.heap.objs.size=some {cls:=.type "list",data:=.seq #[] }:=by rw[<- L];exact cb _ rfl
 have N:m.heap.IsItemsView r d:=let⟨o,G,x⟩:=hv;⟨o,J _ _ G,x⟩;have z:∀(h':Heap) (i:Nat),({m with heap:=h',toks:=i}:oF)={s with heap:=h',toks:=i}:=λ_ _=>by rw[<- L]
 show wpAny _ A.in1 (Builtin.List.listExtendWith (.ref s.heap.objs.size) (.ref r) (.ref s.heap.objs.size)) _ _ m
 have B:∀(h':Heap) (i:Nat) (f:Array oI) (c:Nat) (g:List Addr),(∀b o,s.heap.get? b=some o->h'.get? b=some o)->h'.get? s.heap.objs.size=some {cls:=.type "list",dict:=none,data:=.seq f c,slots:=#[] }->g.length=es.size->jc es s.heap.objs.size h' g->f.toList=g.map Value.ref->
   wpAny (model P w) A (load s.heap.objs.size>>=λo=>match o.data with| .seq xs _=>pure xs.toList|_=>unsupported "internal:collect") R E {s with heap:=h',toks:=i}:=λh' i f c g q u v p y=>by
  refine a0 (wpAny_load u (bc ?_));show R f.toList _;rw[y];exact h h' i g q v p
 have H:∀(h:Heap) (n i:Nat) (M:Result->oF->Prop),(∀b o,b≠s.heap.objs.size->(m.heap.push {cls:=.type "dict_itemiterator",data:=.fields #[.none,.bool false,.ref d,.int 0 0,.int es.size 0,.int ep 0,.none,.none] }).get? b=some o->h.get? b=some o)->
   h.get? s.heap.objs.size=some {cls:=.type "list",data:=.seq #[] n}->
   (∀(h':Heap) (i:Nat) (f:Array oI) (c:Nat) (g:List Addr),(∀b o,s.heap.get? b=some o->h'.get? b=some o)->h'.get? s.heap.objs.size=some {cls:=.type "list",dict:=none,data:=.seq f c,slots:=#[] }->g.length=es.size->jc es s.heap.objs.size h' g->f.toList=g.map Value.ref->M (.ok (.ret (.ref s.heap.objs.size))) {m with heap:=h',toks:=i})->
   codeAny (model P w) A (.builtin "list.extend.loop" ⟨[.ref s.heap.objs.size,.ref m.heap.objs.size,.ref s.heap.objs.size],[]⟩) M {m with heap:=h,toks:=i}:=λh n i M U kU xM=>by
  have Z:=U m.heap.objs.size _ (by omega) (cb _ rfl)
  refine ge (s:=m) (S:=s.heap.objs.size) (I:=m.heap.objs.size) (h0:=m.heap) hh K (gs T) (gs (Nat.lt_trans T K)) hn (.ref s.heap.objs.size) Y (λh' tW f c g q u v p y=>xM h' tW f c g (λb o e=>?_) u v ⟨p.rise,λa S=>?_,p.at_⟩ y)
   es.size 0 h i n #[] [] (Nat.sub_zero _) (me _) (.inl ⟨rfl,.none,.none,Z⟩) (U d I (gs T) (b4 _ (J d I X))) (λb o h1 _ e=>U b o h1 (b4 _ e)) kU rfl rfl ⟨List.Pairwise.nil,(λ_ S=>nomatch S),(λj a hj=>by simp at hj)⟩ (dt Z)
  ·have D:=dt e;exact q b o (gs D) (gs (Nat.lt_trans D K)) (J b o e)
  ·exact Nat.lt_trans K (p.above a S)
 unfold Builtin.List.listExtendWith;refine a0 (wpAny_typeOf (T:="dict_items") N.typeIs ?_);have q1:Builtin.List.listSameRef (.ref s.heap.objs.size) (.ref r)=false:=by simp[Builtin.List.listSameRef,Nat.ne_of_gt hr]
 have q2:(Value.type "dict_items"==Value.type "list")=false:=by decide
 have q3:(Value.type "dict_items"==Value.type "tuple")=false:=by decide
 simp only[q1,q2,q3,Bool.or_false,Bool.false_eq_true,if_false];refine a0 (Vx N (J d I X) Y ?_);have O:=b4 {cls:=.type "dict_itemiterator",data:=.fields #[.none,.bool false,.ref d,.int 0 0,.int es.size 0,.int ep 0,.none,.none] } hS;refine a0 (hJ (W.kdx_hint (let⟨o,G,hc,_⟩:=N;⟨o,b4 _ G,hc⟩) ?_));refine wpAny_ite_split (λ_=>?_) (λ_=>bc ⟨mD F.plain_extend_loop _,H _ 0 m.toks _ (λb o _ e=>e) O λh' i f c g q u v p y=>?_⟩)
 ·refine a0 (mC (a0 ?_));show wpAny _ _ (updateSeq s.heap.objs.size (·.push .none)>>=λ_=>updateSeq s.heap.objs.size (·.pop)) _ _ _;refine a0 (wpAny_updateSeq O rfl ?_);have C:=iv (Obj.mapSeq (·.push Value.none)) O rfl;refine wpAny_updateSeq (hz:=by seq_fits) C rfl ?_;have Q:=iv (Obj.mapSeq (·.pop)) C rfl;refine bc ⟨mD F.plain_extend_loop _,H _ _ m.toks _ (λb o D e=>(fC _ _ (Ne.symm D)).trans ((fC _ _ (Ne.symm D)).trans e)) Q λh' i f c g q u v p y=>?_⟩;rw[z];exact B h' i f c g q u v p y
 ·rw[z];exact B h' i f c g q u v p y
end
section
variable {prog:oT}{w:px}{E:oi}
theorem Uy{A:oW}{s:oF}{r:oI}{Q:oi}{C:List oI->Heap->Nat->Prop}(n:∀R:List oI->oF->Prop,(∀vs h1 t1,C vs h1 t1->R vs {s with heap:=h1,toks:=t1})->wpAny (model prog w) A.in1 (collect r) R E s)
  (m:∀vs h1 t1,C vs h1 t1->vs.length<=sizeLine/\∃(κ:SortKind) (g:oI->Nat),
   (∀(d:Heap) (i:oW),i.units<=A.units+4->(∀b o,h1.get? b=some o->d.get? b=some o)->2<=vs.length->(∀Q E,Q κ {s with heap:=d,toks:=t1}->wpAny (model prog w) i (keyKind' vs.toArray) Q E {s with heap:=d,toks:=t1})/\J1 prog w i {s with heap:=d,toks:=t1} κ (λp=>g p.1) (vs.toArray.zip vs.toArray))/\
   (∀(a:Array oI) (h':Heap) (c:Nat),a.toList.Perm vs->a.toList.Pairwise (λx y=>g x<=g y)->(∀b o,h1.get? b=some o->h'.get? b=some o)->h'.get? h1.objs.size=some (seqObj "list" a c)->Q (.ref h1.objs.size) {s with heap:=h',toks:=t1})):
  wpAny (model prog w) A (call (.builtin "sorted") [r]) Q E s:=by
 refine Calls.call_function_entry kind_sorted plain_sorted entry_sorted (args_sorted1 _) ?_;unfold Builtin.«sorted»;refine a0 (m:=checkCount "sorted" 1 1 _) (bc (a0 (n _ λvs h1 t1 f=>a0 (wpAny_newList ?_ (m vs h1 t1 f).1))));obtain⟨j,κ,g,G,h⟩:=m vs h1 t1 f;have l:(h1.push (seqObj "list" vs.toArray 0)).get? h1.objs.size=some (seqObj "list" vs.toArray 0):=cb _ rfl;show wpAny _ _ _ _ _ {s with heap:=h1.push (seqObj "list" vs.toArray 0),toks:=t1};refine a0 (hJ (jR slot_list_sort ⟨_,l,rfl⟩ entry_list_sort (Tc (κ:=κ) (g:=g) (s:={s with heap:=h1.push (seqObj "list" vs.toArray 0),toks:=t1}) l j (λd B q=>?_) λa D F=>⟨_,rfl,?_⟩) (args_list_sort _)))
 ·obtain⟨v,z⟩:=G d A.in1.in1 (show A.units+1+1<=A.units+4 by omega) (λb o e=>B b o (gs (dt e)) (b4 _ e)) q;exact⟨λQ u=>v Q _ u,z⟩
 ·obtain⟨c,f⟩:∃c,(sortedHeap (h1.push (seqObj "list" vs.toArray 0)) h1.objs.size vs a).get? h1.objs.size=some (seqObj "list" a c):=sortedHeap_at l;refine bc ⟨_,rfl,h a _ c D F (λb o e=>?_) f⟩;rw[sortedHeap_old (Nat.ne_of_lt (Heap.lt_size e)) (by rw[size_push'];exact Nat.lt_succ_of_lt (Heap.lt_size e))];exact b4 _ e
end
section
variable {X:Cx}{k:Nat}{pins:List (Addr×Obj)}{σ:St}{H H':Hp}{s:oF}{h':Heap}
theorem Ao.uD{t':Nat}(I:Ao X pins σ H s)(d:∀b u,s.heap.get? b=some u->h'.get? b=some u)(a:∀b,b<s.heap.objs.size->H' b=H b)(new:∀b o,s.heap.objs.size<=b->H' b=some o->Bw X.prog X.w H' h' b o):Ao X pins σ H' {s with heap:=h',toks:=t'}:=by
 have up:∀b o,H b=some o->H' b=some o:=λb o e=>by rw[a b (I.aH.lt e)];exact e
 refine I.un ⟨λb u q _ _ _=>d b u q,λb u q _ _ _=>⟨u.slots,d b u q⟩,λb u q n _=>by rw[a b (Heap.lt_size q)];exact n,λb u q _=>⟨u,d b u q⟩,λb g q=>up b _ q,λb u g q=>up b _ q,λb h q=>⟨#[],by rw[up b _ q];simp⟩⟩ λb u e=>?_;by_cases f:b<s.heap.objs.size
 ·rw[a b f]at e;exact(I.aH b u e).jD (λc v _ q=>d c v q) (λc q=>up c _ q) λc g q=>up c _ q
 ·exact new b u (Nat.le_of_not_lt f) e
def Rl(v D:Addr):HO:=.ext λh=>h.IsItemsView v D
def iq:V->List V->Hp->VK->Prop:=λx b H Q=>∃D a,x=.ref D/\b=[]/\H D=some (.dT a)/\∀v,H v=none->Q (.ref v) (upd H v (Rl v D))
theorem Y9:rm X "dict.items" iq:=by
 intro pins s σ H x K v J Q I p n h;obtain⟨D,c,rfl,rfl,i,q⟩:=h;cases p;have l:=n.zero;subst l;obtain⟨F,e,L,G,o,y,w,j,a,C,E,r⟩:=(show Bw X.prog X.w H s.heap D (.dT c)from I.aH D _ i);have m:H s.heap.objs.size=none:=I.aH.fresh (da _);have d:(s.heap.push {cls:=.type "dict_items",data:=.fields #[.ref D] }).get? s.heap.objs.size=some {cls:=.type "dict_items",data:=.fields #[.ref D] }:=cb _ rfl;have new:Bw X.prog X.w (upd H s.heap.objs.size (Rl s.heap.objs.size D)) (s.heap.push {cls:=.type "dict_items",data:=.fields #[.ref D] }) s.heap.objs.size (Rl s.heap.objs.size D):=⟨⟨_,d,rfl,rfl⟩,⟨_,d⟩,λA B ⟨o,f,g⟩ k=>⟨o,k _ f,g⟩⟩;exact Ry e j a ⟨.ref s.heap.objs.size,_,I.laid (t':=s.toks) (λb u z=>b4 _ z) (da _) new,rfl,q _ m⟩
def rq(k:(oB×Int)):qE:=.tuple [.tuple (k.1.map PyData.int),.int k.2]
mutual
theorem jq{H H':Hp}(c:A8 H H'):∀(d:qE) (v:V),Rp H d v->Rp H' d v
 | .none,v,h=>h
 | .bool _,v,h=>h
 | .int _,v,h=>h
 | .str _,v,h=>h
 | .dict _,v,h=>h
 | .tuple f,v,h=>by
  unfold Rp at h⊢;obtain⟨a,b,e,g,i⟩:=h;exact⟨a,b,e,c _ _ g,oC c f b i⟩
 | .list f,v,h=>by
  unfold Rp at h⊢;obtain⟨a,b,e,g,i⟩:=h;exact⟨a,b,e,c _ _ g,oC c f b i⟩
theorem oC{H H':Hp}(a:A8 H H'):∀(ds:List qE) (vs:List V),aF H ds vs->aF H' ds vs
 |[],vs,h=>by
  unfold aF at h⊢;exact h
 |d::ds,vs,h=>by
  unfold aF at h⊢;obtain⟨x,b,e,c,f⟩:=h;exact⟨x,b,e,jq a d x c,oC a ds b f⟩
end
theorem Pe{H:Hp}:∀xs:oB,aF H (xs.map PyData.int) (xs.map V.int)
 |[]=>by unfold aF;rfl
 |x::xs=>by
  show aF H (PyData.int x::xs.map PyData.int) (V.int x::xs.map V.int);unfold aF;exact⟨_,_,rfl,by unfold Rp;rfl,Pe xs⟩
theorem pe{H:Hp}{b:Addr}{k:(oB×Int)}(h:D9 H b k):Rp H (rq k) (.ref b):=by
 obtain⟨u,a,c⟩:=h;unfold rq Rp;refine⟨b,_,rfl,a,?_⟩;unfold aF;refine⟨_,_,rfl,?_,?_⟩
 ·unfold Rp;exact⟨u,_,rfl,c,Pe _⟩
 ·unfold aF;refine⟨_,_,rfl,by unfold Rp;rfl,?_⟩;unfold aF;rfl
def rk(H:Hp)(c:(oB×Int)×V)(u:V):Prop:=∃a b,u=.ref a/\H a=some (.tup [.ref b,c.2])/\D9 H b c.1
def Iz(b:(oB×Int)×V->qE)(a:(oB×Int)×V):qE:=.tuple [rq a.1,b a]
def oz:List V->Hp->VK->Prop:=λj H Q=>∃(v D:Addr) (c:ov) (d:(oB×Int)×V->qE) (g:(oB×Int)×V->Nat),j=[.ref v]/\H v=some (Rl v D)/\H D=some (.dT c)/\(∀f∈c,Rp H (d f) f.2/\(d f).depth<=40)/\
 (∀a∈c,∀b∈c,Ys (Iz d a) (Iz d b)/\Kl (Iz d a) (Iz d b)=decide (g a<g b))/\
 ∀(p:Addr) (i:List V) (h:ov) (e:Hp),A8 H e->H p=none->e p=some (.lst i)->h.Perm c->h.Pairwise (λx y=>g x<=g y)->Paired (rk e) h i->Q (.ref p) e
theorem Zp{b:List Addr}(h:b.Nodup){j:Nat}{a:Addr}(e:b[j]?=some a):b.idxOf a=j:=by
 obtain⟨d,c⟩:=bA.mp e;rw[<- c];exact List.Nodup.idxOf_getElem h j d
theorem Tv(hr:Cu k X.A)(hc:X.calm=true):Em X (.builtin "sorted") oz:=by
 intro B s σ H L us Q I r h;obtain⟨v,D,m,dv,g,rfl,hv,hD,hdv,XM,q⟩:=h;obtain⟨u,rfl,ru⟩:=r.one;cases ru;obtain⟨KY,_⟩:=I.aH v _ hv;obtain⟨hz,UB,Y,pr,o,es,ep,ho,hex,hd,iR,eG⟩:=(show Bw X.prog X.w H s.heap D (.dT m)from I.aH D _ hD);have qI:m.length=Y.length:=pr.length;have kA:es.size=Y.length:=size_of_entries iR;have A:=hr.un;refine Uy (C:=λvs p F=>∃d:List Addr,vs=d.map Value.ref/\(∀b o,s.heap.get? b=some o->p.get? b=some o)/\d.length=es.size/\jc es s.heap.objs.size p d) (λR hR=>U2 (I.ok.hd hc) KY ho hd (by omega) λp F d k1 k2 P=>hR _ p F ⟨d,rfl,k1,k2,P⟩) ?_;rintro vs p F ⟨d,rfl,k1,k2,P⟩;have uE:d.Nodup:=P.rise.imp λh=>gs h;have JE:∀a∈d,s.heap.objs.size<=a:=λa i=>nf (P.above a i)
 have nO:∀a∈d,∃(j:Nat) (w:(oB×Int)×V) (y:(oB×Int)×Addr×oI),d.idxOf a=j/\m[j]?=some w/\Y[j]?=some y/\w.1=y.1/\D9 H y.2.1 w.1/\Az w.2 y.2.2/\p.get? a=some {cls:=.type "tuple",data:=.seq #[.ref y.2.1,y.2.2] }:=λa i=>by
  obtain⟨j,E⟩:=il.mp i;obtain⟨en,e1,Z⟩:=P.at_ j a E;have WU:=(bA.mp E).1;obtain⟨w,y,f1,f2,f3,f4,f5⟩:=Gm pr (i:=j) (by omega);have e3:=entry_at iR j;rw[f2,e1]at e3;have e4:en=entryOfKey (C4 X.prog X.w) y:=eT e3;rw[e4]at Z;exact⟨j,w,y,Zp uE E,f1,f2,f3,f4,f5,Z⟩
 let f:V->(oB×Int)×V:=λu=>match u with
  | .ref a=>m.getD (d.idxOf a) (([],0),.aX)
  |_=>(([],0),.aX)
 let G:Addr->Addr:=λa=>match Y[d.idxOf a]? with
  |some y=>y.2.1
  |none=>0
 have N:∀a∈d,∃y:(oB×Int)×Addr×oI,f (.ref a)∈m/\G a=y.2.1/\D9 H y.2.1 (f (.ref a)).1/\Az (f (.ref a)).2 y.2.2/\p.get? a=some {cls:=.type "tuple",data:=.seq #[.ref y.2.1,y.2.2] }:=λa i=>by
  obtain⟨j,w,y,f0,f1,f2,f3,f4,f5,f6⟩:=nO a i
  have e1:f (.ref a)=w:=by
   show m.getD (d.idxOf a) _=w;rw[f0,List.getD_eq_getElem?_getD,f1];rfl
  have Z:G a=y.2.1:=by
   show(match Y[d.idxOf a]? with|some y=>y.2.1|none=>0)=_;rw[f0,f2]
  rw[e1];exact⟨y,b5 f1,Z,f4,f5,f6⟩
 let n:Hp:=λb=>if b∈d then some (.tup [.ref (G b),(f (.ref b)).2])else H b
 have M:∀b,b∉d->n b=H b:=λb O=>by show(if b∈d then _ else H b)=_;rw[if_neg O]
 have XN:∀a,a∈d->n a=some (.tup [.ref (G a),(f (.ref a)).2]):=λa i=>by show(if a∈d then _ else H a)=_;rw[if_pos i]
 have S:∀b,b<s.heap.objs.size->n b=H b:=λb O=>M b λz=>Nat.lt_irrefl _ (hG O (JE b z));have K:A8 H n:=λb o e=>by rw[S b (I.aH.lt e)];exact e
 have I1:Ao X B σ n {s with heap:=p,toks:=F}:=I.uD k1 S λb o O e=>by
  by_cases z:b∈d
  ·rw[XN b z]at e;cases e;obtain⟨y,T,U,y3,y4,y5⟩:=N b z;rw[U];exact⟨⟨eI (by decide:2<=1000) (R0 (da _)),_,y5,rfl⟩,[.ref y.2.1,y.2.2],.cons rfl (.cons y4 .nil),⟨_,y5,rfl,0,rfl⟩⟩
  ·rw[M b z,I.aH.fresh O]at e;cases e
 have jU:(d.map V.ref).map f=m:=by
  apply List.ext_getElem?;intro j;rw[List.map_map,List.getElem?_map];cases E:d[j]? with
  |none=>
   have:=List.getElem?_eq_none_iff.mp E;rw[List.getElem?_eq_none (by omega)];rfl
  |some a=>
   have WU:=(bA.mp E).1;show some (m.getD (d.idxOf a) _)=_;rw[Zp uE E,List.getD_eq_getElem?_getD,List.getElem?_eq_getElem (by omega)];rfl
 have sD:Ol n false (λu=>Iz dv (f u)) (λu=>g (f u)) (d.map V.ref):=by
  refine⟨λu A=>?_,λu A u' VD=>?_⟩
  ·obtain⟨a,i,rfl⟩:=gB.mp A;obtain⟨y,T,U,y3,y4,y5⟩:=N a i;obtain⟨d1,d2⟩:=hdv _ T;refine⟨?_,⟨rq (f (.ref a)).1,[dv (f (.ref a))],rfl,by rw[if_neg (by decide)];exact⟨_,rfl⟩⟩,?_⟩
   ·unfold Iz Rp;refine⟨a,_,rfl,XN a i,?_⟩;unfold aF;refine⟨_,_,rfl,pe (by rw[U];exact y3.up λb L e=>K b _ e),?_⟩;unfold aF;refine⟨_,_,rfl,jq K _ _ d1,?_⟩;unfold aF;rfl
   ·show(PyData.tuple [rq (f (.ref a)).1,dv (f (.ref a))]).depth<=50;simp only[PyData.depth,PyData.depthAll,rq]
    have C:∀l:oB,PyData.depthAll (l.map PyData.int)=0:=by
     intro l
     induction l with
     |nil=>rfl
     |cons x l ih=>simp only[List.map_cons,PyData.depthAll,PyData.depth,ih];rfl
    rw[C];omega
  ·obtain⟨a,i,rfl⟩:=gB.mp A;obtain⟨a',yI,rfl⟩:=gB.mp VD;obtain⟨_,T,_⟩:=N a i;obtain⟨_,z1,_⟩:=N a' yI;exact XM _ T _ z1
 refine⟨by rw[List.length_map];omega,PyProof.Rows.tuples' false,λv=>g (f (.ref (O6 v))),λh6 A' hA' k6 h2=>?_,λout h' c p1 p2 k' e'=>?_⟩
 ·have I6:Ao X B σ n {s with heap:=h6,toks:=F}:=I1.kept (t':=F) k6;rw[List.length_map]at h2;exact sD.asks (E:=λ_ _=>True) I6 rfl rfl (by omega) h2
 ·obtain⟨J,v1,v2,v3⟩:=Pj (g:=λu=>g (f u)) p1 p2;have kB:n p.objs.size=none:=I1.aH.fresh (da _);refine⟨.ref _,upd n _ (.lst J),I1.laid (t':=F) k' (da _) ⟨by rw[v2.length_eq,List.length_map];omega,out.toList,c,v1,e'⟩,rfl,q _ J (J.map f) _ (λb o e=>?_) ?_ A5 ?_ ?_ ?_⟩
  ·rw[Ab (Ag (K b o e) kB)];exact K b o e
  ·cases e:H p.objs.size with
   |none=>rfl
   |some o=>rw[K _ _ e]at kB;cases kB
  ·have:=v2.map f;rw[jU]at this;exact this
  ·rw[List.pairwise_map];exact v3
  ·have key:∀l:List V,(∀u∈l,∃a∈d,u=.ref a)->Paired (rk (upd n p.objs.size (.lst J))) (l.map f) l:=by
    intro l
    induction l with
    |nil=>exact λ_=>.nil
    |cons u l ih=>
     intro hl;refine .cons ?_ (ih λu A=>hl u (ea _ A));obtain⟨a,i,rfl⟩:=hl u cI;obtain⟨y,T,U,y3,y4,y5⟩:=N a i;have up:∀b L,n b=some (.tup L)->upd n p.objs.size (.lst J) b=some (.tup L):=λb L e=>by rw[Ab (Ag e kB)];exact e
     exact⟨a,G a,rfl,up _ _ (XN a i),(U▸y3.up λb L e=>K b _ e:D9 n (G a) _).up up⟩
   refine key J λu A=>?_;obtain⟨a,i,e⟩:=gB.mp (v2.mem_iff.mp A);exact⟨a,i,e.symm⟩
end
end L2
namespace Law
local macro_rules | `(tactic| ac_rfl) => `(tactic| first | exact ⟨rfl,rfl,rfl,by decide +kernel,rfl,by decide +kernel,by decide +kernel⟩ | exact ⟨rfl,by decide +kernel,by decide +kernel,by decide +kernel,by decide +kernel⟩)
local macro_rules | `(tactic| omega) => `(tactic| lia)
open PySem L2 PyProof.Rows
open PySem.Builtin.Int (intBits)
def top(i:Nat):Stmt:=PySem.Challenge.pw_roundcall_k99_whole_papers_play.main.body.getD i (.Pass ⟨0,0,0,0⟩)
abbrev Gx:Stmt:=top 9
abbrev bw:Stmt:=top 10
abbrev c8:Stmt:=top 11
abbrev bj:Stmt:=top 12
abbrev pk:Stmt:=top 13
abbrev Wr:Stmt:=top 14
abbrev bg:Stmt:=top 15
abbrev Gy:Stmt:=top 16
abbrev bp:Stmt:=top 17
abbrev G3:Stmt:=top 18
abbrev bh:Stmt:=top 19
abbrev c9:Stmt:=top 20
abbrev Wx:Stmt:=top 21
abbrev Wv:Stmt:=top 22
abbrev pq:Stmt:=top 24
abbrev cg:Stmt:=top 25
abbrev pi:Stmt:=top 26
abbrev Wy:Stmt:=top 27
abbrev ci:Stmt:=top 28
abbrev Wu:Stmt:=top 29
abbrev Ww:Stmt:=top 30
abbrev bi:Stmt:=top 31
abbrev bq:Stmt:=top 33
abbrev Ws:Stmt:=top 34
abbrev Sz:Stmt:=top 35
abbrev Wq:Stmt:=top 36
abbrev br:Stmt:=top 45
abbrev q5:Stmt:=Fa (top 48) 1
abbrev bd:Stmt:=Fa (top 47) 1
abbrev bf:Stmt:=Fa (top 50) 1
abbrev ba:Stmt:=Fa (top 51) 1
abbrev cj:Stmt:=top 38
abbrev bz:Stmt:=top 40
abbrev bv:Stmt:=top 41
abbrev c0:Stmt:=top 42
abbrev Wt:Stmt:=top 43
abbrev pj:Stmt:=Fa (top 47) 0
abbrev ph:Stmt:=Fa (top 48) 0
abbrev qa:Stmt:=Fa (top 50) 0
abbrev ir:Stmt:=Fa (top 51) 0
abbrev bm:Stmt:=top 53
abbrev Ta:Stmt:=top 54
abbrev pz:Stmt:=top 55
abbrev bn:Stmt:=top 56
abbrev Wp:Stmt:=top 57
abbrev cf:Stmt:=top 58
abbrev iu:Stmt:=top 59
abbrev bo:Stmt:=top 60
abbrev Ke:Stmt:=top 61
theorem qp:Am (["waits","calm"]:List Str) ["waits","calm"] (Aa Gx):=by ac_rfl
theorem qm:Am (["hall"]:List Str) ["hall"] (Aa bw):=by ac_rfl
theorem qo:Am (["hall","standing"]:List Str) ["hall","standing"] (Aa c8):=by ac_rfl
theorem qf:Am (["hall","who"]:List Str) ["hall","who"] (Aa bj):=by ac_rfl
theorem vq:Am (["hall","standing","who","lost"]:List Str) ["hall","standing","who","lost"] (Aa pk):=by ac_rfl
theorem cr:Am (["hall","standing","who","lost","left"]:List Str) ["hall","standing","who","lost"] (Aa Wr):=by ac_rfl
def Ky:Scope:={kind:=.function,names:=[(Str.ofString ".0",NameKind.local),(Str.ofString "turns",NameKind.local)],isGenerator:=false,isCoroutine:=false,more:=[] }
theorem Ku:Ck (Aa Wr) Ky (["hall","standing","who","lost","left"]:List Str) (["turns"]:List Str) []:=by ac_rfl
theorem L7:(Bi (["hall","standing","who","lost","left"]:List Str) (["turns"]:List Str) []).Nodup:=by decide+kernel
theorem qd:Am (["hall","standing","lost"]:List Str) ["hall","standing","lost"] (Aa bg):=by ac_rfl
theorem cz:Am (["hall","standing","who","lost","left"]:List Str) ["hall","standing","who","lost"] (Aa Gy):=by ac_rfl
theorem cw:Am (["hall","standing","who","behind"]:List Str) ["hall","standing","who"] (Aa bp):=by ac_rfl
theorem cu:Am (["hall","standing","who","lost","left"]:List Str) ["hall","standing","who","lost"] (Aa G3):=by ac_rfl
def Kx:Scope:={kind:=.function,names:=[(Str.ofString ".0",NameKind.local),(Str.ofString "number",NameKind.local),(Str.ofString "turns",NameKind.local)],isGenerator:=false,isCoroutine:=false,more:=[] }
theorem Kt:Ck (Aa G3) Kx (["hall","standing","who","lost","left"]:List Str) (["number","turns"]:List Str) []:=by ac_rfl
theorem Fv:(Bi (["hall","standing","who","lost","left"]:List Str) (["number","turns"]:List Str) []).Nodup:=by decide+kernel
theorem qe:Am (["hall"]:List Str) ["hall"] (Aa bh):=by ac_rfl
theorem Qy:Am (["hall","product","wait"]:List Str) ["hall"] (Aa c9):=by ac_rfl
theorem Lb:Am (["waits","rows","wait","longer","row"]:List Str) ["waits"] (Aa Wx):=by ac_rfl
def Oa:Scope:={kind:=.function,names:=[(Str.ofString ".0",NameKind.local),(Str.ofString "turns",NameKind.local),(Str.ofString "row",NameKind.free)],isGenerator:=false,isCoroutine:=false,more:=[] }
theorem O7:Ck (Aa Wx) Oa (["waits","rows","wait","longer","row"]:List Str) (["turns"]:List Str) [4]:=by ac_rfl
theorem Od:(Bi (["waits","rows","wait","longer","row"]:List Str) (["turns"]:List Str) [4]).Nodup:=by decide+kernel
theorem Uw:Am (["hall","told","left"]:List Str) ["hall"] (Aa Wv):=by ac_rfl
def Mu:Scope:={kind:=.function,names:=[(Str.ofString ".0",NameKind.local),(Str.ofString "quiet",NameKind.local),(Str.ofString "left",NameKind.free)],isGenerator:=false,isCoroutine:=false,more:=[] }
theorem Mr:Ck (Aa Wv) Mu (["hall","told","left"]:List Str) (["quiet"]:List Str) [2]:=by ac_rfl
theorem Na:(Bi (["hall","told","left"]:List Str) (["quiet"]:List Str) [2]).Nodup:=by decide+kernel
theorem Pg:Am (["hall","pending","standing","calls","who","behind"]:List Str) ["hall"] (Aa pq):=by ac_rfl
theorem Jl:Am (["pending","ways","standing","calls","who","behind","later"]:List Str) ["pending"] (Aa cg):=by ac_rfl
theorem Pf:Am (["pending","ways","ranked","bare","later","standing","who","calls"]:List Str) ["pending","ways","ranked"] (Aa pi):=by ac_rfl
theorem Gp:Am (["hall","pending","ways","table","rank","ranked","standing"]:List Str) ["hall"] (Aa Wy):=by ac_rfl
def Tz:Scope:={kind:=.function,names:=[(Str.ofString ".0",NameKind.local),(Str.ofString "standing",NameKind.local),(Str.ofString "calls",NameKind.local)],isGenerator:=false,isCoroutine:=false,more:=[] }
theorem Tx:Ck (Aa Wy) Tz (["hall","pending","ways","table","rank","ranked","standing"]:List Str) (["standing","calls"]:List Str) []:=by ac_rfl
theorem N9:(Bi (["hall","pending","ways","table","rank","ranked","standing"]:List Str) (["standing","calls"]:List Str) []).Nodup:=by decide+kernel
theorem qq:Am (["table","behind"]:List Str) ["table","behind"] (Aa ci):=by ac_rfl
theorem qj:Am (["hall","table","standing","who"]:List Str) ["hall","table","standing","who"] (Aa Wu):=by ac_rfl
def Lw:Scope:={kind:=.function,names:=[(Str.ofString ".0",NameKind.local),(Str.ofString "behind",NameKind.local),(Str.ofString "worth",NameKind.globalImplicit),(Str.ofString "table",NameKind.free)],isGenerator:=false,isCoroutine:=false,more:=[] }
theorem Lv:Ck (Aa Wu) Lw (["hall","table","standing","who"]:List Str) (["behind"]:List Str) [1]:=by ac_rfl
theorem M6:(Bi (["hall","table","standing","who"]:List Str) (["behind"]:List Str) [1]).Nodup:=by decide+kernel
theorem cx:Am (["hall","table","standing","worths"]:List Str) ["hall","table","standing"] (Aa Ww):=by ac_rfl
def Mt:Scope:={kind:=.function,names:=[(Str.ofString ".0",NameKind.local),(Str.ofString "who",NameKind.local),(Str.ofString "call_worth",NameKind.globalImplicit),(Str.ofString "hall",NameKind.free),(Str.ofString "standing",NameKind.free),(Str.ofString "table",NameKind.free)],isGenerator:=false,isCoroutine:=false,more:=[] }
theorem Mq:Ck (Aa Ww) Mt (["hall","table","standing","worths"]:List Str) (["who"]:List Str) [0,1,2]:=by ac_rfl
theorem N8:(Bi (["hall","table","standing","worths"]:List Str) (["who"]:List Str) [0,1,2]).Nodup:=by decide+kernel
theorem cq:Am (["hall","table","standing","who","reached"]:List Str) ["hall","table","standing","who"] (Aa bi):=by ac_rfl
theorem Np:Am (["hall","table","calls","coming","standing"]:List Str) ["hall"] (Aa bq):=by ac_rfl
theorem qh:Am (["hall","table","standing"]:List Str) ["hall","table","standing"] (Aa Ws):=by ac_rfl
def Kw:Scope:={kind:=.function,names:=[(Str.ofString ".0",NameKind.local),(Str.ofString "who",NameKind.local),(Str.ofString "worst_answer",NameKind.globalImplicit),(Str.ofString "hall",NameKind.free),(Str.ofString "standing",NameKind.free),(Str.ofString "table",NameKind.free)],isGenerator:=false,isCoroutine:=false,more:=[] }
theorem Ks:Ck (Aa Ws) Kw (["hall","table","standing"]:List Str) (["who"]:List Str) [0,1,2]:=by ac_rfl
theorem L6:(Bi (["hall","table","standing"]:List Str) (["who"]:List Str) [0,1,2]).Nodup:=by decide+kernel
theorem ck:Am (["hall","standing","answers","behind"]:List Str) ["hall","standing","answers"] (Aa Sz):=by ac_rfl
def Hh:Scope:={kind:=.function,names:=[(Str.ofString ".0",NameKind.local),(Str.ofString "who",NameKind.local),(Str.ofString "lost",NameKind.local),(Str.ofString "after",NameKind.globalImplicit),(Str.ofString "hall",NameKind.free),(Str.ofString "standing",NameKind.free)],isGenerator:=false,isCoroutine:=false,more:=[] }
theorem Hf:Ck (Aa Sz) Hh (["hall","standing","answers","behind"]:List Str) (["who","lost"]:List Str) [0,1]:=by ac_rfl
theorem Ef:(Bi (["hall","standing","answers","behind"]:List Str) (["who","lost"]:List Str) [0,1]).Nodup:=by decide+kernel
def Hi:Scope:={kind:=.function,names:=[(Str.ofString ".0",NameKind.local),(Str.ofString "later",NameKind.local)],isGenerator:=false,isCoroutine:=false,more:=[] }
theorem Hg:Ck (Aa Sz) Hi (["hall","standing","answers","behind"]:List Str) (["later"]:List Str) []:=by ac_rfl
theorem Hm:(Bi (["hall","standing","answers","behind"]:List Str) (["later"]:List Str) []).Nodup:=by decide+kernel
theorem Nm:Am (["hall","table","told","coming","standing"]:List Str) ["hall"] (Aa Wq):=by ac_rfl
def Jw:Scope:={kind:=.function,names:=[(Str.ofString ".0",NameKind.local),(Str.ofString "standing",NameKind.local),(Str.ofString "answers",NameKind.local),(Str.ofString "table",NameKind.free)],isGenerator:=false,isCoroutine:=false,more:=[] }
theorem Jv:Ck (Aa Wq) Jw (["hall","table","told","coming","standing"]:List Str) (["standing","answers"]:List Str) [1]:=by ac_rfl
theorem Fc:(Bi (["hall","table","told","coming","standing"]:List Str) (["standing","answers"]:List Str) [1]).Nodup:=by decide+kernel
theorem qk:Am (["standing"]:List Str) ["standing"] (Aa br):=by ac_rfl
theorem vt:Am (["self","hall","standing"]:List Str) ["self","hall","standing"] (Aa q5):=by ac_rfl
theorem cn:Am (["self","hall","standing","place"]:List Str) ["self","hall","standing"] (Aa bd):=by ac_rfl
theorem cp:Am (["self","hall","standing","who","place"]:List Str) ["self","hall","standing","who"] (Aa bf):=by ac_rfl
theorem qb:Am (["self","hall","standing","who"]:List Str) ["self","hall","standing","who"] (Aa ba):=by ac_rfl
theorem Jm:Am (["hall","caller","road","turns","rows","standing","who","lost","broken"]:List Str) ["hall","caller","road","turns"] (Aa cj):=by ac_rfl
theorem Nq:Am (["hall","paper","listed","standing","who","behind"]:List Str) ["hall","paper"] (Aa bz):=by ac_rfl
theorem ql:Am (["hall","standing","answers"]:List Str) ["hall","standing","answers"] (Aa bv):=by ac_rfl
theorem Qx:Am (["hall","listed","standing","answers","who","lost","behind"]:List Str) ["hall","listed","standing","answers"] (Aa c0):=by ac_rfl
theorem Nn:Am (["hall","paper","listed","standing","rank","answers"]:List Str) ["hall","paper"] (Aa Wt):=by ac_rfl
def Kz:Scope:={kind:=.function,names:=[(Str.ofString ".0",NameKind.local),(Str.ofString "standing",NameKind.local),(Str.ofString "rank",NameKind.local),(Str.ofString "answers",NameKind.local)],isGenerator:=false,isCoroutine:=false,more:=[] }
theorem Kv:Ck (Aa Wt) Kz (["hall","paper","listed","standing","rank","answers"]:List Str) (["standing","rank","answers"]:List Str) []:=by ac_rfl
theorem Dw:(Bi (["hall","paper","listed","standing","rank","answers"]:List Str) (["standing","rank","answers"]:List Str) []).Nodup:=by decide+kernel
theorem vo:Am (["self","row"]:List Str) ["self","row"] (Aa pj):=by ac_rfl
theorem vn:Am (["self","paper"]:List Str) ["self","paper"] (Aa ph):=by ac_rfl
theorem vv:Am (["self","row"]:List Str) ["self","row"] (Aa qa):=by ac_rfl
theorem vp:Am (["self","paper"]:List Str) ["self","paper"] (Aa ir):=by ac_rfl
def Fr:Scope:={kind:=.function,names:=[(Str.ofString ".0",NameKind.local),(Str.ofString "standing",NameKind.local),(Str.ofString "rank",NameKind.local),(Str.ofString "answers",NameKind.local)],isGenerator:=false,isCoroutine:=false,more:=[] }
theorem Fq:Ck (Aa ir) Fr (["self","paper"]:List Str) (["standing","rank","answers"]:List Str) []:=by ac_rfl
theorem Cl:(Bi (["self","paper"]:List Str) (["standing","rank","answers"]:List Str) []).Nodup:=by decide+kernel
theorem qi:Am (["script","k"]:List Str) ["script","k"] (Aa bm):=by ac_rfl
theorem Hv:Am (["script","many","waits","calm","least"]:List Str) ["script"] (Aa Ta):=by ac_rfl
def Ob:Scope:={kind:=.function,names:=[(Str.ofString ".0",NameKind.local),(Str.ofString "k",NameKind.local),(Str.ofString "_law_cell_at",NameKind.globalImplicit),(Str.ofString "script",NameKind.free)],isGenerator:=false,isCoroutine:=false,more:=[] }
theorem O8:Ck (Aa Ta) Ob (["script","many","waits","calm","least"]:List Str) (["k"]:List Str) [0]:=by ac_rfl
theorem Oe:(Bi (["script","many","waits","calm","least"]:List Str) (["k"]:List Str) [0]).Nodup:=by decide+kernel
def Oc:Scope:={kind:=.function,names:=[(Str.ofString ".0",NameKind.local),(Str.ofString "k",NameKind.local),(Str.ofString "_law_cell_at",NameKind.globalImplicit),(Str.ofString "least",NameKind.free),(Str.ofString "script",NameKind.free)],isGenerator:=false,isCoroutine:=false,more:=[] }
theorem O9:Ck (Aa Ta) Oc (["script","many","waits","calm","least"]:List Str) (["k"]:List Str) [4,0]:=by ac_rfl
theorem Of:(Bi (["script","many","waits","calm","least"]:List Str) (["k"]:List Str) [4,0]).Nodup:=by decide+kernel
theorem d0:Am (["entry","many","cell","at","answers"]:List Str) ["entry","many","cell"] (Aa pz):=by ac_rfl
theorem No:Am (["paper","many","cell","rows","at"]:List Str) ["paper","many","cell"] (Aa bn):=by ac_rfl
theorem Nl:Am (["hall","paper","cells","handed","turns","rows","broken"]:List Str) ["hall","paper","cells"] (Aa Wp):=by ac_rfl
def Ir:Scope:={kind:=.function,names:=[(Str.ofString ".0",NameKind.local),(Str.ofString "cell",NameKind.local)],isGenerator:=false,isCoroutine:=false,more:=[] }
theorem Ip:Ck (Aa Wp) Ir (["hall","paper","cells","handed","turns","rows","broken"]:List Str) (["cell"]:List Str) []:=by ac_rfl
theorem Iu:(Bi (["hall","paper","cells","handed","turns","rows","broken"]:List Str) (["cell"]:List Str) []).Nodup:=by decide+kernel
theorem cy:Am (["hall","paper","row"]:List Str) ["hall","paper"] (Aa cf):=by ac_rfl
theorem Nr:Am (["hall","paper","cells","handed","many","turns","calls","rows","broken"]:List Str) ["hall","paper","cells"] (Aa iu):=by ac_rfl
def Ha:Scope:={kind:=.function,names:=[(Str.ofString ".0",NameKind.local),(Str.ofString "cell",NameKind.local),(Str.ofString "many",NameKind.free)],isGenerator:=false,isCoroutine:=false,more:=[] }
theorem Gz:Ck (Aa iu) Ha (["hall","paper","cells","handed","many","turns","calls","rows","broken"]:List Str) (["cell"]:List Str) [4]:=by ac_rfl
theorem Hb:(Bi (["hall","paper","cells","handed","many","turns","calls","rows","broken"]:List Str) (["cell"]:List Str) [4]).Nodup:=by decide+kernel
theorem Jk:Am (["hall","paper","table","road","standing","k","who"]:List Str) ["hall","paper"] (Aa bo):=by ac_rfl
theorem Jj:Am (["script","hall","many","cells","cell","paper"]:List Str) ["script"] (Aa Ke):=by ac_rfl
set_option genInjectivity false in
set_option genSizeOf false in
structure yv where
 cY:Addr
 cH:Addr
 cN:Addr
 eR:Addr
 mS:Addr
 eS:Addr
 gE:Addr
 bT:Addr
 cZ:Addr
 dA:Addr
 eU:Addr
 gF:Addr
 gG:Addr
 gH:Addr
 mT:Addr
 gI:Addr
 mU:Addr
 dN:Addr
 eV:Addr
 gJ:Addr
 eX:Addr
 gK:Addr
 gL:Addr
 gM:Addr
 gN:Addr
 gO:Addr
 eY:Addr
 mV:Addr
 gP:Addr
 eZ:Addr
 fA:Addr
 fB:Addr
 fD:Addr
 gQ:Addr
 gR:Addr
 fE:Addr
 mW:Addr
 mX:Addr
 mY:Addr
 kW:Addr
 fG:Addr
 gS:Addr
 mZ:Addr
 gT:Addr
 gU:Addr
 fH:Addr
 nA:Addr
 gW:Addr
 gX:Addr
structure yx(K:W.Frag)(mg:Str->Option oI)(ad:yv)(aE aB aA aD aC:Addr):Prop where
 KZ:mg "hall_of"=some (.ref ad.cY)
 uF:W.keepIn K (.ref ad.cY)=true
 fI:mg "beginning"=some (.ref ad.cH)
 fJ:W.keepIn K (.ref ad.cH)=true
 kG:mg "may_lose"=some (.ref ad.cN)
 kH:W.keepIn K (.ref ad.cN)=true
 zQ:mg "is_listener"=some (.ref ad.eR)
 zR:W.keepIn K (.ref ad.eR)=true
 XO:mg "refuse_wrong_turn"=some (.ref ad.mS)
 XQ:W.keepIn K (.ref ad.mS)=true
 zS:mg "left_behind"=some (.ref ad.eS)
 zT:W.keepIn K (.ref ad.eS)=true
 LA:mg "quiet_behind"=some (.ref ad.gE)
 LB:W.keepIn K (.ref ad.gE)=true
 gY:mg "after"=some (.ref ad.bT)
 dR:W.keepIn K (.ref ad.bT)=true
 qJ:mg "all_behind"=some (.ref ad.cZ)
 qK:W.keepIn K (.ref ad.cZ)=true
 LC:mg "broken_ones"=some (.ref ad.dA)
 uG:W.keepIn K (.ref ad.dA)=true
 zU:mg "quiet_values"=some (.ref ad.eU)
 zV:W.keepIn K (.ref ad.eU)=true
 LD:mg "how_many"=some (.ref ad.gF)
 LF:W.keepIn K (.ref ad.gF)=true
 LG:mg "all_left"=some (.ref ad.gG)
 LH:W.keepIn K (.ref ad.gG)=true
 LI:mg "standings"=some (.ref ad.gH)
 LJ:W.keepIn K (.ref ad.gH)=true
 XR:mg "calls_by_standing"=some (.ref ad.mT)
 XS:W.keepIn K (.ref ad.mT)=true
 LK:mg "ways_to"=some (.ref ad.gI)
 LL:W.keepIn K (.ref ad.gI)=true
 XT:mg "without_calls_left"=some (.ref ad.mU)
 XU:W.keepIn K (.ref ad.mU)=true
 uH:mg "ranks"=some (.ref ad.dN)
 uI:W.keepIn K (.ref ad.dN)=true
 uJ:mg "worth"=some (.ref ad.eV)
 uK:W.keepIn K (.ref ad.eV)=true
 LM:mg "call_worth"=some (.ref ad.gJ)
 LN:W.keepIn K (.ref ad.gJ)=true
 zW:mg "best_call"=some (.ref ad.eX)
 zX:W.keepIn K (.ref ad.eX)=true
 LO:mg "worst_answer"=some (.ref ad.gK)
 LP:W.keepIn K (.ref ad.gK)=true
 LQ:mg "kept_paper"=some (.ref ad.gL)
 LR:W.keepIn K (.ref ad.gL)=true
 LS:mg "all_answers"=some (.ref ad.gM)
 LU:W.keepIn K (.ref ad.gM)=true
 LV:mg "unbroken_behind"=some (.ref ad.gN)
 LW:W.keepIn K (.ref ad.gN)=true
 LX:mg "broken_paper"=some (.ref ad.gO)
 LY:W.keepIn K (.ref ad.gO)=true
 zY:mg "least_left"=some (.ref ad.eY)
 zZ:W.keepIn K (.ref ad.eY)=true
 AA:mg "play"=some (.ref ad.fB)
 AB:W.keepIn K (.ref ad.fB)=true
 AD:mg "lets_kept"=some (.ref ad.fD)
 AE:W.keepIn K (.ref ad.fD)=true
 LZ:mg "may_answer"=some (.ref ad.gQ)
 MA:W.keepIn K (.ref ad.gQ)=true
 MB:mg "goes_down"=some (.ref ad.gR)
 MC:W.keepIn K (.ref ad.gR)=true
 AF:mg "lets_broken"=some (.ref ad.fE)
 AG:W.keepIn K (.ref ad.fE)=true
 kI:mg "_law_cell_at"=some (.ref ad.fG)
 kJ:W.keepIn K (.ref ad.fG)=true
 MD:mg "_law_hall"=some (.ref ad.gS)
 ME:W.keepIn K (.ref ad.gS)=true
 XW:mg "_law_spoiled_entry"=some (.ref ad.mZ)
 XX:W.keepIn K (.ref ad.mZ)=true
 AH:mg "_law_spoiled"=some (.ref ad.gT)
 AI:W.keepIn K (.ref ad.gT)=true
 AJ:mg "_law_kept_holds"=some (.ref ad.gU)
 AK:W.keepIn K (.ref ad.gU)=true
 AL:mg "_law_rank"=some (.ref ad.fH)
 AM:W.keepIn K (.ref ad.fH)=true
 MF:mg "_law_broken_holds"=some (.ref ad.nA)
 MG:W.keepIn K (.ref ad.nA)=true
 MJ:mg "_law_at_last"=some (.ref ad.gW)
 MK:W.keepIn K (.ref ad.gW)=true
 m_law:mg "law"=some (.ref ad.gX)
 uL:W.keepIn K (.ref ad.gX)=true
 uM:mg "min"=none
 kX:mg "tuple"=none
 bB:mg "len"=none
 AN:mg "max"=none
 dB:mg "enumerate"=none
 cJ:mg "range"=none
 nB:mg "sorted"=none
 kY:mg "dict"=none
 dC:mg "list"=none
 fS:∃t,mg "MOST_LISTENERS"=some (.int 8 t)
 fT:∃t,mg "MOST_STANDINGS"=some (.int 3000 t)
 ML:mg "Caller"=some (.ref aE)
 nC:mg "RowCaller"=some (.ref aB)
 jW:mg "PaperCaller"=some (.ref aA)
 rV:mg "RowRoad"=some (.ref aD)
 gZ:mg "PaperRoad"=some (.ref aC)
 IP:Tl K aE
 IQ:yz K aE
 aV:Tl K aB
 kZ:Mk K aB ad.mW
 MM:X6 K aB "call" ad.gP
 bP:Eh K aB "row"
 bJ:Eh K aB "asked"
 bN:Tl K aA
 jH:Mk K aA ad.mX
 XY:X6 K aA "call" ad.mV
 bC:Eh K aA "paper"
 bD:Tl K aD
 oE:Mk K aD ad.mY
 AO:X6 K aD "loses" ad.eZ
 bX:Eh K aD "row"
 bQ:Eh K aD "asked"
 bG:Tl K aC
 fK:Mk K aC ad.kW
 AQ:X6 K aC "loses" ad.fA
 aW:Eh K aC "paper"
inductive O5(p0 p1 p2:Prop):Prop where
 |mk (h0:p0) (h1:p1) (h2:p2):O5 p0 p1 p2
inductive Pt(p0 p1 p2 p3:Prop):Prop where
 |mk (h0:p0) (h1:p1) (h2:p2) (h3:p3):Pt p0 p1 p2 p3
inductive Gc(p0 p1 p2 p3 p4:Prop):Prop where
 |mk (h0:p0) (h1:p1) (h2:p2) (h3:p3) (h4:p4):Gc p0 p1 p2 p3 p4
inductive Ls(p0 p1 p2 p3 p4 p5:Prop):Prop where
 |mk (h0:p0) (h1:p1) (h2:p2) (h3:p3) (h4:p4) (h5:p5):Ls p0 p1 p2 p3 p4 p5
inductive Tm(p0 p1 p2 p3 p4 p5 p6:Prop):Prop where
 |mk (h0:p0) (h1:p1) (h2:p2) (h3:p3) (h4:p4) (h5:p5) (h6:p6):Tm p0 p1 p2 p3 p4 p5 p6
inductive Pu(p0 p1 p2 p3 p4 p5 p6 p7:Prop):Prop where
 |mk (h0:p0) (h1:p1) (h2:p2) (h3:p3) (h4:p4) (h5:p5) (h6:p6) (h7:p7):Pu p0 p1 p2 p3 p4 p5 p6 p7
inductive Js(p0 p1 p2 p3 p4 p5 p6 p7 p8:Prop):Prop where
 |mk (h0:p0) (h1:p1) (h2:p2) (h3:p3) (h4:p4) (h5:p5) (h6:p6) (h7:p7) (h8:p8):Js p0 p1 p2 p3 p4 p5 p6 p7 p8
inductive Lg(p0 p1 p2 p3 p4 p5 p6 p7 p8 p9:Prop):Prop where
 |mk (h0:p0) (h1:p1) (h2:p2) (h3:p3) (h4:p4) (h5:p5) (h6:p6) (h7:p7) (h8:p8) (h9:p9):Lg p0 p1 p2 p3 p4 p5 p6 p7 p8 p9
inductive Vk(p0 p1 p2 p3 p4 p5 p6 p7 p8 p9 qL:Prop):Prop where
 |mk (h0:p0) (h1:p1) (h2:p2) (h3:p3) (h4:p4) (h5:p5) (h6:p6) (h7:p7) (h8:p8) (h9:p9) (UC:qL):Vk p0 p1 p2 p3 p4 p5 p6 p7 p8 p9 qL
inductive j8(p0 p1 p2 p3 p4 p5 p6 p7 p8 p9 qL uN uO:Prop):Prop where
 |mk (h0:p0) (h1:p1) (h2:p2) (h3:p3) (h4:p4) (h5:p5) (h6:p6) (h7:p7) (h8:p8) (h9:p9) (UC:qL) (XZ:uN) (YA:uO):j8 p0 p1 p2 p3 p4 p5 p6 p7 p8 p9 qL uN uO
inductive j9(p0 p1 p2 p3 p4 p5 p6 p7 p8 p9 qL uN uO AR AS:Prop):Prop where
 |mk (h0:p0) (h1:p1) (h2:p2) (h3:p3) (h4:p4) (h5:p5) (h6:p6) (h7:p7) (h8:p8) (h9:p9) (UC:qL) (XZ:uN) (YA:uO) (h13:AR) (h14:AS):j9 p0 p1 p2 p3 p4 p5 p6 p7 p8 p9 qL uN uO AR AS
inductive ja(p0 p1 p2 p3 p4 p5 p6 p7 p8 p9 qL uN uO AR AS MN:Prop):Prop where
 |mk (h0:p0) (h1:p1) (h2:p2) (h3:p3) (h4:p4) (h5:p5) (h6:p6) (h7:p7) (h8:p8) (h9:p9) (UC:qL) (XZ:uN) (YA:uO) (h13:AR) (h14:AS) (h15:MN):ja p0 p1 p2 p3 p4 p5 p6 p7 p8 p9 qL uN uO AR AS MN
inductive jb(p0 p1 p2 p3 p4 p5 p6 p7 p8 p9 qL uN uO AR AS MN p16 p17 p18:Prop):Prop where
 |mk (h0:p0) (h1:p1) (h2:p2) (h3:p3) (h4:p4) (h5:p5) (h6:p6) (h7:p7) (h8:p8) (h9:p9) (UC:qL) (XZ:uN) (YA:uO) (h13:AR) (h14:AS) (h15:MN) (h16:p16) (h17:p17) (h18:p18):jb p0 p1 p2 p3 p4 p5 p6 p7 p8 p9 qL uN uO AR AS MN p16 p17 p18
inductive Yu{T0 T1:Type}(p:T0->T1->Prop):Prop where
 |mk (x0:T0) (x1:T1) (h:p x0 x1):Yu p
inductive Rf{T0 T1 T2:Type}(p:T0->T1->T2->Prop):Prop where
 |mk (x0:T0) (x1:T1) (x2:T2) (h:p x0 x1 x2):Rf p
inductive X3{T0 T1 T2 T3:Type}(p:T0->T1->T2->T3->Prop):Prop where
 |mk (x0:T0) (x1:T1) (x2:T2) (x3:T3) (h:p x0 x1 x2 x3):X3 p
inductive rj{T0 T1 T2 T3 T4:Type}(p:T0->T1->T2->T3->T4->Prop):Prop where
 |mk (x0:T0) (x1:T1) (x2:T2) (x3:T3) (x4:T4) (h:p x0 x1 x2 x3 x4):rj p
inductive fh{T0 T1 T2 T3 T4 T5:Type}(p:T0->T1->T2->T3->T4->T5->Prop):Prop where
 |mk (x0:T0) (x1:T1) (x2:T2) (x3:T3) (x4:T4) (x5:T5) (h:p x0 x1 x2 x3 x4 x5):fh p
inductive fk{T0 T1 T2 T3 T4 T5 T6:Type}(p:T0->T1->T2->T3->T4->T5->T6->Prop):Prop where
 |mk (x0:T0) (x1:T1) (x2:T2) (x3:T3) (x4:T4) (x5:T5) (x6:T6) (h:p x0 x1 x2 x3 x4 x5 x6):fk p
inductive fi{T0 T1 T2 T3 T4 T5 T6 T7:Type}(p:T0->T1->T2->T3->T4->T5->T6->T7->Prop):Prop where
 |mk (x0:T0) (x1:T1) (x2:T2) (x3:T3) (x4:T4) (x5:T5) (x6:T6) (x7:T7) (h:p x0 x1 x2 x3 x4 x5 x6 x7):fi p
inductive yw{T0 T1 T2 T3 T4 T5 T6 T7 T8:Type}(p:T0->T1->T2->T3->T4->T5->T6->T7->T8->Prop):Prop where
 |mk (x0:T0) (x1:T1) (x2:T2) (x3:T3) (x4:T4) (x5:T5) (x6:T6) (x7:T7) (x8:T8) (h:p x0 x1 x2 x3 x4 x5 x6 x7 x8):yw p
inductive fj{T0 T1 T2 T3 T4 T5 T6 T7 T8 T9:Type}(p:T0->T1->T2->T3->T4->T5->T6->T7->T8->T9->Prop):Prop where
 |mk (x0:T0) (x1:T1) (x2:T2) (x3:T3) (x4:T4) (x5:T5) (x6:T6) (x7:T7) (x8:T8) (x9:T9) (h:p x0 x1 x2 x3 x4 x5 x6 x7 x8 x9):fj p
inductive sj{T0 T1 T2 T3 T4 T5 T6 T7 T8 T9 uP:Type}(p:T0->T1->T2->T3->T4->T5->T6->T7->T8->T9->uP->Prop):Prop where
 |mk (x0:T0) (x1:T1) (x2:T2) (x3:T3) (x4:T4) (x5:T5) (x6:T6) (x7:T7) (x8:T8) (x9:T9) (DZ:uP) (h:p x0 x1 x2 x3 x4 x5 x6 x7 x8 x9 DZ):sj p
inductive sk{T0 T1 T2 T3 T4 T5 T6 T7 T8 T9 uP AU:Type}(p:T0->T1->T2->T3->T4->T5->T6->T7->T8->T9->uP->AU->Prop):Prop where
 |mk (x0:T0) (x1:T1) (x2:T2) (x3:T3) (x4:T4) (x5:T5) (x6:T6) (x7:T7) (x8:T8) (x9:T9) (DZ:uP) (MO:AU) (h:p x0 x1 x2 x3 x4 x5 x6 x7 x8 x9 DZ MO):sk p
inductive sn{T0 T1 T2 T3 T4 T5 T6 T7 T8 T9 uP AU MP MQ:Type}(p:T0->T1->T2->T3->T4->T5->T6->T7->T8->T9->uP->AU->MP->MQ->Prop):Prop where
 |mk (x0:T0) (x1:T1) (x2:T2) (x3:T3) (x4:T4) (x5:T5) (x6:T6) (x7:T7) (x8:T8) (x9:T9) (DZ:uP) (MO:AU) (YB:MP) (YC:MQ) (h:p x0 x1 x2 x3 x4 x5 x6 x7 x8 x9 DZ MO YB YC):sn p
inductive so{T0 T1 T2 T3 T4 T5 T6 T7 T8 T9 uP AU MP MQ T14 T15:Type}(p:T0->T1->T2->T3->T4->T5->T6->T7->T8->T9->uP->AU->MP->MQ->T14->T15->Prop):Prop where
 |mk (x0:T0) (x1:T1) (x2:T2) (x3:T3) (x4:T4) (x5:T5) (x6:T6) (x7:T7) (x8:T8) (x9:T9) (DZ:uP) (MO:AU) (YB:MP) (YC:MQ) (x14:T14) (x15:T15) (h:p x0 x1 x2 x3 x4 x5 x6 x7 x8 x9 DZ MO YB YC x14 x15):so p
def Ax(H:Hp)(a:Addr)(ws:oB)(b:oD):Prop:=∃t,H a=some (.tup [.ref t,vO b])/\H t=some (.tup (ws.map V.int))
def Cc(H:Hp)(b:Addr)(ls:oB)(q:Int):Prop:=∃u,H b=some (.tup [.ref u,.int q])/\H u=some (.tup (ls.map V.int))
theorem Ax.same{H c:Hp}{a:Addr}{ws:oB}{b:oD}(s:A8 H c)(h:Ax H a ws b):Ax c a ws b:=by
 obtain⟨t,d,e⟩:=h;exact⟨t,s _ _ d,s _ _ e⟩
theorem Cc.same{H b:Hp}{a:Addr}{ls:oB}{q:Int}(s:A8 H b)(h:Cc H a ls q):Cc b a ls q:=by
 obtain⟨t,c,d⟩:=h;exact⟨t,s _ _ c,s _ _ d⟩
theorem rh(c:oD):decide (vO c=V.aX)=decide (c=none):=by cases c<;>simp[vO]
def Ba(ws ls:oB)(who:Nat)(a:Bool):oB:=if a=true then ls.map (λx=>x-1)else(ls.map (λx=>x-1)).set who (ws.getD who 0)
def Ci(a:oD)(q:Int)(b:Bool):Int:=if b=true then a.getD 0 else max (q-1) 0
def J6(a:oD)(q:Int)(b:Bool):Prop:=b=true->a≠none/\q=0
theorem Eo(ws ls:oB)(who:Nat)(a:Bool):(Ba ws ls who a).length=ls.length:=by
 unfold Ba;split<;>simp
theorem Sb(x:Int):∀a:oB,sd (.int x) (a.map V.int)=decide (x∈a)
 |[]=>rfl
 |n::a=>by
  show(Zg (V.int n) (V.int x)||sd (.int x) (a.map V.int))=_;rw[Sb x a];show((n==x)||decide (x∈a))=_;by_cases h:n=x
  ·simp[h]
  ·have b:¬x=n:=λe=>h e.symm;simp[h,b]
theorem Ox:∀a:oB,(a.map V.int).all En=true
 |[]=>rfl
 |n::a=>by
  show(En (V.int n)&&(a.map V.int).all En)=true;rw[Ox a];rfl
theorem W4{ws:oB}{k:Nat}(h:k<ws.length):X8 (ws.map V.int) (k:Int)=some (.int (ws.getD k 0)):=by
 refine Ma ?_;rw[List.getElem?_map,List.getElem?_eq_getElem h,List.getD_eq_getElem?_getD,List.getElem?_eq_getElem h];rfl
theorem gr{n k:Nat}(h:k<n):Yp n (k:Int)=some k:=by
 unfold Yp;rw[if_pos (by omega),if_pos (by omega)];simp
theorem g0{a:Int}{n:Nat}(h:a.natAbs<2^n):intBits a<=n:=intBits_le h
theorem Db(x:Int){m:Int}(h:0<m):0<=x%m/\x%m<m:=⟨Int.emod_nonneg x (by omega),Int.emod_lt_of_pos x h⟩
def Xj(xs:oB)(lo hi:oD):oB:=(xs.drop (HT.bK xs.length 0 lo)).take (HT.bK xs.length xs.length hi-HT.bK xs.length 0 lo)
theorem Xl(xs:oB)(lo hi:oD):Iq (xs.map V.int) lo hi=(Xj xs lo hi).map V.int:=by
 unfold Iq Xj;rw[List.length_map,List.map_take,List.map_drop]
theorem Rs(xs:oB)(lo hi:oD):(Xj xs lo hi).length<=xs.length:=by
 unfold Xj;rw[List.length_take,List.length_drop];omega
theorem g7{xs:List V}{c:Int}(h0:0<=c)(h:c<=xs.length):Iq xs none (some c)=xs.take c.toNat:=by
 obtain⟨n,rfl⟩:∃n:Nat,c=n:=⟨c.toNat,by omega⟩;unfold Iq;rw[HT.mJ,HT.iW];have e:min n xs.length=n:=by omega
 rw[e];simp
theorem Xk{xs:List V}{c:Int}(h0:0<=c)(h:c<=xs.length):Iq xs (some c) none=xs.drop c.toNat:=by
 obtain⟨n,rfl⟩:∃n:Nat,c=n:=⟨c.toNat,by omega⟩;unfold Iq;rw[HT.mJ,HT.iW];have e:min n xs.length=n:=by omega
 rw[e,Int.toNat_natCast,List.take_of_length_le];rw[List.length_drop];omega
theorem S8:∀{l:oB}{m:Int},m∈l->∃j:Nat,l[j]?=some m/\∀i,i<j->l[i]? ≠some m
 |x::l,m,h=>by
  by_cases e:x=m
  ·exact⟨0,by simp[e],(λi a=>absurd a (mF i))⟩
  ·rcases fe.mp h with h|h
   ·exact absurd h.symm e
   ·obtain⟨j,b,c⟩:=S8 h;refine⟨j+1,by simpa using b,λi a=>?_⟩;cases i with
    |zero=>simpa using e
    |succ i=>simpa using c i (by omega)
theorem Xb{a b:Int}{m n:Nat}(e:intBits a<=m)(f:intBits b<=n):intBits (a*b)<=m+n:=by
 apply intBits_le;rw[Int.natAbs_mul,Nat.pow_add];have c:=hG (natAbs_lt_pow_bits a) (Nat.pow_le_pow_right (by decide) e);have d:=hG (natAbs_lt_pow_bits b) (Nat.pow_le_pow_right (by decide) f);exact Nat.mul_lt_mul'' c d
theorem G6{n:Nat}(h:n<=10000):n<sizeLine:=Nat.lt_of_le_of_lt h (by decide)
def Aj(H c:Hp):Prop:=∀b a,H b=some (.tup a)->c b=some (.tup a)
theorem Aj.of{H a:Hp}(s:A8 H a):Aj H a:=λb c e=>s b _ e
theorem Aj.trans{H d f:Hp}(a:Aj H d)(b:Aj d f):Aj H f:=λc g e=>b c g (a c g e)
theorem Aj.lst{H:Hp}{D:Addr}{a:List V}{o:HO}(h:H D=some (.lst a)):Aj H (upd H D o):=λb c e=>by
 rw[Ab (Bl e h (by intro z;cases z))];exact e
def F6(H:Hp)(r:oB)(v:V):Prop:=∃p,v=.ref p/\H p=some (.tup (r.map V.int))
def Fl(H:Hp)(z:oB×Int)(v:V):Prop:=∃p u,v=.ref p/\H p=some (.tup [.ref u,.int z.2])/\H u=some (.tup (z.1.map V.int))
theorem F6.up{H a:Hp}{r:oB}{v:V}(t:Aj H a)(h:F6 H r v):F6 a r v:=by
 obtain⟨p,e,b⟩:=h;exact⟨p,e,t _ _ b⟩
theorem Fl.up{H a:Hp}{z:oB×Int}{v:V}(t:Aj H a)(h:Fl H z v):Fl a z v:=by
 obtain⟨p,u,e,b,c⟩:=h;exact⟨p,u,e,t _ _ b,t _ _ c⟩
def Ae{a:Type}(P:a->V->Prop)(b:List a)(vs:List V):Prop:=vs.length=b.length/\∀(i:Nat) (r:a) (v:V),b[i]?=some r->vs[i]?=some v->P r v
theorem Ae.nil{a:Type}{P:a->V->Prop}:Ae P [] []:=⟨rfl,λi r v e=>by cases e⟩
theorem Ae.imp{c:Type}{P a:c->V->Prop}{b:List c}{vs:List V}(f:∀r v,P r v->a r v)(h:Ae P b vs):Ae a b vs:=⟨h.1,λi r v d e=>f _ _ (h.2 i r v d e)⟩
theorem Ae.append{e:Type}{P:e->V->Prop}{c d:List e}{vs us:List V}(h:Ae P c vs)(g:Ae P d us):Ae P (c++d) (vs++us):=by
 refine⟨by rw[List.length_append,List.length_append,h.1,g.1],λi r v a b=>?_⟩;rcases la i c.length with z|z
 ·rw[List.getElem?_append_left z]at a;rw[List.getElem?_append_left (by rw[h.1];exact z)]at b;exact h.2 i r v a b
 ·rw[List.getElem?_append_right z]at a;rw[List.getElem?_append_right (by rw[h.1];exact z),h.1]at b;exact g.2 _ r v a b
theorem Ae.one{b:Type}{P:b->V->Prop}{r:b}{v:V}(h:P r v):Ae P [r] [v]:=by
 refine⟨rfl,λi d e a c=>?_⟩;cases i with
 |zero=>cases a;cases c;exact h
 |succ i=>cases a
theorem Ae.get{c:Type}{P:c->V->Prop}{a:List c}{vs:List V}(h:Ae P a vs){i:Nat}{v:V}(e:vs[i]?=some v):∃r,a[i]?=some r/\P r v:=by
 have d:=(bA.mp e).1
 have f:i<a.length:=by
  rw[<- h.1];exact d
 have b:a[i]?=some a[i]:=eH f;exact⟨_,b,h.2 i _ v b e⟩
def qv:oD->Int
 |none=>1
 |some c=>c+1
def Bx(q:Int)(ws:oB):Int:=ws.foldl (·*·) q
def Qg(r:oB)(w:Int):List (oB):=(List.range w.toNat).map λt=>r++[1+((t:Nat):Int)]
def C7(a:List (oB))(w:Int):List (oB):=a.flatMap λr=>Qg r w
def Cd(ws:oB):List (oB):=ws.foldl C7 [[]]
def G8(r:oB)(q:Int):List (oB×Int):=(List.range q.toNat).map λk=>(r,0+((k:Nat):Int))
def Aq(ws:oB)(q:Int):List (oB×Int):=(Cd ws).flatMap λr=>G8 r q
theorem Ft{a c:Type}(f:c->a->c)(b:c)(xs:List a){i:Nat}{x:a}(h:xs[i]?=some x):(xs.take (i+1)).foldl f b=f ((xs.take i).foldl f b) x:=by
 rw[List.take_add_one,h,List.foldl_append];rfl
theorem Oy{a b:Type}(f:a->List b)(xs:List a){i:Nat}{x:a}(h:xs[i]?=some x):(xs.take (i+1)).flatMap f=(xs.take i).flatMap f++f x:=by
 rw[List.take_add_one,h,List.flatMap_append];simp
theorem P9{q:Int}(a:intBits q<=256):∀{ws:oB},(∀w∈ws,intBits w<=256)->∀i,i<=ws.length->intBits (Bx q (ws.take i))<=256*(i+1)
 |ws,h,0,_=>by simpa[Bx]using a
 |ws,h,i+1,d=>by
  have c:ws[i]?=some ws[i]:=eH (by omega);have b:=P9 a h i (by omega);unfold Bx at b⊢;rw[Ft _ _ _ c];exact eI (Xb b (h _ (nr _))) (by omega)
theorem Ur(q:Int):∀(ws:oB) (a:Int),Bx (q*a) ws=q*Bx a ws
 |[],a=>rfl
 |w::ws,a=>by
  show Bx (q*a*w) ws=q*Bx (a*w) ws;rw[Int.mul_assoc,Ur q ws (a*w)]
theorem My{a c:Type}{f:a->List c}{n:Nat}:∀{xs:List a},(∀x∈xs,(f x).length=n)->(xs.flatMap f).length=xs.length*n
 |[],_=>by simp
 |x::xs,h=>by
  rw[List.flatMap_cons,List.length_append,h x (List.mem_cons_self ..),My λy b=>h y (List.mem_cons_of_mem _ b),List.length_cons,Nat.succ_mul];omega
theorem Si(r:oB)(w:Int):(Qg r w).length=w.toNat:=by simp[Qg]
theorem Pm(r:oB)(q:Int):(G8 r q).length=q.toNat:=by simp[G8]
theorem Nw(a:List (oB))(w:Int):(C7 a w).length=a.length*w.toNat:=My λr _=>Si r w
theorem Nk:∀(ws:oB) (rows:List (oB)),(∀w∈ws,1<=w)->((ws.foldl C7 rows).length:Int)=Bx (rows.length:Int) ws
 |[],rows,_=>rfl
 |w::ws,rows,h=>by
  have b:=h w (cI ..);show((ws.foldl C7 (C7 rows w)).length:Int)=Bx ((rows.length:Int)*w) ws;rw[Nk ws _ (λx a=>h x (List.mem_cons_of_mem _ a)),Nw];congr 1;rw[Int.natCast_mul];congr 1;omega
theorem K9:∀(ws:oB) (a:Int),0<=a->(∀w∈ws,1<=w)->a<=Bx a ws
 |[],a,_,_=>Int.le_refl _
 |w::ws,a,c,h=>by
  have d:=h w (cI ..)
  have b:a<=a*w:=by
   have:=Int.mul_le_mul_of_nonneg_left d c;rw[Int.mul_one]at this;exact this
  exact Int.le_trans b (K9 ws (a*w) (Int.le_trans c b) λx e=>h x (ea _ e))
theorem Yj{ws:oB}{a:Int}(c:0<=a)(h:∀w∈ws,1<=w)(i:Nat):Bx a (ws.take i)<=Bx a ws:=by
 have e:Bx a ws=Bx (Bx a (ws.take i)) (ws.drop i):=by
  unfold Bx;rw[<- List.foldl_append,List.take_append_drop]
 rw[e];refine K9 _ _ (Int.le_trans c (K9 _ _ c λw b=>h w (List.mem_of_mem_take b))) λw b=>h w (List.mem_of_mem_drop b)
theorem Qj{r x:oB}{w:Int}(h:x∈Qg r w):∃t:Nat,t<w.toNat/\x=r++[1+(t:Int)]:=by
 unfold Qg at h;obtain⟨t,a,rfl⟩:=gB.mp h;exact⟨t,oa.mp a,rfl⟩
theorem Kd(ws:oB):∀i,i<=ws.length->∀r∈Cd (ws.take i),r.length=i/\∀(k:Nat) (x w:Int),r[k]?=some x->ws[k]?=some w->1<=x/\x<=w
 |0,_,r,h=>by
  have e:r=[]:=ly.mp h;subst e;exact⟨rfl,λk x w e=>by cases e⟩
 |i+1,o,r,h=>by
  have d:ws[i]?=some ws[i]:=eH (by omega);have e:Cd (ws.take (i+1))=C7 (Cd (ws.take i)) ws[i]:=Ft _ _ _ d;rw[e]at h;obtain⟨f,g,j⟩:=List.mem_flatMap.mp h;obtain⟨t,n,rfl⟩:=Qj j;obtain⟨c,l⟩:=Kd ws i (by omega) f g;refine⟨by simp[c],λk x w a b=>?_⟩;rcases la k f.length with z|z
  ·rw[List.getElem?_append_left z]at a;exact l k x w a b
  ·have m:k=i:=by
    have:=(bA.mp a).1;rw[List.length_append,List.length_singleton]at this;omega
   subst m;rw[List.getElem?_append_right z,c,Nat.sub_self]at a;cases a;rw[d]at b;cases b;omega
def X5(r s:oB):Prop:=aJ (r.map PyData.int) (s.map PyData.int)=true
theorem Md(a b:Int):PyData.eqv (.int a) (.int b)=decide (a=b):=by
 show(a==b)=_;by_cases h:a=b<;>simp[h]
theorem Qh:∀r:oB,¬X5 r r
 |[]=>by unfold X5;simp[aJ]
 |x::r=>λh=>by
  have a:=Qh r;unfold X5 at h a;rw[List.map_cons,aJ,Md,if_pos (by simp)]at h;exact a h
theorem Sk:∀{r s:oB}{x y:Int},r.length=s.length->X5 r s->X5 (r++[x]) (s++[y])
 |[],[],x,y,_,h=>absurd h (Qh [])
 |[],_::_,_,_,c,_=>by simp at c
 |_::_,[],_,_,c,_=>by simp at c
 |a::r,b::s,x,y,c,h=>by
  unfold X5 at h⊢;rw[List.cons_append,List.cons_append,List.map_cons,List.map_cons,aJ]at*;by_cases e:PyData.eqv (.int a) (.int b)=true
  ·rw[if_pos e]at h⊢;exact Sk (r:=r) (s:=s) (by simpa using c) h
  ·rw[if_neg e]at h⊢;exact h
theorem Sj:∀{r:oB}{x y:Int},x<y->X5 (r++[x]) (r++[y])
 |[],x,y,h=>by
  unfold X5;show aJ [PyData.int x] [PyData.int y]=true;rw[aJ,Md,if_neg (by simp;omega),Kl];exact decide_eq_true h
 |a::r,x,y,h=>by
  unfold X5;rw[List.cons_append,List.cons_append,List.map_cons,List.map_cons,aJ,Md,if_pos (by simp)];exact Sj (r:=r) h
theorem Ue(r:oB)(w:Int):(Qg r w).Pairwise X5:=by
 unfold Qg;rw[List.pairwise_map];exact List.pairwise_lt_range.imp λh=>Sj (by omega)
theorem Lp(ws:oB):∀i,i<=ws.length->(Cd (ws.take i)).Pairwise X5
 |0,_=>by
  show([[]]:List (oB)).Pairwise X5;exact List.pairwise_singleton _ _
 |i+1,n=>by
  have f:ws[i]?=some ws[i]:=eH (by omega);have e:Cd (ws.take (i+1))=C7 (Cd (ws.take i)) ws[i]:=Ft _ _ _ f;rw[e];unfold C7;rw[List.pairwise_flatMap];refine⟨λr _=>Ue r _,?_⟩;refine(Lp ws i (by omega)).imp_of_mem λ{a b} c d h x g y j=>?_;obtain⟨t,_,rfl⟩:=Qj g;obtain⟨u,_,rfl⟩:=Qj j;have l:=(Kd ws i (by omega) a c).1;have m:=(Kd ws i (by omega) b d).1;exact Sk (by omega) h
def dS(z:oB×Int):qE:=dP (dT z.1) (.int z.2)
theorem Zy{a b:oB×Int}(h:X5 a.1 b.1\/(a.1=b.1/\a.2<b.2)):Kl (dS a) (dS b)=true:=by
 show aJ [dT a.1,.int a.2] [dT b.1,.int b.2]=true;rw[aJ,Zi];rcases h with h|⟨d,f⟩
 ·have c:¬a.1=b.1:=λe=>by
   rw[e]at h;exact Qh _ h
  rw[if_neg (by simpa using c)];exact h
 ·rw[if_pos (by simpa using d),aJ,Md,if_neg (by simp;omega),Kl];exact decide_eq_true f
theorem Qk{r:oB}{q:Int}{z:oB×Int}(h:z∈G8 r q):z.1=r/\0<=z.2/\z.2<q:=by
 unfold G8 at h;obtain⟨k,a,rfl⟩:=gB.mp h;have:=oa.mp a;exact⟨rfl,by show 0<=0+(k:Int);omega,by show 0+(k:Int)<q;omega⟩
theorem Dq(ws:oB)(q:Int):(Aq ws q).Pairwise λa b=>Kl (dS a) (dS b)=true:=by
 unfold Aq;rw[List.pairwise_flatMap];refine⟨λr _=>?_,?_⟩
 ·unfold G8;rw[List.pairwise_map];exact List.pairwise_lt_range.imp λ{a b} h=>Zy (a:=(r,0+((a:Nat):Int))) (b:=(r,0+((b:Nat):Int))) (.inr ⟨rfl,by show 0+((a:Nat):Int)<0+((b:Nat):Int);omega⟩)
 ·have h:=Lp ws ws.length (da _);rw[List.take_length]at h;refine h.imp λ{a b} h x c y d=>?_;exact Zy (.inl (by rw[(Qk c).1,(Qk d).1];exact h))
theorem G7{ws:oB}{q:Int}(h:∀w∈ws,1<=w)(a:0<=q):((Aq ws q).length:Int)=Bx q ws:=by
 unfold Aq;rw[My λr _=>Pm r q,Int.natCast_mul];have e:((Cd ws).length:Int)=Bx 1 ws:=Nk ws [[]] h;rw[e,Int.toNat_of_nonneg a,Int.mul_comm,<- Ur,Int.mul_one]
theorem Pk{ws:oB}{q:Int}{z:oB×Int}(h:z∈Aq ws q):z.1.length=ws.length/\(∀(k:Nat) (x w:Int),z.1[k]?=some x->ws[k]?=some w->1<=x/\x<=w)/\0<=z.2/\z.2<q:=by
 obtain⟨r,b,c⟩:=List.mem_flatMap.mp h;obtain⟨d,e,f⟩:=Qk c;have a:=Kd ws ws.length (da _) r (by rw[List.take_length];exact b);rw[d];exact⟨a.1,a.2,e,f⟩
theorem Pc{ws:oB}(h:∀w∈ws,1<=w)(d:Bx 1 ws<=3000)(i:Nat):(Cd (ws.take i)).length<=3000:=by
 have e:=Nk (ws.take i) [[]] λw a=>h w (List.mem_of_mem_take a);have b:=Yj (ws:=ws) (a:=1) (by decide) h i;have c:Bx (([[]]:List (oB)).length:Int) (ws.take i)=Bx 1 (ws.take i):=rfl;unfold Cd;omega
theorem Jx(z:oB×Int):(dS z).depth=2:=by
 unfold dS;rw[Rx,Z9];rfl
def rn(H:Hp)(v:V):Option (oB×Int)->Prop
 |none=>v=.aX
 |some r=>∃b,v=.ref b/\Cc H b r.1 r.2
def kr:Option (oB×Int)->qE
 |none=>.none
 |some r=>dP (dT r.1) (.int r.2)
theorem pc{H:Hp}{v:V}{r:Option (oB×Int)}(h:rn H v r):Rp H (kr r) v:=by
 cases r with
 |none=>
  cases h;exact b7
 |some r=>
  obtain⟨b,rfl,t,a,c⟩:=h;exact az a (jp c) (Ji _)
theorem Ae.tail{c:Type}{P:c->V->Prop}{r:c}{v:V}{d:List c}{vs:List V}(h:Ae P (r::d) (v::vs)):P r v/\Ae P d vs:=⟨h.2 0 r v rfl rfl,by have:=h.1;simpa using this,λi a b e f=>h.2 (i+1) a b e f⟩
theorem N7{a:Type}{P:a->Prop}{xs:List a}{x:a}(h:∀y∈xs,P y)(b:P x):∀y∈xs++[x],P y:=λy c=>by
 rcases hH.mp c with z|z
 ·exact h y z
 ·cases ly.mp z;exact b
theorem Cc.up{H a:Hp}{b:Addr}{ls:oB}{q:Int}(t:Aj H a)(h:Cc H b ls q):Cc a b ls q:=by
 obtain⟨u,c,d⟩:=h;exact⟨u,t _ _ c,t _ _ d⟩
theorem rn.up{H a:Hp}{v:V}{r:Option (oB×Int)}(s:Aj H a)(h:rn H v r):rn a v r:=by
 cases r with
 |none=>exact h
 |some r=>
  obtain⟨b,e,h⟩:=h;exact⟨b,e,h.up s⟩
def Cw(ws ls:oB)(cm:oD)(q:Int)(who:Nat)(a:Bool):Option (oB×Int):=if(0:Int)∈Ba ws ls who a then none else some (Ba ws ls who a,Ci cm q a)
def Ek(cm:oD)(q:Int):Bool:= !decide (cm=none)&&decide (q=0)
def Ay(ws ls:oB)(cm:oD)(q:Int)(who:Nat):List (Option (oB×Int)):=Cw ws ls cm q who false::if Ek cm q=true then[Cw ws ls cm q who true]else[]
def F4(H:Hp)(r:Option (oB×Int))(v:V):Prop:=rn H v r
theorem F4.up{H a:Hp}{v:V}{r:Option (oB×Int)}(s:Aj H a)(h:F4 H r v):F4 a r v:=rn.up s h
theorem Ae.cons{a:Type}{P:a->V->Prop}{r:a}{v:V}{b:List a}{vs:List V}(h:P r v)(g:Ae P b vs):Ae P (r::b) (v::vs):=(Ae.one h).append g
theorem Pd{H:Hp}:∀{a:List (Option (oB×Int))}{us:List V},Ae (F4 H) a us->aF H (a.map kr) us
 |[],[],_=>by unfold aF;rfl
 |[],_::_,h=>by have:=h.1;simp at this
 |_::_,[],h=>by have:=h.1;simp at this
 |r::a,u::us,h=>by
  obtain⟨b,c⟩:=h.tail;show aF H (kr r::a.map kr) (u::us);unfold aF;exact⟨_,_,rfl,pc b,Pd c⟩
theorem gf(r:Option (oB×Int)):PyData.eqv (kr r) .none=decide (r=none):=by cases r<;>rfl
theorem Q0:∀a:List (Option (oB×Int)),(a.map kr).any (λe=>PyData.eqv e .none)=decide (none∈a)
 |[]=>rfl
 |r::a=>by
  rw[List.map_cons,List.any_cons,Q0 a,gf,Bool.eq_iff_iff];simp only[Bool.or_eq_true,decide_eq_true_eq,List.mem_cons];exact⟨λz=>z.imp Eq.symm id,λz=>z.imp Eq.symm id⟩
def SV(H:Hp)(v:V):Prop:=∃b k,v=.ref b/\D9 H b k
def Vm(H:Hp)(cs:List (Eu×V)):Prop:=∀e∈cs,(∃i:Int,e.1=.inl i)/\∃(l:Addr) (a:List V),e.2=.ref l/\H l=some (.lst a)/\a.length<=2/\∀u∈a,SV H u
def sh(H:Hp)(v:V):Prop:=∃(c:Addr) (a:List (Eu×V)),v=.ref c/\H c=some (.dK a)/\a.length<=8/\Vm H a
def LT(H a:Hp):Prop:=(∀b c,H b=some (.lst c)->a b=some (.lst c))/\Aj H a
theorem LT.of{H a:Hp}(s:A8 H a):LT H a:=⟨λb c e=>s b _ e,Aj.of s⟩
theorem LT.dT{H:Hp}{D:Addr}{kvs:ov}{o:HO}(h:H D=some (.dT kvs)):LT H (upd H D o):=
 ⟨λb a e=>by rw[Ab (Bl e h (by intro z;cases z))];exact e,λb a e=>by rw[Ab (Bl e h (by intro z;cases z))];exact e⟩
theorem LT.dK{H:Hp}{D:Addr}{kvs:List (Eu×V)}{o:HO}(h:H D=some (.dK kvs)):LT H (upd H D o):=
 ⟨λb a e=>by rw[Ab (Bl e h (by intro z;cases z))];exact e,λb a e=>by rw[Ab (Bl e h (by intro z;cases z))];exact e⟩
theorem LT.trans{H d f:Hp}(a:LT H d)(b:LT d f):LT H f:=⟨λc g e=>b.1 c g (a.1 c g e),a.2.trans b.2⟩
def Ja(H:Hp)(kvs:ov):Prop:=∀a∈kvs,sh H a.2
theorem Su{κ:Type}[DecidableEq κ]{P:V->Prop}{kvs:List (κ×V)}{k:κ}{v:V}(h:∀a∈kvs,P a.2)(c:P v):∀a∈B6 kvs k v,P a.2:=λa b=>by
 unfold B6 at b;split at b
 ·obtain⟨x,d,rfl⟩:=gB.mp b;split
  ·exact c
  ·exact h x d
 ·rcases hH.mp b with z|z
  ·exact h a z
  ·cases ly.mp z;exact c
theorem Bo{n:Nat}(h:n<=200000):n<sizeLine:=Nat.lt_of_le_of_lt h (by decide)
theorem B7{κ:Type}[DecidableEq κ]{kvs:List (κ×V)}{k:κ}{v:V}(h:Af kvs k=some v):(k,v)∈kvs:=by
 unfold Af at h;obtain⟨p,a,rfl⟩:=dI.mp h;have b:=List.find?_some a;have c:=List.mem_of_find?_eq_some a;have d:p.1=k:=by simpa using b
 rw[<- d];exact c
theorem Lr{κ:Type}[DecidableEq κ]{kvs:List (κ×V)}{k:κ}{v:V}(h:(k,v)∈kvs):∃w,Af kvs k=some w:=by
 cases e:Af kvs k with
 |some w=>exact⟨w,rfl⟩
 |none=>exact absurd (List.mem_map_of_mem (f:=(·.1)) h) (O2 e)
def F5(kvs:ov)(H a:Hp):Prop:=∀b o,H b=some o->(∀c∈kvs,c.2≠ .ref b)->a b=some o
theorem F5.of{kvs:ov}{H a:Hp}(s:A8 H a):F5 kvs H a:=λb o e _=>s b o e
theorem F5.trans{kvs:ov}{H d f:Hp}(a:F5 kvs H d)(b:F5 kvs d f):F5 kvs H f:=λc o e n=>b c o (a c o e n) n
theorem F5.new{kvs:ov}{H c:Hp}{p:Addr}{o:HO}(a:F5 kvs H c)(h:H p=none):F5 kvs H (upd c p o):=λb u e n=>by
 rw[Ab (Ag e h)];exact a b u e n
theorem F5.keep{kvs:ov}{H d:Hp}{b:Addr}{o:HO}(a:F5 kvs H d)(p:Ja H kvs)(e:H b=some o)(n:∀cs,o≠ .dK cs):d b=some o:=a b o e λi h z=>by
 obtain⟨c,cs,f,g,_⟩:=p i h;rw[z]at f;cases f;rw[e]at g;exact n cs (eT g)
theorem F5.lt{kvs:ov}{H c:Hp}(a:F5 kvs H c)(p:Ja H kvs):LT H c:=⟨λb f e=>a.keep p e (λd z=>nomatch z),λb f e=>a.keep p e (λd z=>nomatch z)⟩
theorem F5.pop{kvs:ov}{H:Hp}{c:Addr}{o:HO}{a:(oB×Int)×V}(h:a∈kvs)(e:a.2=.ref c):F5 kvs H (upd H c o):=λb u d n=>by
 rw[Ab (λz=>n a h (by rw[e,z]))];exact d
def k0(H:Hp):V->Nat
 | .ref c=>match H c with
  |some (.dK a)=>a.length
  |_=>0
 |_=>0
def Cp(H:Hp)(kvs:ov):Nat:=(kvs.map λa=>k0 H a.2).sum
theorem Ny{H:Hp}{c:Addr}{cs:List (Eu×V)}(h:H c=some (.dK cs)):k0 H (.ref c)=cs.length:=by
 unfold k0;simp only[h]
theorem Ew{H a:Hp}:∀{kvs:ov},Ja H kvs->(∀c cs,H c=some (.dK cs)->a c=some (.dK cs))->Cp a kvs=Cp H kvs
 |[],_,_=>rfl
 |kv::kvs,p,k=>by
  obtain⟨c,cs,e,b,_⟩:=p kv (by simp);have d:=Ew (kvs:=kvs) (λx f=>p x (ea _ f)) k;unfold Cp at d⊢;rw[List.map_cons,List.map_cons,List.sum_cons,List.sum_cons,d,e,Ny b,Ny (k c cs b)]
theorem N4{H:Hp}:∀{kvs:ov},Ja H kvs->Cp H kvs<=8*kvs.length
 |[],_=>me _
 |kv::kvs,p=>by
  obtain⟨c,f,e,a,g,_⟩:=p kv (by simp);have d:=N4 (kvs:=kvs) (λx b=>p x (ea _ b));unfold Cp at d⊢;rw[List.map_cons,List.sum_cons,e,Ny a,List.length_cons];omega
theorem P4{H:Hp}{c:Addr}{cs a:List (Eu×V)}(e:H c=some (.dK cs))(g:a.length<cs.length):∀{kvs:ov},Cp (upd H c (.dK a)) kvs<=Cp H kvs/\((∃kv∈kvs,kv.2=.ref c)->Cp (upd H c (.dK a)) kvs+1<=Cp H kvs)
 |[]=>⟨da _,λ⟨kv,h,_⟩=>by cases h⟩
 |kv::kvs=>by
  obtain⟨m,f⟩:=P4 e g (kvs:=kvs)
  have one:k0 (upd H c (.dK a)) kv.2<=k0 H kv.2/\(kv.2=.ref c->k0 (upd H c (.dK a)) kv.2+1<=k0 H kv.2):=by
   by_cases z:kv.2=.ref c
   ·rw[z,Ny e,Ny A5];omega
   ·refine⟨Nat.le_of_eq ?_,λy=>absurd y z⟩;unfold k0;cases j:kv.2 with
    |ref d=>
     rw[j]at z;have i:d≠c:=λy=>z (by rw[y]);simp only[Ab i]
    |_=>rfl
  unfold Cp at m f⊢;rw[List.map_cons,List.map_cons,List.sum_cons,List.sum_cons];refine⟨by omega,λ⟨x,l,b⟩=>?_⟩;rcases fe.mp l with y|y
  ·subst y;have:=one.2 b;omega
  ·have:=f ⟨x,y,b⟩;omega
theorem g9{cs:List (Eu×V)}{k:Eu}{v:V}(h:Af cs k=some v):(C0 cs k).length<cs.length:=by
 have a:=B7 h;unfold C0;exact List.length_filter_lt_length_iff_exists.mpr ⟨(k,v),a,by simp⟩
theorem Mw{cs:List (Eu×V)}{k:Eu}{e:Eu×V}(h:e∈C0 cs k):e∈cs:=(List.mem_filter.mp h).1
def X7(B:Addr)(H:Hp)(kvs:ov):Prop:=∀b∈kvs,∀c a,b.2=.ref c->H c=some (.dK a)->∀e∈a,e.2≠ .ref B
theorem X7.start{B:Addr}{H:Hp}{kvs:ov}(p:Ja H kvs)(h:H B=none):X7 B H kvs:=λq i c r j m e o z=>by
 obtain⟨d,s,a,b,_,n⟩:=p q i;rw[j]at a;cases a;rw[m]at b;cases b;obtain⟨_,l,u,f,g,_⟩:=n e o;rw[z]at f;cases f;rw[h]at g;cases g
theorem X7.keep{B:Addr}{H a:Hp}{kvs:ov}(n:X7 B H kvs)(p:Ja H kvs)(k:∀c cs,H c=some (.dK cs)->a c=some (.dK cs)):X7 B a kvs:=λh e c cs f i=>by
 obtain⟨d,l,j,g,_⟩:=p h e;have b:=j;rw[f]at b;cases b;have:=k _ _ g;rw[i]at this;cases this;exact n h e c cs f g
theorem X7.pop{B c:Addr}{H:Hp}{cs:List (Eu×V)}{k:Eu}{kvs:ov}(n:X7 B H kvs)(j:H c=some (.dK cs)):X7 B (upd H c (.dK (C0 cs k))) kvs:=λh b d i f a e g=>by
 by_cases z:d=c
 ·subst z;rw[A5]at a;cases a;exact n h b d cs f j e (Mw g)
 ·rw[Ab z]at a;exact n h b d i f a e g
theorem Wb(k:oB×Int):Kl (dS k) (dS k)=false:=by
 have a:PyData.eqv (dT k.1) (dT k.1)=true:=by
  show PyData.eqvAll (k.1.map PyData.int) (k.1.map PyData.int)=true;rw[Ed];simp
 show aJ [dT k.1,.int k.2] [dT k.1,.int k.2]=false;rw[aJ,if_pos a,aJ,if_pos (show PyData.eqv (.int k.2) (.int k.2)=true from PySem.SeqAt.eqv_refl _ rfl)];rfl
theorem Lq(ws:oB)(q:Int):(Aq ws q).Nodup:=(Dq ws q).imp λ{a b} h e=>by
 rw[e,Wb]at h;cases h
theorem P7{c:Type}{xs:List c}{i:Nat}{x:c}(h:xs.Nodup)(e:xs[i]?=some x):x∉xs.take i:=λz=>by
 obtain⟨j,a⟩:=il.mp z
 have b:j<i:=by
  apply Classical.byContradiction;intro y;rw[List.getElem?_take_eq_none (by omega)]at a;cases a
 rw[List.getElem?_take_of_lt b]at a;have m:=(bA.mp a);have n:=(bA.mp e);obtain⟨d,f⟩:=m;obtain⟨g,l⟩:=n;exact(List.pairwise_iff_getElem.mp h) j i d g b (f.trans l.symm)
theorem Bp{κ:Type}[DecidableEq κ]{kvs:List (κ×V)}{k:κ}{v:V}(a:(kvs.map (·.1)).Nodup)(h:(k,v)∈kvs):Af kvs k=some v:=by
 induction kvs with
 |nil=>cases h
 |cons p r c=>
  rw[List.map_cons,List.nodup_cons]at a;rcases fe.mp h with z|z
  ·subst z;exact C9 rfl
  ·have b:¬p.1=k:=λe=>a.1 (by rw[e];exact List.mem_map_of_mem (f:=(·.1)) z);rw[C8 b];exact c a.2 z
theorem R9{κ:Type}{kvs:List (κ×V)}{x y:κ×V}(b:(kvs.map (·.2)).Nodup)(c:x∈kvs)(d:y∈kvs)(e:x.2=y.2):x=y:=by
 induction kvs with
 |nil=>cases c
 |cons p r f=>
  rw[List.map_cons,List.nodup_cons]at b;rcases fe.mp c with z|z<;>rcases fe.mp d with a|a
  ·rw[z,a]
  ·subst z;exact absurd (by rw[e];exact List.mem_map_of_mem (f:=(·.2)) a) b.1
  ·subst a;exact absurd (by rw[<- e];exact List.mem_map_of_mem (f:=(·.2)) z) b.1
  ·exact f b.2 z a
theorem ar{κ:Type}[DecidableEq κ]{kvs:List (κ×V)}{k:κ}{v:V}{e:κ×V}(h:e∈B6 kvs k v):e∈kvs\/e=(k,v):=by
 unfold B6 at h;split at h
 ·obtain⟨x,b,rfl⟩:=gB.mp h;split
  ·rename_i a;exact .inr (by rw[a])
  ·exact .inl b
 ·rcases hH.mp h with z|z
  ·exact .inl z
  ·exact .inr (ly.mp z)
theorem Uc{κ:Type}[DecidableEq κ]{kvs:List (κ×V)}{k j:κ}{v:V}(h:(Af kvs j).isSome=true\/j=k):(Af (B6 kvs k v) j).isSome=true:=by
 rw[Ga];split
 ·rfl
 ·rename_i a;rcases h with h|h
  ·exact h
  ·exact absurd h a
def Hd(ws:oB)(cm:oD)(z:oB×Int)(H:Hp)(cs:List (Eu×V)):Prop:=∀e∈cs,∃(a:Nat) (l:Addr) (b:List V),e.1=.inl (a:Int)/\a<ws.length/\none∉Ay ws z.1 cm z.2 a/\e.2=.ref l/\H l=some (.lst b)/\Ae (F4 H) (Ay ws z.1 cm z.2 a) b
def Vl(ws:oB)(cm:oD)(H:Hp)(z:oB×Int)(v:V):Prop:=∃(c:Addr) (a:List (Eu×V)),v=.ref c/\H c=some (.dK a)/\a.length<=8/\Hd ws cm z H a
theorem Hd.up{ws:oB}{cm:oD}{z:oB×Int}{H b:Hp}{cs:List (Eu×V)}(t:LT H b)(h:Hd ws cm z H cs):Hd ws cm z b cs:=λe m=>by
 obtain⟨a,l,n,c,d,f,g,i,j⟩:=h e m;exact⟨a,l,n,c,d,f,g,t.1 _ _ i,j.imp λ_ _ y=>F4.up t.2 y⟩
theorem Hd.ok{ws:oB}{cm:oD}{z:oB×Int}{H:Hp}{cs:List (Eu×V)}(h:Hd ws cm z H cs):Vm H cs:=λe n=>by
 obtain⟨s,l,q,a,v,g,i,j,b⟩:=h e n;refine⟨⟨_,a⟩,l,q,i,j,?_,λu p=>?_⟩
 ·rw[b.1];unfold Ay;split<;>simp
 ·obtain⟨m,o⟩:=il.mp p;obtain⟨r,f,c⟩:=b.get o;cases r with
  |none=>exact absurd (b5 f) g
  |some r=>
   obtain⟨d,e,a⟩:=c;exact⟨d,r,e,a⟩
theorem Vl.up{ws:oB}{cm:oD}{z:oB×Int}{H a:Hp}{v:V}(t:LT H a)(k:∀c cs,H c=some (.dK cs)->a c=some (.dK cs))(h:Vl ws cm H z v):Vl ws cm a z v:=by
 obtain⟨c,cs,e,b,d,f⟩:=h;exact⟨c,cs,e,k _ _ b,d,f.up t⟩
def Cr(ws:oB)(cm:oD)(H:Hp)(kvs:ov):Prop:=(∀a∈kvs,Vl ws cm H a.1 a.2)/\(kvs.map (·.1)).Nodup/\(kvs.map (·.2)).Nodup
theorem Cr.ok{ws:oB}{cm:oD}{H:Hp}{kvs:ov}(h:Cr ws cm H kvs):Ja H kvs:=λi a=>by
 obtain⟨c,b,e,d,f,g⟩:=h.1 i a;exact⟨c,b,e,d,f,g.ok⟩
theorem Cr.keep{ws:oB}{cm:oD}{H a:Hp}{kvs:ov}(p:Cr ws cm H kvs)(t:LT H a)(k:∀c cs,H c=some (.dK cs)->a c=some (.dK cs)):Cr ws cm a kvs:=⟨λd b=>(p.1 d b).up t k,p.2⟩
def Mj(ws:oB)(cm:oD)(H:Hp)(kvs:ov):Prop:=∀b∈kvs,∀c d,b.2=.ref c->H c=some (.dK d)->∀a:Nat,a<ws.length->none∉Ay ws b.1.1 cm b.1.2 a->(Af d (.inl (a:Int))).isSome=true
theorem Mj.keep{ws:oB}{cm:oD}{H a:Hp}{kvs:ov}(f:Mj ws cm H kvs)(p:Cr ws cm H kvs)(k:∀c cs,H c=some (.dK cs)->a c=some (.dK cs)):Mj ws cm a kvs:=λi e c cs g j=>by
 obtain⟨d,m,l,h,_⟩:=p.1 i e;have b:=l;rw[g]at b;cases b;have:=k _ _ h;rw[j]at this;cases this;exact f i e c cs g h
def An(H:Hp)(kvs:ov)(k:oB×Int)(who:Nat):Prop:=∃(c:Addr) (a:List (Eu×V)),Af kvs k=some (.ref c)/\H c=some (.dK a)/\(Af a (.inl (who:Int))).isSome=true
theorem Fd{c:Type}{xs:List c}{x:c}(h:xs.Nodup)(g:x∉xs):(xs++[x]).Nodup:=by
 rw[List.nodup_append];refine⟨h,by simp,λa d b f e=>?_⟩;rw[List.mem_singleton.mp f]at e;exact g (e▸d)
def Pz(ws:oB)(cm:oD)(kvs:ov)(H:Hp)(a:oB×Int)(u:V):Prop:=∃(t b:Addr) (c:Nat) (k:oB×Int),u=.ref t/\H t=some (.tup [.ref b,.int (c:Int)])/\D9 H b k/\(∃v,Af kvs k=some v)/\some a∈Ay ws k.1 cm k.2 c
theorem Pz.up{ws:oB}{cm:oD}{kvs:ov}{H d:Hp}{c:oB×Int}{u:V}(t:Aj H d)(h:Pz ws cm kvs H c u):Pz ws cm kvs d c u:=by
 obtain⟨a,b,i,k,e,f,g,j,l⟩:=h;exact⟨a,b,i,k,e,t _ _ f,g.up t,j,l⟩
def Fm(ws:oB)(cm:oD)(d:Hp)(kvs:ov)(n:Nat)(H:Hp)(c:ov):Prop:=(∀b∈c,∃(l:Addr) (a:List V),b.2=.ref l/\d l=none/\H l=some (.lst a)/\a.length<=n/\∀u∈a,Pz ws cm kvs H b.1 u)/\(c.map (·.2)).Nodup
theorem Fm.up{ws:oB}{cm:oD}{b H a:Hp}{kvs c:ov}{n m:Nat}(t:LT H a)(r:n<=m)(h:Fm ws cm b kvs n H c):Fm ws cm b kvs m a c:=⟨λo d=>by
 obtain⟨l,p,e,f,g,q,i⟩:=h.1 o d;exact⟨l,p,e,f,t.1 _ _ g,by omega,λu j=>(i u j).up t.2⟩,h.2⟩
theorem Fm.app{ws:oB}{cm:oD}{f H:Hp}{kvs d:ov}{n:Nat}{l:Addr}{us:List V}{x:V}{a:oB×Int}(h:Fm ws cm f kvs n H d)(s:(a,V.ref l)∈d)(r:H l=some (.lst us))(b:us.length<=n)(q:∀u∈us,Pz ws cm kvs H a u)(v:Pz ws cm kvs H a x):Fm ws cm f kvs (n+1) (upd H l (.lst (us++[x]))) d:=⟨λj g=>by
 have t:Aj H (upd H l (.lst (us++[x]))):=Aj.lst r;obtain⟨c,w,e,i,o,y,p⟩:=h.1 j g;by_cases z:c=l
 ·subst z;have m:j=(a,V.ref c):=R9 h.2 g s e;refine⟨c,us++[x],e,i,A5,by rw[List.length_append,List.length_singleton];omega,λu b=>?_⟩;rw[m];exact(N7 q v u b).up t
 ·exact⟨c,w,e,i,(Ab z).trans o,by omega,λu b=>(p u b).up t⟩,h.2⟩
def Cg(H:Hp)(d:ov)(a k:oB×Int)(who:Nat):Prop:=∃(l:Addr) (c:List V) (t b:Addr),Af d a=some (.ref l)/\H l=some (.lst c)/\V.ref t∈c/\H t=some (.tup [.ref b,.int (who:Int)])/\D9 H b k
theorem Cg.up{H d:Hp}{e:ov}{c k:oB×Int}{who:Nat}(t:LT H d)(h:Cg H e c k who):Cg d e c k who:=by
 obtain⟨l,n,a,b,f,g,i,j,m⟩:=h;exact⟨l,n,a,b,f,t.1 _ _ g,i,t.2 _ _ j,m.up t.2⟩
theorem Cg.put{H:Hp}{f:ov}{c k g:oB×Int}{who:Nat}{v:V}(j:Af f g=none)(h:Cg H f c k who):Cg H (B6 f g v) c k who:=by
 obtain⟨l,m,a,b,d,i⟩:=h;refine⟨l,m,a,b,?_,i⟩;rw[Ga,if_neg (λe=>by rw[e,j]at d;cases d)];exact d
theorem Cg.app{H:Hp}{n:ov}{c k:oB×Int}{who:Nat}{l:Addr}{us:List V}{x:V}(m:H l=some (.lst us))(h:Cg H n c k who):Cg (upd H l (.lst (us++[x]))) n c k who:=by
 have t:Aj H (upd H l (.lst (us++[x]))):=Aj.lst m;obtain⟨e,o,a,b,f,d,g,i,j⟩:=h;by_cases z:e=l
 ·subst z;rw[m]at d;cases d;exact⟨e,_,a,b,f,A5,ib _ g,t _ _ i,j.up t⟩
 ·exact⟨e,o,a,b,f,(Ab z).trans d,g,t _ _ i,j.up t⟩
theorem S4{cs:List (Eu×V)}{k j:Eu}:Af (C0 cs k) j=if j=k then none else Af cs j:=by
 induction cs with
 |nil=>split<;>rfl
 |cons p r a=>
  by_cases e:p.1=k
  ·rw[Xq e,a];by_cases z:j=k
   ·rw[if_pos z,if_pos z]
   ·rw[if_neg z,if_neg z,C8 (λy=>z (by rw[<- y,e]))]
  ·have b:C0 (p::r) k=p::C0 r k:=by
    unfold C0;rw[List.filter_cons,if_pos (by simpa using e)]
   rw[b];by_cases z:p.1=j
   ·rw[C9 z,C9 z,if_neg (λy=>e (z.trans y))]
   ·rw[C8 z,C8 z,a]
theorem An.keep{ws:oB}{cm:oD}{H g:Hp}{kvs:ov}{k:oB×Int}{who:Nat}(p:Cr ws cm H kvs)(i:∀c cs,H c=some (.dK cs)->g c=some (.dK cs)):An g kvs k who↔An H kvs k who:=by
 constructor
 ·rintro⟨c,cs,a,b,f⟩;obtain⟨d,j,e,h,_⟩:=p.1 _ (B7 a);cases e;have:=i _ _ h;rw[b]at this;cases this;exact⟨c,cs,a,h,f⟩
 ·rintro⟨c,cs,a,b,f⟩;exact⟨c,cs,a,i _ _ b,f⟩
theorem An.pop{ws:oB}{cm:oD}{H:Hp}{kvs:ov}{k g:oB×Int}{who f:Nat}{c:Addr}{cs:List (Eu×V)}(p:Cr ws cm H kvs)(j:Af kvs k=some (.ref c))(l:H c=some (.dK cs)):
  An (upd H c (.dK (C0 cs (.inl (who:Int))))) kvs g f↔An H kvs g f/\¬(g=k/\f=who):=by
 constructor
 ·rintro⟨d,h,a,e,b⟩;by_cases z:d=c
  ·subst z;rw[A5]at e;cases e;have i:(g,V.ref d)=(k,V.ref d):=R9 p.2.2 (B7 a) (B7 j) rfl;cases i;rw[S4]at b;by_cases y:(Sum.inl (f:Int):Eu)=.inl (who:Int)
   ·rw[if_pos y]at b;cases b
   ·rw[if_neg y]at b;exact⟨⟨d,cs,a,l,b⟩,λw=>y (by rw[w.2])⟩
  ·rw[Ab z]at e;refine⟨⟨d,h,a,e,b⟩,λw=>z ?_⟩;rw[w.1,j]at a;cases a;rfl
 ·rintro⟨⟨d,h,a,e,b⟩,m⟩;by_cases z:d=c
  ·subst z;have i:(g,V.ref d)=(k,V.ref d):=R9 p.2.2 (B7 a) (B7 j) rfl;cases i;rw[l]at e;cases e;refine⟨d,_,a,A5,?_⟩;rw[S4,if_neg]
   ·exact b
   ·intro y;have n:(f:Int)=(who:Int):=Sum.inl.inj y;exact m ⟨rfl,by omega⟩
  ·exact⟨d,h,a,(Ab z).trans e,b⟩
theorem Cr.pop{ws:oB}{cm:oD}{H:Hp}{c:Addr}{cs:List (Eu×V)}{k:Eu}{kvs:ov}(p:Cr ws cm H kvs)(g:H c=some (.dK cs)):Cr ws cm (upd H c (.dK (C0 cs k))) kvs:=⟨λl h=>by
 obtain⟨d,i,e,a,b,f⟩:=p.1 l h;have t:LT H (upd H c (.dK (C0 cs k))):=LT.dK g;by_cases z:d=c
 ·subst z;rw[g]at a;cases a;exact⟨d,C0 cs k,e,A5,eI (S3 cs k) b,λx j=>(f.up t) x (Mw j)⟩
 ·exact⟨d,i,e,(Ab z).trans a,b,f.up t⟩,p.2⟩
theorem Cr.MS{ws:oB}{cm:oD}{B:Addr}{H a:Hp}{kvs:ov}(p:Cr ws cm H kvs)(n:X7 B H kvs)(t:Aj H a)(w:∀l us,l≠B->H l=some (.lst us)->a l=some (.lst us))(k:∀c cs,H c=some (.dK cs)->a c=some (.dK cs)):Cr ws cm a kvs:=⟨λj d=>by
 obtain⟨c,cs,f,g,m,o⟩:=p.1 j d;refine⟨c,cs,f,k _ _ g,m,λe i=>?_⟩;obtain⟨b,l,us,q,r,s,h,u,v⟩:=o e i;exact⟨b,l,us,q,r,s,h,w _ _ (λz=>n j d c cs f g e i (by rw[h,z])) u,v.imp λ_ _ y=>F4.up t y⟩,p.2⟩
theorem Ln:∀{xs b:oB},xs.map V.int=b.map V.int->xs=b
 |[],[],_=>rfl
 |[],_::_,h=>by cases h
 |_::_,[],h=>by cases h
 |x::xs,y::b,h=>by
  rw[List.map_cons,List.map_cons]at h;injection h with a c;injection a with a;rw[a,Ln c]
def Rj(ws:oB)(cm:oD)(tv:ov)(k:oB×Int)(m:Int):Prop:=
 (∀b,b<ws.length->none∈Ay ws k.1 cm k.2 b\/∃a c,some a∈Ay ws k.1 cm k.2 b/\Af tv a=some (.int c)/\c<=m-1)/\
 (m=1\/∃b,b<ws.length/\none∉Ay ws k.1 cm k.2 b/\∀a c,some a∈Ay ws k.1 cm k.2 b->Af tv a=some (.int c)->m-1<=c)
def Bv(ws:oB)(cm:oD)(tv:ov):Prop:=
 (∀k v,Af tv k=some v->∃m:Int,v=.int m/\1<=m/\k∈Aq ws (qv cm)/\Rj ws cm tv k m)/\
 (∀k,k∈Aq ws (qv cm)->Af tv k=none->∃b,b<ws.length/\none∉Ay ws k.1 cm k.2 b/\∀a,some a∈Ay ws k.1 cm k.2 b->Af tv a=none)
def Gr(ws:oB)(cm:oD)(tv:ov)(c:List (oB×Int))(r:Int)(d:(oB×Int)->Nat->Prop):Prop:=
 1<=r/\(∀e∈tv,∃n:Int,e.2=.int n/\1<=n/\n<r)/\(∀k∈c,k∈Aq ws (qv cm)/\Af tv k=none)/\(∀k v,Af tv k=some v->k∈Aq ws (qv cm))/\
 (∀k a,d k a↔(k∈Aq ws (qv cm)/\a<ws.length/\none∉Ay ws k.1 cm k.2 a/\∀b,some b∈Ay ws k.1 cm k.2 a->Af tv b=none))/\
 (∀k,k∈Aq ws (qv cm)->((∀a,¬d k a)↔(k∈c\/(Af tv k).isSome=true)))/\
 (∀k m,Af tv k=some (.int m)->Rj ws cm tv k m)/\∀k∈c,Rj ws cm tv k r
theorem Gr.done{ws:oB}{cm:oD}{tv:ov}{r:Int}{b:(oB×Int)->Nat->Prop}(h:Gr ws cm tv [] r b):Bv ws cm tv:=by
 obtain⟨C,u,A,d,m,o,c,p⟩:=h;refine⟨λk v e=>?_,λk q e=>?_⟩
 ·obtain⟨n,f,g,_⟩:=u _ (B7 e);have x:v=.int n:=f;subst x;exact⟨n,rfl,g,d k _ e,c k n e⟩
 ·have s:¬ ∀a,¬b k a:=λz=>by
   rcases(o k q).mp z with y|y
   ·cases y
   ·rw[e]at y;cases y
  obtain⟨a,w⟩:=Classical.not_forall.mp s;obtain⟨B,i,j,l⟩:=(m k a).mp (Classical.not_not.mp w);exact⟨a,i,j,l⟩
theorem Gr.step{ws:oB}{cm:oD}{tv d:ov}{f g:List (oB×Int)}{r:Int}{F G:(oB×Int)->Nat->Prop}(h:Gr ws cm tv f r F)
  (p:∀k,Af d k=if k∈f then some (.int r)else Af tv k)(nN:∀kv∈d,∃n:Int,kv.2=.int n/\1<=n/\n<r+1)
  (Y:∀k who,G k who↔(F k who/\∀a∈f,some a∉Ay ws k.1 cm k.2 who))(H:∀k,k∈g↔((∃who,F k who)/\∀who,¬G k who)):Gr ws cm d g (r+1) G:=by
 obtain⟨h0,hv,X,dD,K,B,YD,L⟩:=h
 have I:∀k,Af d k=none↔(k∉f/\Af tv k=none):=λk=>by
  rw[p];by_cases z:k∈f
  ·rw[if_pos z];exact⟨λy=>(nomatch y),λy=>absurd z y.1⟩
  ·rw[if_neg z];exact⟨λy=>⟨z,y⟩,λy=>y.2⟩
 have C:∀a b,Af tv a=some (.int b)->Af d a=some (.int b):=λa b e=>by
  rw[p,if_neg (λz=>by rw[(X a z).2]at e;cases e)];exact e
 have c:∀a b,Af d a=some (.int b)->(a∈f/\b=r)\/Af tv a=some (.int b):=λa b e=>by
  rw[p]at e;by_cases z:a∈f
  ·rw[if_pos z]at e;cases e;exact .inl ⟨z,rfl⟩
  ·rw[if_neg z]at e;exact .inr e
 have i:∀k m,m<=r->Rj ws cm tv k m->Rj ws cm d k m:=λk m hm ⟨p1,p2⟩=>by
  refine⟨λwho l=>?_,?_⟩
  ·rcases p1 who l with y|⟨a,b,D,E,Q⟩
   ·exact .inl y
   ·exact .inr ⟨a,b,D,C _ _ E,Q⟩
  ·rcases p2 with y|⟨who,D,E,Q⟩
   ·exact .inl y
   ·refine .inr ⟨who,D,E,λa b S T=>?_⟩;rcases c a b T with⟨_,e⟩|e
    ·omega
    ·exact Q a b S e
 have iX:∀k who,G k who↔(k∈Aq ws (qv cm)/\who<ws.length/\none∉Ay ws k.1 cm k.2 who/\∀a,some a∈Ay ws k.1 cm k.2 who->Af d a=none):=λk who=>by
  rw[Y,K];constructor
  ·rintro⟨⟨s,u,A,o⟩,g5⟩;exact⟨s,u,A,λa z=>(I a).mpr ⟨λy=>g5 a y z,o a z⟩⟩
  ·rintro⟨s,u,A,o⟩;exact⟨⟨s,u,A,λa z=>((I a).mp (o a z)).2⟩,λa y z=>((I a).mp (o a z)).1 y⟩
 refine⟨by omega,nN,λk j=>?_,λk v e=>?_,iX,λk j=>?_,λk m e=>?_,λk j=>?_⟩
 ·obtain⟨⟨who,l⟩,Z⟩:=(H k).mp j;have N:=((K k who).mp l).1;refine⟨N,(I k).mpr ⟨λz=>?_,?_⟩⟩
  ·exact(B k N).mpr (.inl z) who l
  ·cases O:Af tv k with
   |none=>rfl
   |some v=>exact absurd l ((B k N).mpr (.inr (by rw[O];rfl)) who)
 ·rw[p]at e;by_cases z:k∈f
  ·exact(X k z).1
  ·rw[if_neg z]at e;exact dD k v e
 ·constructor
  ·intro z;by_cases y:∃who,F k who
   ·exact .inl ((H k).mpr ⟨y,z⟩)
   ·right;rcases(B k j).mp (λwho w=>y ⟨who,w⟩)with x|x
    ·rw[p,if_pos x];rfl
    ·obtain⟨v,R⟩:=Option.isSome_iff_exists.mp x;obtain⟨n,q,_⟩:=hv _ (B7 R);have P:v=.int n:=q;rw[P]at R;rw[C k n R];rfl
  ·rintro(z|z) who w
   ·exact((H k).mp z).2 who w
   ·have w1:=((Y k who).mp w).1;rw[p]at z;by_cases y:k∈f
    ·exact(B k j).mpr (.inl y) who w1
    ·rw[if_neg y]at z;exact(B k j).mpr (.inr z) who w1
 ·rcases c k m e with⟨D,E⟩|y
  ·subst E;exact i k m (Int.le_refl _) (L k D)
  ·obtain⟨n,q,e2,e3⟩:=hv _ (B7 y);cases q;exact i k m (by omega) (YD k m y)
 ·obtain⟨⟨U,fU⟩,Z⟩:=(H k).mp j;obtain⟨s,u,A,o⟩:=(K k U).mp fU;refine⟨λwho l=>?_,.inr ⟨U,u,A,λa b S T=>?_⟩⟩
  ·by_cases y:none∈Ay ws k.1 cm k.2 who
   ·exact .inl y
   ·right;have M:¬ ∀a,some a∈Ay ws k.1 cm k.2 who->Af d a=none:=λz=>Z who ((iX k who).mpr ⟨s,l,y,z⟩);obtain⟨a,hx⟩:=Classical.not_forall.mp M;obtain⟨x1,x2⟩:=Classical.not_imp.mp hx;cases J:Af d a with
    |none=>exact absurd J x2
    |some v=>
     obtain⟨n,q,e2,e3⟩:=nN _ (B7 J);have P:v=.int n:=q;exact⟨a,n,x1,by rw[J,P],by omega⟩
  ·rcases c a b T with⟨_,e⟩|e
   ·omega
   ·rw[o a S]at e;cases e
theorem lz{κ:Type}[DecidableEq κ]{kvs:List (κ×V)}{k:κ}{v:V}(b:(kvs.map (·.1)).Nodup):((B6 kvs k v).map (·.1)).Nodup:=by
 cases e:Af kvs k with
 |none=>
  rw[Cs v e,List.map_append];exact Fd b (O2 e)
 |some w=>
  have c:(kvs.any λa=>decide (a.1=k))=true:=by
   rw[Eg,e];rfl
  unfold B6;rw[if_pos c,List.map_map]
  have:(kvs.map ((λx=>x.1) ∘ λa=>if a.1=k then(a.1,v)else a))=kvs.map (·.1):=by
   apply List.map_congr_left;intro x _;show(if x.1=k then(x.1,v)else x).1=x.1;split<;>rfl
  rw[this];exact b
def Yt(H:Hp)(v:V):Prop:=∃c,v=.ref c/\H c=some (.dK [])
theorem Gr.start{ws:oB}{cm:oD}{H:Hp}{kvs:ov}{s:List (oB×Int)}(h:Cr ws cm H kvs)(N:kvs.map (·.1)=Aq ws (qv cm))(M:Mj ws cm H kvs)(B:∀k,k∈s↔∃v,(k,v)∈kvs/\Yt H v):Gr ws cm [] s 1 (An H kvs):=by
 have mem:∀k,k∈Aq ws (qv cm)↔∃v,(k,v)∈kvs:=λk=>by
  rw[<- N,List.mem_map];exact⟨λ⟨x,f,o⟩=>⟨x.2,by rw[<- o];exact f⟩,λ⟨v,f⟩=>⟨_,f,rfl⟩⟩
 have C:∀k a,An H kvs k a↔(k∈Aq ws (qv cm)/\a<ws.length/\none∉Ay ws k.1 cm k.2 a):=λk a=>by
  constructor
  ·rintro⟨c,n,f,o,A⟩;have b:=B7 f;obtain⟨d,S,e,g,_,q⟩:=h.1 _ b;cases e;rw[o]at g;cases g;obtain⟨X,F⟩:=Option.isSome_iff_exists.mp A;obtain⟨E,l,P,i,r,w,_⟩:=q _ (B7 F);have K:(a:Int)=(E:Int):=Sum.inl.inj i;have:a=E:=by omega
   subst this;exact⟨(mem k).mpr ⟨_,b⟩,r,w⟩
  ·rintro⟨f,o,A⟩;obtain⟨v,b⟩:=(mem k).mp f;obtain⟨c,n,e,g,_,q⟩:=h.1 _ b;have u:v=.ref c:=e;subst u;exact⟨c,n,Bp h.2.1 b,g,M _ b c n rfl g a o A⟩
 have D:∀k,k∈Aq ws (qv cm)->((∀a,¬An H kvs k a)↔k∈s):=λk j=>by
  obtain⟨v,b⟩:=(mem k).mp j;obtain⟨c,n,e,g,_,q⟩:=h.1 _ b;have u:v=.ref c:=e;subst u;rw[B];constructor
  ·intro z;refine⟨_,b,c,rfl,?_⟩;cases n with
   |nil=>exact g
   |cons x Y=>
    obtain⟨a,l,P,i,_⟩:=q x (by simp);exact absurd ⟨c,_,Bp h.2.1 b,g,by rw[C9 i];rfl⟩ (z a)
  ·rintro⟨U,L,Q,I,J⟩ a ⟨R,G,i,r,w⟩;have f:=Bp h.2.1 b;rw[Bp h.2.1 L,I]at f;cases f;rw[Bp h.2.1 b]at i;cases i;rw[J]at r;cases r;cases w
 refine⟨Int.le_refl _,(λT z=>by cases z),λk p=>?_,(λk v z=>by cases z),λk a=>?_,λk j=>?_,(λk m z=>by cases z),λk p=>?_⟩
 ·obtain⟨v,b,_⟩:=(B k).mp p;exact⟨(mem k).mpr ⟨v,b⟩,rfl⟩
 ·rw[C];exact⟨λz=>⟨z.1,z.2.1,z.2.2,λ_ _=>rfl⟩,λz=>⟨z.1,z.2.1,z.2.2.1⟩⟩
 ·rw[D k j];exact⟨λz=>.inl z,λz=>z.elim id (λy=>by cases y)⟩
 ·obtain⟨v,b,_⟩:=(B k).mp p;have j:=(mem k).mpr ⟨v,b⟩;refine⟨λa O=>?_,.inl rfl⟩;left;apply Classical.byContradiction;intro y;exact(D k j).mpr p a ((C k a).mpr ⟨j,O,y⟩)
theorem S9{ls:oB}{j:Nat}(h:j<ls.length):ls[j]?=some (ls.getD j 0):=by
 rw[List.getD_eq_getElem?_getD,List.getElem?_eq_getElem h];rfl
theorem Ib{ls:oB}{j:Nat}(h:j<ls.length):ls.getD j 0∈ls:=b5 (S9 h)
def Da(ws:oB)(cm:oD):Prop:=(∀w∈ws,1<=w/\w<=3000)/\(∀c,cm=some c->1<=c/\c<3000)/\0<ws.length/\ws.length<=8/\Bx (qv cm) ws<=300
theorem Fo{w:Int}(h1:0<=w)(a:w<=3000):intBits w<=256:=eI (g0 (n:=12) (by omega)) (by decide)
theorem Da.qv{ws:oB}{cm:oD}(h:Da ws cm):1<=qv cm/\qv cm<=3000:=by
 cases cm with
 |none=>exact⟨Int.le_refl _,by decide⟩
 |some c=>
  have:=h.2.1 c rfl;show 1<=c+1/\c+1<=3000;omega
theorem Y1{ws ls:oB}{who i:Nat}{a:Bool}(hi:i<ls.length):(Ba ws ls who a)[i]?=some (if i=who/\a=false then ws.getD who 0 else ls.getD i 0-1):=by
 have e:(ls.map λx=>x-1)[i]?=some (ls.getD i 0-1):=by
  rw[List.getElem?_map,List.getElem?_eq_getElem hi,List.getD_eq_getElem?_getD,List.getElem?_eq_getElem hi];rfl
 unfold Ba;cases a with
 |true=>
  rw[if_pos rfl,if_neg (λz=>nomatch z.2)];exact e
 |false=>
  rw[if_neg Bool.false_ne_true,List.getElem?_set];by_cases z:i=who
  ·subst z;rw[if_pos rfl,if_pos (by rw[List.length_map];exact hi),if_pos ⟨rfl,rfl⟩]
  ·rw[if_neg (λy=>z y.symm),if_neg (λy=>z y.1)];exact e
def P5(cm:oD)(q:Int):List Bool:=if Ek cm q=true then[false,true]else[false]
theorem Rq(ws ls:oB)(cm:oD)(q:Int)(who:Nat):Ay ws ls cm q who=(P5 cm q).map λa=>Cw ws ls cm q who a:=by
 unfold Ay P5;split<;>rfl
theorem Mz{xs:oB}{i:Nat}(h:i<xs.length):xs[i]?=some (xs.getD i 0):=by
 rw[List.getD_eq_getElem?_getD,List.getElem?_eq_getElem h];rfl
theorem Wm:∀(ws:oB) (rows:List (oB)) (a ext:oB),a∈rows->ext.length=ws.length->(∀i,i<ws.length->1<=ext.getD i 0/\ext.getD i 0<=ws.getD i 0)->a++ext∈ws.foldl C7 rows
 |[],rows,a,ext,h,b,_=>by
  have e:ext=[]:=List.length_eq_zero_iff.mp b;rw[e,List.append_nil];exact h
 |w::ws,rows,a,[],h,b,_=>by simp at b
 |w::ws,rows,a,x::ext,h,b,c=>by
  have g:=c 0 (by simp);have l:1<=x/\x<=w:=g
  have f:a++[x]∈C7 rows w:=by
   refine List.mem_flatMap.mpr ⟨a,h,gB.mpr ⟨(x-1).toNat,oa.mpr (by omega),?_⟩⟩;have e:1+(((x-1).toNat:Nat):Int)=x:=by omega
   rw[e]
  have d:=Wm ws (C7 rows w) (a++[x]) ext f (by simpa using b) λi j=>c (i+1) (by simp;omega);rw[List.append_assoc]at d;exact d
theorem Nv{ws:oB}{q:Int}{z:oB×Int}(h1:z.1.length=ws.length)(a:∀i,i<ws.length->1<=z.1.getD i 0/\z.1.getD i 0<=ws.getD i 0)(b:0<=z.2)(c:z.2<q):z∈Aq ws q:=by
 refine List.mem_flatMap.mpr ⟨z.1,?_,gB.mpr ⟨z.2.toNat,oa.mpr (by omega),?_⟩⟩
 ·have:=Wm ws [[]] [] z.1 (by simp) h1 a;exact this
 ·have e:0+((z.2.toNat:Nat):Int)=z.2:=by omega
  rw[e]
theorem E2{ws:oB}{q:Int}{z:oB×Int}(h:z∈Aq ws q):z.1.length=ws.length/\(∀i,i<ws.length->1<=z.1.getD i 0/\z.1.getD i 0<=ws.getD i 0)/\0<=z.2/\z.2<q:=by
 obtain⟨m1,b,c,d⟩:=Pk h;exact⟨m1,λi a=>b i _ _ (Mz (by omega)) (Mz a),c,d⟩
theorem gv{ws ls:oB}{who i:Nat}{a:Bool}(hi:i<ls.length):(Ba ws ls who a).getD i 0=if i=who/\a=false then ws.getD who 0 else ls.getD i 0-1:=by
 rw[List.getD_eq_getElem?_getD,Y1 hi];rfl
theorem kj{ws ls:oB}{cm:oD}{q:Int}{who:Nat}{o:Option (oB×Int)}:o∈Ay ws ls cm q who↔∃a,a∈P5 cm q/\Cw ws ls cm q who a=o:=by
 rw[Rq,List.mem_map]
theorem Rm{ws ls:oB}{cm:oD}{q:Int}{who:Nat}{a:Bool}{k:oB×Int}(h:Cw ws ls cm q who a=some k):(0:Int)∉Ba ws ls who a/\k=(Ba ws ls who a,Ci cm q a):=by
 unfold Cw at h;by_cases z:(0:Int)∈Ba ws ls who a
 ·rw[if_pos z]at h;cases h
 ·rw[if_neg z]at h;exact⟨z,(eT h).symm⟩
theorem Z1{ws ls:oB}{cm:oD}{q:Int}{who:Nat}{a:Bool}:Cw ws ls cm q who a=none↔(0:Int)∈Ba ws ls who a:=by
 unfold Cw;by_cases z:(0:Int)∈Ba ws ls who a
 ·rw[if_pos z];exact⟨λ_=>z,λ_=>rfl⟩
 ·rw[if_neg z];exact⟨λy=>(nomatch y),λy=>absurd y z⟩
theorem Z0{ws:oB}{cm:oD}{k l:oB×Int}{who:Nat}{a:Bool}(g:∀w∈ws,1<=w)(p:k∈Aq ws (qv cm))(s:who<ws.length)(v:a∈P5 cm k.2)(h:Cw ws k.1 cm k.2 who a=some l):l∈Aq ws (qv cm):=by
 obtain⟨j,m,u,n⟩:=E2 p;obtain⟨r,rfl⟩:=Rm h;have q:1<=ws.getD who 0:=g _ (Ib s);have d:(Ba ws k.1 who a).length=k.1.length:=Eo _ _ _ _;refine Nv (by rw[d];exact j) (λi o=>?_) ?_ ?_
 ·have b:=m i o
  have f:(Ba ws k.1 who a).getD i 0≠0:=λe=>by
   have:=Mz (xs:=Ba ws k.1 who a) (i:=i) (by omega);rw[e]at this;exact r (b5 this)
  show 1<=(Ba ws k.1 who a).getD i 0/\(Ba ws k.1 who a).getD i 0<=ws.getD i 0;rw[gv (by omega)]at f⊢;by_cases y:i=who/\a=false
  ·rw[if_pos y,y.1];omega
  ·rw[if_neg y]at f;rw[if_neg y];omega
 ·show 0<=Ci cm k.2 a;unfold Ci;cases a with
  |true=>
   rw[if_pos rfl];cases cm with
   |none=>exact Int.le_refl _
   |some c=>
    show 0<=c;have:k.2<c+1:=n;omega
  |false=>
   rw[if_neg Bool.false_ne_true];omega
 ·show Ci cm k.2 a<qv cm;unfold Ci;cases a with
  |true=>
   rw[if_pos rfl];cases cm with
   |none=>decide
   |some c=>
    show c<c+1;omega
  |false=>
   rw[if_neg Bool.false_ne_true];have:0<qv cm:=by omega
   omega
def wd(x:Int×Int):qE:=dP (.int x.1) (.int x.2)
def Gb(x y:Int×Int):Bool:=decide (y.1<x.1\/(x.1=y.1/\y.2<x.2))
theorem L3(a b:Int):PyData.eqv (.int a) (.int b)=decide (a=b):=rfl
theorem li(x y:Int×Int):Yo (wd x) (wd y)=Gb x y:=by
 obtain⟨a,b⟩:=x;obtain⟨c,d⟩:=y;show(if PyData.eqv (.int a) (.int c)=true then(if PyData.eqv (.int b) (.int d)=true then bL [] []else Yo (.int b) (.int d))else Yo (.int a) (.int c))=decide (c<a\/(a=c/\d<b));rw[L3,L3];show(if decide (a=c)=true then(if decide (b=d)=true then false else decide (b>d))else decide (a>c))=decide (c<a\/(a=c/\d<b));by_cases e:a=c
 ·rw[if_pos (decide_eq_true e)];by_cases f:b=d
  ·rw[if_pos (decide_eq_true f)];exact(l7 (by omega)).symm
  ·rw[if_neg (by simpa using f)];exact decide_eq_decide.mpr (by omega)
 ·rw[if_neg (by simpa using e)];exact decide_eq_decide.mpr (by omega)
theorem Zz(x y:Int×Int):Kl (wd x) (wd y)=Gb y x:=by
 obtain⟨a,b⟩:=x;obtain⟨c,d⟩:=y;show(if PyData.eqv (.int a) (.int c)=true then(if PyData.eqv (.int b) (.int d)=true then aJ [] []else Kl (.int b) (.int d))else Kl (.int a) (.int c))=decide (a<c\/(c=a/\b<d));rw[L3,L3];show(if decide (a=c)=true then(if decide (b=d)=true then false else decide (b<d))else decide (a<c))=decide (a<c\/(c=a/\b<d));by_cases e:a=c
 ·rw[if_pos (decide_eq_true e)];by_cases f:b=d
  ·rw[if_pos (decide_eq_true f)];exact(l7 (by omega)).symm
  ·rw[if_neg (by simpa using f)];exact decide_eq_decide.mpr (by omega)
 ·rw[if_neg (by simpa using e)];exact decide_eq_decide.mpr (by omega)
theorem Z6(x y:Int×Int):J5 (wd x) (wd y):=by
 show J5 (.tuple [.int x.1,.int x.2]) (.tuple [.int y.1,.int y.2]);simp[J5,bI]
theorem Mv(x:Int×Int):(wd x).depth<=50:=by
 show(dP _ _).depth<=50;rw[Rx];show max 0 0+1<=50;decide
theorem Wo{H:Hp}{p:Addr}{x:Int×Int}(h:H p=some (.tup [.int x.1,.int x.2])):Rp H (wd x) (.ref p):=az h (Ji _) (Ji _)
theorem Zj(x y:Int×Int):PyData.eqv (wd x) (wd y)=decide (x=y):=by
 obtain⟨a,b⟩:=x;obtain⟨c,d⟩:=y;show PyData.eqv (dP _ _) (dP _ _)=_;rw[l8,L3,L3];by_cases e:a=c<;>by_cases f:b=d<;>simp[e,f]
theorem Q3(f:Nat->Int×Int):∀k,argBest (λi j=>Gb (f i) (f j)) k<=k/\∀j,j<=k->Gb (f j) (f (argBest (λi j=>Gb (f i) (f j)) k))=false
 |0=>⟨da _,λj c=>by
  have e:j=0:=by omega
  subst e;show Gb (f 0) (f 0)=false;unfold Gb;exact l7 (by omega)⟩
 |k+1=>by
  obtain⟨d,a⟩:=Q3 f k;rw[Es];generalize argBest (λi j=>Gb (f i) (f j)) k=b at d a⊢;by_cases z:Gb (f (k+1)) (f b)=true
  ·rw[if_pos z];refine⟨da _,λj c=>?_⟩;unfold Gb at z a⊢;have g:=of_decide_eq_true z;refine l7 ?_;rcases la k j with y|y
   ·have e:j=k+1:=by omega
    subst e;omega
   ·have:=of_decide_eq_false (a j y);omega
  ·rw[if_neg z];refine⟨by omega,λj c=>?_⟩;rcases la k j with y|y
   ·have e:j=k+1:=by omega
    subst e;simpa using z
   ·exact a j y
def Pn:Option V->Int×Int
 |some (.int m)=>(0,m)
 |_=>(1,0)
def told(tv:ov):Option (oB×Int)->Int×Int
 |none=>(0,0)
 |some k=>Pn (Af tv k)
def lw(x y:Int×Int):Int×Int:=if Gb x y=true then y else x
def Kj(tv:ov)(ws ls:oB)(cm:oD)(q:Int)(who:Nat):Int×Int:=
 if Ek cm q=true then lw (told tv (Cw ws ls cm q who false)) (told tv (Cw ws ls cm q who true))else told tv (Cw ws ls cm q who false)
def Rk(tv:ov):Prop:=∀k v,Af tv k=some v->∃m:Int,v=.int m
theorem Ra{tv:ov}{ws ls:oB}{cm:oD}{q:Int}{who:Nat}:(∀o∈Ay ws ls cm q who,Gb (Kj tv ws ls cm q who) (told tv o)=false)/\∃o,o∈Ay ws ls cm q who/\Kj tv ws ls cm q who=told tv o:=by
 rw[Rq];unfold P5 Kj;by_cases z:Ek cm q=true
 ·rw[if_pos z,if_pos z];show(∀o∈[Cw ws ls cm q who false,Cw ws ls cm q who true],_)/\∃o,o∈[Cw ws ls cm q who false,Cw ws ls cm q who true]/\_;unfold lw;by_cases y:Gb (told tv (Cw ws ls cm q who false)) (told tv (Cw ws ls cm q who true))=true
  ·rw[if_pos y];refine⟨λo a=>?_,_,by simp,rfl⟩;have b:o=Cw ws ls cm q who false\/o=Cw ws ls cm q who true:=by simpa using a
   unfold Gb at y⊢;have c:=of_decide_eq_true y;refine l7 ?_;rcases b with e|e<;>subst e<;>omega
  ·rw[if_neg y];refine⟨λo a=>?_,_,by simp,rfl⟩;have b:o=Cw ws ls cm q who false\/o=Cw ws ls cm q who true:=by simpa using a
   unfold Gb at y⊢;refine l7 ?_;have c:=λh=>y (decide_eq_true h);rcases b with e|e<;>subst e<;>omega
 ·rw[if_neg z,if_neg z];refine⟨λo a=>?_,Cw ws ls cm q who false,by simp,rfl⟩;have e:o=Cw ws ls cm q who false:=by simpa using a
  subst e;unfold Gb;exact l7 (by omega)
theorem Sw{H:Hp}:∀{ds:List qE}{us:List V},us.length=ds.length->(∀(i:Nat) (d:qE) (u:V),ds[i]?=some d->us[i]?=some u->Rp H d u)->aF H ds us
 |[],us,a,_=>by
  unfold aF;exact List.length_eq_zero_iff.mp a
 |d::ds,[],a,_=>by simp at a
 |d::ds,u::us,a,h=>by
  unfold aF;exact⟨u,us,rfl,h 0 d u rfl rfl,Sw (by simpa using a) λi b f c e=>h (i+1) b f (by simpa using c) (by simpa using e)⟩
theorem fz{f:Nat->Int×Int}{n:Nat}(q:0<n):E5 ((List.range n).map λi=>wd (f i))<n/\∀j,j<n->Gb (f j) (f (E5 ((List.range n).map λi=>wd (f i))))=false:=by
 have e:E5 ((List.range n).map λi=>wd (f i))=argBest (λi j=>Gb (f i) (f j)) (n-1):=by
  unfold E5;rw[List.length_map,List.length_range]
  have a:∀k,k<=n-1->argBest (λi j=>Yo (((List.range n).map λi=>wd (f i)).getD i .none) (((List.range n).map λi=>wd (f i)).getD j .none)) k=argBest (λi j=>Gb (f i) (f j)) k:=λk=>by
   induction k with
   |zero=>exact λ_=>rfl
   |succ k l=>
    intro p;have b:=(Q3 f k).1;rw[Es,Es,l (by omega)];generalize argBest (λi j=>Gb (f i) (f j)) k=c at b⊢
    have g:∀i,i<n->((List.range n).map λi=>wd (f i)).getD i .none=wd (f i):=λi h=>by
     rw[List.getD_eq_getElem?_getD,List.getElem?_map,List.getElem?_range h];rfl
    show(if Yo (((List.range n).map λi=>wd (f i)).getD (k+1) .none) (((List.range n).map λi=>wd (f i)).getD c .none)=true then _ else _)=_;rw[g _ (by omega),g _ (by omega),li]
  exact a (n-1) (da _)
 rw[e];obtain⟨m,d⟩:=Q3 f (n-1);exact⟨by omega,λj o=>d j (by omega)⟩
def Iw(f:Nat->Int×Int)(n j:Nat):Prop:=j<n/\(∀i,i<n->Gb (f i) (f j)=false)/\∀m,m<j->f m≠f j
theorem least{Pr:Nat->Prop}:∀(b:Nat),Pr b->∃j,j<=b/\Pr j/\∀m,m<j->¬Pr m:=λb=>by
 induction b using Nat.strongRecOn with
 |ind b g=>
  intro d;by_cases z:∃m,m<b/\Pr m
  ·obtain⟨m,a,c⟩:=z;obtain⟨j,l,h,i⟩:=g m a c;exact⟨j,by omega,h,i⟩
  ·exact⟨b,da _,d,λm e f=>z ⟨m,e,f⟩⟩
theorem Iw.of{f:Nat->Int×Int}{n j:Nat}(d:0<n)(l:j<=E5 ((List.range n).map λi=>wd (f i)))(e:f j=f (E5 ((List.range n).map λi=>wd (f i))))(h:∀m,m<j->¬f m=f (E5 ((List.range n).map λi=>wd (f i)))):Iw f n j:=by
 obtain⟨g,a⟩:=fz (f:=f) d;refine⟨by omega,λi b=>by rw[e];exact a i b,λm c=>by rw[e];exact h m c⟩
def Tr(H:Hp)(f:Nat->Int×Int)(a:List V):Prop:=∀(i:Nat) (u:V),a[i]?=some u->∃p,u=.ref p/\H p=some (.tup [.int (f i).1,.int (f i).2])
theorem Tr.snoc{H c:Hp}{f:Nat->Int×Int}{b:List V}{p:Addr}{n:Nat}(h:Tr H f b)(t:Aj H c)(o:b.length=n)(e:c p=some (.tup [.int (f n).1,.int (f n).2])):Tr c f (b++[.ref p]):=λi u a=>by
 rcases la i b.length with y|y
 ·rw[List.getElem?_append_left y]at a;obtain⟨m,g,j⟩:=h i u a;exact⟨m,g,t _ _ j⟩
 ·rw[List.getElem?_append_right y]at a
  have d:i-b.length=0:=by
   have:=(bA.mp a).1;rw[List.length_singleton]at this;omega
  rw[d]at a;cases a;have l:i=n:=by omega
  subst l;exact⟨p,rfl,e⟩
theorem Tr.rp{H:Hp}{f:Nat->Int×Int}{a:List V}{n:Nat}(h:Tr H f a)(m:a.length=n):aF H ((List.range n).map λi=>wd (f i)) a:=by
 refine Sw (by rw[List.length_map,List.length_range];exact m) λi d u b c=>?_;obtain⟨p,j,l⟩:=h i u c;subst j;rw[List.getElem?_map]at b;obtain⟨o,e,rfl⟩:=dI.mp b
 have g:i<n:=by
  have:=(bA.mp c).1;omega
 rw[List.getElem?_range g]at e;cases e;exact Wo l
theorem Vs(f:Nat->Int×Int)(n:Nat):∀d∈(List.range n).map λi=>wd (f i),∀e∈(List.range n).map λi=>wd (f i),J5 d e:=λd a e b=>by
 obtain⟨c,_,rfl⟩:=gB.mp a;obtain⟨g,_,rfl⟩:=gB.mp b;exact Z6 _ _
theorem Vw(f:Nat->Int×Int)(n:Nat):∀d∈(List.range n).map λi=>wd (f i),d.depth<=50:=λd a=>by
 obtain⟨b,_,rfl⟩:=gB.mp a;exact Mv _
theorem gm(f:Nat->Int×Int){n i:Nat}(h:i<n):((List.range n).map λi=>wd (f i))[i]?=some (wd (f i)):=by
 rw[List.getElem?_map,List.getElem?_range h];rfl
theorem Zm{f:Nat->Int×Int}{n i:Nat}{e:qE}(h:((List.range n).map λi=>wd (f i))[i]?=some e):e=wd (f i):=by
 rw[List.getElem?_map]at h;obtain⟨c,a,rfl⟩:=dI.mp h
 have b:i<n:=by
  have:=(bA.mp a).1;rwa[List.length_range]at this
 rw[List.getElem?_range b]at a;cases a;rfl
def Ca(tv:ov)(ws ls:oB)(cm:oD)(q:Int)(who:Nat):Bool:=Ek cm q&&Gb (told tv (Cw ws ls cm q who false)) (told tv (Cw ws ls cm q who true))
theorem G9{tv:ov}{k:oB×Int}{m:Int}(h:Af tv k=some (.int m)):told tv (some k)=(0,m):=by
 show Pn (Af tv k)=_;rw[h];rfl
theorem Gq{ws:oB}{cm:oD}{tv:ov}(h:Bv ws cm tv)(o:Option (oB×Int)):(o=none/\told tv o=(0,0))\/(∃k m,o=some k/\Af tv k=some (.int m)/\1<=m/\told tv o=(0,m))\/told tv o=(1,0):=by
 cases o with
 |none=>exact .inl ⟨rfl,rfl⟩
 |some k=>
  cases a:Af tv k with
  |none=>
   refine .inr (.inr ?_);show Pn (Af tv k)=_;rw[a];rfl
  |some v=>
   obtain⟨m,b,c,_⟩:=h.1 k v a;subst b;exact .inr (.inl ⟨k,m,rfl,a,c,G9 a⟩)
theorem I0{ws:oB}{cm:oD}{tv:ov}{k b:oB×Int}{m:Int}{who:Nat}(h:Bv ws cm tv)(A:Af tv k=some (.int m))(B:who<ws.length)(a:Cw ws k.1 cm k.2 who (Ca tv ws k.1 cm k.2 who)=some b):∃d:Int,Af tv b=some (.int d)/\1<=d/\d<=m-1:=by
 obtain⟨m0,s,I,J,C,L⟩:=h.1 k _ A;cases s
 have least:∀o∈Ay ws k.1 cm k.2 who,Gb (told tv (some b)) (told tv o)=false:=λo f=>by
  have g:∀x:Int×Int,Gb x x=false:=λx=>by
   unfold Gb;exact l7 (by omega)
  have q:∀x y:Int×Int,Gb x y=true->Gb y x=false:=λx y e=>by
   unfold Gb at e⊢;have:=of_decide_eq_true e;exact l7 (by omega)
  unfold Ca at a;unfold Ay at f;by_cases z:Ek cm k.2=true
  ·rw[if_pos z]at f;rw[z,Bool.true_and]at a;have j:o=Cw ws k.1 cm k.2 who false\/o=Cw ws k.1 cm k.2 who true:=by simpa using f
   cases y:Gb (told tv (Cw ws k.1 cm k.2 who false)) (told tv (Cw ws k.1 cm k.2 who true))with
   |true=>
    rw[y]at a;rw[<- a];rcases j with e|e<;>rw[e]
    ·exact q _ _ y
    ·exact g _
   |false=>
    rw[y]at a;rw[<- a];rcases j with e|e<;>rw[e]
    ·exact g _
    ·exact y
  ·rw[if_neg z]at f;have D:Ek cm k.2=false:=by simpa using z
   rw[D,Bool.false_and]at a;have j:o=Cw ws k.1 cm k.2 who false:=by simpa using f
   rw[j,a];exact g _
 have l:∃c:Int,Gb (told tv (some b)) (0,c)=false/\c<=m-1:=by
  rcases C who B with z|⟨n,d,E,F,G⟩
  ·exact⟨0,least none z,by omega⟩
  ·have:=least _ E;rw[G9 F]at this;exact⟨d,this,G⟩
 obtain⟨c,p,H⟩:=l;unfold Gb at p;have i:=of_decide_eq_false p;rcases Gq h (some b)with⟨e,_⟩|⟨K,d,e,u,v,w⟩|e
 ·cases e
 ·cases e;rw[w]at i;have r:¬((0:Int)<0\/((0:Int)=0/\c<d)):=i;exact⟨d,u,v,by omega⟩
 ·rw[e]at i;have r:¬((0:Int)<1\/((1:Int)=0/\c<0)):=i;omega
theorem Xa{ws:oB}{cm:oD}{tv:ov}{k:oB×Int}{m:Int}{b:Nat}(h:Bv ws cm tv)(J:Af tv k=some (.int m))(B:0<ws.length)(H:b<ws.length)
  (D:∀j,j<ws.length->Gb (Kj tv ws k.1 cm k.2 j) (Kj tv ws k.1 cm k.2 b)=false):Kj tv ws k.1 cm k.2 b=(0,m-1):=by
 obtain⟨m0,f,P,_,K,L⟩:=h.1 k _ J;cases f
 have up:∀j,j<ws.length->(Kj tv ws k.1 cm k.2 j).1=0/\0<=(Kj tv ws k.1 cm k.2 j).2/\(Kj tv ws k.1 cm k.2 j).2<=m-1:=λj I=>by
  obtain⟨v,o,i,w⟩:=Ra (tv:=tv) (ws:=ws) (ls:=k.1) (cm:=cm) (q:=k.2) (who:=j);rw[w]at v⊢
  have q:∃c:Int,Gb (told tv o) (0,c)=false/\c<=m-1:=by
   rcases K j I with z|⟨r,a,p,x,y⟩
   ·exact⟨0,v none z,by omega⟩
   ·have:=v _ p;rw[G9 x]at this;exact⟨a,this,y⟩
  obtain⟨c,A,N⟩:=q;unfold Gb at A;have n:=of_decide_eq_false A;rcases Gq h o with⟨_,e⟩|⟨_,a,_,_,F,e⟩|e
  ·rw[e];exact⟨rfl,Int.le_refl _,by show(0:Int)<=m-1;omega⟩
  ·rw[e]at n⊢;have E:¬((0:Int)<0\/((0:Int)=0/\c<a)):=n;exact⟨rfl,by show(0:Int)<=a;omega,by show a<=m-1;omega⟩
  ·rw[e]at n;have E:¬((0:Int)<1\/((1:Int)=0/\c<0)):=n;omega
 have s:∃j,j<ws.length/\m-1<=(Kj tv ws k.1 cm k.2 j).2:=by
  rcases L with z|⟨d,p,x,y⟩
  ·exact⟨0,B,by have:=up 0 B;omega⟩
  ·refine⟨d,p,?_⟩;have u:=up d p;obtain⟨_,o,i,w⟩:=Ra (tv:=tv) (ws:=ws) (ls:=k.1) (cm:=cm) (q:=k.2) (who:=d);rw[w]at u⊢;rcases Gq h o with⟨f,e⟩|⟨l,a,f,G,F,e⟩|e
   ·rw[f]at i;exact absurd i x
   ·rw[f]at i;have:=y l a i G;rw[e];exact this
   ·rw[e]at u;simp only at u;omega
 obtain⟨j,C,Q⟩:=s;have u:=up j C;have M:=up b H;have g:=D j C;unfold Gb at g;have O:=of_decide_eq_false g;refine Prod.ext M.1 ?_;show(Kj tv ws k.1 cm k.2 b).2=m-1;omega
def k9(tv:ov)(k:oB×Int)(o:Option (oB×Int)):Prop:=(Af tv k=none->∃b,o=some b/\Af tv b=none)/\∀m:Int,Af tv k=some (.int m)->(o=none->m=1)/\∀(b:oB×Int) (a:Int),o=some b->Af tv b=some (.int a)->m-1<=a
theorem f7{ws:oB}{cm:oD}{tv:ov}(h:Bv ws cm tv){o:Option (oB×Int)}(e:told tv o=(1,0)):∃b,o=some b/\Af tv b=none:=by
 cases o with
 |none=>cases e
 |some b=>
  refine⟨b,rfl,?_⟩;cases a:Af tv b with
  |none=>rfl
  |some v=>
   obtain⟨m,c,_⟩:=h.1 b v a;subst c;rw[G9 a]at e;cases e
theorem W5{ws:oB}{cm:oD}{tv:ov}{k:oB×Int}{j:Nat}{o:Option (oB×Int)}(h:Bv ws cm tv)(x:k∈Aq ws (qv cm))(y:0<ws.length)(l:Iw (λi=>Kj tv ws k.1 cm k.2 i) ws.length j)(z:o∈Ay ws k.1 cm k.2 j):k9 tv k o:=by
 obtain⟨D,J,L,M⟩:=Ra (tv:=tv) (ws:=ws) (ls:=k.1) (cm:=cm) (q:=k.2) (who:=j);have d:=D o z;refine⟨λg=>?_,λm g=>?_⟩
 ·obtain⟨c,E,F,G⟩:=h.2 k x g;obtain⟨K,q,r,C⟩:=Ra (tv:=tv) (ws:=ws) (ls:=k.1) (cm:=cm) (q:=k.2) (who:=c)
  have u:told tv q=(1,0):=by
   cases q with
   |none=>exact absurd r F
   |some b=>
    show Pn (Af tv b)=_;rw[G b r];rfl
  have f:=l.2.1 c E;simp only at f;rw[C,u]at f;refine f7 h ?_;unfold Gb at f d;have n:=of_decide_eq_false f;have a:=of_decide_eq_false d;rcases Gq h o with⟨_,e⟩|⟨_,p,_,_,H,e⟩|e
  ·rw[e]at a;simp only at n a;omega
  ·rw[e]at a;simp only at n a;omega
  ·exact e
 ·obtain⟨m0,s,I,_⟩:=h.1 k _ g;cases s;have A:=Xa h g y l.1 l.2.1;rw[A]at d;unfold Gb at d;have a:=of_decide_eq_false d;refine⟨λe=>?_,λb p e B=>?_⟩
  ·subst e;have v:told tv none=(0,0):=rfl;rw[v]at a;have w:¬((0:Int)<0\/((0:Int)=0/\(0:Int)<m-1)):=a;omega
  ·subst e;rw[G9 B]at a;have w:¬((0:Int)<0\/((0:Int)=0/\p<m-1)):=a;omega
theorem Q8(a b:oB×Int):PyData.eqv (dS a) (dS b)=decide (a=b):=by
 show(PyData.eqvAll (a.1.map PyData.int) (b.1.map PyData.int)&&(PyData.eqv (.int a.2) (.int b.2)&&true))=_;rw[Ed]
 have e:PyData.eqv (.int a.2) (.int b.2)=decide (a.2=b.2):=by
  show(a.2==b.2)=_;rw[Bool.eq_iff_iff];simp
 rw[e,Bool.and_true,Bool.eq_iff_iff];simp[Prod.ext_iff]
def Lz(o:Option HO):Nat:=match o with
 |some (.lst a)=>a.length
 |_=>0
def Gv(o:Option HO):Nat:=match o with
 |some (.dT a)=>a.length
 |_=>0
theorem W9{a:Type}{xs:List a}(h:0<xs.length):∃y,xs[xs.length-1]?=some y:=⟨xs[xs.length-1],eH (by omega)⟩
theorem Ae.take{d:Type}{P:d->V->Prop}{c:List d}{vs:List V}(h:Ae P c vs)(n:Nat):Ae P (c.take n) (vs.take n):=by
 refine⟨by rw[List.length_take,List.length_take,h.1],λi r v a b=>?_⟩;rcases la i n with z|z
 ·rw[List.getElem?_take_of_lt z]at a b;exact h.2 i r v a b
 ·rw[List.getElem?_take_eq_none z]at a;cases a
inductive xf(ws:oB)(cm:oD)(tv:ov):(oB×Int)->Prop
 |base:xf ws cm tv (ws,0)
 |step {k k':oB×Int}{j:Nat}:xf ws cm tv k->Iw (λi=>Kj tv ws k.1 cm k.2 i) ws.length j->some k'∈Ay ws k.1 cm k.2 j->xf ws cm tv k'
def Sf(ws:oB)(cm:oD)(tv:ov)(k:oB×Int):Prop:=k∈Aq ws (qv cm)/\Af tv k=none/\xf ws cm tv k
structure Px(ws:oB)(cm:oD)(tv cv:ov)(E:List (oB×Int)):Prop where
 nd:(cv.map (·.1)).Nodup
 sf:∀k∈E,Sf ws cm tv k
 ent:∀kv∈cv,Sf ws cm tv kv.1/\∃j:Nat,kv.2=.int (j:Int)/\Iw (λi=>Kj tv ws kv.1.1 cm kv.1.2 i) ws.length j/\∀o∈Ay ws kv.1.1 cm kv.1.2 j,∃k',o=some k'/\(k'∈cv.map (·.1)\/k'∈E)
 sZ:(ws,0)∈cv.map (·.1)\/(ws,0)∈E
theorem Px.len{ws:oB}{cm:oD}{tv b:ov}{E:List (oB×Int)}(h:Px ws cm tv b E)(a:Da ws cm):b.length<=300:=by
 have d:=List.Nodup.length_le_of_subset h.nd (show b.map (·.1) ⊆ Aq ws (qv cm)from λk e=>by
  obtain⟨g,c,rfl⟩:=gB.mp e;exact(h.ent g c).1.1)
 have i:=G7 (ws:=ws) (q:=qv cm) (λw f=>(a.1 w f).1) (by have:=a.qv.1;omega);have j:=a.2.2.2.2;rw[List.length_map]at d;omega
theorem Px.start{ws:oB}{cm:oD}{tv:ov}(h:Sf ws cm tv (ws,0)):Px ws cm tv [] [(ws,0)]:=⟨List.nodup_nil,λk b=>by cases ly.mp b;exact h,(λc a=>by cases a),.inr (ly.mpr rfl)⟩
theorem Px.skip{ws:oB}{cm:oD}{tv a:ov}{E:List (oB×Int)}{k:oB×Int}(h:Px ws cm tv a (E++[k]))(m:k∈a.map (·.1)):Px ws cm tv a E:=by
 have b:∀x,x∈a.map (·.1)\/x∈E++[k]->x∈a.map (·.1)\/x∈E:=λx c=>by
  rcases c with z|z
  ·exact .inl z
  ·rcases hH.mp z with y|y
   ·exact .inr y
   ·rw[List.mem_singleton.mp y];exact .inl m
 refine⟨h.nd,λx c=>h.sf x (ib _ c),λq d=>?_,b _ h.sZ⟩;obtain⟨f,j,g,i,l⟩:=h.ent q d;refine⟨f,j,g,i,λo n=>?_⟩;obtain⟨p,e,z⟩:=l o n;exact⟨p,e,b _ z⟩
theorem Px.put{ws:oB}{cm:oD}{tv a:ov}{E Eb:List (oB×Int)}{k:oB×Int}{j:Nat}(h:Px ws cm tv a (E++[k]))(g:Af a k=none)(s:Iw (λi=>Kj tv ws k.1 cm k.2 i) ws.length j)(u:Ay ws k.1 cm k.2 j=Eb.map some)(v:∀x∈Eb,Sf ws cm tv x):Px ws cm tv (B6 a k (.int (j:Int))) (E++Eb):=by
 have f:=Cs (kvs:=a) (k:=k) (.int (j:Int)) g
 have c:∀x,x∈a.map (·.1)\/x∈E++[k]->x∈(B6 a k (.int (j:Int))).map (·.1)\/x∈E++Eb:=λx b=>by
  rw[f,List.map_append];rcases b with z|z
  ·exact .inl (ib _ z)
  ·rcases hH.mp z with y|y
   ·exact .inr (ib _ y)
   ·rw[List.mem_singleton.mp y];exact .inl (ia _ (by simp))
 refine⟨Wd _ h.nd g,λx b=>?_,λA m=>?_,c _ h.sZ⟩
 ·rcases hH.mp b with y|y
  ·exact h.sf x (ib _ y)
  ·exact v x y
 ·have l:=m;rw[f]at l;rcases hH.mp l with z|z
  ·obtain⟨n,i,p,q,r⟩:=h.ent A z;refine⟨n,i,p,q,λo d=>?_⟩;obtain⟨w,e,y⟩:=r o d;exact⟨w,e,c _ y⟩
  ·rw[List.mem_singleton.mp z];refine⟨h.sf k (by simp),j,rfl,s,λo d=>?_⟩;rw[u]at d;obtain⟨x,b,rfl⟩:=gB.mp d;exact⟨x,rfl,.inr (ia _ b)⟩
def ke(ws:oB)(cm:oD)(tv ps:ov):Prop:=Px ws cm tv ps []/\ps.Pairwise λx y=>Kl (dS x.1) (dS y.1)=true
theorem Px.perm{ws:oB}{cm:oD}{tv b ps:ov}(h:Px ws cm tv b [])(c:ps.Perm b):Px ws cm tv ps []:=by
 have a:=c.map (·.1);refine⟨a.nodup_iff.mpr h.nd,h.sf,λp d=>?_,?_⟩
 ·obtain⟨f,j,g,i,l⟩:=h.ent p (c.mem_iff.mp d);refine⟨f,j,g,i,λo m=>?_⟩;obtain⟨n,e,z⟩:=l o m;exact⟨n,e,z.imp (λy=>a.mem_iff.mpr y) id⟩
 ·exact h.sZ.imp (λy=>a.mem_iff.mpr y) id
theorem fw{ws:oB}{cm:oD}{tv:ov}{k:oB×Int}{j:Nat}(A:Bv ws cm tv)(p:Da ws cm)(h:Sf ws cm tv k)(g:Iw (λi=>Kj tv ws k.1 cm k.2 i) ws.length j):∃Eb:List (oB×Int),Ay ws k.1 cm k.2 j=Eb.map some/\(∀x∈Eb,Sf ws cm tv x)/\Eb.length<=2:=by
 have all:∀o∈Ay ws k.1 cm k.2 j,∃b,o=some b/\Sf ws cm tv b:=λo d=>by
  obtain⟨b,e,u⟩:=(W5 A h.1 p.2.2.1 g d).1 h.2.1;subst e;obtain⟨q,a,c⟩:=kj.mp d;exact⟨b,rfl,Z0 (λw v=>(p.1 w v).1) h.1 g.1 a c,u,.step h.2.2 g d⟩
 have n:∀l:List (Option (oB×Int)),(∀o∈l,∃b,o=some b/\Sf ws cm tv b)->∃Eb:List (oB×Int),l=Eb.map some/\(∀x∈Eb,Sf ws cm tv x):=by
  intro l
  induction l with
  |nil=>exact λ_=>⟨[],rfl,λx m=>by cases m⟩
  |cons o l z=>
   intro a;obtain⟨Eb,f,c⟩:=z λo d=>a o (ea _ d);obtain⟨b,r,s⟩:=a o cI;refine⟨b::Eb,by rw[r,f];rfl,λx m=>?_⟩;rcases fe.mp m with y|y
   ·rw[y];exact s
   ·exact c x y
 obtain⟨Eb,f,c⟩:=n _ all;refine⟨Eb,f,c,?_⟩;have a:Eb.length=(Ay ws k.1 cm k.2 j).length:=by rw[f,List.length_map]
 rw[a];unfold Ay;split<;>simp
theorem Z2{H:Hp}{Eb:List (oB×Int)}{us:List V}(h:Ae (F4 H) (Eb.map some) us):Ae (Fl H) Eb us:=by
 refine⟨by rw[h.1,List.length_map],λi r v a c=>?_⟩;obtain⟨b,d,u,e,f⟩:=h.2 i (some r) v (by rw[List.getElem?_map,a];rfl) c;exact⟨b,u,d,e,f⟩
theorem Fj:∀xs c:oB,aJ (xs.map PyData.int) (c.map PyData.int)=true->aJ (c.map PyData.int) (xs.map PyData.int)=false
 |[],[],_=>rfl
 |[],y::c,h=>rfl
 |x::xs,[],h=>by simp[aJ]at h
 |x::xs,y::c,h=>by
  have e:∀a b:Int,PyData.eqv (.int a) (.int b)=decide (a=b):=λa b=>by
   show(a==b)=_;rw[Bool.eq_iff_iff];simp
  rw[List.map_cons,List.map_cons,aJ,e]at h⊢;by_cases z:x=y
  ·subst z;rw[if_pos (by simp)]at h⊢;exact Fj xs c h
  ·rw[if_neg (by simp;exact z)]at h;rw[if_neg (by simp;exact λy=>z y.symm)];have d:x<y:=of_decide_eq_true h;exact l7 (by omega)
theorem Sl{a b:oB×Int}(h:Kl (dS a) (dS b)=true):Kl (dS b) (dS a)=false:=by
 have c:aJ [dT a.1,.int a.2] [dT b.1,.int b.2]=true:=h;show aJ [dT b.1,.int b.2] [dT a.1,.int a.2]=false;rw[aJ,Zi]at c⊢;by_cases z:a.1=b.1
 ·rw[if_pos (by simp[z])]at c⊢;exact Fj [a.2] [b.2] c
 ·rw[if_neg (by simp[z])]at c;rw[if_neg (by simp;exact λy=>z y.symm)];exact Fj a.1 b.1 c
theorem Ic{L:List (oB×Int)}(l:L.Pairwise λa b=>Kl (dS a) (dS b)=true){a b:oB×Int}(i:a∈L)(j:b∈L):Kl (dS a) (dS b)=decide (L.idxOf a<L.idxOf b):=by
 have f:=List.idxOf_lt_length_of_mem i;have g:=List.idxOf_lt_length_of_mem j;have c:L[L.idxOf a]=a:=List.getElem_idxOf f;have d:L[L.idxOf b]=b:=List.getElem_idxOf g;have h:=List.pairwise_iff_getElem.mp l;rcases Nat.lt_trichotomy (L.idxOf a) (L.idxOf b)with z|z|z
 ·have:=h _ _ f g z;rw[c,d]at this;rw[this,decide_eq_true z]
 ·have e:a=b:=by
   rw[<- c,<- d];congr 1
  subst e;rw[decide_eq_false (Nat.lt_irrefl _)];exact Wb a
 ·have:=h _ _ g f z;rw[c,d]at this;rw[Sl this,decide_eq_false (by omega)]
theorem Qi(j:Int):aJ [PyData.int j] [PyData.int j]=false:=by
 rw[aJ,if_pos (show PyData.eqv (.int j) (.int j)=true from PySem.SeqAt.eqv_refl _ rfl)];rfl
def Jp(a:(oB×Int)×V):qE:=match a.2 with
 | .int i=>.int i
 |_=>.none
theorem Ud{ws:oB}{cm:oD}{tv c:ov}(h:Px ws cm tv c []):∀a∈c,∀b∈c,Ys (Iz Jp a) (Iz Jp b)/\Kl (Iz Jp a) (Iz Jp b)=decide ((Aq ws (qv cm)).idxOf a.1<(Aq ws (qv cm)).idxOf b.1):=λa m b n=>by
 obtain⟨⟨q,_⟩,i,g,_⟩:=h.ent a m;obtain⟨⟨r,_⟩,j,f,_⟩:=h.ent b n;have o:Jp a=.int i:=by unfold Jp;rw[g]
 have p:Jp b=.int j:=by unfold Jp;rw[f]
 have s:∀x y:oB,bI (x.map PyData.int) (y.map PyData.int):=by
  intro x
  induction x with
  |nil=>intro y;unfold bI;trivial
  |cons u x A=>
   intro y;cases y with
   |nil=>unfold bI;trivial
   |cons v y=>exact⟨trivial,A y⟩
 refine⟨?_,?_⟩
 ·show J2 [dS a.1,Jp a] [dS b.1,Jp b];rw[o,p];exact Vr ⟨⟨s _ _,trivial,trivial⟩,trivial,trivial⟩
 ·show aJ [dS a.1,Jp a] [dS b.1,Jp b]=_;rw[aJ,Q8,o,p];by_cases z:a.1=b.1
  ·rw[if_pos (by simp[z])]
   have e:a=b:=by
    obtain⟨B,E⟩:=a;obtain⟨C,F⟩:=b;have D:B=C:=z;subst D;have w:=Bp h.nd m;have l:=Bp h.nd n;rw[w]at l;rw[Option.some.inj l]
   subst e
   have d:(i:Int)=j:=by
    rw[g]at f;injection f
   rw[d,decide_eq_false (Nat.lt_irrefl _)];exact Qi j
  ·rw[if_neg (by simp[z])];exact Ic (Dq ws (qv cm)) q r
theorem gu{ws:oB}{cm:oD}{tv c ps:ov}(h:Px ws cm tv c [])(g:ps.Perm c)(i:ps.Pairwise λx y=>(Aq ws (qv cm)).idxOf x.1<=(Aq ws (qv cm)).idxOf y.1):ke ws cm tv ps:=by
 have a:=h.perm g;refine⟨a,?_⟩;have f:=List.pairwise_map.mp a.nd;refine List.Pairwise.imp_of_mem (λ{x y} j l z=>?_) (i.and f);have d:=(a.ent x j).1.1;have b:=(a.ent y l).1.1;rw[Ic (Dq ws (qv cm)) d b];refine decide_eq_true (Nat.lt_of_le_of_ne z.1 λe=>z.2 ?_);have m:=List.idxOf_lt_length_of_mem d;have n:=List.idxOf_lt_length_of_mem b;rw[<- List.getElem_idxOf m,<- List.getElem_idxOf n];congr 1
theorem Nf{H:Hp}:∀{ps:ov}{us:List V},Paired (rk H) ps us->Ae (rk H) ps us
 |_,_,.nil=>Ae.nil
 |_,_,.cons r t=>Ae.cons r (Nf t)
theorem u8{i:Nat}{v:V}{a:L2.St}{H:Hp}{Q:L2.St->Hp->Prop}(h:Q (List.set a i (some v)) H):Gu i v a H Q:=h
theorem wz{c:TT}{a u:TS}{D:Km}{b:L2.St}{H:Hp}(h:R8 c a {D with nx:=u D} b H):wp (R8 c a) u D b H:=h
theorem Sy{H:Hp}{b:Addr}{k:oB×Int}(h:D9 H b k):Rp H (dS k) (.ref b):=by
 obtain⟨u,a,c⟩:=h;exact az a (jp c) (by unfold Rp;rfl)
theorem kq(a b:oB×Int):J5 (dS a) (dS b):=by
 have c:∀x y:oB,bI (x.map PyData.int) (y.map PyData.int):=by
  intro x
  induction x with
  |nil=>intro y;unfold bI;trivial
  |cons u x d=>
   intro y;cases y with
   |nil=>unfold bI;trivial
   |cons v y=>exact⟨trivial,d y⟩
 exact⟨c _ _,trivial,trivial⟩
def Fn(tv:ov)(ws ls:oB)(cm:oD)(q:Int):List Bool:=(List.range ws.length).map λw=>Ca tv ws ls cm q w
theorem Dg(tv:ov)(ws ls:oB)(cm:oD)(q:Int):(Fn tv ws ls cm q).length=ws.length:=by unfold Fn;rw[List.length_map,List.length_range]
theorem M8{tv:ov}{ws ls:oB}{cm:oD}{q:Int}{i:Nat}(h:i<ws.length):(Fn tv ws ls cm q)[i]?=some (Ca tv ws ls cm q i):=by
 unfold Fn;rw[List.getElem?_map,List.getElem?_range h];rfl
def M7(tv:ov)(ws:oB)(cm:oD)(k:oB×Int)(who:Nat):Option (oB×Int):=Cw ws k.1 cm k.2 who (Ca tv ws k.1 cm k.2 who)
inductive fo(ws:oB)(cm:oD)(tv:ov):(oB×Int)->Prop
 |base:fo ws cm tv (ws,0)
 |step {k k':oB×Int}{j:Nat}:fo ws cm tv k->j<ws.length->M7 tv ws cm k j=some k'->fo ws cm tv k'
def Uf(ws:oB)(cm:oD)(tv:ov)(k:oB×Int):Prop:=k∈Aq ws (qv cm)/\(∃m:Int,Af tv k=some (.int m))/\fo ws cm tv k
structure Rb(ws:oB)(cm:oD)(tv cv:ov)(E:List (oB×Int)):Prop where
 nd:(cv.map (·.1)).Nodup
 sf:∀k∈E,Uf ws cm tv k
 ent:∀kv∈cv,Uf ws cm tv kv.1/\∀j k',j<ws.length->M7 tv ws cm kv.1 j=some k'->k'∈cv.map (·.1)\/k'∈E
 sZ:(ws,0)∈cv.map (·.1)\/(ws,0)∈E
theorem Rb.len{ws:oB}{cm:oD}{tv b:ov}{E:List (oB×Int)}(h:Rb ws cm tv b E)(a:Da ws cm):b.length<=300:=by
 have d:=List.Nodup.length_le_of_subset h.nd (show b.map (·.1) ⊆ Aq ws (qv cm)from λk e=>by
  obtain⟨g,c,rfl⟩:=gB.mp e;exact(h.ent g c).1.1)
 have i:=G7 (ws:=ws) (q:=qv cm) (λw f=>(a.1 w f).1) (by have:=a.qv.1;omega);have j:=a.2.2.2.2;rw[List.length_map]at d;omega
theorem Rb.start{ws:oB}{cm:oD}{tv:ov}(h:Uf ws cm tv (ws,0)):Rb ws cm tv [] [(ws,0)]:=⟨List.nodup_nil,λk b=>by cases ly.mp b;exact h,(λc a=>by cases a),.inr (ly.mpr rfl)⟩
theorem Rb.skip{ws:oB}{cm:oD}{tv a:ov}{E:List (oB×Int)}{k:oB×Int}(h:Rb ws cm tv a (E++[k]))(i:k∈a.map (·.1)):Rb ws cm tv a E:=by
 have b:∀x,x∈a.map (·.1)\/x∈E++[k]->x∈a.map (·.1)\/x∈E:=λx c=>by
  rcases c with z|z
  ·exact .inl z
  ·rcases hH.mp z with y|y
   ·exact .inr y
   ·rw[List.mem_singleton.mp y];exact .inl i
 exact⟨h.nd,λx c=>h.sf x (ib _ c),λe d=>⟨(h.ent e d).1,λj l f g=>b _ ((h.ent e d).2 j l f g)⟩,b _ h.sZ⟩
theorem Rb.put{ws:oB}{cm:oD}{tv a:ov}{E:List (oB×Int)}{k:oB×Int}{v:V}(h:Rb ws cm tv a (E++[k]))(g:Af a k=none)(o:∀x∈(List.range ws.length).filterMap (M7 tv ws cm k),Uf ws cm tv x):Rb ws cm tv (B6 a k v) (E++(List.range ws.length).filterMap (M7 tv ws cm k)):=by
 have f:=Cs (kvs:=a) (k:=k) v g
 have b:∀x,x∈a.map (·.1)\/x∈E++[k]->x∈(B6 a k v).map (·.1)\/x∈E++(List.range ws.length).filterMap (M7 tv ws cm k):=λx e=>by
  rw[f,List.map_append];rcases e with z|z
  ·exact .inl (ib _ z)
  ·rcases hH.mp z with y|y
   ·exact .inr (ib _ y)
   ·rw[List.mem_singleton.mp y];exact .inl (ia _ (by simp))
 refine⟨Wd _ h.nd g,λx e=>?_,λl n=>?_,b _ h.sZ⟩
 ·rcases hH.mp e with y|y
  ·exact h.sf x (ib _ y)
  ·exact o x y
 ·have m:=n;rw[f]at m;rcases hH.mp m with z|z
  ·exact⟨(h.ent l z).1,λj i c d=>b _ ((h.ent l z).2 j i c d)⟩
  ·rw[List.mem_singleton.mp z];exact⟨h.sf k (by simp),λj i c d=>.inr (ia _ (List.mem_filterMap.mpr ⟨j,oa.mpr c,d⟩))⟩
theorem Rb.perm{ws:oB}{cm:oD}{tv d ps:ov}(h:Rb ws cm tv d [])(b:ps.Perm d):Rb ws cm tv ps []:=by
 have a:=b.map (·.1);exact⟨a.nodup_iff.mpr h.nd,h.sf,λe c=>⟨(h.ent e (b.mem_iff.mp c)).1,λj i f g=>((h.ent e (b.mem_iff.mp c)).2 j i f g).imp (λy=>a.mem_iff.mpr y) id⟩,h.sZ.imp (λy=>a.mem_iff.mpr y) id⟩
theorem Ie{tv:ov}{ws ls:oB}{cm:oD}{q:Int}{who:Nat}:J6 cm q (Ca tv ws ls cm q who):=λh=>by
 have a:Ek cm q=true:=by
  unfold Ca at h;exact(Bool.and_eq_true_iff.mp h).1
 unfold Ek at a;simpa using a
theorem m9{ws:oB}{cm:oD}{tv:ov}{k:oB×Int}(q:Bv ws cm tv)(f:Da ws cm)(h:Uf ws cm tv k):∀x∈(List.range ws.length).filterMap (M7 tv ws cm k),Uf ws cm tv x:=λx p=>by
 obtain⟨j,l,e⟩:=List.mem_filterMap.mp p;have a:=oa.mp l;obtain⟨m,n⟩:=h.2.1;obtain⟨r,i,_⟩:=I0 q n a e;refine⟨Z0 (λw o=>(f.1 w o).1) h.1 a ?_ e,⟨r,i⟩,.step h.2.2 a e⟩;have s:=Ie (tv:=tv) (ws:=ws) (ls:=k.1) (cm:=cm) (q:=k.2) (who:=j);unfold P5;cases g:Ca tv ws k.1 cm k.2 j with
 |false=>split<;>simp
 |true=>
  obtain⟨c,d⟩:=s g
  have b:Ek cm k.2=true:=by
   unfold Ek;simp[c,d]
  first
   |(rw[if_pos b];simp)
   | (split
      ·simp
      ·exact absurd (by simpa[Ek]using b) (by assumption))
def Jb(tv:ov)(ws:oB)(cm:oD)(H:Hp)(a:(oB×Int)×V)(u:V):Prop:=∃(p b t:Addr) (m:Int),u=.ref p/\H p=some (.tup [.ref b,.int m,.ref t])/\D9 H b a.1/\Af tv a.1=some (.int m)/\a.2=.ref t/\H t=some (.tup ((Fn tv ws a.1.1 cm a.1.2).map V.bl))
theorem Jb.up{tv:ov}{ws:oB}{cm:oD}{H a:Hp}{c:(oB×Int)×V}{u:V}(s:Aj H a)(h:Jb tv ws cm H c u):Jb tv ws cm a c u:=by
 obtain⟨p,b,t,m,d,e,f,g,i,j⟩:=h;exact⟨p,b,t,m,d,s _ _ e,f.up s,g,i,s _ _ j⟩
def Yq(tv:ov)(k:oB×Int):Int:=match Af tv k with
 |some (.int m)=>m
 |_=>0
def L1(tv:ov)(ws:oB)(cm:oD)(a:(oB×Int)×V):qE:=.tuple [dS a.1,.int (Yq tv a.1),.tuple ((Fn tv ws a.1.1 cm a.1.2).map PyData.bool)]
theorem Sx{H:Hp}:∀l:List Bool,aF H (l.map PyData.bool) (l.map V.bl)
 |[]=>by unfold aF;rfl
 |x::l=>by
  show aF H (PyData.bool x::l.map PyData.bool) (V.bl x::l.map V.bl);unfold aF;exact⟨_,_,rfl,vg x,Sx l⟩
theorem Jb.rp{tv:ov}{ws:oB}{cm:oD}{H:Hp}{a:(oB×Int)×V}{u:V}(h:Jb tv ws cm H a u):Rp H (L1 tv ws cm a) u:=by
 obtain⟨p,b,t,m,rfl,c,d,f,i,g⟩:=h;have e:Yq tv a.1=m:=by unfold Yq;rw[f]
 unfold L1;rw[e];unfold Rp;refine⟨p,_,rfl,c,?_⟩;unfold aF;refine⟨_,_,rfl,Sy d,?_⟩;unfold aF;refine⟨_,_,rfl,Ji m,?_⟩;unfold aF;refine⟨_,_,rfl,?_,?_⟩
 ·unfold Rp;exact⟨t,_,rfl,g,Sx _⟩
 ·unfold aF;rfl
theorem U0(tv:ov)(ws:oB)(cm:oD)(c:(oB×Int)×V):(L1 tv ws cm c).depth<=50:=by
 have a:∀l:List Bool,PyData.depthAll (l.map PyData.bool)=0:=by
  intro l
  induction l with
  |nil=>rfl
  |cons x l b=>simp only[List.map_cons,PyData.depthAll,PyData.depth,b];rfl
 unfold L1;simp only[PyData.depth,PyData.depthAll,Jx,a];omega
theorem Lm:∀l:List qE,PyData.canLayAll0 l=true->aJ l l=false
 |[],_=>rfl
 |x::l,h=>by
  have a:x.canLay0=true/\PyData.canLayAll0 l=true:=by simpa[PyData.canLayAll0]using h
  rw[aJ,if_pos (PySem.SeqAt.eqv_refl x a.1)];exact Lm l a.2
theorem Ou:∀l:List qE,PyData.canLayAll0 l=true->J2 l l
 |[],_=>by unfold J2;trivial
 |x::l,h=>by
  have a:x.canLay0=true/\PyData.canLayAll0 l=true:=by simpa[PyData.canLayAll0]using h
  unfold J2;rw[if_pos (PySem.SeqAt.eqv_refl x a.1)];exact Ou l a.2
theorem Ym{ws:oB}{cm:oD}{tv:ov}{H:Hp}{a b:(oB×Int)×V}{u:V}(g:Rp H (L1 tv ws cm a) u)(d:a.1∈Aq ws (qv cm))(f:b.1∈Aq ws (qv cm)):Ys (L1 tv ws cm a) (L1 tv ws cm b)/\Kl (L1 tv ws cm a) (L1 tv ws cm b)=decide ((Aq ws (qv cm)).idxOf a.1<(Aq ws (qv cm)).idxOf b.1):=by
 by_cases z:a.1=b.1
 ·have e:L1 tv ws cm b=L1 tv ws cm a:=by unfold L1;rw[z]
  have c:PyData.canLayAll0 [dS a.1,.int (Yq tv a.1),.tuple ((Fn tv ws a.1.1 cm a.1.2).map PyData.bool)]=true:=C6 _ _ g;rw[e,z,decide_eq_false (Nat.lt_irrefl _)];exact⟨Ou _ c,Lm _ c⟩
 ·refine⟨?_,?_⟩
  ·show J2 (dS a.1::_) (dS b.1::_);unfold J2;rw[Q8,if_neg (by simp[z])];exact kq _ _
  ·show aJ (dS a.1::_) (dS b.1::_)=_;rw[aJ,Q8,if_neg (by simp[z])];exact Ic (Dq ws (qv cm)) d f
def Mh(ws:oB)(cm:oD)(tv ps:ov):Prop:=Rb ws cm tv ps []/\ps.Pairwise λx y=>Kl (dS x.1) (dS y.1)=true
theorem Xc{ws:oB}{cm:oD}{tv c ps:ov}(h:Rb ws cm tv c [])(g:ps.Perm c)(i:ps.Pairwise λx y=>(Aq ws (qv cm)).idxOf x.1<=(Aq ws (qv cm)).idxOf y.1):Mh ws cm tv ps:=by
 have a:=h.perm g;refine⟨a,?_⟩;have f:=List.pairwise_map.mp a.nd;refine List.Pairwise.imp_of_mem (λ{x y} j l z=>?_) (i.and f);have d:=(a.ent x j).1.1;have b:=(a.ent y l).1.1;rw[Ic (Dq ws (qv cm)) d b];refine decide_eq_true (Nat.lt_of_le_of_ne z.1 λe=>z.2 ?_);have m:=List.idxOf_lt_length_of_mem d;have n:=List.idxOf_lt_length_of_mem b;rw[<- List.getElem_idxOf m,<- List.getElem_idxOf n];congr 1
theorem X9{l:List Bool}{j:Nat}{b:Bool}(h:l[j]?=some b):X8 (l.map V.bl) (j:Int)=some (.bl b):=by
 have a:=(bA.mp h).1;have e:(l.map V.bl)[j]?=some (.bl b):=by rw[List.getElem?_map,h];rfl
 exact Ma e
theorem Pb{ws:oB}{cm:oD}{tv b:ov}(h:Bv ws cm tv)(h':Bv ws cm b):∀(n:Nat) (k:oB×Int) (m:Int),m<=n->Af tv k=some (.int m)->(Af b k).isSome=true
 |0,k,m,g,c=>by
  obtain⟨m0,e,f,_⟩:=h.1 k _ c;cases e;omega
 |n+1,k,m,g,c=>by
  obtain⟨m0,e,f,j,o,_⟩:=h.1 k _ c;cases e;cases i:Af b k with
  |some v=>rfl
  |none=>
   obtain⟨d,p,q,r⟩:=h'.2 k j i;rcases o d p with z|⟨a,l,s,u,w⟩
   ·exact absurd z q
   ·have:=Pb h h' n a l (by omega) u;rw[r a s]at this;cases this
theorem Ii{ws:oB}{cm:oD}:∀(n:Nat) {tv b:ov},Bv ws cm tv->Bv ws cm b->∀(k:oB×Int) (m:Int),m<=n->Af tv k=some (.int m)->Af b k=some (.int m)
 |0,tv,b,h,c,k,m,s,d=>by
  obtain⟨m0,e,r,_⟩:=h.1 k _ d;cases e;omega
 |n+1,tv,b,h,c,k,m,s,d=>by
  have g:=@Ii ws cm n tv b h c;have i:=@Ii ws cm n b tv c h;obtain⟨m0,e,r,E,v,F⟩:=h.1 k _ d;cases e;have u:(Af b k).isSome=true:=Pb h c m.toNat k m (by omega) d;obtain⟨H,j⟩:=Option.isSome_iff_exists.mp u;obtain⟨o,q,D,_,G,w⟩:=c.1 k _ j;subst q
  have f:o<=m:=by
   rcases w with e|⟨l,x,y,A⟩
   ·omega
   ·rcases v l x with z|⟨a,p,B,C,I⟩
    ·exact absurd z y
    ·have:=A a p B (g a p (by omega) C);omega
  rcases Int.lt_or_eq_of_le f with z|z
  ·have:=i k o (by omega) j;rw[d]at this;cases this;omega
  ·rw[j,z]
theorem X2{ws:oB}{cm:oD}{tv b:ov}(h:Bv ws cm tv)(h':Bv ws cm b)(k:oB×Int):Af tv k=Af b k:=by
 cases e:Af tv k with
 |some v=>
  obtain⟨m,a,d,_⟩:=h.1 k v e;subst a;exact(Ii m.toNat h h' k m (by omega) e).symm
 |none=>
  cases c:Af b k with
  |none=>rfl
  |some v=>
   obtain⟨m,a,d,_⟩:=h'.1 k v c;subst a;have:=Ii m.toNat h' h k m (by omega) c;rw[e]at this;cases this
def Ju(ls:oB)(j:Nat):Prop:=j<ls.length/\(∀k,k<ls.length->ls.getD j 0<=ls.getD k 0)/\∀k,k<j->ls.getD j 0<ls.getD k 0
theorem Zu{ls:oB}{m:Int}{j:Nat}(c:∀a∈ls,m<=a)(h1:ls[j]?=some m)(d:∀k:Nat,k<j->ls[k]? ≠some m):Ju ls j:=by
 have f:=(bA.mp h1).1;have e:ls.getD j 0=m:=by rw[List.getD_eq_getElem?_getD,h1];rfl
 refine⟨f,λk b=>?_,λk b=>?_⟩
 ·rw[e];exact c _ (Ib b)
 ·rw[e];have g:=c _ (Ib (show k<ls.length by omega));have h:ls.getD k 0≠m:=λz=>d k b (by rw[S9 (by omega),z]);omega
def Bh(H a:Hp):Prop:=∀b o,H b=some o->(∀C c fs,o≠HO.ins C c fs)->a b=some o
theorem A8.aM{H a:Hp}(s:A8 H a):Bh H a:=λb o e _=>s b o e
theorem Bh.trans{H d f:Hp}(a:Bh H d)(b:Bh d f):Bh H f:=λc o e n=>b c o (a c o e n) n
theorem Bh.ins{H:Hp}{x C a:Addr}{fs c:List (Str×V)}(h:H x=some (.ins C a fs)):Bh H (upd H x (.ins C a c)):=λb o e n=>by
 rw[Ab (λz=>n C a fs (by rw[z,h]at e;exact(Option.some.inj e).symm))];exact e
theorem Bh.new{H a:Hp}{p:Addr}{o:HO}(e:Bh H a)(h:H p=none):Bh H (upd a p o):=λb u q n=>by
 rw[Ab (Ag q h)];exact e b u q n
theorem Bh.lst{H b:Hp}{a:Addr}{xs:List V}(s:Bh H b)(h:H a=some (.lst xs)):b a=some (.lst xs):=s _ _ h λ_ _ _=>HO.noConfusion
theorem Bh.tup{H b:Hp}{a:Addr}{xs:List V}(s:Bh H b)(h:H a=some (.tup xs)):b a=some (.tup xs):=s _ _ h λ_ _ _=>HO.noConfusion
theorem Ax.aM{H c:Hp}{a:Addr}{ws:oB}{b:oD}(s:Bh H c)(h:Ax H a ws b):Ax c a ws b:=by
 obtain⟨t,d,e⟩:=h;exact⟨t,s.tup d,s.tup e⟩
theorem Cc.aM{H b:Hp}{a:Addr}{ls:oB}{q:Int}(s:Bh H b)(h:Cc H a ls q):Cc b a ls q:=by
 obtain⟨t,c,d⟩:=h;exact⟨t,s.tup c,s.tup d⟩
def Dj(r:Addr)(k:Nat):List (Str×V):=[("row",.ref r),("asked",.int k)]
theorem Ss(r:Addr)(v:V):F0 "asked" v [("row",.ref r)]=([("row",.ref r),("asked",v)]:List (Str×V)):=by
 unfold F0;rw[if_neg (by decide)];rfl
theorem Pa(r:Addr)(k:Nat)(m:Int)(h:m=((k+1:Nat):Int)):F0 "asked" (.int m) (Dj r k)=Dj r (k+1):=by
 subst h;unfold Dj F0;rw[if_neg (by decide)];unfold F0;rw[if_pos rfl]
def Hc(us:oB)(k:Nat)(ls:oB)(v:Int):Prop:=(k<us.length->v=us.getD k 0)/\(us.length<=k->∃j:Nat,v=j/\Ju ls j)
theorem Hc.at{us ls:oB}{k:Nat}(h:k<us.length):Hc us k ls (us.getD k 0):=⟨λ_=>rfl,λz=>absurd h (by omega)⟩
theorem Hc.least{us ls:oB}{k j:Nat}(h:us.length<=k)(a:Ju ls j):Hc us k ls j:=⟨λz=>absurd z (by omega),λ_=>⟨j,rfl,a⟩⟩
theorem jh{bs:List Bool}{k:Nat}(h:k<bs.length):X8 (bs.map V.bl) (k:Int)=some (.bl (bs.getD k false)):=by
 refine Ma ?_;rw[List.getElem?_map,List.getElem?_eq_getElem h,List.getD_eq_getElem?_getD,List.getElem?_eq_getElem h];rfl
theorem X0{a:Type}{xs:List a}{i:Nat}{x:a}(h:xs[i]?=some x):xs.take (i+1)=xs.take i++[x]:=by
 rw[List.take_add_one,h];rfl
def Ei(L:oB)(i:Nat):oB:=(List.range i).filterMap λk=>if L.getD k 0=0 then some (k:Int)else none
theorem F7(L:oB)(i:Nat):Ei L (i+1)=Ei L i++(if L.getD i 0=0 then[(i:Int)]else[]):=by
 unfold Ei;rw[List.range_succ,List.filterMap_append];congr 1;by_cases h:L.getD i 0=0
 ·rw[if_pos h,List.filterMap_cons,List.filterMap_nil,if_pos h]
 ·rw[if_neg h,List.filterMap_cons,List.filterMap_nil,if_neg h]
theorem Iy(L:oB):∀i,(Ei L i).length<=i
 |0=>da _
 |i+1=>by
  rw[F7,List.length_append];have h:=Iy L i;split<;>simp<;>omega
theorem Ml{L:oB}{i:Nat}(hi:i<=L.length):Ei L i=[]↔(0:Int)∉L.take i:=by
 induction i with
 |zero=>simp[Ei]
 |succ i b=>
  have e:L[i]?=some (L.getD i 0):=by
   rw[List.getD_eq_getElem?_getD,List.getElem?_eq_getElem (show i<L.length by omega)];rfl
  rw[F7,X0 e,List.append_eq_nil_iff,b (by omega)];by_cases h:L.getD i 0=0
  ·rw[if_pos h,h];simp
  ·have a:¬(0=L.getD i 0):=λz=>h z.symm;simp only[if_neg h,List.mem_append,List.mem_singleton,a,or_false,and_true]
abbrev PR:=(oB×Int)×Nat×Bool
def Py(H:Hp)(r:PR)(u:V):Prop:=∃t s,u=.ref t/\H t=some (.tup [.ref s,.int (r.2.1:Nat),.bl r.2.2])/\Cc H s r.1.1 r.1.2
def Gf(H c:Hp):Prop:=∀b a,H b=some (.tup a)->c b=some (.tup a)
theorem A8.aZ{H a:Hp}(s:A8 H a):Gf H a:=λb c e=>s b _ e
theorem Bh.aZ{H a:Hp}(s:Bh H a):Gf H a:=λb c e=>s.tup e
theorem Gf.trans{H d f:Hp}(a:Gf H d)(b:Gf d f):Gf H f:=λc g e=>b c g (a c g e)
theorem Gf.lst{H:Hp}{D:Addr}{a:List V}{o:HO}(h:H D=some (.lst a)):Gf H (upd H D o):=λb c e=>by
 rw[Ab (λz=>by rw[z,h]at e;cases e)];exact e
theorem Cc.aZ{H b:Hp}{a:Addr}{ls:oB}{q:Int}(s:Gf H b)(h:Cc H a ls q):Cc b a ls q:=by
 obtain⟨t,c,d⟩:=h;exact⟨t,s _ _ c,s _ _ d⟩
theorem Py.aZ{H a:Hp}{r:PR}{u:V}(s:Gf H a)(h:Py H r u):Py a r u:=by
 obtain⟨t,x,e,b,c⟩:=h;exact⟨t,x,e,s _ _ b,c.aZ s⟩
theorem Fz{H a:Hp}{b:List PR}{us:List V}(s:Gf H a)(h:Ae (Py H) b us):Ae (Py a) b us:=h.imp λ_ _=>Py.aZ s
def He(H:Hp)(q:(oB×Int)×V)(u:V):Prop:=∃t b,u=.ref t/\H t=some (.tup [.ref b,q.2])/\D9 H b q.1
def Om(H:Hp)(q:(oB×Int)×V)(u:V):Prop:=∃t b w,u=.ref t/\H t=some (.tup [.ref b,w,q.2])/\D9 H b q.1
theorem Co{H a:Hp}{b:Addr}{k:oB×Int}(s:A8 H a)(h:D9 H b k):D9 a b k:=h.up λc d e=>s c _ e
theorem D9.of{H:Hp}{b:Addr}{ls:oB}{q:Int}(h:Cc H b ls q):D9 H b (ls,q):=h
theorem He.same{H a:Hp}{q:(oB×Int)×V}{u:V}(s:A8 H a)(h:He H q u):He a q u:=by
 obtain⟨t,b,e,c,d⟩:=h;exact⟨t,b,e,s _ _ c,Co s d⟩
theorem Om.same{H a:Hp}{q:(oB×Int)×V}{u:V}(s:A8 H a)(h:Om H q u):Om a q u:=by
 obtain⟨t,b,w,e,c,d⟩:=h;exact⟨t,b,w,e,s _ _ c,Co s d⟩
def si(kvs:ov)(k:oB×Int)(v:V):Prop:=Af kvs k=some v\/(Af kvs k=none/\∃j:Nat,v=.int j/\Ju k.1 j)
theorem He.aZ{H a:Hp}{q:(oB×Int)×V}{u:V}(s:Gf H a)(h:He H q u):He a q u:=by
 obtain⟨t,b,e,c,d⟩:=h;exact⟨t,b,e,s _ _ c,d.up s⟩
theorem Bh.dT{H a:Hp}{d:Addr}{kvs:ov}(s:Bh H a)(h:H d=some (.dT kvs)):a d=some (.dT kvs):=s _ _ h λ_ _ _=>HO.noConfusion
theorem Z5{a ls:oB}{k n:Nat}{v:Int}(h:Hc a k ls v)(c:∀x∈a,0<=x/\x<(n:Int))(d:ls.length=n):∃j:Nat,v=j/\j<n:=by
 rcases la k a.length with z|z
 ·have e:=h.1 z;have:=c _ (Ib z);exact⟨v.toNat,by omega,by omega⟩
 ·obtain⟨j,rfl,b⟩:=h.2 z;have:=b.1;exact⟨j,rfl,by omega⟩
theorem O1{kvs:ov}{k:oB×Int}{v:V}(h:Af kvs k=some v):k∈kvs.map (·.1):=by
 unfold Af at h;obtain⟨p,a,_⟩:=dI.mp h;have b:=List.find?_some a;have c:=List.mem_of_find?_eq_some a;have d:p.1=k:=by simpa using b
 rw[<- d];exact List.mem_map_of_mem c
theorem E1:∀(a kvs:ov),((kvs++a).map (·.1)).Nodup->B9 kvs a=kvs++a
 |[],kvs,_=>(List.append_nil _).symm
 |p::a,kvs,h=>by
  have c:p.1∉kvs.map (·.1):=λz=>by
   rw[List.map_append,List.map_cons]at h;exact(List.nodup_append.mp h).2.2 _ z _ cI rfl
  have b:Af kvs p.1=none:=by
   cases e:Af kvs p.1 with
   |none=>rfl
   |some v=>exact absurd (O1 e) c
  show B9 (B6 kvs p.1 p.2) a=_;rw[Cs p.2 b,E1 a _ (by rw[List.append_assoc];exact h),List.append_assoc];rfl
theorem Ep{H:Hp}{x a C:Addr}(d:H x=none)(c:H a=none):A8 H (upd (upd H a (.own x)) x (.ins C a [])):=λb o e=>by
 rw[Ab (Ag e d),Ab (Ag e c)];exact e
theorem K4{H c:Hp}{x a C:Addr}(d:H x=none)(f:H a=none)(h:∀b o,b≠x->(upd (upd H a (.own x)) x (.ins C a [])) b=some o->c b=some o):A8 H c:=λb o e=>h b o (Ag e d) (Ep d f b o e)
theorem ud{n:Nat}{i:Int}(h0:0<=i)(h1:i<(n:Int)):Yp n i=some i.toNat:=by
 unfold Yp;rw[if_pos h0,if_pos h1]
theorem Uv{b:Type}{H:Hp}{P:b->V->Prop}{d:b->qE}(c:∀r v,P r v->Rp H (d r) v):∀{a:List b}{us:List V},Ae P a us->aF H (a.map d) us
 |[],us,h=>by
  have:us=[]:=List.length_eq_zero_iff.mp h.1;rw[this];unfold aF;rfl
 |r::a,[],h=>by have:=h.1;simp at this
 |r::a,u::us,h=>by
  show aF H (d r::a.map d) (u::us);unfold aF;refine⟨u,us,rfl,c r u (h.2 0 r u rfl rfl),Uv c ⟨by simpa using h.1,λi g j e f=>h.2 (i+1) g j (by simpa using e) (by simpa using f)⟩⟩
theorem b6{H:Hp}{p:Addr}{us:List V}{ds:List qE}(e:H p=some (.lst us))(h:aF H ds us):Rp H (.list ds) (.ref p):=by
 unfold Rp;exact⟨p,us,rfl,e,h⟩
theorem F9{n:Nat}:∀{ds:List qE},(∀d∈ds,d.depth<=n)->PyData.depthAll ds<=n
 |[],_=>by simp[PyData.depthAll]
 |d::ds,h=>by
  have b:=h d cI;have c:=F9 λx a=>h x (ea d a);simp only[PyData.depthAll];omega
def Hx(ws:oB)(cm:oD)(b:List PR):oB×Int:=b.foldl (λa r=>(Ba ws a.1 r.2.1 r.2.2,Ci cm a.2 r.2.2)) (ws,0)
theorem ef{ws:oB}{cm:oD}{a:List PR}{r:PR}:Hx ws cm (a++[r])=(Ba ws (Hx ws cm a).1 r.2.1 r.2.2,Ci cm (Hx ws cm a).2 r.2.2):=by
 unfold Hx;rw[List.foldl_append];rfl
def xl(tv:ov)(ws:oB)(cm:oD)(ps:ov)(H:Hp):Prop:=∀a∈ps,∃t:Addr,a.2=.ref t/\H t=some (.tup ((Fn tv ws a.1.1 cm a.1.2).map V.bl))
theorem Z3{ws:oB}{cm:oD}{tv ps:ov}(j:Mh ws cm tv ps)(o:Bv ws cm tv){k:oB×Int}(n:k∈ps.map (·.1)):∃m:Int,Af tv k=some (.int m)/\1<=m/\k.1.length=ws.length/\(∀x∈k.1,1<=x):=by
 obtain⟨r,c,e⟩:=gB.mp n;subst e;obtain⟨⟨q,⟨m,b⟩,_⟩,_⟩:=j.1.ent r c;obtain⟨m0,d,h,_⟩:=o.1 _ _ b;cases d;obtain⟨f,g,_,_⟩:=E2 q;refine⟨m,b,h,f,λx p=>?_⟩;obtain⟨i,l,e⟩:=List.getElem_of_mem p;have a:=(g i (by omega)).1;rw[List.getD_eq_getElem?_getD,List.getElem?_eq_getElem l,e]at a;exact a
def Jf(a:List Bool)(k:Nat)(cm:oD)(q:Int):Bool:=decide (k<a.length)&&a.getD k false&&(!decide (cm=none)&&decide (q=0))
theorem Y4(a:List Bool)(k:Nat)(cm:oD)(q:Int):Jf a k cm q=(decide (k<a.length)&&a.getD k false&&(!decide (cm=none)&&decide (q=0))):=rfl
theorem Zx{a:List Bool}{k:Nat}{cm:oD}{q:Int}:J6 cm q (Jf a k cm q):=by
 intro h;unfold Jf at h;simp only[Bool.and_eq_true,Bool.not_eq_true',decide_eq_false_iff_not,decide_eq_true_eq]at h;exact⟨h.2.1,h.2.2⟩
def Rh(ws:oB)(cm:oD)(kvs:ov)(lo:Nat->Int->Bool)(a:List PR):Prop:=∀i r,a[i]?=some r->r.1=Hx ws cm (a.take i)/\Af kvs r.1=some (.int (r.2.1:Nat))/\r.2.2=lo i r.1.2
theorem Rh.nil{ws:oB}{cm:oD}{kvs:ov}{lo:Nat->Int->Bool}:Rh ws cm kvs lo []:=λi r h=>by simp at h
theorem Rh.snoc{ws:oB}{cm:oD}{kvs:ov}{lo:Nat->Int->Bool}{a:List PR}{j:Nat}{b:Bool}(h:Rh ws cm kvs lo a)(g:Af kvs (Hx ws cm a)=some (.int (j:Nat)))(f:b=lo a.length (Hx ws cm a).2):Rh ws cm kvs lo (a++[(Hx ws cm a,j,b)]):=λi r e=>by
 rcases la i a.length with z|z
 ·rw[List.getElem?_append_left z]at e;rw[List.take_append_of_le_length (by omega)];exact h i r e
 ·rw[List.getElem?_append_right z]at e
  have d:i-a.length=0:=by
   rcases Nat.eq_zero_or_pos (i-a.length)with y|y
   ·exact y
   ·rw[List.getElem?_eq_none (show 1<=i-a.length from y)]at e;cases e
  rw[d]at e;have c:r=(Hx ws cm a,j,b):=(eT e).symm;have l:i=a.length:=by omega
  subst l;rw[c,List.take_left' rfl];exact⟨rfl,g,f⟩
def Tl(ws:oB)(cm:oD)(kvs:ov):Prop:=(Af kvs (ws,0)).isSome=true/\∀b v,Af kvs b=some v->b.1.length=ws.length/\(∀x∈b.1,1<=x)/\∃j:Nat,v=.int (j:Nat)/\j<ws.length/\∀a,J6 cm b.2 a->(0:Int)∉Ba ws b.1 j a/\(Af kvs (Ba ws b.1 j a,Ci cm b.2 a)).isSome=true
theorem Gh{kvs:ov}{k:oB×Int}:(Af kvs k).isSome=true↔k∈kvs.map (·.1):=by
 constructor
 ·intro h;obtain⟨v,e⟩:=Option.isSome_iff_exists.mp h;exact O1 e
 ·intro h;cases e:Af kvs k with
  |some v=>rfl
  |none=>
   obtain⟨p,b,rfl⟩:=gB.mp h;unfold Af at e;have a:kvs.find? (λc=>decide (c.1=p.1))=none:=by simpa using e
   have:=List.find?_eq_none.mp a p b;simp at this
abbrev Kq:=(oB×Int)×Int
def PQ(H:Hp)(p:Kq)(u:V):Prop:=He H (p.1,.int p.2) u
theorem PQ.up{H a:Hp}{p:Kq}{u:V}(s:Aj H a)(h:PQ H p u):PQ a p u:=by
 obtain⟨t,b,e,c,d⟩:=h;exact⟨t,b,e,s _ _ c,d.up s⟩
def L4(ps:List Kq):ov:=ps.map λp=>(p.1,V.int p.2)
theorem Hj(ps:List Kq):(L4 ps).map (·.1)=ps.map (·.1):=by
 unfold L4;rw[List.map_map];rfl
theorem W8(ps:List Kq):(L4 ps).length=ps.length:=by
 unfold L4;rw[List.length_map]
def Yw(n:Nat)(ps:List Kq):Prop:=(∀p∈ps,p.1.1.length=n)/\ps.length<=2000
def Yz(ws:oB)(cm:oD)(ps:List Kq):Prop:=(ps.map (·.1)).Nodup/\(ws,0)∈ps.map (·.1)/\∀p∈ps,0<=p.2/\p.2<(ws.length:Int)/\∀b∈Ay ws p.1.1 cm p.1.2 p.2.toNat,∃k,b=some k/\k∈ps.map (·.1)
theorem Fy(kvs:ov)(k:oB×Int)(v:V):(B6 kvs k v).map (·.1)=if k∈kvs.map (·.1)then kvs.map (·.1)else kvs.map (·.1)++[k]:=by
 by_cases h:k∈kvs.map (·.1)
 ·rw[if_pos h]
  have a:(kvs.any λc=>decide (c.1=k))=true:=by
   obtain⟨p,b,e⟩:=gB.mp h;exact List.any_eq_true.mpr ⟨p,b,decide_eq_true e⟩
  unfold B6;rw[if_pos a,List.map_map];refine List.map_congr_left λp _=>?_;show(if p.1=k then(p.1,v)else p).1=p.1;split<;>rfl
 ·rw[if_neg h,Cs v (by
   cases e:Af kvs k with
   |none=>rfl
   |some w=>exact absurd (O1 e) h),List.map_append]
  rfl
theorem Qo:∀(a kvs:ov) (k:oB×Int),k∈(B9 kvs a).map (·.1)↔k∈kvs.map (·.1)\/k∈a.map (·.1)
 |[],kvs,k=>by
  show k∈kvs.map (·.1)↔_;simp
 |q::a,kvs,k=>by
  show k∈(B9 (B6 kvs q.1 q.2) a).map (·.1)↔_;rw[Qo a,Fy,List.map_cons,List.mem_cons];split
  ·rename_i h;constructor
   ·rintro(z|z)
    ·exact .inl z
    ·exact .inr (.inr z)
   ·rintro(z|z|z)
    ·exact .inl z
    ·rw[z];exact .inl h
    ·exact .inr z
  ·rw[List.mem_append,List.mem_singleton];constructor
   ·rintro((z|z)|z)
    ·exact .inl z
    ·exact .inr (.inl z)
    ·exact .inr (.inr z)
   ·rintro(z|z|z)
    ·exact .inl (.inl z)
    ·exact .inl (.inr z)
    ·exact .inr z
theorem Qn:∀(a kvs:ov),(B9 kvs a).length=kvs.length+a.length->(a.map (·.1)).Nodup/\∀k∈a.map (·.1),k∉kvs.map (·.1)
 |[],kvs,_=>⟨List.nodup_nil,λk b=>by cases b⟩
 |q::a,kvs,h=>by
  have g:(B9 (B6 kvs q.1 q.2) a).length=kvs.length+(a.length+1):=h;have i:=Ez a (B6 kvs q.1 q.2)
  have e:(B6 kvs q.1 q.2).length=if q.1∈kvs.map (·.1)then kvs.length else kvs.length+1:=by
   have:=congrArg List.length (Fy kvs q.1 q.2);rw[List.length_map]at this;rw[this];split
   ·rw[List.length_map]
   ·rw[List.length_append,List.length_map];rfl
  by_cases c:q.1∈kvs.map (·.1)
  ·rw[if_pos c]at e;omega
  rw[if_neg c]at e;obtain⟨f,d⟩:=Qn a (B6 kvs q.1 q.2) (by omega);rw[Fy,if_neg c]at d;refine⟨?_,λk b=>?_⟩
  ·rw[List.map_cons,List.nodup_cons];exact⟨λz=>d _ z (by simp),f⟩
  ·rw[List.map_cons,List.mem_cons]at b;rcases b with z|z
   ·rw[z];exact c
   ·exact λy=>d k z (ib _ y)
theorem Nd:∀(a kvs:ov),(a.map (·.1)).Nodup->(∀k∈a.map (·.1),k∉kvs.map (·.1))->(B9 kvs a).length=kvs.length+a.length
 |[],kvs,_,_=>rfl
 |q::a,kvs,h,g=>by
  rw[List.map_cons,List.nodup_cons]at h;have c:q.1∉kvs.map (·.1):=g q.1 (by simp);show(B9 (B6 kvs q.1 q.2) a).length=_;rw[Nd a _ h.2 (λk b=>?_)]
  ·have:=congrArg List.length (Fy kvs q.1 q.2);rw[List.length_map,if_neg c,List.length_append,List.length_map]at this;rw[this,List.length_cons];simp only[List.length_cons,List.length_nil];omega
  ·rw[Fy,if_neg c,List.mem_append,List.mem_singleton];rintro(z|z)
   ·exact g k (by rw[List.map_cons];exact ea _ b) z
   ·rw[z]at b;exact h.1 b
theorem Wh(ps:List Kq):(B9 [] (L4 ps)).length<ps.length↔¬(ps.map (·.1)).Nodup:=by
 have b:=Ez (L4 ps) [];have e:=W8 ps;constructor
 ·intro h a;have:=Nd (L4 ps) [] (by rw[Hj];exact a) (λk _ z=>by cases z);simp only[List.length_nil]at this;omega
 ·intro h;apply Classical.byContradiction;intro a;simp only[List.length_nil]at b;have:=(Qn (L4 ps) [] (by simp only[List.length_nil];omega)).1;rw[Hj]at this;exact h this
theorem ah(ps:List Kq)(k:oB×Int):(Af (B9 [] (L4 ps)) k).isSome=true↔k∈ps.map (·.1):=by
 rw[Gh,Qo,Hj];simp
theorem Wj{H:Hp}{ps:List Kq}{us:List V}(h:Ae (PQ H) ps us):us.length=(L4 ps).length/\∀(j:Nat) u q,us[j]?=some u->(L4 ps)[j]?=some q->∃t b,u=.ref t/\H t=some (.tup [.ref b,q.2])/\D9 H b q.1:=by
 refine⟨by rw[W8];exact h.1,λj u q c a=>?_⟩;unfold L4 at a;rw[List.getElem?_map]at a;obtain⟨p,d,rfl⟩:=dI.mp a;exact h.2 j p u d c
theorem Yl{ws:oB}{cm:oD}{a:List (oB×Int)}(b:Da ws cm)(d:a.Nodup)(e:∀k∈a,k∈Aq ws (qv cm)):a.length<=300:=by
 have g:=List.Nodup.length_le_of_subset d (show a ⊆ Aq ws (qv cm)from λk c=>e k c);have h:=G7 (ws:=ws) (q:=qv cm) (λw f=>(b.1 w f).1) (by have:=b.qv.1;omega);have i:=b.2.2.2.2;omega
theorem Ms{xs:List V}{lo hi:oD}{u:V}(h:u∈Iq xs lo hi):u∈xs:=List.mem_of_mem_drop (List.mem_of_mem_take h)
theorem u4{us:List V}{i:Int}(h0:0<=i)(h1:i<(us.length:Int)):∃u,X8 us i=some u/\u∈us:=by
 have a:i.toNat<us.length:=by omega
 refine⟨us[i.toNat],?_,nr a⟩;unfold X8 Yp;rw[if_pos h0,if_pos h1];exact eH a
theorem PQ.rp{H:Hp}{p:Kq}{u:V}(h:PQ H p u):Rp H (.tuple [dS p.1,.int p.2]) u:=by
 obtain⟨t,b,rfl,a,c⟩:=h;unfold Rp;refine⟨_,_,rfl,a,?_⟩;unfold aF;refine⟨_,_,rfl,Sy c,?_⟩;unfold aF;refine⟨_,_,rfl,Ji _,?_⟩;unfold aF;rfl
def dQ(p:Kq):qE:=.tuple [dS p.1,.int p.2]
theorem ou{H:Hp}{ps:List Kq}{us:List V}(h:Ae (PQ H) ps us):aF H (ps.map dQ) us:=Uv (λ_ _ y=>PQ.rp y) h
theorem Ru(ps:List Kq):(PyData.list (ps.map dQ)).depth<=60:=by
 have:=F9 (n:=50) (ds:=ps.map dQ) λd a=>by
  obtain⟨p,_,rfl⟩:=gB.mp a;unfold dQ;simp only[PyData.depth,PyData.depthAll,Jx];omega
 simp only[PyData.depth];omega
structure Eb where
 k:oB×Int
 r:Int
 a:List Bool
def EV(H:Hp)(p:Eb)(u:V):Prop:=∃t b m:Addr,u=.ref t/\H t=some (.tup [.ref b,.int p.r,.ref m])/\D9 H b p.k/\H m=some (.tup (p.a.map V.bl))
theorem EV.up{H a:Hp}{p:Eb}{u:V}(s:Aj H a)(h:EV H p u):EV a p u:=by
 obtain⟨t,b,m,e,c,d,f⟩:=h;exact⟨t,b,m,e,s _ _ c,d.up s,s _ _ f⟩
def Lj(ps:List Eb):ov:=ps.map λp=>(p.k,V.int p.r)
theorem Ee(ps:List Eb):(Lj ps).map (·.1)=ps.map (·.k):=by
 unfold Lj;rw[List.map_map];rfl
theorem W7(ps:List Eb):(Lj ps).length=ps.length:=by
 unfold Lj;rw[List.length_map]
def Yv(n:Nat)(ps:List Eb):Prop:=(∀p∈ps,p.k.1.length=n/\0<=p.k.2/\p.a.length<=20)/\ps.length<=2000
abbrev Ej(ps:List Eb):ov:=B9 [] (Lj ps)
def Pw(ws:oB)(cm:oD)(p:Eb):Prop:=p.a.length=ws.length/\(true∈p.a->cm≠none/\p.k.2=0)
def Oj(ws:oB)(cm:oD)(D:ov)(p:Eb)(w:Nat):Prop:=∀a,p.a[w]?=some a->∀k,Cw ws p.k.1 cm p.k.2 w a=some k->∃r,Af D k=some (.int r)/\r<p.r
def Yy(ws:oB)(cm:oD)(ps:List Eb):Prop:=(ps.map (·.k)).Nodup/\(ws,0)∈ps.map (·.k)/\∀p∈ps,1<=p.r/\Pw ws cm p/\∀w,w<ws.length->Oj ws cm (Ej ps) p w
theorem Sh(ps:List Eb):(Ej ps).length<ps.length↔¬(ps.map (·.k)).Nodup:=by
 have b:(Ej ps).length<=0+(Lj ps).length:=Ez (Lj ps) [];have e:=W7 ps;constructor
 ·intro h a;have:(Ej ps).length=0+(Lj ps).length:=Nd (Lj ps) [] (by rw[Ee];exact a) (λk _ z=>by cases z);omega
 ·intro h;apply Classical.byContradiction;intro a;have:=(Qn (Lj ps) [] (show(Ej ps).length=0+(Lj ps).length by omega)).1;rw[Ee]at this;exact h this
theorem lv(ps:List Eb)(k:oB×Int):(Af (Ej ps) k).isSome=true↔k∈ps.map (·.k):=by
 rw[Gh,Qo,Ee];simp
theorem gy{ps:List Eb}(h:(ps.map (·.k)).Nodup){p:Eb}(a:p∈ps):Af (Ej ps) p.k=some (.int p.r):=by
 have e:Ej ps=Lj ps:=E1 (Lj ps) [] (by rw[List.nil_append,Ee];exact h);rw[e];refine Bp (by rw[Ee];exact h) ?_;unfold Lj;exact gB.mpr ⟨p,a,rfl⟩
theorem Wa:∀(c:List Eb) (kvs:ov),(∀a∈kvs,∃r,a.2=V.int r)->∀a∈B9 kvs (Lj c),∃r,a.2=V.int r
 |[],kvs,h=>h
 |q::c,kvs,h=>by
  show∀a∈B9 (B6 kvs q.k (.int q.r)) (Lj c),_;refine Wa c _ λa b=>?_;unfold B6 at b;split at b
  ·obtain⟨x,d,rfl⟩:=gB.mp b;split
   ·exact⟨_,rfl⟩
   ·exact h x d
  ·rcases hH.mp b with z|z
   ·exact h a z
   ·rw[List.mem_singleton.mp z];exact⟨_,rfl⟩
theorem Zw{ps:List Eb}{k:oB×Int}{v:V}(h:Af (Ej ps) k=some v):∃r,v=.int r:=Wa ps [] (λb a=>by cases a) (k,v) (B7 h)
theorem ki{ws ls:oB}{cm:oD}{q:Int}{who:Nat}{a:Bool}(h:(0:Int)∉Ba ws ls who a):Cw ws ls cm q who a=some (Ba ws ls who a,Ci cm q a):=by
 unfold Cw;rw[if_neg h]
theorem gp(bs:List Bool):sd (V.bl true) (bs.map V.bl)=decide (true∈bs):=by
 unfold sd;rw[Bool.eq_iff_iff,List.any_eq_true,decide_eq_true_eq];constructor
 ·rintro⟨x,c,e⟩;obtain⟨b,a,rfl⟩:=gB.mp c;cases b with
  |true=>exact a
  |false=>simp[Zg]at e
 ·exact λh=>⟨V.bl true,gB.mpr ⟨true,h,rfl⟩,by simp[Zg]⟩
theorem gj(bs:List Bool):(bs.map V.bl).all En=true:=by
 rw[List.all_map];simp[En]
theorem gh{H:Hp}{ps:List Eb}{us:List V}(h:Ae (λ(e:Eb) u=>He H (e.k,.int e.r) u) ps us):us.length=(Lj ps).length/\∀(j:Nat) u q,us[j]?=some u->(Lj ps)[j]?=some q->∃t b,u=.ref t/\H t=some (.tup [.ref b,q.2])/\D9 H b q.1:=by
 refine⟨by rw[W7];exact h.1,λj u q c a=>?_⟩;unfold Lj at a;rw[List.getElem?_map]at a;obtain⟨p,d,rfl⟩:=dI.mp a;exact h.2 j p u d c
theorem m7{n k:Nat}(h:k<n):¬(HT.bK n 0 none=0/\HT.bK n n (some (k:Int))=n):=by
 rw[HT.iW];omega
theorem m8{n k:Nat}(h:k<n):¬(HT.bK n 0 (some ((k:Int)+1))=0/\HT.bK n n none=n):=by
 have e:((k:Int)+1)=((k+1:Nat):Int):=by omega
 rw[e,HT.iW];omega
theorem aw{H:Hp}:∀bs:List Bool,aF H (bs.map PyData.bool) (bs.map V.bl)
 |[]=>by unfold aF;rfl
 |b::bs=>by
  show aF H (PyData.bool b::bs.map PyData.bool) (V.bl b::bs.map V.bl);unfold aF;exact⟨_,_,rfl,by unfold Rp;rfl,aw bs⟩
def dE(p:Eb):qE:=.tuple [dS p.k,.int p.r,.tuple (p.a.map PyData.bool)]
theorem EV.rp{H:Hp}{p:Eb}{u:V}(h:EV H p u):Rp H (dE p) u:=by
 obtain⟨t,b,m,rfl,a,c,d⟩:=h;unfold dE Rp;refine⟨_,_,rfl,a,?_⟩;unfold aF;refine⟨_,_,rfl,Sy c,?_⟩;unfold aF;refine⟨_,_,rfl,Ji _,?_⟩;unfold aF;refine⟨_,_,rfl,?_,?_⟩
 ·unfold Rp;exact⟨_,_,rfl,d,aw _⟩
 ·unfold aF;rfl
theorem lf{H:Hp}{ps:List Eb}{us:List V}(h:Ae (EV H) ps us):aF H (ps.map dE) us:=Uv (λ_ _ y=>EV.rp y) h
theorem Z4(bs:List Bool):PyData.depthAll (bs.map PyData.bool)<=1:=by
 refine F9 (n:=1) λd a=>?_;obtain⟨b,_,rfl⟩:=gB.mp a;simp[PyData.depth]
theorem Rt(ps:List Eb):(PyData.list (ps.map dE)).depth<=60:=by
 have:=F9 (n:=50) (ds:=ps.map dE) λd a=>by
  obtain⟨p,_,rfl⟩:=gB.mp a;have:=Z4 p.a;unfold dE;simp only[PyData.depth,PyData.depthAll,Jx];omega
 simp only[PyData.depth];omega
theorem gw{es:List Eb}(f:(es.map (·.k)).Nodup){k:oB×Int}{r:Int}(h:Af (Ej es) k=some (.int r)):∃e∈es,e.k=k/\e.r=r:=by
 have c:Ej es=Lj es:=by
  have:=E1 (Lj es) [] (by rw[List.nil_append,Ee];exact f);rw[List.nil_append]at this;exact this
 rw[c]at h;have b:=B7 h;unfold Lj at b;obtain⟨e,d,z⟩:=gB.mp b;injection z with g a;injection a with a;exact⟨e,d,g,a⟩
theorem U9{ws:oB}{cm:oD}{n m:Int}(h0:1<=ws.length)(l:ws.length<=3)(o:∀x∈ws,1<=x/\x<=5)(e:ws.length=3->∀x∈ws,x<=4)(p:∀c,cm=some c->1<=c/\c<=2)(v:ws.length=3->∀c,cm=some c->c<=1):Da ws cm:=by
 have d:1<=qv cm/\qv cm<=3/\(ws.length=3->qv cm<=2):=by
  cases cm with
  |none=>exact⟨Int.le_refl _,by decide,λ_=>by decide⟩
  |some c=>
   have:=p c rfl;refine⟨by show 1<=c+1;omega,by show c+1<=3;omega,λh=>?_⟩;have:=v h c rfl;show c+1<=2;omega
 refine⟨λw q=>by have:=o w q;omega,λc h=>by have:=p c h;omega,by omega,by omega,?_⟩
 match ws,h0,l,o,e,d with
 |[a],_,_,h,_,d=>
  have f:=h a (by simp);have:=Int.mul_le_mul d.2.1 f.2 (by omega) (by decide);show qv cm*a<=300;omega
 |[a,b],_,_,h,_,d=>
  have f:=h a (by simp);have j:=h b (by simp);have g:=Int.mul_le_mul d.2.1 f.2 (by omega) (by decide);have i:=Int.mul_le_mul g j.2 (by omega) (by decide);show qv cm*a*b<=300;omega
 |[a,b,c],_,_,h,e,d=>
  have f:=h a (by simp);have j:=h b (by simp);have l:=h c (by simp);have r:=e rfl a (by simp);have s:=e rfl b (by simp);have u:=e rfl c (by simp);have g:=Int.mul_le_mul (d.2.2 rfl) r (by omega) (by decide);have i:=Int.mul_le_mul g s (by omega) (by decide);have y:=Int.mul_le_mul i u (by omega) (by decide);show qv cm*a*b*c<=300;omega
theorem EV.same{H a:Hp}{p:Eb}{u:V}(s:A8 H a)(h:EV H p u):EV a p u:=by
 obtain⟨t,b,m,e,c,⟨w,d,f⟩,g⟩:=h;exact⟨t,b,m,e,s _ _ c,⟨w,s _ _ d,s _ _ f⟩,s _ _ g⟩
def xp(tv:ov)(m:Int):Prop:=∃a∈tv,a.2=.int m
theorem Sr{ws:oB}{cm:oD}{tv:ov}(h:Bv ws cm tv)(f:(tv.map (·.1)).Nodup):∀(n:Nat) (m:Int),xp tv m->1<=m-n->xp tv (m-n)
 |0,m,b,_=>by
  rw[show m-((0:Nat):Int)=m by omega];exact b
 |n+1,m,b,A=>by
  obtain⟨i,l,e⟩:=b;have g:=Bp f (show(i.1,i.2)∈tv from l);rw[e]at g;obtain⟨m0,o,y,_,r,s⟩:=h.1 _ _ g;cases o;rcases s with z|⟨d,u,v,w⟩
  ·omega
  ·rcases r d u with z|⟨a,c,x,j,B⟩
   ·exact absurd z v
   ·have q:=w a c x j;have p:c=m-1:=by omega
    have:=Sr h f n (m-1) ⟨(a,.int c),B7 j,by rw[p]⟩ (by omega);rw[show m-((n+1:Nat):Int)=m-1-(n:Int)by omega];exact this
def Re(a:Bool)(ws:oB)(cm:oD)(R:Int)(H:Hp)(u:V):Prop:=match a with
 |true=>∃p:Kq,PQ H p u/\p.1∈Aq ws (qv cm)
 |false=>∃p:Eb,EV H p u/\p.k∈Aq ws (qv cm)/\p.a.length=ws.length/\p.r<=R
theorem Re.up{c:Bool}{ws:oB}{cm:oD}{R:Int}{H d:Hp}{u:V}(s:Aj H d)(h:Re c ws cm R H u):Re c ws cm R d u:=by
 cases c with
 |true=>
  obtain⟨p,a,b⟩:=h;exact⟨p,PQ.up s a,b⟩
 |false=>
  obtain⟨p,a,b⟩:=h;exact⟨p,EV.up s a,b⟩
theorem Re.mono{a:Bool}{ws:oB}{cm:oD}{R b:Int}{H:Hp}{u:V}(g:R<=b)(h:Re a ws cm R H u):Re a ws cm b H u:=by
 cases a with
 |true=>exact h
 |false=>
  obtain⟨p,c,d,e,f⟩:=h;exact⟨p,c,d,e,by omega⟩
theorem Tt{a:Type}{P:a->V->Prop}{X:a->Prop}:∀us:List V,(∀u∈us,∃p,P p u/\X p)->∃ps,Ae P ps us/\∀p∈ps,X p
 |[],_=>⟨[],Ae.nil,λp f=>by cases f⟩
 |u::us,h=>by
  obtain⟨ps,b,c⟩:=Tt us λv g=>h v (ea _ g);obtain⟨p,d,e⟩:=h u cI;refine⟨p::ps,Ae.cons d b,λx i=>?_⟩;rcases fe.mp i with z|z
  ·rw[z];exact e
  ·exact c x z
theorem Et{ws:oB}{q:Int}{k:oB×Int}(h:k∈Aq ws q):k.1.length=ws.length/\∀x∈k.1,1<=x:=by
 obtain⟨b,c,_,_⟩:=E2 h;refine⟨b,λx f=>?_⟩;obtain⟨i,d,e⟩:=List.getElem_of_mem f;have a:=(c i (by omega)).1;rw[List.getD_eq_getElem?_getD,List.getElem?_eq_getElem d,e]at a;exact a
def tm(ws:oB)(cm:oD)(tv:ov):Prop:=Bv ws cm tv/\(tv.map (·.1)).Nodup/\tv.length<=60000
theorem av{ws:oB}{cm:oD}{tv:ov}{k:oB×Int}{m:Int}(h:tm ws cm tv)(d:Af tv k=some (.int m)):1<=m/\m<=(tv.length:Int):=by
 obtain⟨c,n,q⟩:=h;obtain⟨m0,g,j,_⟩:=c.1 _ _ d;cases g;have o:xp tv m:=⟨(k,.int m),B7 d,rfl⟩;refine⟨j,?_⟩;have p:(List.range m.toNat).Nodup:=List.nodup_range
 have b:List.range m.toNat ⊆ tv.map λa=>match a.2 with| .int i=>(i-1).toNat|_=>0:=λi l=>by
  have r:=oa.mp l;obtain⟨a,f,e⟩:=Sr c n (m.toNat-(i+1)) m o (by omega);refine gB.mpr ⟨a,f,?_⟩;rw[e];show(m-((m.toNat-(i+1):Nat):Int)-1).toNat=i;omega
 have:=List.Nodup.length_le_of_subset p b;rw[List.length_range,List.length_map]at this;omega
theorem Vn{ws ls:oB}{cm:oD}{q:Int}{j:Nat}{a:Bool}(b:J6 cm q a):Cw ws ls cm q j a∈Ay ws ls cm q j:=by
 unfold Ay;cases a with
 |false=>exact cI
 |true=>
  have c:Ek cm q=true:=by
   obtain⟨d,e⟩:=b rfl;unfold Ek;simp[d,e]
  rw[if_pos c];simp
theorem Zq{ps:List Kq}{k:oB×Int}(h:k∈ps.map (·.1)):(Af (L4 ps) k).isSome=true:=by
 rw[Gh,Hj];exact h
theorem Zv{ws:oB}{cm:oD}{ps:List Kq}(h:Yz ws cm ps)(w:∀p∈ps,p.1∈Aq ws (qv cm)):Tl ws cm (B9 [] (L4 ps)):=by
 obtain⟨s,q,u⟩:=h
 have i:B9 [] (L4 ps)=L4 ps:=by
  have:=E1 (L4 ps) [] (by rw[List.nil_append,Hj];exact s);rw[List.nil_append]at this;exact this
 rw[i];refine⟨Zq q,λA v x=>?_⟩;have b:=B7 x;unfold L4 at b;obtain⟨p,a,e⟩:=gB.mp b;obtain⟨rfl,rfl⟩:=Prod.mk.inj e;obtain⟨l,m⟩:=Et (w p a);obtain⟨n,y,o⟩:=u p a;refine⟨l,m,p.2.toNat,by rw[Int.toNat_of_nonneg n],by omega,λc r=>?_⟩;obtain⟨z,j,g⟩:=o _ (Vn r);obtain⟨d,f⟩:=Rm j;exact⟨d,by rw[<- f];exact Zq g⟩
def se:V->Int
 | .int i=>i
 |_=>0
theorem Xw{ws:oB}{cm:oD}{tv ps:ov}{us:List V}{H:Hp}(f:ke ws cm tv ps)(c:Ae (rk H) ps us):∃m:List Kq,Ae (PQ H) m us/\Yz ws cm m/\∀p∈m,p.1∈Aq ws (qv cm):=by
 have g:(ps.map λa=>(a.1,se a.2)).map (·.1)=ps.map (·.1):=by
  rw[List.map_map];rfl
 refine⟨ps.map λa=>(a.1,se a.2),⟨by rw[List.length_map];exact c.1,λi q v n C=>?_⟩,⟨by rw[g];exact f.1.nd,(by rw[g];exact f.1.sZ.resolve_right λy=>by cases y),λp l=>?_⟩,λp l=>?_⟩
 ·rw[List.getElem?_map]at n;obtain⟨a,d,rfl⟩:=dI.mp n;obtain⟨_,j,h,_⟩:=f.1.ent a (b5 d);obtain⟨t,b,e,u,w⟩:=c.2 i a v d C;refine⟨t,b,e,?_,w⟩;rw[u,h];rfl
 ·obtain⟨a,d,rfl⟩:=gB.mp l;obtain⟨_,j,h,x,A⟩:=f.1.ent a d;have e:se a.2=(j:Int):=by rw[h];rfl
  have E:=x.1;refine⟨by show 0<=se a.2;omega,by show se a.2<_;omega,λo B=>?_⟩;have r:o∈Ay ws a.1.1 cm a.1.2 (se a.2).toNat:=B;rw[e,Int.toNat_natCast]at r;obtain⟨D,s,z⟩:=A o r;exact⟨D,s,by rw[g];exact z.resolve_right λy=>by cases y⟩
 ·obtain⟨a,d,rfl⟩:=gB.mp l;exact(f.1.ent a d).1.1
theorem Uu{tv:ov}{k:oB×Int}{m:Int}(h:Af tv k=some (.int m)):Yq tv k=m:=by
 unfold Yq;rw[h]
theorem Lh{ws:oB}{cm:oD}{tv ps:ov}{us:List V}{H:Hp}(B:Bv ws cm tv)(h:Mh ws cm tv ps)(d:Ae (Jb tv ws cm H) ps us):∃es:List Eb,Ae (EV H) es us/\Yy ws cm es/\∀e∈es,e.k∈Aq ws (qv cm)/\e.a.length=ws.length/\Af tv e.k=some (.int e.r):=by
 obtain⟨es,g⟩:∃es:List Eb,es=ps.map λa=>⟨a.1,Yq tv a.1,Fn tv ws a.1.1 cm a.1.2⟩:=⟨_,rfl⟩
 have u:es.map (·.k)=ps.map (·.1):=by
  rw[g,List.map_map];rfl
 have n:(es.map (·.k)).Nodup:=by
  rw[u];exact h.1.nd
 have o:∀a∈ps,Af tv a.1=some (.int (Yq tv a.1)):=λa c=>by
  obtain⟨⟨_,⟨m,A⟩,_⟩,_⟩:=h.1.ent a c;rw[A,Uu A]
 have R:Ej es=Lj es:=by
  have:=E1 (Lj es) [] (by rw[List.nil_append,Ee];exact n);rw[List.nil_append]at this;exact this
 refine⟨es,⟨by rw[g,List.length_map];exact d.1,λi e v f q=>?_⟩,⟨n,(by rw[u];exact h.1.sZ.resolve_right λy=>by cases y),λe f=>?_⟩,λe f=>?_⟩
 ·rw[g,List.getElem?_map]at f;obtain⟨a,c,rfl⟩:=dI.mp f;obtain⟨p,b,t,m,z,I,J,K,T,L⟩:=d.2 i a v c q;refine⟨p,b,t,z,?_,J,L⟩;rw[I];show some (HO.tup [.ref b,.int m,.ref t])=some (HO.tup [.ref b,.int (Yq tv a.1),.ref t]);rw[Uu K]
 ·rw[g]at f;obtain⟨a,c,rfl⟩:=gB.mp f;obtain⟨m,x,z,_⟩:=B.1 _ _ (o a c);injection x with x;refine⟨by show 1<=Yq tv a.1;omega,⟨Dg _ _ _ _ _,λO=>?_⟩,λw r j N k M=>?_⟩
  ·have E:true∈(List.range ws.length).map λw=>Ca tv ws a.1.1 cm a.1.2 w:=O;obtain⟨w,_,G⟩:=gB.mp E;exact Ie G
  ·have s:(Fn tv ws a.1.1 cm a.1.2)[w]?=some j:=N;rw[M8 r]at s;cases s;have D:Cw ws a.1.1 cm a.1.2 w (Ca tv ws a.1.1 cm a.1.2 w)=some k:=M;obtain⟨C,F,_,S⟩:=I0 B (o a c) r D;have P:=((h.1.ent a c).2 w k r D).resolve_right λy=>by cases y
   obtain⟨l,Q,rfl⟩:=gB.mp P;refine⟨C,?_,by show C<Yq tv a.1;omega⟩;rw[R];refine Bp (by rw[Ee];exact n) ?_;unfold Lj;rw[g,List.map_map];refine gB.mpr ⟨l,Q,?_⟩;show(l.1,V.int (Yq tv l.1))=_;rw[Uu F]
 ·rw[g]at f;obtain⟨a,c,rfl⟩:=gB.mp f;exact⟨(h.1.ent a c).1.1,Dg _ _ _ _ _,o a c⟩
theorem Po{ws:oB}{cm:oD}{tv:ov}{k:oB×Int}{m:Int}(e:Da ws cm)(d:Bv ws cm tv)(c:(tv.map (·.1)).Nodup)(a:Af tv k=some (.int m)):m<=300:=by
 have f:=Yl e c λk b=>by
  rw[<- Gh]at b;obtain⟨v,a⟩:=Option.isSome_iff_exists.mp b;obtain⟨_,_,_,h,_⟩:=d.1 k v a;exact h
 rw[List.length_map]at f;have g:=(av ⟨d,c,by omega⟩ a).2;omega
theorem W0{H:Hp}:∀{es:List Eb}{us:List V},Ae (EV H) es us->∃kvs:ov,Ae (Om H) kvs us/\kvs.map (·.1)=es.map (·.k)/\∀e∈es,∃t:Addr,(e.k,V.ref t)∈kvs/\H t=some (.tup (e.a.map V.bl))
 |[],us,h=>by
  have:us=[]:=List.length_eq_zero_iff.mp h.1;subst this;exact⟨[],Ae.nil,rfl,λe p=>by cases p⟩
 |e::es,[],h=>by
  have:=h.1;simp at this
 |e::es,u::us,h=>by
  have n:EV H e u:=h.2 0 e u rfl rfl;have o:Ae (EV H) es us:=⟨by have:=h.1;simpa using this,λi r v a b=>h.2 (i+1) r v a b⟩;obtain⟨kvs,g,j,l⟩:=W0 o;obtain⟨t,b,m,f,q,s,w⟩:=n;refine⟨(e.k,.ref m)::kvs,Ae.cons ⟨t,b,.int e.r,f,q,s⟩ g,by rw[List.map_cons,List.map_cons,j],λd c=>?_⟩;rcases fe.mp c with z|z
  ·rw[z];exact⟨m,cI,w⟩
  ·obtain⟨y,m1,x⟩:=l d z;exact⟨y,ea _ m1,x⟩
theorem f9:Av [V.aX] [Value.none]:=.cons rfl .nil
theorem Kh:Av [V.bl false] [Value.bool false]:=.cons rfl .nil
theorem Vh:Av [V.bl false] [Value.bool false]:=.cons rfl .nil
theorem wx{us:List oI}(h:us.length=0):us=[]:=List.length_eq_zero_iff.mp h
theorem re{us:List oI}(h:us.length=1):∃b,us=[b]:=by
 cases us with
 |nil=>cases h
 |cons a us=>
  obtain rfl:=wx (Nat.succ.inj h);exact⟨a,rfl⟩
theorem rf{us:List oI}(h:us.length=2):∃c b,us=[c,b]:=by
 cases us with
 |nil=>cases h
 |cons a us=>
  obtain⟨b,rfl⟩:=re (Nat.succ.inj h);exact⟨a,b,rfl⟩
theorem j5{us:List oI}(h:us.length=3):∃d b c,us=[d,b,c]:=by
 cases us with
 |nil=>cases h
 |cons a us=>
  obtain⟨b,c,rfl⟩:=rf (Nat.succ.inj h);exact⟨a,b,c,rfl⟩
theorem rg{us:List oI}(h:us.length=4):∃e b c d,us=[e,b,c,d]:=by
 cases us with
 |nil=>cases h
 |cons a us=>
  obtain⟨b,c,d,rfl⟩:=j5 (Nat.succ.inj h);exact⟨a,b,c,d,rfl⟩
seal Ri PS PE PT PA PI PG PW
structure Gk(P:oT)(w:px)(K:W.Frag)(mg:Str->Option oI)(base:Heap)(k:Nat)(f:Addr)(ps:List Str)(sp:Sp)(fd:pa):Prop where
 g:Bg P w K mg base Dr k f fd ps sp
 b:D1 K fd ps []
section
variable {P:oT}{w:px}{K:W.Frag}{mg:Str->Option oI}{base:Heap}{ad:yv}{aE aB aA aD aC:Addr}
variable (T:yx K mg ad aE aB aA aD aC)
include T
def dy(K:W.Frag):Sp:=λf H Q _=>Rf λ(a:Addr) (b:oB) (e:oD)=>Tm (f=[.ref a,vO e]) (H a=some (.lst (b.map V.int))) (0<b.length) (b.length<=8) ((∀x∈b,1<=x)) ((∀c,e=some c->1<=c)) (∀(p:Addr) (d:Hp),A8 H d->Ax d p b e->Q (.ref p) d)
theorem nz{l:pa}(F:Rg K "hall_of" "hall_of" Gx ad.cY l):Bg P w K mg base Dr 1 ad.cY l ["waits","calm"] (dy K):=by
 refine F.ok qp (λC H Q E h=>?_) (λD A g s H C Q E G h=>?_)
 ·rcases h with⟨a,b,f,rfl,d,j,y,i,n,q⟩<;>rfl
 ·obtain⟨a,b,f,rfl,d,j,y,i,n,q⟩:=h;refine⟨_,(A6 (Bt (PW.pt (ow (B0 Ho (As (B8 K) (by rfl) T.bB PySem.boot_len (A0 (pv 0) A7)) Ad (Au _)) (Hs (B0 jl (As (B8 K) (by rfl) T.bB PySem.boot_len (A0 (pv 0) A7)) (Wi (v:=.int 8) (by rfl) T.fS.choose_spec ⟨_,rfl⟩) (Au _))))) (A9 Fx) Ap) (A6 (Bt (B0 Ho (As (Ot K rfl) (by rfl) T.uM boot_min (A0 (pv 0) A7)) Ad (Au _)) (A9 Fx) Ap) (A6 (Bt (PW.pt (Wl (B0 K5 (pv 1) Dd (Au _)) (Qt (B0 Ho (pv 1) Ad (Au _))))) (A9 Fx) Ap) (A9 (Ah (Cm (A0 (Bn Fg (by rfl) T.kX boot_tuple (A0 (pv 0) A7)) (A0 (pv 1) A7)))))))),?_⟩;refine⟨_,rfl,a,_,rfl,.inl (Be.of d),_,_,rfl,rfl,_,rfl,false,λ_ r z=>⟨_,rfl,a,_,rfl,.inl (Be.of d),_,_,rfl,rfl,_,rfl,?_⟩,Dm ?_ ?_⟩
  ·have e:decide (((b.map V.int).length:Int)>8)=false:=l7 (by rw[List.length_map];omega)
   first|(rw[e];exact z)|(rw[show decide ((8:Int)<((b.map V.int).length:Int))=false from decide_eq_false (by rw[List.length_map];omega)];exact z)
  ·rw[decide_eq_false (show¬((b.map V.int).length:Int)<1 by rw[List.length_map];omega)];rfl
  refine⟨_,rfl,a,b,rfl,.inl (Be.of d),j,λm u _=>⟨_,_,rfl,rfl,_,rfl,Dm ?_ ?_⟩⟩
  ·have:=i m u;exact l7 (by omega)
  refine⟨_,rfl,rfl,_,rfl,false,λe r z=>?_,Dm ?_ ?_⟩
  ·cases f with
   |none=>simp[vO]at e
   |some c=>
    have:=n c rfl;refine⟨_,rfl,_,_,rfl,rfl,_,rfl,?_⟩;rw[decide_eq_false (show¬c<1 by omega)];exact z
  ·rw[Bool.and_false]
  refine⟨_,rfl,a,_,rfl,.inl ⟨Be.of d,λt x=>⟨_,rfl,Br,λp v=>?_⟩⟩⟩;have B:A8 H (upd H t (.tup (b.map V.int))):=A8.upd x;have o:A8 (upd H t (.tup (b.map V.int))) (upd (upd H t (.tup (b.map V.int))) p (.tup [.ref t,vO f])):=A8.upd v;exact q p _ (B.trans o) ⟨t,A5,o _ _ A5⟩
def Hw(K:W.Frag):Sp:=λe H Q _=>Rf λ(a:Addr) (c:oB) (d:oD)=>O5 (e=[.ref a]) (Ax H a c d) (∀(p:Addr) (b:Hp),A8 H b->Cc b p c 0->Q (.ref p) b)
theorem nk{c:pa}(F:Ea K "beginning" "beginning" bw ad.cH c):Bg P w K mg base Dr 1 ad.cH c ["hall"] (Hw K):=by
 refine F.ok qm (λi H Q E h=>?_) (λl A b s H i Q E m h=>?_)
 ·rcases h with⟨a,j,g,rfl,⟨t,d,f⟩,q⟩<;>rfl
 ·obtain⟨a,j,g,rfl,⟨t,d,f⟩,q⟩:=h;refine⟨_,(A9 (Ah (Cm (A0 (Bk (Bj K) (pv 0) Ad (λ_ _=>rfl)) (A0 Ad A7))))),?_⟩;refine⟨_,rfl,a,_,_,_,rfl,rfl,.inr (Bm.of d),rfl,?_⟩;exact⟨Br,λp e=>q p _ (A8.upd e) ⟨t,A5,A8.upd e _ _ f⟩⟩
def Jn(K:W.Frag):Sp:=λe H Q _=>fh λ(a b:Addr) (f d:oB) (c:oD) (q:Int)=>Pt (e=[.ref a,.ref b]) (Ax H a f c) (Cc H b d q) (Q (.bl (!decide (c=none)&&decide (q=0))) H)
theorem nt{e:pa}(F:Ea K "may_lose" "may_lose" c8 ad.cN e):Bg P w K mg base Dr 1 ad.cN e ["hall","standing"] (Jn K):=by
 refine F.ok qo (λl H Q E h=>?_) (λp A d s H l Q E r h=>?_)
 ·rcases h with⟨a,b,m,j,c,n,rfl,⟨t,f,_⟩,⟨u,g,_⟩,q⟩<;>rfl
 ·obtain⟨a,b,m,j,c,n,rfl,⟨t,f,_⟩,⟨u,g,_⟩,q⟩:=h;refine⟨_,(A9 (Ah (E6 (Cj K5 (Bk (Bj K) (pv 0) Ad (λ_ _=>rfl)) Dd (Au _)) (Jg (Cj Hn (Bk (Bj K) (pv 1) Ad (λ_ _=>rfl)) Ad (Au _)))))),?_⟩;refine⟨_,rfl,a,_,_,_,rfl,rfl,.inr (Bm.of f),rfl,rfl,_,decide (V.int n=V.int 0),rfl,λ_ o z=>⟨_,rfl,b,_,_,_,rfl,rfl,.inr (Bm.of g),rfl,rfl,z⟩,?_⟩;have i:decide (V.int n=V.int 0)=decide (n=0):=by simp
  rw[rh,i];exact q
def V2(K:W.Frag):Sp:=λe H Q _=>X3 λ(a:Addr) (d:oB) (c:oD) (b:Int)=>O5 (e=[.ref a,.int b]) (Ax H a d c) (Q (.bl (decide (0<=b/\b<d.length))) H)
theorem mr{g:pa}(F:Ea K "is_listener" "is_listener" bj ad.eR g):Bg P w K mg base Dr 1 ad.eR g ["hall","who"] (V2 K):=by
 refine F.ok qf (λi H Q E h=>?_) (λl A d s H i Q E m h=>?_)
 ·rcases h with⟨a,c,b,who,rfl,⟨t,e,f⟩,q⟩<;>rfl
 ·obtain⟨a,c,b,who,rfl,⟨t,e,f⟩,q⟩:=h;refine⟨_,(A9 (Ah (E6 (Cj jk (pv 1) Ad (Au _)) (Jg (Cj Ho (pv 1) (As (B8 K) (by rfl) T.bB PySem.boot_len (A0 (Bk (Bj K) (pv 0) Ad (λ_ _=>rfl)) A7)) (Au _)))))),?_⟩;refine⟨_,rfl,_,_,rfl,rfl,_,decide (who<(c.length:Int)),rfl,λ_ j z=>⟨_,rfl,_,rfl,a,_,_,_,rfl,rfl,.inr (Bm.of e),rfl,t,_,rfl,.inr (Bm.of f),_,_,rfl,rfl,?_⟩,?_⟩
  ·rw[List.length_map];exact z
  ·rw[show(decide (who>=0)&&decide (who<(c.length:Int)))=decide (0<=who/\who<(c.length:Int))by rw[Bool.decide_and]];exact q
def ju(K:W.Frag):Sp:=λh H Q _=>fi λ(a b:Addr) (f g:oB) (c:oD) (q:Int) (e:Nat) (d:Bool)=>Ls (h=[.ref a,.ref b,.int e,.bl d]) (Ax H a f c) (Cc H b g q) (e<f.length) (J6 c q d) (Q .aX H)
theorem uj{j B u:pa}(F:Ea K "refuse_wrong_turn" "refuse_wrong_turn" pk ad.mS j)(l:Gk P w K mg base 1 ad.eR ["hall","who"] (V2 K) B)(i:Gk P w K mg base 1 ad.cN ["hall","standing"] (Jn K) u):Bg P w K mg base Dr 2 ad.mS j ["hall","standing","who","lost"] (ju K):=by
 refine F.ok vq (λC H Q E h=>?_) (λG A g s H C Q E p h=>?_)
 ·rcases h with⟨a,b,f,r,c,n,who,d,rfl,e,m,y,o,q⟩<;>rfl
 ·obtain⟨a,b,f,r,c,n,who,d,rfl,e,m,y,o,q⟩:=h;refine⟨_,(A6 (Bt (D8 (D5 (Ac l.g (p.mono (by decide)) rfl T.zQ T.zR l.b .nil Ai (A0 (pv 0) (A0 (pv 2) A7))))) (A9 Fx) Ap) (A9 (Bt (PW.pt (Wl (D5 (pv 3)) (Qt (D8 (D5 (Ac i.g (p.mono (by decide)) rfl T.kG T.kH i.b .nil Ai (A0 (pv 0) (A0 (pv 1) A7)))))))) (A9 Fx) Ap))),?_⟩;obtain⟨t,I,J⟩:=id e;refine⟨_,rfl,_,rfl,a,f,c,(who:Int),rfl,e,_,rfl,Dm ?_ ?_⟩
  ·rw[decide_eq_true (show(0:Int)<=(who:Int)/\(who:Int)<(f.length:Int)by omega)];rfl
  refine⟨_,rfl,_,rfl,!(!decide (c=none)&&decide (n=0)),λ_ D z=>⟨_,rfl,_,rfl,a,b,f,r,c,n,rfl,e,m,_,rfl,z⟩,Dm ?_ q⟩;cases d with
  |false=>rfl
  |true=>
   obtain⟨v,x⟩:=o rfl;simp[v,x]
def V3(K:W.Frag):Sp:=λi H Q _=>fi λ(a b:Addr) (f h:oB) (d:oD) (q:Int) (e:Nat) (c:Bool)=>Pu (i=[.ref a,.ref b,.int e,.bl c]) (Ax H a f d) (Cc H b h q) (e<f.length) (h.length=f.length) (f.length<=8) (J6 d q c) (∀(l:Addr) (g:Hp),H l=none->A8 H g->g l=some (.lst ((Ba f h e c).map V.int))->Q (.ref l) g)
theorem ms{I R:pa}(F:Ea K "left_behind" "left_behind" Wr ad.eS I)(O:Gk P w K mg base 2 ad.mS ["hall","standing","who","lost"] (ju K) R):Bg P w K mg base Dr 3 ad.eS I ["hall","standing","who","lost"] (V3 K):=by
 refine F.ok cr (λvs H Q E h=>?_) (λaR A C s H vs Q E hr h=>?_)
 ·rcases h with⟨a,b,G,g,f,n,who,c,rfl,r,v,z,hl,Y,J,q⟩<;>rfl
 ·obtain⟨a,b,G,g,f,n,who,c,rfl,r,v,z,hl,Y,J,q⟩:=h;refine⟨_,(A6 (E9 (Ac O.g (hr.mono (by decide)) rfl T.XO T.XQ O.b .nil Ai (A0 (pv 0) (A0 (pv 1) (A0 (pv 2) (A0 (pv 3) A7)))))) (A6 (De (i:=4) cr.nd rfl (Di (Bk (Bj K) (pv 1) Ad (λ_ _=>rfl))) _ rfl Ku rfl rfl (λ_ _ _ _=>(Al (i:=0) L7 rfl (Or.inl rfl))) (λ_ _ _ _=>D0) (λ_ _ _ _=>(Bd ag (pv 0) Ad)) rfl rfl) (A6 (El (D8 (D5 (pv 3))) (A9 (Qq (Bk (Bj K) (Bk (Bj K) (pv 0) Ad (λ_ _=>rfl)) (pv 2) (λ_ _=>rfl)) (ap (pv 4) (pv 2) Tb))) Ap) (A9 (Ah (pv 4)))))),?_⟩;obtain⟨t,S,U⟩:=id r;obtain⟨u,nG,N⟩:=id v;refine⟨_,rfl,_,rfl,_,rfl,_,rfl,a,b,G,g,f,n,who,c,rfl,r,v,z,J,?_⟩;refine⟨_,rfl,b,_,_,_,rfl,rfl,.inr (Bm.of nG),rfl,u,rfl,.inr ⟨⟨_,Bm.of N⟩,λD m=>?_⟩⟩;refine Z7 (K:=K) (a:=u) (xs:=g.map V.int) (λi j d=>j=((g.take i).map (λx=>x-1)).map V.int/\d D=some (.lst j)/\A8 H d) ⟨rfl,A5,A8.upd m⟩ (by rintro i j d _ ⟨_,_,s⟩;exact Bm.of (s _ _ N)) ?_ ?_
  ·rintro i x j d L ⟨rfl,nH,s'⟩ Qe Z;rw[List.getElem?_map]at L;obtain⟨y,M,rfl⟩:=dI.mp L;have hi:=(bA.mp M).1;refine⟨_,rfl,_,_,rfl,rfl,Z _ _ nH (Bb (by simp;omega)) ⟨?_,A5,s'.new m⟩⟩;rw[List.take_add_one,M];simp
  rintro j H2 ⟨rfl,B,o⟩;rw[List.length_map,List.take_length]at B;refine⟨_,rfl,_,rfl,(λl d=>l=[some (.ref a),some (.ref b),some (.int (who:Nat)),some (.bl c),some (.ref D)]/\A8 H d/\d D=some (.lst ((Ba G g who c).map V.int))),λe=>?_,λe=>?_,?_⟩
  ·have p:c=false:=by simpa using e
   subst p;refine⟨_,rfl,a,_,_,_,rfl,rfl,.inr (Bm.of (o _ _ S)),rfl,_,rfl,t,_,_,_,rfl,rfl,.inr (Bm.of (o _ _ U)),W4 z,?_⟩;refine⟨_,rfl,_,rfl,D,_,_,_,rfl,rfl,B,gr (by simp;omega),rfl,o.new m,?_⟩;rw[A5];unfold Ba;simp
  ·have p:c=true:=by simpa using e
   subst p;exact⟨rfl,o,B⟩
  ·rintro l d ⟨rfl,s3,X⟩;exact⟨_,rfl,q D d m s3 X⟩
def d7(K:W.Frag):Sp:=λf H Q _=>fk λ(a b:Addr) (g e:oB) (c:oD) (q:Int) (d:Bool)=>Gc (f=[.ref a,.ref b,.bl d]) (Ax H a g c) (Cc H b e q) (J6 c q d) (Q (.int (Ci c q d)) H)
theorem mm{i:pa}(F:Ea K "quiet_behind" "quiet_behind" bg ad.gE i):Bg P w K mg base Dr 1 ad.gE i ["hall","standing","lost"] (d7 K):=by
 refine F.ok qd (λp H Q E h=>?_) (λv A g s H p Q E x h=>?_)
 ·rcases h with⟨a,b,r,o,d,n,f,rfl,⟨t,j,_⟩,⟨u,l,_⟩,m,q⟩<;>rfl
 ·obtain⟨a,b,r,o,d,n,f,rfl,⟨t,j,_⟩,⟨u,l,_⟩,m,q⟩:=h;refine⟨_,(A6 (Bt (D5 (pv 2)) (A9 (Ah (Bk (Bj K) (pv 0) Ad (λ_ _=>rfl)))) Ap) (A9 (Ah (As (Xd rfl) (by rfl) T.AN boot_max (A0 (Bd ag (Bk (Bj K) (pv 1) Ad (λ_ _=>rfl)) Ad) (A0 Ad A7)))))),?_⟩;refine⟨_,rfl,_,rfl,?_⟩;cases f with
  |true=>
   refine K0 rfl ?_;refine⟨_,rfl,a,_,_,_,rfl,rfl,.inr (Bm.of j),rfl,?_⟩;cases d with
   |none=>exact absurd rfl (m rfl).1
   |some c=>exact q
  |false=>
   refine Dm rfl ?_;refine⟨_,rfl,b,_,_,_,rfl,rfl,.inr (Bm.of l),rfl,_,_,rfl,rfl,_,_,rfl,?_⟩
   have e:(if(0:Int)>n-1 then(0:Int)else n-1)=Ci d n false:=by
    unfold Ci;rw[if_neg Bool.false_ne_true];omega
   show Q (.int (if(0:Int)>n-1 then(0:Int)else n-1)) H;rw[e];exact q
def Jo(K:W.Frag):Sp:=λi H Q _=>fi λ(a b:Addr) (f h:oB) (d:oD) (q:Int) (e:Nat) (c:Bool)=>Js (i=[.ref a,.ref b,.int e,.bl c]) (Ax H a f d) (Cc H b h q) (e<f.length) (h.length=f.length) (f.length<=8) (J6 d q c) (((0:Int)∈Ba f h e c->∀g,A8 H g->Q .aX g)) (((0:Int)∉Ba f h e c->∀(p:Addr) (g:Hp),A8 H g->Cc g p (Ba f h e c) (Ci d q c)->Q (.ref p) g))
theorem o5{y R N:pa}(F:Rg K "after" "after" Gy ad.bT y)(B:Gk P w K mg base 3 ad.eS ["hall","standing","who","lost"] (V3 K) R)(M:Gk P w K mg base 1 ad.gE ["hall","standing","lost"] (d7 K) N):Bg P w K mg base Dr 4 ad.bT y ["hall","standing","who","lost"] (Jo K):=by
 refine F.ok cz (λS H Q E h=>?_) (λU A u s H S Q E D h=>?_)
 ·rcases h with⟨a,b,i,f,d,n,who,c,rfl,m,o,G,C,z,q,I,J⟩<;>rfl
 ·obtain⟨a,b,i,f,d,n,who,c,rfl,m,o,G,C,z,q,I,J⟩:=h;refine⟨_,(A6 (Ak (i:=4) cz.nd rfl (Or.inl rfl) (Ac B.g (D.mono (by decide)) rfl T.zS T.zT B.b .nil Ai (A0 (pv 0) (A0 (pv 1) (A0 (pv 2) (A0 (pv 3) A7)))))) (A6 (Bt (B0 (oe K) Ad (pv 4) rfl) (A9 (Ah Dd)) Ap) (A9 (Ah (Cm (A0 (Bn Fg (by rfl) T.kX boot_tuple (A0 (pv 4) A7)) (A0 (Ac M.g (D.mono (by decide)) rfl T.LA T.LB M.b .nil Ai (A0 (pv 0) (A0 (pv 1) (A0 (pv 3) A7)))) A7))))))),?_⟩;refine⟨_,rfl,_,rfl,_,rfl,_,rfl,a,b,i,f,d,n,who,c,rfl,m,o,G,C,z,q,λl x X v L=>?_⟩;refine⟨_,rfl,l,_,rfl,.inl (Be.of L),rfl,Ox _,_,rfl,?_⟩;rw[Sb];refine Dv (λj=>?_) (λj=>?_)
  ·exact I (by simpa using j) x v
  ·refine⟨_,rfl,l,_,rfl,.inl ⟨Be.of L,λt O=>?_⟩⟩;have g:A8 H (upd x t (.tup ((Ba i f who c).map V.int))):=v.new (v.free O);refine⟨_,rfl,_,rfl,_,rfl,a,b,i,f,d,n,c,rfl,m.same g,o.same g,q,Br,λp r=>?_⟩;refine J (by simpa using j) p _ (g.new (g.free r)) ⟨t,A5,?_⟩;rw[Ab (λe=>by rw[<- e,A5]at r;cases r),A5]
def Nu(K:W.Frag):Sp:=λi H Q _=>fi λ(a b:Addr) (d f:oB) (g:oD) (q w:Int) (c:Nat)=>Pu (i=[.ref a,.ref b,.int w]) (w=(c:Int)) (Ax H a d g) (Cc H b f q) (c<d.length) (f.length=d.length) (d.length<=8) (∀(l:Addr) (h:List V) (e:Hp),H l=none->A8 H e->e l=some (.lst h)->Ae (F4 e) (Ay d f g q c) h->Q (.ref l) e)
theorem nc{fd bE cA:pa}(F:Ea K "all_behind" "all_behind" bp ad.cZ fd)(G:Gk P w K mg base 4 ad.bT ["hall","standing","who","lost"] (Jo K) bE)(aN:D1 K bE ["hall","standing","who","lost"] [Value.bool false])(aY:Gk P w K mg base 1 ad.cN ["hall","standing"] (Jn K) cA):Bg P w K mg base Dr 5 ad.cZ fd ["hall","standing","who"] (Nu K):=by
 refine F.ok cw (λvs H Q E h=>?_) (λaR A U s H vs Q E R h=>?_)
 ·rcases h with⟨a,b,g,f,d,n,w0,who,rfl,rfl,B,C,S,N,J,q⟩<;>rfl
 ·obtain⟨a,b,g,f,d,n,w0,who,rfl,rfl,B,C,S,N,J,q⟩:=h;refine⟨_,(A6 (Ak (i:=3) cw.nd rfl (Or.inl rfl) (Dy (A0 (Yh (Ac G.g (R.mono (by decide)) rfl T.gY T.dR aN (Kh) Ai (A0 (pv 0) (A0 (pv 1) (A0 (pv 2) A7))))) A7))) (A6 (El (D5 (Ac aY.g (R.mono (by decide)) rfl T.kG T.kH aY.b .nil Ai (A0 (pv 0) (A0 (pv 1) A7)))) (A9 (E9 (J0 PySem.F.plainAttrs_list PySem.F.slot_list_append PySem.F.type_list_append Fu (pv 3) (A0 (Yh (Ac G.g (R.mono (by decide)) rfl T.gY T.dR G.b .nil Ai (A0 (pv 0) (A0 (pv 1) (A0 (pv 2) (A0 Dp A7)))))) A7)))) Ap) (A9 (Ah (pv 3))))),?_⟩;refine⟨(λv o=>F4 o (Cw g f d n who false) v/\A8 H o),⟨_,rfl,_,rfl,_,rfl,a,b,g,f,d,n,who,false,rfl,B,C,S,N,J,(λz=>nomatch z),(λe m c=>⟨by unfold Cw;rw[if_pos e];rfl,c⟩),λe p m c I=>⟨by unfold Cw;rw[if_neg e];exact⟨p,rfl,I⟩,c⟩⟩,?_⟩;rintro v x ⟨hv,X⟩;refine⟨Br,λL M=>?_⟩;have c:A8 x (upd x L (.lst [v])):=A8.upd M;have y:(upd x L (.lst [v])) L=some (.lst [v]):=A5;generalize upd x L (.lst [v])=m at c y⊢;have i:=X.trans c;refine⟨_,rfl,_,rfl,a,b,g,f,d,n,rfl,B.same i,C.same i,_,rfl,(λu l=>∃(D:List V),Pt (u=[some (.ref a),some (.ref b),some (.int who),some (.ref L)]) (l L=some (.lst D)) (Ae (F4 l) (Ay g f d n who) D) (A8 H l)),λO=>?_,λO=>?_,?_⟩
  ·have j:Ek d n=true:=O
   have cT:J6 d n true:=λ_=>by
    unfold Ek at j;simp only[Bool.and_eq_true,Bool.not_eq_true',decide_eq_false_iff_not,decide_eq_true_eq]at j;exact j
   refine⟨_,rfl,.inl ⟨rfl,_,Be.of y⟩,(λv o=>F4 o (Cw g f d n who true) v/\A8 m o),⟨_,rfl,_,rfl,_,rfl,a,b,g,f,d,n,who,true,rfl,B.same i,C.same i,S,N,J,cT,(λe m c=>⟨by unfold Cw;rw[if_pos e];rfl,c⟩),λe p m c I=>⟨by unfold Cw;rw[if_neg e];exact⟨p,rfl,I⟩,c⟩⟩,?_⟩;rintro v2 Z ⟨yK,Y⟩;have e3:=Y _ _ y;have tt:Aj Z (upd Z L (.lst ([v]++[v2]))):=Aj.lst e3;refine⟨L,_,_,rfl,rfl,e3,Bb (by simp),[v]++[v2],rfl,A5,?_,(i.trans Y).new (X.free M)⟩;unfold Ay;rw[if_pos j];exact Ae.cons (hv.up (((Aj.of c).trans (Aj.of Y)).trans tt)) (Ae.one (yK.up tt))
  ·have j:¬Ek d n=true:=by
    rw[show Ek d n=false from O];exact hF
   refine⟨[v],rfl,y,?_,i⟩;unfold Ay;rw[if_neg j];exact Ae.one (hv.up (Aj.of c))
  rintro u l ⟨D,rfl,eL,r,s'⟩;exact⟨_,rfl,q L D l (X.free M) s' eL r⟩
def de(K:W.Frag):Sp:=λi H Q _=>fi λ(a b:Addr) (f h:oB) (d:oD) (q:Int) (e:Nat) (c:Bool)=>Pu (i=[.ref a,.ref b,.int e,.bl c]) (Ax H a f d) (Cc H b h q) (e<f.length) (h.length=f.length) (f.length<=8) (J6 d q c) (∀(l:Addr) (g:Hp),H l=none->A8 H g->g l=some (.lst ((Ei (Ba f h e c) f.length).map V.int))->Q (.ref l) g)
theorem mv{S oH:pa}(F:Rg K "broken_ones" "broken_ones" G3 ad.dA S)(Y:Gk P w K mg base 3 ad.eS ["hall","standing","who","lost"] (V3 K) oH):Bg P w K mg base Dr 4 ad.dA S ["hall","standing","who","lost"] (de K):=by
 refine F.ok cu (λvs H Q E h=>?_) (λaR A N s H vs Q E hr h=>?_)
 ·rcases h with⟨a,b,j,p,e,n,who,d,rfl,Z,hb,hw,M,U,hm,q⟩<;>rfl
 ·obtain⟨a,b,j,p,e,n,who,d,rfl,Z,hb,hw,M,U,hm,q⟩:=h;refine⟨_,(A6 (Ak (i:=4) cu.nd rfl (Or.inl rfl) (Ac Y.g (hr.mono (by decide)) rfl T.zS T.zT Y.b .nil Ai (A0 (pv 0) (A0 (pv 1) (A0 (pv 2) (A0 (pv 3) A7)))))) (A9 (Ah (E8 (Nh (by rfl) T.dB (A0 (pv 4) A7)) _ rfl Kt rfl rfl (λ_ _ _ _=>(Cy K (n:=2) rfl (Ar (Al (i:=0) Fv rfl (Or.inl rfl)) (Ar (Al (i:=1) Fv rfl (Or.inl rfl)) Cz)))) (λ_ _ _ _=>(Qs (B0 Hn (pv 1) Ad (Au _)))) (λ_ _ _ _=>(pv 0)))))),?_⟩;refine⟨_,rfl,_,rfl,_,rfl,_,rfl,a,b,j,p,e,n,who,d,rfl,Z,hb,hw,M,U,hm,λl H1 tH s1 O=>?_⟩;have X:(Ba j p who d).length=j.length:=by rw[Eo];exact M
  generalize Ba j p who d=L at O X⊢q;refine⟨_,rfl,false,l,rfl,⟨_,Be.of O⟩,λD I=>?_⟩;refine Mn (K:=K) (b1:=false) (c:=l) (xs:=L.map V.int) (λi m f=>m=(Ei L i).map V.int/\f D=some (.lst m)/\A8 H1 f) ⟨rfl,A5,A8.upd I⟩ (by rintro i m f _ ⟨_,_,s⟩;exact Be.of (s _ _ O)) ?_ ?_ ?_ ?_
  ·rintro i x T m o hx ⟨rfl,g,r⟩ hT;rw[List.getElem?_map]at hx;obtain⟨y,hy,rfl⟩:=dI.mp hx;have hi:=(bA.mp hy).1;have R:L.getD i 0=y:=by rw[List.getD_eq_getElem?_getD,hy];rfl
   have u:A8 o (upd o T (.tup [V.int (i:Nat),V.int y])):=A8.upd hT;have hbl:=Iy L i;refine⟨_,rfl,rfl,_,rfl,?_⟩;refine Dv (λC=>?_) (λC=>?_)
   ·have G:y=0:=by simpa using C
    refine⟨_,rfl,u _ _ g,Bb (by rw[List.length_map];omega),?_,A5,(r.trans u).new I⟩;rw[F7,R,if_pos G,List.map_append];rfl
   ·have G:¬y=0:=by simpa using C
    refine⟨?_,u _ _ g,r.trans u⟩;rw[F7,R,if_neg G,List.append_nil]
  ·rintro σ f Q1 Q2 J ⟨v,B,e2,c,e3,z⟩;exact⟨v,B,e2,c,e3,J _ _ z⟩
  ·rintro σ f Q1 Q2 J ⟨v,B,z⟩;exact⟨v,B,J _ _ z⟩
  ·rintro m o ⟨rfl,g,r⟩;rw[List.length_map,X]at g;exact q D o (s1.free I) (s1.trans r) g
def V1(K:W.Frag):Sp:=λc H Q _=>Rf λ(a:Addr) (d:oB) (b:oD)=>O5 (c=[.ref a]) (Ax H a d b) (Q (.int (qv b)) H)
theorem mn{f:pa}(F:Ea K "quiet_values" "quiet_values" bh ad.eU f):Bg P w K mg base Dr 1 ad.eU f ["hall"] (V1 K):=by
 refine F.ok qe (λi H Q E h=>?_) (λl A d s H i Q E m h=>?_)
 ·rcases h with⟨a,j,e,rfl,⟨t,b,g⟩,q⟩<;>rfl
 ·obtain⟨a,j,e,rfl,⟨t,b,g⟩,q⟩:=h;refine⟨_,(A9 (Ah (ao (B0 Nb (Bk (Bj K) (pv 0) Ad (λ_ _=>rfl)) Dd (Au _)) Ad (Bd Dc (Bk (Bj K) (pv 0) Ad (λ_ _=>rfl)) Ad)))),?_⟩;cases e with
  |none=>exact⟨_,rfl,a,_,_,_,rfl,rfl,.inr (Bm.of b),rfl,rfl,_,rfl,K0 rfl q⟩
  |some c=>exact⟨_,rfl,a,_,_,_,rfl,rfl,.inr (Bm.of b),rfl,rfl,_,rfl,Dm rfl ⟨_,rfl,a,_,_,_,rfl,rfl,.inr (Bm.of b),rfl,_,_,rfl,rfl,q⟩⟩
def dr(K:W.Frag):Sp:=λd H Q _=>Rf λ(a:Addr) (b:oB) (c:oD)=>Ls (d=[.ref a]) (Ax H a b c) ((∀w∈b,intBits w<=256)) (intBits (qv c)<=256) (b.length<=8) (Q (.int (Bx (qv c) b)) H)
theorem nu{r G:pa}(F:Ea K "how_many" "how_many" c9 ad.gF r)(v:Gk P w K mg base 1 ad.eU ["hall"] (V1 K) G):Bg P w K mg base Dr 2 ad.gF r ["hall"] (dr K):=by
 refine F.ok Qy (λI H Q E h=>?_) (λJ A o s H I Q E D h=>?_)
 ·rcases h with⟨a,b,c,rfl,⟨t,j,f⟩,m,z,C,q⟩<;>rfl
 ·obtain⟨a,b,c,rfl,⟨t,j,f⟩,m,z,C,q⟩:=h;refine⟨_,(A6 (Ak (i:=1) Qy.nd rfl (Or.inl rfl) (Ac v.g (D.mono (by decide)) rfl T.zU T.zV v.b .nil Ai (A0 (pv 0) A7))) (A6 (Cv lG rfl (Di (Bk (Bj K) (pv 0) Ad (λ_ _=>rfl))) (Al (i:=2) Qy.nd rfl (Or.inl rfl)) (A9 (Ak (i:=1) Qy.nd rfl (Or.inl rfl) (Bd i7 (pv 1) (pv 2))))) (A9 (Ah (pv 1))))),?_⟩;refine⟨_,rfl,a,b,c,rfl,⟨t,j,f⟩,?_⟩;refine⟨_,rfl,a,_,_,_,rfl,rfl,.inr (Bm.of j),rfl,t,rfl,.inr ⟨⟨_,Bm.of f⟩,?_⟩⟩;refine W3 (K:=K) (a:=t) (xs:=b.map V.int) (λi g d=>∃(p:Option V),g=[some (.ref a),some (.int (Bx (qv c) (b.take i))),p]/\d=H) ⟨none,rfl,rfl⟩ (by rintro i g d _ ⟨_,_,e⟩;exact(by rw[e];exact Bm.of f)) ?_ ?_
  ·rintro i y g d u ⟨p,rfl,l⟩;subst l;rw[List.getElem?_map]at u;obtain⟨x,n,rfl⟩:=dI.mp u;have L:=(bA.mp n).1;have B:=P9 z m i (by omega);refine⟨_,rfl,_,rfl,_,_,rfl,rfl,ue B (m x (b5 n)) (by omega),?_⟩;refine⟨some (.int x),?_,rfl⟩;have e:Bx (qv c) (b.take (i+1))=Bx (qv c) (b.take i)*x:=Ft _ _ _ n;rw[e];rfl
  ·rintro g d ⟨p,rfl,l⟩;subst l;rw[List.length_map,List.take_length];exact⟨_,rfl,q⟩
def du(K:W.Frag):Sp:=λd H Q _=>Yu λ(t:Addr) (a:oB)=>Ls (d=[.ref t]) (H t=some (.tup (a.map V.int))) ((∀w∈a,1<=w)) (Bx 1 a<=3000) (a.length<=8) (∀(l:Addr) (c:List V) (b:Hp),H l=none->A8 H b->b l=some (.lst c)->Ae (F6 b) (Cd a) c->Q (.ref l) b)
theorem nv{fd:pa}(F:Ea K "all_left" "all_left" Wx ad.gG fd):Bg P w K mg base Dr 1 ad.gG fd ["waits"] (du K):=by
 refine F.ok Lb (λvs H Q E h=>?_) (λaR A outer s H vs Q E hr h=>?_)
 ·rcases h with⟨t,c,rfl,ht,O,hp,rY,q⟩<;>rfl
 ·obtain⟨t,c,rfl,ht,O,hp,rY,q⟩:=h;refine⟨_,(A6 (Ak (i:=1) Lb.nd rfl (Or.inl rfl) (Dy (A0 (Cm A7) A7))) (A6 (Cv lG rfl (Di (pv 0)) (Al (i:=2) Lb.nd rfl (Or.inl rfl)) (A6 (Ak (i:=3) Lb.nd rfl (Or.inl rfl) (Dy A7)) (A6 (Cv lG rfl (Di (pv 1)) (Al (i:=4) Lb.nd rfl (Or.inr rfl)) (A9 (E9 (J0 PySem.F.plainAttrs_list PySem.F.slot_list_extend PySem.F.type_list_extend Ig (pv 3) (A0 (E8 (Yi (by rfl) T.cJ (A0 Ad (A0 (Bd Dc (pv 2) Ad) A7))) _ rfl O7 rfl rfl (λ_ _ _ _=>(Al (i:=0) Od rfl (Or.inl rfl))) (λ_ _ _ _=>D0) (λ_ _ _ _=>(Bd (Wf K) (pv 1) (Cm (A0 (pv 0) A7))))) A7))))) (A9 (Ak (i:=1) Lb.nd rfl (Or.inl rfl) (pv 3)))))) (A9 (Ah (pv 1))))),?_⟩;refine⟨Br,λE0 hE0=>⟨Br,λC YL=>?_⟩⟩;have s0:A8 H (upd H E0 (.tup [])):=A8.upd hE0;have e0:(upd H E0 (.tup [])) E0=some (.tup (([]:oB).map V.int)):=A5;generalize upd H E0 (.tup [])=J at s0 e0 YL⊢;have s1:A8 J (upd J C (.lst [.ref E0])):=A8.upd YL;have e1:(upd J C (.lst [.ref E0])) C=some (.lst [.ref E0]):=A5;have r1:Ae (F6 (upd J C (.lst [.ref E0]))) (Cd (c.take 0)) [.ref E0]:=Ae.one ⟨E0,rfl,s1 _ _ e0⟩;generalize upd J C (.lst [.ref E0])=H1 at s1 e1 r1⊢;have N:=s0.trans s1;refine⟨_,rfl,t,rfl,.inr ⟨⟨_,Bm.of (N _ _ ht)⟩,?_⟩⟩
  refine W3 (K:=K) (a:=t) (xs:=c.map V.int) (λi g a=>rj λ(L:Addr) (x:List V) (v2 v3 I:Option V)=>Gc (g=[some (.ref t),some (.ref L),v2,v3,I]) (a L=some (.lst x)) (A8 H a) (Ae (F6 a) (Cd (c.take i)) x) (H L=none))
   ⟨C,_,none,none,none,rfl,e1,N,r1,s0.free YL⟩ (by rintro i g a _ ⟨_,_,_,_,_,_,_,s,_,_⟩;exact Bm.of (s _ _ ht)) ?_ ?_
  ·rintro i y g l X ⟨L,x,v2,v3,I,rfl,R,Z,o,hL⟩;rw[List.getElem?_map]at X;obtain⟨w,hw,rfl⟩:=dI.mp X;have hwi:=O w (b5 hw);have MW:=Pc O hp i;have Y:=Pc O hp (i+1);have EC:Cd (c.take (i+1))=C7 (Cd (c.take i)) w:=Ft _ _ _ hw;rw[EC,Nw]at Y;have hiw:=(bA.mp hw).1
   have MX:∀r∈Cd (c.take i),r.length<=8:=λr hr=>by
    have:=(Kd c i (by omega) r hr).1;omega
   generalize Cd (c.take i)=b at o MW Y EC MX;refine⟨Br,λD U=>?_⟩;have s3:A8 l (upd l D (.lst [])):=A8.upd U;have e3:(upd l D (.lst [])) D=some (.lst []):=A5;have f3:=s3 _ _ R;have g3:=o.imp λr v z=>F6.up (Aj.of s3) z;have YM:L≠D:=Ag R U;generalize upd l D (.lst [])=H3 at s3 e3 f3 g3⊢;refine⟨_,rfl,L,rfl,.inl ⟨⟨_,Be.of f3⟩,?_⟩⟩
   refine D4 (K:=K) (a:=L) (xs:=x) (λj g a=>Yu λ(f:List V) (I:Option V)=>Gc (g=[some (.ref t),some (.ref L),some (.int w),some (.ref D),I]) (a D=some (.lst f)) (a L=some (.lst x)) (A8 l a) (Ae (F6 a) (C7 (b.take j) w) f))
    ⟨[],I,rfl,e3,f3,s3,Ae.nil⟩ (by rintro j g a _ ⟨_,_,_,_,e,_⟩;exact Be.of e) ?_ ?_
   ·rintro j y g H4 X ⟨f,v4',rfl,S,h2,s4,M⟩;have g4:=o.imp λr v z=>F6.up (Aj.of s4) z;obtain⟨r,fP,p,rfl,MY⟩:=g4.get X;have hj:=(bA.mp fP).1;have hr8:=MX r (b5 fP);have ezl:f.length=(b.take j).length*w.toNat:=by rw[M.1,Nw]
    have qP:f.length<=3000:=by
     rw[ezl];refine eI (Nat.mul_le_mul_right _ ?_) Y;rw[List.length_take];omega
    have hw3:w.toNat<=3000:=eI (Nat.le_mul_of_pos_left _ (by omega)) Y;refine⟨_,rfl,.inl ⟨rfl,_,Be.of S⟩,_,rfl,_,_,rfl,rfl,1,w+1,rfl,by omega,λB hB=>?_⟩;refine Du (λm d a=>a B=some (.lst d)/\A8 H4 a/\Ae (F6 a) ((List.range m).map λt=>r++[1+((t:Nat):Int)]) d) ⟨A5,A8.upd hB,Ae.nil⟩ ?_ ?_
    ·rintro m d n hm ⟨k1,u,G⟩ Qe hQ;refine⟨_,rfl,_,rfl,Br,λP hP=>?_⟩;have s6:A8 n (upd n P (.tup [.int (1+(m:Int))])):=A8.upd hP;refine⟨p,P,_,_,rfl,rfl,Bm.of (s6 _ _ (u _ _ MY)),A5,by simp,nf (G6 (by simp;omega)),λp' H6 s7 e7=>?_⟩;generalize upd n P (.tup [.int (1+(m:Int))])=H5' at s6 s7;have YN:=s6.trans s7;have nP:=YN _ _ k1;have kl:d.length=m:=by rw[G.1];simp
     refine hQ _ _ nP (G6 (by omega)) ⟨A5,(u.trans YN).new hB,?_⟩;have tu:Aj n (upd H6 B (.lst (d++[.ref p']))):=(Aj.of YN).trans (Aj.lst nP);rw[List.range_succ,List.map_append];refine(G.imp λr v z=>F6.up tu z).append (Ae.one ⟨p',rfl,?_⟩);refine Aj.lst nP _ _ ?_;rw[e7,List.map_append];rfl
    ·rintro d n ⟨k1,u,G⟩
     have eB:((List.range (w+1-1).toNat).map λt=>r++[1+((t:Nat):Int)])=Qg r w:=by
      rw[show w+1-1=w by omega];rfl
     rw[eB]at G;have jA:=u _ _ S;have kl:d.length=w.toNat:=by rw[G.1,Si]
     refine⟨D,B,_,_,rfl,rfl,jA,k1,nf (G6 (by omega)),?_⟩;have tu:Aj n (upd n D (.lst (f++d))):=Aj.lst jA;refine⟨f++d,_,rfl,A5,by rw[Ab YM];exact u _ _ h2,(s4.trans u).new U,?_⟩;have e:C7 (b.take (j+1)) w=C7 (b.take j) w++Qg r w:=Oy _ _ fP;rw[e];exact(M.imp λr v z=>F6.up ((Aj.of u).trans tu) z).append (G.imp λr v z=>F6.up tu z)
   ·rintro g H4 ⟨f,v4',rfl,S,h2,s4,M⟩;rw[o.1,List.take_length]at M;refine⟨_,rfl,D,f,_,_,_,rfl,S,Z.trans s4,?_,Z.free U⟩;rw[EC];exact M
  ·rintro g l ⟨L,x,v2,v3,I,rfl,R,Z,o,hL⟩;rw[List.length_map,List.take_length]at o;exact⟨_,rfl,q L x l hL Z R o⟩
def dn(K:W.Frag):Sp:=λf H Q _=>Rf λ(a:Addr) (b:oB) (c:oD)=>Js (f=[.ref a]) (Ax H a b c) ((∀w∈b,1<=w)) (1<=qv c) ((∀w∈b,intBits w<=256)) (intBits (qv c)<=256) (b.length<=8) (Bx (qv c) b<=3000) (∀(l:Addr) (e:List V) (d:Hp),H l=none->A8 H d->d l=some (.lst e)->Ae (Fl d) (Aq b (qv c)) e->Q (.ref l) d)
theorem nl{fd ED EE oJ:pa}(F:Ea K "standings" "standings" Wv ad.gH fd)(qQ:Gk P w K mg base 2 ad.gF ["hall"] (dr K) ED)(qR:Gk P w K mg base 1 ad.gG ["waits"] (du K) EE)(iA:Gk P w K mg base 1 ad.eU ["hall"] (V1 K) oJ):Bg P w K mg base Dr 3 ad.gH fd ["hall"] (dn K):=by
 refine F.ok Uw (λvs H Q E h=>?_) (λaR A outer s H vs Q E hr h=>?_)
 ·rcases h with⟨a,b,c,rfl,⟨t,I,J⟩,n,AW,hb,zK,rY,hp,q⟩<;>rfl
 ·obtain⟨a,b,c,rfl,⟨t,I,J⟩,n,AW,hb,zK,rY,hp,q⟩:=h;refine⟨_,(A6 (Bt (B0 jl (Ac qQ.g (hr.mono (by decide)) rfl T.LD T.LF qQ.b .nil Ai (A0 (pv 0) A7)) (Wi (v:=.int 3000) (by rfl) T.fT.choose_spec ⟨_,rfl⟩) (Au _)) (A9 Fx) Ap) (A6 (Ak (i:=1) Uw.nd rfl (Or.inl rfl) (Dy A7)) (A6 (Cv lG rfl (Di (Ac qR.g (hr.mono (by decide)) rfl T.LG T.LH qR.b .nil Ai (A0 (Bk (Bj K) (pv 0) Ad (λ_ _=>rfl)) A7))) (Al (i:=2) Uw.nd rfl (Or.inr rfl)) (A9 (E9 (J0 PySem.F.plainAttrs_list PySem.F.slot_list_extend PySem.F.type_list_extend Ig (pv 1) (A0 (E8 (Dz (by rfl) T.cJ (A0 (Ac iA.g (hr.mono (by decide)) rfl T.zU T.zV iA.b .nil Ai (A0 (pv 0) A7)) A7)) _ rfl Mr rfl rfl (λ_ _ _ _=>(Al (i:=0) Na rfl (Or.inl rfl))) (λ_ _ _ _=>D0) (λ_ _ _ _=>(Cm (A0 (pv 1) (A0 (pv 0) A7))))) A7))))) (A9 (Ah (pv 1)))))),?_⟩
  have oK:Bx 1 b<=3000:=by
   have e:=Ur (qv c) b 1;rw[Int.mul_one]at e;have o:1<=Bx 1 b:=K9 b 1 (by decide) n;have M:=Int.mul_le_mul_of_nonneg_right AW (show 0<=Bx 1 b by omega);rw[Int.one_mul]at M;omega
  have hq3:qv c<=3000:=Int.le_trans (K9 b _ (by omega) n) hp;refine⟨_,rfl,a,b,c,rfl,⟨t,I,J⟩,hb,zK,rY,_,_,rfl,rfl,_,rfl,Dm (l7 (by omega)) ?_⟩;refine⟨Br,λD Z=>?_⟩;have R:A8 H (upd H D (.lst [])):=A8.upd Z;have X:(upd H D (.lst [])) D=some (.lst []):=A5;generalize upd H D (.lst [])=H1 at R X⊢;refine⟨_,rfl,a,_,_,_,rfl,rfl,.inr (Bm.of (R _ _ I)),rfl,t,b,rfl,R _ _ J,n,oK,rY,λL us H2 hL s2 f1 f2=>⟨L,rfl,.inl ⟨⟨_,Be.of f1⟩,?_⟩⟩⟩;have AX:=R.trans s2;have Y:=s2 _ _ X;have YM:L≠D:=(Ag X hL).symm
  refine D4 (K:=K) (a:=L) (xs:=us) (λj S d=>Yu λ(l:List V) (v2:Option V)=>Ls (S=[some (.ref a),some (.ref D),v2]) (d D=some (.lst l)) (d L=some (.lst us)) (A8 H d) (Aj H2 d) (Ae (Fl d) (((Cd b).take j).flatMap λr=>G8 r (qv c)) l))
   ⟨[],none,rfl,Y,f1,AX,Aj.of (A8.refl _),Ae.nil⟩ (by rintro j S d _ ⟨_,_,_,_,e,_⟩;exact Be.of e) ?_ ?_
  ·rintro j y S U hy ⟨l,v2,rfl,o,M,x,t4,u⟩;have g4:=f2.imp λr v z=>F6.up t4 z;obtain⟨r,fP,p,rfl,MY⟩:=g4.get hy;have hj:=(bA.mp fP).1
   have qP:l.length<=3000:=by
    have e:=G7 (ws:=b) (q:=qv c) n (by omega);rw[u.1]
    have Y:Aq b (qv c)=(((Cd b).take j).flatMap λr=>G8 r (qv c))++(((Cd b).drop j).flatMap λr=>G8 r (qv c)):=by
     rw[<- List.flatMap_append,List.take_append_drop];rfl
    rw[Y,List.length_append]at e;omega
   refine⟨_,rfl,.inl ⟨rfl,_,Be.of o⟩,_,rfl,a,b,c,rfl,⟨t,x _ _ I,x _ _ J⟩,qv c,rfl,by omega,by omega,λB hB=>?_⟩;refine Du (λm f d=>d B=some (.lst f)/\A8 U d/\Ae (Fl d) ((List.range m).map λk=>(r,0+((k:Nat):Int))) f) ⟨A5,A8.upd hB,Ae.nil⟩ ?_ ?_
   ·rintro m f g hm ⟨k1,i,N⟩ Qe hQ;refine⟨_,rfl,_,rfl,Br,λP hP=>?_⟩;have C:A8 g (upd g P (.tup [.ref p,.int (0+(m:Int))])):=A8.upd hP;have e6:(upd g P (.tup [.ref p,.int (0+(m:Int))])) P=some (.tup [.ref p,.int (0+(m:Int))]):=A5;generalize upd g P (.tup [.ref p,.int (0+(m:Int))])=H6 at C e6;have O:=C _ _ k1;have kl:f.length=m:=by rw[N.1];simp
    refine hQ _ _ O (G6 (by omega)) ⟨A5,(i.trans C).new hB,?_⟩;have G:Aj g (upd H6 B (.lst (f++[.ref P]))):=(Aj.of C).trans (Aj.lst O);rw[List.range_succ,List.map_append];refine(N.imp λr v z=>Fl.up G z).append (Ae.one ⟨P,p,rfl,?_,?_⟩)
    ·exact Aj.lst O _ _ e6
    ·exact Aj.lst O _ _ (C _ _ (i _ _ MY))
   ·rintro f g ⟨k1,i,N⟩;have jA:=i _ _ o;have k3:Ae (Fl g) (G8 r (qv c)) f:=N;have kl:f.length=(qv c).toNat:=by rw[k3.1,Pm]
    refine⟨D,B,_,_,rfl,rfl,jA,k1,nf (G6 (by omega)),?_⟩;have G:Aj g (upd g D (.lst (l++f))):=Aj.lst jA;refine⟨l++f,_,rfl,A5,by rw[Ab YM];exact i _ _ M,(x.trans i).new Z,(t4.trans (Aj.of i)).trans G,?_⟩;have e:(((Cd b).take (j+1)).flatMap λr=>G8 r (qv c))=(((Cd b).take j).flatMap λr=>G8 r (qv c))++G8 r (qv c):=Oy _ _ fP;rw[e];exact(u.imp λr v z=>Fl.up ((Aj.of i).trans G) z).append (k3.imp λr v z=>Fl.up G z)
  ·rintro S U ⟨l,v2,rfl,o,M,x,t4,u⟩;rw[f2.1,List.take_length]at u;exact⟨_,rfl,q D l U Z x o u⟩
def jv(K:W.Frag):Sp:=λh H Q _=>Rf λ(a:Addr) (d:oB) (e:oD)=>Js (h=[.ref a]) (Ax H a d e) ((∀w∈d,1<=w)) (1<=qv e) ((∀w∈d,intBits w<=256)) (intBits (qv e)<=256) (d.length<=8) (Bx (qv e) d<=3000) (∀(D:Addr) (b:ov) (f:Hp),H D=none->A8 H f->f D=some (.dT b)->Cr d e f b->b.map (·.1)=Aq d (qv e)->Mj d e f b->(∀g∈b,∀c,g.2=.ref c->H c=none)->b.length<=3000->Q (.ref D) f)
theorem uk{fd EF dX:pa}(F:Ea K "calls_by_standing" "calls_by_standing" pq ad.mT fd)(qS:Gk P w K mg base 3 ad.gH ["hall"] (dn K) EF)(bU:Gk P w K mg base 5 ad.cZ ["hall","standing","who"] (Nu K) dX):Bg P w K mg base Dr 6 ad.mT fd ["hall"] (jv K):=by
 refine F.ok Pg (λvs H Q E h=>?_) (λaR A outer s H vs Q E hr h=>?_)
 ·rcases h with⟨a,o,n,rfl,ha,cD,AW,nG,rX,jB,hp,q⟩<;>rfl
 ·obtain⟨a,o,n,rfl,ha,cD,AW,nG,rX,jB,hp,q⟩:=h;refine⟨_,(A6 (Ak (i:=1) Pg.nd rfl (Or.inl rfl) Hq) (A6 (Cv lG rfl (Di (Ac qS.g (hr.mono (by decide)) rfl T.LI T.LJ qS.b .nil Ai (A0 (pv 0) A7))) (Al (i:=2) Pg.nd rfl (Or.inl rfl)) (A6 (Ak (i:=3) Pg.nd rfl (Or.inl rfl) al) (A6 (Cv lG rfl (Dz (by rfl) T.cJ (A0 (As (B8 K) (by rfl) T.bB PySem.boot_len (A0 (Bk (Bj K) (pv 0) Ad (λ_ _=>rfl)) A7)) A7)) (Al (i:=4) Pg.nd rfl (Or.inl rfl)) (A6 (Ak (i:=5) Pg.nd rfl (Or.inl rfl) (Ac bU.g (hr.mono (by decide)) rfl T.qJ T.qK bU.b .nil Ai (A0 (pv 0) (A0 (pv 2) (A0 (pv 4) A7))))) (A9 (El (B0 (Ye K hr) Dd (pv 5) rfl) (A9 (Ka (Ds hr) (pv 3) (pv 4) (pv 5) rfl)) Ap)))) (A9 (Ka (Ds hr) (pv 1) (pv 2) (pv 3) rfl))))) (A9 (Ah (pv 1))))),?_⟩;refine λD hD=>?_;have s1:A8 H (upd H D (.dT [])):=A8.upd hD;have B:(upd H D (.dT [])) D=some (.dT []):=A5;generalize upd H D (.dT [])=H1 at s1 B⊢;refine⟨_,rfl,a,o,n,rfl,ha.same s1,cD,AW,nG,rX,jB,hp,λl us H2 hl s2 el jU=>⟨l,rfl,.inl ⟨⟨_,Be.of el⟩,?_⟩⟩⟩
  have hlen:us.length<=3000:=by
   have h1:=jU.1;have h2:=G7 cD (show 0<=qv n by omega);omega
  have aS:=s1.trans s2;have eD2:=s2 _ _ B
  refine D4 (K:=K) (a:=l) (xs:=us) (λi C m=>rj λ(b:ov) (v2 v3 J M:Option V)=>Js (C=[some (.ref a),some (.ref D),v2,v3,J,M]) (A8 H m) (LT H2 m) (m D=some (.dT b)) (Cr o n m b) ((∀x∈b,∀c,x.2=.ref c->H c=none)) (b.length<=i) (b.map (·.1)=(Aq o (qv n)).take i) (Mj o n m b))
   ⟨[],_,_,_,_,rfl,aS,⟨λ_ _ z=>z,λ_ _ z=>z⟩,eD2,⟨(λx z=>by cases z),List.Pairwise.nil,List.Pairwise.nil⟩,(λx z=>by cases z),da _,rfl,(λx z=>by cases z)⟩ (by rintro i C m _ ⟨_,_,_,_,_,_,_,t,_⟩;exact Be.of (t.1 _ _ el)) ?_ ?_
  ·rintro i u C m hu ⟨b,v2,v3,J,M,rfl,U,t',nH,S,kB,oM,N,uS⟩;have hi:=(bA.mp hu).1;obtain⟨z,hz,p,w,rfl,hz1,hz2⟩:=jU.get hu;obtain⟨m1,m2,m3,m4⟩:=Pk (b5 hz);have rZ:Cc m p z.1 z.2:=⟨w,t'.2 _ _ hz1,t'.2 _ _ hz2⟩;refine λc hc=>?_;have s3:A8 m (upd m c (.dK [])):=A8.upd hc;have e3:(upd m c (.dK [])) c=some (.dK []):=A5;generalize upd m c (.dK [])=H3 at s3 e3⊢;have mE:=U.trans s3;obtain⟨wt,cL,dD⟩:=id (ha.same mE);refine⟨_,rfl,a,_,_,_,rfl,rfl,.inr (Bm.of cL),rfl,wt,_,rfl,.inr (Bm.of dD),_,rfl,by omega,by rw[List.length_map];omega,?_⟩
   refine P0 (n:=(o.map V.int).length) (λj C f=>Rf λ(g:List (Eu×V)) (J M:Option V)=>Ls (C=[some (.ref a),some (.ref D),some (.ref p),some (.ref c),J,M]) (A8 m f) (f c=some (.dK g)) (Hd o n z f g) (g.length<=j) (∀who:Nat,who<j->none∉Ay o z.1 n z.2 who->(Af g (.inl (who:Int))).isSome=true))
    ⟨[],_,_,rfl,s3,e3,(λe z=>by cases z),da _,(λwho z=>absurd z (mF _))⟩ ?_ ?_
   ·rintro j C f hj ⟨g,J,M,rfl,r,UG,yO,iY,UH⟩;rw[List.length_map]at hj;have IU:=U.trans r;refine⟨_,rfl,_,rfl,_,rfl,a,p,o,z.1,n,z.2,_,j,rfl,by omega,ha.same IU,rZ.same r,hj,m1,jB,λL jX H5 hL X eL nU=>?_⟩;refine⟨_,rfl,L,jX,.none,(Ay o z.1 n z.2 j).map kr,rfl,Be.of eL,b7,Pd nU,by decide,_,rfl,_,λZ=>?_,λZ=>?_,λ_ _ z=>z⟩
    ·rw[if_pos rfl,Q0]at Z;have mB:none∉Ay o z.1 n z.2 j:=by simpa using Z
     have I:=X _ _ UG;refine⟨_,rfl,_,rfl,_,rfl,c,_,rfl,.inl ⟨g,.inl (j:Int),I,congrArg V.int (Int.zero_add _),Bb (by omega),rfl⟩,?_⟩;have t6:LT H5 (upd H5 c (.dK (B6 g (.inl (j:Int)) (.ref L)))):=LT.dK I;refine⟨B6 g (.inl (j:Int)) (.ref L),_,_,rfl,(r.trans X).new hc,A5,?_,eI (Dh _ _ _) (by omega),λwho nD G=>Uc ?_⟩
     ·have hold:Hd o n z (upd H5 c (.dK (B6 g (.inl (j:Int)) (.ref L)))) g:=yO.up ((LT.of X).trans t6);intro e he;rcases ar he with y|y
      ·exact hold e y
      ·subst y;exact⟨j,L,jX,rfl,hj,mB,rfl,t6.1 _ _ eL,nU.imp λ_ _ y=>F4.up t6.2 y⟩
     ·rcases la who j with y|y
      ·exact .inl (UH who y G)
      ·have e:who=j:=by omega
       rw[e];exact .inr rfl
    ·rw[if_pos rfl,Q0]at Z;have YO:none∈Ay o z.1 n z.2 j:=by simpa using Z
     refine⟨g,_,_,rfl,r.trans X,X _ _ UG,yO.up (LT.of X),by omega,λwho nD G=>?_⟩;rcases la who j with y|y
     ·exact UH who y G
     ·have e:who=j:=by omega
      rw[e]at G;exact absurd YO G
   rintro C f ⟨g,J,M,rfl,r,UG,yO,iY,UH⟩;rw[List.length_map]at iY;have IV:=r _ _ nH;refine⟨_,rfl,_,rfl,_,rfl,D,_,rfl,Rc.t IV (show D9 f p z from rZ.same r) (Bo (by omega)),?_⟩;have t5:LT f (upd f D (.dT (B6 b z (.ref c)))):=LT.dT IV
   have k5:∀O lA,f O=some (.dK lA)->(upd f D (.dT (B6 b z (.ref c)))) O=some (.dK lA):=λO lA e=>by
    rw[Ab (Bl e IV (by intro z;cases z))];exact e
   have UI:=U.trans r
   have hnz:Af b z=none:=by
    cases hv:Af b z with
    |none=>rfl
    |some v=>
     have:=List.mem_map_of_mem (f:=(·.1)) (B7 hv);rw[N]at this;exact absurd this (P7 (Lq _ _) hz)
   have ep:B6 b z (.ref c)=b++[(z,.ref c)]:=Cs _ hnz;have oN:Cr o n (upd f D (.dT (B6 b z (.ref c)))) b:=(S.keep (LT.of r) (λc g e=>r _ _ e)).keep t5 k5;have EG:Mj o n (upd f D (.dT (B6 b z (.ref c)))) b:=(uS.keep S (λc g e=>r _ _ e)).keep (S.keep (LT.of r) (λc g e=>r _ _ e)) k5;have I:=k5 _ _ UG;have EH:=yO.up t5;have sN:A8 H (upd f D (.dT (B6 b z (.ref c)))):=UI.new hD;have tN:LT H2 (upd f D (.dT (B6 b z (.ref c)))):=(t'.trans (LT.of r)).trans t5;have eN:(upd f D (.dT (B6 b z (.ref c)))) D=some (.dT (B6 b z (.ref c))):=A5;rw[ep]at oN EG I EH sN tN eN⊢;generalize upd f D (.dT (b++[(z,.ref c)]))=H6 at oN EG I EH sN tN eN⊢
   have jF:∀x∈b,x.2≠ .ref c:=λx Y e=>by
    obtain⟨d,ds,B,R,_⟩:=S.1 x Y;rw[e]at B;cases B;rw[hc]at R;cases R
   refine⟨b++[(z,.ref c)],_,_,_,_,rfl,sN,tN,eN,⟨N7 oN.1 ⟨c,g,rfl,I,by omega,EH⟩,?_,?_⟩,N7 kB (λO e=>by cases e;exact U.free hc),by rw[List.length_append,List.length_singleton];omega,?_,?_⟩
   ·rw[List.map_append];refine Fd oN.2.1 (λy=>?_);rw[N]at y;exact P7 (Lq _ _) hz y
   ·rw[List.map_append];refine Fd oN.2.2 (λy=>?_);obtain⟨x,Y,e⟩:=gB.mp y;exact jF x Y e
   ·rw[List.map_append,N,List.take_add_one,hz];rfl
   ·intro x Y O lA B R;rcases hH.mp Y with y|y
    ·exact EG x y O lA B R
    ·cases ly.mp y;cases B;rw[I]at R;cases R;exact λwho hw G=>UH who (by rw[List.length_map];exact hw) G
  rintro C m ⟨b,v2,v3,J,M,rfl,U,t',nH,S,kB,oM,N,uS⟩;rw[jU.1,List.take_length]at N;exact⟨_,rfl,q D b m hD U nH S N uS kB (by omega)⟩
def dz(K:PySem.W.Frag):Sp:=λh H Q _=>X3 λ(D:Addr) (a:ov) (g:oB) (f:oD)=>Gc (h=[.ref D]) (H D=some (.dT a)) (Cr g f H a) (a.length<=3000) (∀(W:Addr) (e:ov) (d:Hp),H W=none->A8 H d->d W=some (.dT e)->Fm g f H a 48000 d e->(∀k c b,An H a k c->some b∈Ay g k.1 f k.2 c->Cg d e b k c)->e.length<=48000->Q (.ref W) d)
theorem o0{fd:pa}(F:Ea K "ways_to" "ways_to" cg ad.gI fd):Bg P w K mg base Dr 1 ad.gI fd ["pending"] (dz K):=by
 refine F.ok Jl (λvs H Q E h=>?_) (λaR A outer s H vs Q E hr h=>?_)
 ·rcases h with⟨D,f,R,O,rfl,hD,bW,oM,q⟩<;>rfl
 ·obtain⟨D,f,R,O,rfl,hD,bW,oM,q⟩:=h;refine⟨_,(A6 (Ak (i:=1) Jl.nd rfl (Or.inl rfl) Hq) (A6 (Qr (Cv lG rfl (K7 (pv 0)) (Cy K (n:=2) rfl (Ar (Al (i:=2) Jl.nd rfl (Or.inl rfl)) (Ar (Al (i:=3) Jl.nd rfl (Or.inl rfl)) Cz))) (A9 (Qr (Cv lG rfl (K7 (pv 3)) (Cy K (n:=2) rfl (Ar (Al (i:=4) Jl.nd rfl (Or.inl rfl)) (Ar (Al (i:=5) Jl.nd rfl (Or.inl rfl)) Cz))) (A9 (Cv lG rfl (Di (pv 5)) (Al (i:=6) Jl.nd rfl (Or.inl rfl)) (A9 (E9 (J0 PySem.F.plainAttrs_list PySem.F.slot_list_append PySem.F.type_list_append Fu (Yh (i8 (Ds hr) (pv 1) (pv 6) (Dy A7) ⟨rfl,rfl,rfl,rfl⟩)) (A0 (Cm (A0 (pv 2) (A0 (pv 4) A7))) A7))))))))))) (A9 (Ah (pv 1))))),?_⟩;have nR:=bW.ok;refine λW hW=>?_;have s1:A8 H (upd H W (.dT [])):=A8.upd hW;have e1:(upd H W (.dT [])) W=some (.dT []):=A5;generalize upd H W (.dT [])=H1 at s1 e1⊢;have UJ:=s1 _ _ hD;have YQ:W≠D:=(Ag hD hW).symm;refine⟨D,.dT f,trivial,UJ,_,rfl,D,.dT f,rfl,trivial,UJ,λo=>?_⟩
  refine Oz (d:=D) (o:=o) (u:=.dT f) (λi Z U=>fh λ(C:ov) (v2 v3 v4 v5 v6:Option V)=>Tm (Z=[some (.ref D),some (.ref W),v2,v3,v4,v5,v6]) (U D=some (.cF o (.dT f))) ((∀b p,b≠D->H b=some p->U b=some p)) (U W=some (.dT C)) (Fm R O H f (16*i) U C) (C.length<=16*i) (∀k d a,(∃v,(k,v)∈f.take i)->An H f k d->some a∈Ay R k.1 O k.2 d->Cg U C a k d))
   ⟨[],_,_,_,_,_,rfl,A5,(λb p n e=>(Ab n).trans (s1 _ _ e)),(Ab YQ).trans e1,⟨(λkv z=>by cases z),List.Pairwise.nil⟩,me _,(λk d a z=>by obtain⟨v,z⟩:=z;rw[List.take_zero]at z;cases z)⟩ (by rintro i Z U _ ⟨_,_,_,_,_,_,_,e,_⟩;exact e) ?_ ?_
  ·rintro i x y T Z U hi hit ⟨C,v2,v3,v4,v5,v6,rfl,nH,k',AY,yP,IJ,zP⟩ hT;have hi3:i<3000:=hG hi oM;obtain⟨I,bb,aL,rfl,sY⟩:=hit;have cP:(I,y)∈f:=b5 aL;obtain⟨kw,hkw⟩:=Lr cP;obtain⟨c,S,ey,hc,iY,yO⟩:=bW.1 _ cP;have YR:y=.ref c:=ey;subst YR;have s2:A8 U (upd U T (.tup [.ref bb,.ref c])):=A8.upd hT;have e2:(upd U T (.tup [.ref bb,.ref c])) T=some (.tup [.ref bb,.ref c]):=A5;generalize upd U T (.tup [.ref bb,.ref c])=H2 at s2 e2⊢;refine⟨T,_,rfl,Bm.of e2,rfl,_,_,rfl,_,_,rfl,rfl,?_⟩;have JL:c≠D:=Bl hc hD (by intro z;cases z);have YS:c≠W:=Ag hc hW;have kQ:=s2 _ _ (k' c _ JL hc);refine⟨c,.dK S,trivial,kQ,_,rfl,c,.dK S,rfl,trivial,kQ,λo2=>?_⟩;have YT:LT H2 (upd H2 c (.cF o2 (.dK S))):=LT.dK kQ
   refine Oz (d:=c) (o:=o2) (u:=.dK S) (λj Z M=>X3 λ(C:ov) (v4 v5 v6:Option V)=>Lg (Z=[some (.ref D),some (.ref W),some (.ref bb),some (.ref c),v4,v5,v6]) (M c=some (.cF o2 (.dK S))) (M D=some (.cF o (.dT f))) ((∀b p,b≠D->b≠c->H b=some p->M b=some p)) (Aj H2 M) (M W=some (.dT C)) (Fm R O H f (16*i+2*j) M C) (C.length<=16*i+2*j) ((∀k d a,(∃v,(k,v)∈f.take i)->An H f k d->some a∈Ay R k.1 O k.2 d->Cg M C a k d)) (∀d a,(∃e∈S.take j,e.1=.inl ((d:Nat):Int))->some a∈Ay R I.1 O I.2 d->Cg M C a I d))
    ⟨C,_,_,_,rfl,A5,(Ab JL.symm).trans (s2 _ _ nH),(λb p n1 n2 e=>(Ab n2).trans (s2 _ _ (k' b p n1 e))),YT.2,(Ab YS.symm).trans (s2 _ _ AY),yP.up ((LT.of s2).trans YT) (by omega),by omega,(λk d a B g Y=>(zP k d a B g Y).up ((LT.of s2).trans YT)),(λd a z=>by obtain⟨e,z,_⟩:=z;rw[List.take_zero]at z;cases z)⟩ (by rintro j Z M _ ⟨_,_,_,_,_,e,_⟩;exact e) ?_ ?_
   ·rintro j x2 y2 T2 Z M hj YU ⟨YV,v4,v5,v6,rfl,yL,YW,k3,t3,YX,EI,MZ,YY,EJ⟩ NA;have hj8:j<8:=hG hj iY;obtain⟨kk2,NB,rfl⟩:=YU;obtain⟨L,l,jX,ei,hw2,YZ,el,hl,EK⟩:=yO _ (b5 NB)
    have kA:jX.length<=2:=by
     rw[EK.1];unfold Ay;split<;>simp
    have ei':kk2=.inl (L:Int):=ei;subst ei';have el':y2=.ref l:=el;subst el';have s4:A8 M (upd M T2 (.tup [kV (.inl (L:Int)),.ref l])):=A8.upd NA;have e4:(upd M T2 (.tup [kV (.inl (L:Int)),.ref l])) T2=some (.tup [kV (.inl (L:Int)),.ref l]):=A5;generalize upd M T2 (.tup [kV (.inl (L:Int)),.ref l])=H4 at s4 e4⊢;refine⟨T2,_,rfl,Bm.of e4,rfl,_,_,rfl,_,_,rfl,rfl,?_⟩;have hlD:l≠D:=Bl hl hD (by intro z;cases z);have hlc:l≠c:=Bl hl hc (by intro z;cases z);refine⟨_,rfl,l,rfl,.inl ⟨⟨_,Be.of (s4 _ _ (k3 l _ hlD hlc hl))⟩,?_⟩⟩
    refine D4 (K:=K) (a:=l) (xs:=jX) (λm Z G=>Yu λ(C:ov) (v6:Option V)=>Vk (Z=[some (.ref D),some (.ref W),some (.ref bb),some (.ref c),some (kV (.inl (L:Int))),some (.ref l),v6]) (G c=some (.cF o2 (.dK S))) (G D=some (.cF o (.dT f))) ((∀b p,b≠D->b≠c->H b=some p->G b=some p)) (Aj H2 G) (G W=some (.dT C)) (Fm R O H f (16*i+2*j+m) G C) (C.length<=16*i+2*j+m) ((∀k d a,(∃v,(k,v)∈f.take i)->An H f k d->some a∈Ay R k.1 O k.2 d->Cg G C a k d)) ((∀d a,(∃e∈S.take j,e.1=.inl ((d:Nat):Int))->some a∈Ay R I.1 O I.2 d->Cg G C a I d)) (∀a,some a∈(Ay R I.1 O I.2 L).take m->Cg G C a I L))
     ⟨YV,_,rfl,s4 _ _ yL,s4 _ _ YW,(λb p n1 n2 e=>s4 _ _ (k3 b p n1 n2 e)),t3.trans (Aj.of s4),s4 _ _ YX,EI.up (LT.of s4) (da _),MZ,(λk d a B g Y=>(YY k d a B g Y).up (LT.of s4)),(λd a B g=>(EJ d a B g).up (LT.of s4)),(λa z=>by rw[List.take_zero]at z;cases z)⟩ (by rintro m Z G _ ⟨_,_,_,_,_,k5,_⟩;exact Be.of (k5 l _ hlD hlc hl)) ?_ ?_
    ·rintro m u Z G hu ⟨EL,v6,rfl,sA,nS,k5,t5,UK,oO,ZA,UL,yQ,yR⟩;have oA:m<2:=hG (bA.mp hu).1 kA;obtain⟨r0,nI,fP⟩:=EK.get hu
     obtain⟨lk,er⟩:∃lk,r0=some lk:=by
      cases r0 with
      |none=>exact absurd (b5 nI) YZ
      |some r=>exact⟨r,rfl⟩
     subst er;obtain⟨lb,rfl,yS⟩:=fP;have ZC:D9 H lb lk:=yS;have tH5:Aj H G:=λb xs e=>k5 b _ (Bl e hD (by intro z;cases z)) (Bl e hc (by intro z;cases z)) e;have ZD:=ZC.up tH5
     have NC:∀E,G E=none->H E=none:=λE hE=>by
      cases hHE:H E with
      |none=>rfl
      |some p=>
       by_cases B:E=D
       ·rw[B,nS]at hE;cases hE
       by_cases g:E=c
       ·rw[g,sA]at hE;cases hE
       rw[k5 E p B g hHE]at hE;cases hE
     refine⟨(λv N=>Rf λ(yT:ov) (X:Addr) (EM:List V)=>ja (v=.ref X) (Af yT lk=some (.ref X)) (H X=none) (N X=some (.lst EM)) (EM.length<=16*i+2*j+m) ((∀u∈EM,Pz R O f N lk u)) (N c=some (.cF o2 (.dK S))) (N D=some (.cF o (.dT f))) ((∀b p,b≠D->b≠c->H b=some p->N b=some p)) (Aj G N) (N W=some (.dT yT)) (Fm R O H f (16*i+2*j+m) N yT) (yT.length<=16*i+2*j+m+1) ((∀k d a,(∃v,(k,v)∈f.take i)->An H f k d->some a∈Ay R k.1 O k.2 d->Cg N yT a k d)) ((∀d a,(∃e∈S.take j,e.1=.inl ((d:Nat):Int))->some a∈Ay R I.1 O I.2 d->Cg N yT a I d)) ((∀a,some a∈(Ay R I.1 O I.2 L).take m->Cg N yT a I L))),⟨_,rfl,W,rfl,.inr ⟨EL,.inl UK⟩,_,rfl,Br,λE hE=>?_⟩,?_⟩
     ·have J:A8 G (upd G E (.lst [])):=A8.upd hE;have e6:(upd G E (.lst [])) E=some (.lst []):=A5;generalize upd G E (.lst [])=H6 at J e6⊢;have ZE:=J _ _ UK;refine⟨EL,lk,lb,rfl,ZD.up (Aj.of J),ZE,Bo (by omega),λv hv=>?_,λhv=>?_⟩
      ·obtain⟨X,EM,e7,h0,h1,h2,h3⟩:=oO.1 _ (B7 hv);have e7':v=.ref X:=e7;exact⟨EL,X,EM,e7,by rw[hv,e7'],h0,J _ _ h1,h2,(λu hu=>(h3 u hu).up (Aj.of J)),J _ _ sA,J _ _ nS,(λb p n1 n2 e=>J _ _ (k5 b p n1 n2 e)),Aj.of J,ZE,oO.up (LT.of J) (da _),by omega,(λk d a B g Y=>(UL k d a B g Y).up (LT.of J)),(λd a B g=>(yQ d a B g).up (LT.of J)),(λa z=>(yR a z).up (LT.of J))⟩
      ·have t7:LT H6 (upd H6 W (.dT (B6 EL lk (.ref E)))):=LT.dT ZE;have nE:=NC E hE;have UM:=(LT.of J).trans t7;refine⟨B6 EL lk (.ref E),E,[],rfl,by rw[Ga,if_pos rfl],nE,t7.1 _ _ e6,me _,(λu hu=>by cases hu),(Ab YS).trans (J _ _ sA),(Ab YQ.symm).trans (J _ _ nS),(λb p n1 n2 e=>(Ab (Ag e hW)).trans (J _ _ (k5 b p n1 n2 e))),(Aj.of J).trans t7.2,A5,?_,eI (Dh _ _ _) (by omega),(λk d a B g Y=>((UL k d a B g Y).up UM).put hv),(λd a B g=>((yQ d a B g).up UM).put hv),(λa z=>((yR a z).up UM).put hv)⟩;refine⟨λkv aL=>?_,?_⟩
       ·rcases ar aL with y|y
        ·exact(oO.up UM (da _)).1 kv y
        ·subst y;exact⟨E,[],rfl,nE,t7.1 _ _ e6,me _,λu hu=>by cases hu⟩
       ·rw[Cs _ hv,List.map_append];refine Fd oO.2 (λy=>?_);obtain⟨kv,aL,e⟩:=gB.mp y;obtain⟨l9,us9,e9,_,h9,_⟩:=oO.1 kv aL;have e':kv.2=.ref E:=e;rw[e']at e9;cases e9;rw[hE]at h9;cases h9
     rintro v N ⟨yT,X,EM,rfl,hv7,n7,ZF,ZG,ND,hc7,hD7,k7,t7,hW7,ZH,hwl7,hs7,ZI,ZJ⟩;refine⟨.inl ⟨rfl,_,Be.of ZF⟩,_,rfl,_,rfl,Br,λT3 hT3=>?_⟩;have s8:A8 N (upd N T3 (.tup [.ref bb,kV (.inl (L:Int))])):=A8.upd hT3;have e8:(upd N T3 (.tup [.ref bb,kV (.inl (L:Int))])) T3=some (.tup [.ref bb,kV (.inl (L:Int))]):=A5;generalize upd N T3 (.tup [.ref bb,kV (.inl (L:Int))])=H8 at s8 e8⊢;have rY:=s8 _ _ ZF;refine⟨X,_,_,rfl,rfl,rY,Bo (by omega),?_⟩;have ZK:X≠D:=(Ag hD n7).symm;have ZL:X≠c:=(Ag hc n7).symm;have ZM:X≠W:=Bl ZF hW7 (by intro z;cases z);have NF:D9 H8 bb I:=(((sY.up (Aj.of s2)).up t5).up t7).up (Aj.of s8);have ZN:Pz R O f H8 lk (.ref T3):=⟨T3,bb,L,I,rfl,e8,NF,⟨kw,hkw⟩,b5 nI⟩;refine⟨yT,_,rfl,(Ab ZL.symm).trans (s8 _ _ hc7),(Ab ZK.symm).trans (s8 _ _ hD7),(λb p n1 n2 e=>(Ab (Ag e n7)).trans (s8 _ _ (k7 b p n1 n2 e))),((t5.trans t7).trans (Aj.of s8)).trans (Aj.lst rY),(Ab ZM.symm).trans (s8 _ _ hW7),?_,by omega,(λk d a B g Y=>((hs7 k d a B g Y).up (LT.of s8)).app rY),(λd a B g=>((ZI d a B g).up (LT.of s8)).app rY),(λa z=>?_)⟩
     ·exact Fm.app (ZH.up (LT.of s8) (da _)) (B7 hv7) rY ZG (λu hu=>(ND u hu).up (Aj.of s8)) ZN
     ·rw[List.take_add_one,nI]at z;rcases hH.mp z with y|y
      ·exact((ZJ a y).up (LT.of s8)).app rY
      ·have ey:a=lk:=by simpa using y
       subst ey;have tt:Aj H8 (upd H8 X (.lst (EM++[.ref T3]))):=Aj.lst rY;exact⟨X,_,T3,bb,hv7,A5,by simp,tt _ _ e8,NF.up tt⟩
    rintro Z G ⟨EL,v6,rfl,sA,nS,k5,t5,UK,oO,ZA,UL,yQ,yR⟩;refine⟨EL,_,_,_,rfl,sA,nS,k5,t5,UK,oO.up ⟨λ_ _ z=>z,λ_ _ z=>z⟩ (by omega),by omega,UL,λd a B g=>?_⟩;obtain⟨e,he,ew⟩:=B;rw[List.take_add_one,NB]at he;rcases hH.mp he with y|y
    ·exact yQ d a ⟨e,y,ew⟩ g
    ·have ey:e=(.inl (L:Int),.ref l):=by simpa using y
     subst ey;have ew2:(L:Int)=(d:Int):=Sum.inl.inj ew;have ew3:L=d:=by omega
     subst ew3;refine yR a ?_;rw[EK.1,List.take_length];exact g
   rintro Z M ⟨YV,v4,v5,v6,rfl,yL,YW,k3,t3,YX,EI,MZ,YY,EJ⟩;have tI:Dk (.dK S)<=8:=iY;have tz:LT M (upd M c (.dK S)):=⟨λb xs e=>by rw[Ab (Bl e yL (by intro z;cases z))];exact e,λb xs e=>by rw[Ab (Bl e yL (by intro z;cases z))];exact e⟩;refine⟨o2,yL,YV,_,_,_,_,_,rfl,(Ab JL.symm).trans YW,(λb p n1 e=>?_),(Ab YS.symm).trans YX,EI.up tz (show 16*i+2*Dk (.dK S)<=16*(i+1)by omega),by omega,λk d a B g Y=>?_⟩
   ·by_cases z:b=c
    ·subst z;rw[hc]at e;cases e;exact A5
    ·exact(Ab z).trans (k3 b p n1 z e)
   ·obtain⟨v,hv⟩:=B;rw[List.take_add_one,aL]at hv;rcases hH.mp hv with y|y
    ·exact(YY k d a ⟨v,y⟩ g Y).up tz
    ·have ey:(k,v)=(I,.ref c):=by simpa using y
     cases ey;obtain⟨c',lA,g1,g2,g3⟩:=g;rw[Bp bW.2.1 cP]at g1;cases g1;rw[hc]at g2;cases g2;obtain⟨w',YF⟩:=Option.isSome_iff_exists.mp g3;refine(EJ d a ⟨(.inl (d:Int),w'),?_,rfl⟩ Y).up tz;show _∈S.take S.length;rw[List.take_length];exact B7 YF
  rintro Z U ⟨C,v2,v3,v4,v5,v6,rfl,nH,k',AY,yP,IJ,zP⟩;have ZO:Dk (.dT f)<=3000:=oM;have tD:LT U (upd U D (.dT f)):=⟨λb xs e=>by rw[Ab (Bl e nH (by intro z;cases z))];exact e,λb xs e=>by rw[Ab (Bl e nH (by intro z;cases z))];exact e⟩;refine⟨o,nH,_,rfl,q W C _ hW (λb p e=>?_) ((Ab YQ).trans AY) (yP.up tD (show 16*Dk (.dT f)<=48000 by omega)) (λk d a g Y=>?_) (by omega)⟩
  ·by_cases z:b=D
   ·subst z;rw[hD]at e;cases e;exact A5
   ·exact(Ab z).trans (k' b p z e)
  ·obtain⟨c',lA,g1,g2,g3⟩:=id g;refine(zP k d a ⟨.ref c',?_⟩ g Y).up tD;show _∈f.take f.length;rw[List.take_length];exact B7 g1
def js(K:PySem.W.Frag):Sp:=λm H Q _=>fj λ(D W R:Addr) (a h:ov) (j:List V) (i:List (oB×Int)) (l:Hp) (g:oB) (f:oD)=>Lg (m=[.ref D,.ref W,.ref R]) (H D=some (.dT a)) (Cr g f H a) (H W=some (.dT h)) (Fm g f l a 48000 H h) ((∀k b c,An H a k b->some c∈Ay g k.1 f k.2 b->Cg H h c k b)) (H R=some (.lst j)) (Ae (Fl H) i j) (Cp H a<=24000) (∀(B:Addr) (bs:List V) (e:List (oB×Int)) (d:Hp),H B=none->F5 a H d->Cr g f d a->d B=some (.lst bs)->Ae (Fl d) e bs->Cp d a+bs.length<=Cp H a->
  (∀k b,An d a k b↔(An H a k b/\∀c∈i,some c∉Ay g k.1 f k.2 b))->(∀k,k∈e↔((∃b,An H a k b)/\∀b,¬An d a k b))->Q (.ref B) d)
theorem ug{fd:pa}(F:Ea K "without_calls_left" "without_calls_left" pi ad.mU fd):Bg P w K mg base Dr 1 ad.mU fd ["pending","ways","ranked"] (js K):=by
 refine F.ok Pf (λvs H Q E h=>?_) (λaR A outer s H vs Q E hr h=>?_)
 ·rcases h with⟨D,W,R,d,wv,rs,cK,H0,X,O,rfl,hD,bW,hW,yP,nQ,hR,AZ,hle,q⟩<;>rfl
 ·obtain⟨D,W,R,d,wv,rs,cK,H0,X,O,rfl,hD,bW,hW,yP,nQ,hR,AZ,hle,q⟩:=h;refine⟨_,(A6 (Ak (i:=3) Pf.nd rfl (Or.inl rfl) (Dy A7)) (A6 (Cv lG rfl (Di (pv 2)) (Al (i:=4) Pf.nd rfl (Or.inl rfl)) (A9 (Cv lG rfl (Di (Yh (ak (Ds hr) (pv 1) (pv 4) (Dy A7) ⟨rfl,rfl,rfl,rfl⟩))) (Cy K (n:=2) rfl (Ar (Al (i:=5) Pf.nd rfl (Or.inl rfl)) (Ar (Al (i:=6) Pf.nd rfl (Or.inl rfl)) Cz))) (A6 (Ak (i:=7) Pf.nd rfl (Or.inl rfl) (Er (Ds hr) (pv 0) (pv 5) (λ_ _=>rfl))) (A9 (El (Ey (Ng (Ds hr) (pv 6) (pv 7)) rfl) (A6 (E9 (am (pv 7) (pv 6) ⟨rfl,rfl,rfl,rfl⟩)) (A9 (El (D8 (Wk (pv 7))) (A9 (E9 (J0 PySem.F.plainAttrs_list PySem.F.slot_list_append PySem.F.type_list_append Fu (pv 3) (A0 (pv 5) A7)))) Ap))) Ap)))))) (A9 (Ah (pv 3))))),?_⟩;have nR:=bW.ok;refine⟨Br,λB hB=>?_⟩;have s1:A8 H (upd H B (.lst [])):=A8.upd hB;have e1:(upd H B (.lst [])) B=some (.lst []):=A5;generalize upd H B (.lst [])=H1 at s1 e1⊢;have c1:∀c p,H c=some (.dK p)->H1 c=some (.dK p):=λc p e=>s1 _ _ e;refine⟨_,rfl,R,rfl,.inl ⟨⟨_,Be.of (s1 _ _ hR)⟩,?_⟩⟩
  refine D4 (K:=K) (a:=R) (xs:=rs) (λi σ G=>fh λ(bs:List V) (o:List (oB×Int)) (v4 v5 v6 v7:Option V)=>Vk (σ=[some (.ref D),some (.ref W),some (.ref R),some (.ref B),v4,v5,v6,v7]) (F5 d H G) (Cr X O G d) (G B=some (.lst bs)) (Ae (Fl G) o bs) (Cp G d+bs.length<=Cp H d) (X7 B G d) ((∀k a,An G d k a->An H d k a)) ((∀k a,An H d k a->(∀f∈cK.take i,some f∉Ay X k.1 O k.2 a)->An G d k a)) ((∀f∈cK.take i,∀k a,some f∈Ay X k.1 O k.2 a->¬An G d k a)) ((∀k,k∈o↔((∃a,An H d k a)/\∀a,¬An G d k a))))
   ⟨[],[],_,_,_,_,rfl,F5.of s1,bW.keep (LT.of s1) c1,e1,Ae.nil,by rw[Ew nR c1];exact da _,(X7.start nR hB).keep nR c1,(λk a z=>(An.keep bW c1).mp z),(λk a z _=>(An.keep bW c1).mpr z),(λf z=>by rw[List.take_zero]at z;cases z),λk=>⟨(λz=>by cases z),λz=>?_⟩⟩ (by rintro i σ G _ ⟨_,_,_,_,_,_,_,ch,_⟩;exact Be.of (ch.keep nR hR (λp z=>nomatch z))) ?_ ?_
  ·obtain⟨⟨a,C⟩,r⟩:=z;exact absurd ((An.keep bW c1).mpr C) (r a)
  ·rintro i u σ G hu ⟨bs,o,v4,v5,v6,v7,rfl,ch,fV,UN,ZP,ZQ,nb,l1,l2,l3,l4⟩;obtain⟨lk,yS,lb,lu,rfl,ZR,ZS⟩:=AZ.get hu;have ZC:D9 H lb lk:=⟨lu,ZR,ZS⟩;have yU:=fV.ok;have lt':=ch.lt nR;have AY:=ch.keep nR hW (λp z=>nomatch z);have ZT:=yP.up lt' (da _);refine⟨(λv L=>Yu λ(N:Addr) (jX:List V)=>Ls (v=.ref N) (L N=some (.lst jX)) (N≠B) ((∀u∈jX,Pz X O d L lk u)) ((∀lx,Af wv lk=some (.ref lx)->lx=N)) (A8 G L)),⟨_,rfl,W,rfl,.inr ⟨wv,.inl AY⟩,_,rfl,Br,λE hE=>?_⟩,?_⟩
   ·have s6:A8 G (upd G E (.lst [])):=A8.upd hE;refine⟨_,Ct.t (s6 _ _ AY) ((ZC.up lt'.2).up (Aj.of s6)),?_⟩;cases hv:Af wv lk with
    |none=>exact⟨E,[],rfl,A5,(Ag UN hE).symm,(λu hu=>by cases hu),(λlx z=>by cases z),s6⟩
    |some v=>
     obtain⟨N,jX,e2,h0,h1,h2,h3⟩:=yP.1 _ (B7 hv);obtain⟨lc,NG,e3,_,J,_,g3⟩:=ZT.1 _ (B7 hv);have e23:V.ref N=V.ref lc:=e2.symm.trans e3;cases e23;have e3':v=.ref N:=e3;exact⟨N,NG,e3,s6 _ _ J,Ag h1 hB,(λu hu=>(g3 u hu).up (Aj.of s6)),(λlx z=>by rw[e3']at z;cases z;rfl),s6⟩
   rintro v L ⟨N,jX,rfl,ZU,ZV,ZW,hlx,s7⟩;refine⟨N,rfl,.inl ⟨⟨_,Be.of ZU⟩,?_⟩⟩;have c7:∀c p,G c=some (.dK p)->L c=some (.dK p):=λc p e=>s7 _ _ e;have ZX:=fV.keep (LT.of s7) c7;have lt7:LT H L:=lt'.trans (LT.of s7)
   refine D4 (K:=K) (a:=N) (xs:=jX) (λj σ m=>rj λ(bs:List V) (o:List (oB×Int)) (v5 v6 v7:Option V)=>j9 (σ=[some (.ref D),some (.ref W),some (.ref R),some (.ref B),some (.ref lb),v5,v6,v7]) (F5 d H m) (Cr X O m d) (m B=some (.lst bs)) (Ae (Fl m) o bs) (Cp m d+bs.length<=Cp H d) (X7 B m d) ((∀k a,An m d k a->An H d k a)) ((∀k a,An H d k a->(∀f∈cK.take (i+1),some f∉Ay X k.1 O k.2 a)->An m d k a)) ((∀f∈cK.take i,∀k a,some f∈Ay X k.1 O k.2 a->¬An m d k a)) ((∀k,k∈o↔((∃a,An H d k a)/\∀a,¬An m d k a))) (Aj L m) (m N=some (.lst jX)) ((∀k a,An m d k a->An L d k a)) (∀t b a k,V.ref t∈jX.take j->L t=some (.tup [.ref b,.int ((a:Nat):Int)])->D9 L b k->¬An m d k a))
    ⟨bs,o,_,_,_,rfl,ch.trans (F5.of s7),ZX,s7 _ _ UN,ZP.imp (λ_ _ z=>Fl.up (Aj.of s7) z),by rw[Ew yU c7];exact ZQ,nb.keep yU c7,(λk a z=>l1 k a ((An.keep fV c7).mp z)),(λk a C r=>(An.keep fV c7).mpr (l2 k a C λf M=>r f (List.take_subset_take_left _ (Nat.le_succ i) M))),(λf M k a C r=>l3 f M k a C ((An.keep fV c7).mp r)),(λk=>(l4 k).trans ⟨λz=>⟨z.1,λa y=>z.2 a ((An.keep fV c7).mp y)⟩,λz=>⟨z.1,λa y=>z.2 a ((An.keep fV c7).mpr y)⟩⟩),(λ_ _ z=>z),ZU,(λk a z=>z),(λt b a k z=>by rw[List.take_zero]at z;cases z)⟩ (by rintro j σ m _ ⟨_,_,_,_,_,_,_,_,_,_,_,_,_,_,_,_,_,e,_⟩;exact Be.of e) ?_ ?_
   ·rintro j u σ m hu2 ⟨Z,kL,v5,v6,v7,rfl,IW,oP,UO,uT,EN,UP,m1,m2,m3,m4,IX,yV,m5,m6⟩;have hpo8:=oP.ok;obtain⟨t,b,a,k,rfl,ht7,hb7,⟨v,aL⟩,ZY⟩:=ZW u (b5 hu2);have ht:=IX _ _ ht7;have hb:=hb7.up IX;refine⟨t,_,rfl,Bm.of ht,rfl,_,_,rfl,_,_,rfl,rfl,?_⟩;have hD8:=IW.keep nR hD (λp z=>nomatch z);have cP:=B7 aL;obtain⟨c,p,ev,Y,iY,yO⟩:=oP.1 _ cP;have ev':v=.ref c:=ev;subst ev'
    have U:∀(HX:Hp),(∀l g,An HX d l g->An m d l g)->¬An HX d k a->∀t' b' g l,V.ref t'∈jX.take (j+1)->L t'=some (.tup [.ref b',.int ((g:Nat):Int)])->D9 L b' l->¬An HX d l g:=λHX uR hx2 t' b' g l C r z3 z4=>by
     rw[List.take_add_one,hu2]at C;rcases hH.mp C with y|y
     ·exact m6 t' b' g l y r z3 (uR _ _ z4)
     ·have e1:t'=t:=by simpa using y
      subst e1;rw[ht7]at r;cases r;obtain⟨u1,f1,f2⟩:=hb7;obtain⟨u2,J,g2⟩:=z3;rw[f1]at J;injection J with J;injection J with J;injection J with ZZ NH;injection NH with NH;injection ZZ with ZZ;injection NH with NH;subst ZZ;rw[f2]at g2
      have ek:k=l:=by
       have h1:k.1=l.1:=by
        have:=eT g2;injection this with this;exact Ln this
       exact Prod.ext h1 NH
      subst ek;exact hx2 z4
    refine⟨_,rfl,_,rfl,D,.ref c,rfl,(by rw[<- aL];exact Ct.t hD8 hb),?_⟩;refine⟨_,rfl,_,rfl,c,_,rfl,Ct.k (k:=.inl (a:Int)) Y,_,rfl,_,λnM=>?_,λnM=>?_,λ_ _ z=>z⟩
    ·obtain⟨w',hw⟩:=Option.isSome_iff_exists.mp nM;have BA:An m d k a:=⟨c,p,aL,Y,by rw[hw];rfl⟩;refine⟨_,rfl,c,rfl,.inl ⟨p,.inl Y⟩,_,rfl,p,.inl (a:Int),w',Y,rfl,hw,?_⟩;have ch9:F5 d m (upd m c (.dK (C0 p (.inl (a:Int))))):=F5.pop cP rfl;have uU:Cr X O (upd m c (.dK (C0 p (.inl (a:Int))))) d:=oP.pop Y;have yW:LT m (upd m c (.dK (C0 p (.inl (a:Int))))):=LT.dK Y;have UQ:(upd m c (.dK (C0 p (.inl (a:Int))))) c=some (.dK (C0 p (.inl (a:Int)))):=A5;have UR:X7 B (upd m c (.dK (C0 p (.inl (a:Int))))) d:=UP.pop Y;have EO:=(P4 Y (g9 hw) (kvs:=d)).2 ⟨_,cP,rfl⟩;have ER:∀l g,An (upd m c (.dK (C0 p (.inl (a:Int))))) d l g↔An m d l g/\¬(l=k/\g=a):=λl g=>An.pop oP aL Y;generalize upd m c (.dK (C0 p (.inl (a:Int))))=I at ch9 uU yW UQ UR EO ER⊢;have NI:=uU.ok;have NJ:=yW.1 _ _ UO;have hb9:=hb.up yW.2;have n1:∀l g,An I d l g->An H d l g:=λl g z=>m1 _ _ ((ER l g).mp z).1
     have n2:∀l g,An H d l g->(∀f∈cK.take (i+1),some f∉Ay X l.1 O l.2 g)->An I d l g:=λl g C r=>(ER l g).mpr ⟨m2 _ _ C r,λe=>by
      refine r lk ?_ (by rw[e.1,e.2];exact ZY);rw[List.take_add_one,yS];simp⟩
     have n3:∀f∈cK.take i,∀l g,some f∈Ay X l.1 O l.2 g->¬An I d l g:=λf M l g C r=>m3 f M l g C ((ER l g).mp r).1;have n5:∀l g,An I d l g->An m d l g:=λl g z=>((ER l g).mp z).1;have n6:=U I n5 (λz=>((ER k a).mp z).2 ⟨rfl,rfl⟩);have S:∀l,l≠k->((∀g,¬An I d l g)↔∀g,¬An m d l g):=λl dH=>⟨λz g y=>z g ((ER l g).mpr ⟨y,λe=>dH e.1⟩),λz g y=>z g (n5 _ _ y)⟩;have hkb:k∉kL:=λz=>((m4 k).mp z).2 a BA;refine⟨_,rfl,c,_,rfl,.inl UQ,_,λhe=>?_,λhe=>?_,λ_ _ z=>z⟩
     ·have lB:C0 p (.inl (a:Int))=[]:=by
       have:(C0 p (.inl (a:Int))).isEmpty=true:=by simpa using he
       exact List.isEmpty_iff.mp this
      have NK:∀g,¬An I d k g:=λg z=>by
       obtain⟨c',lA,J,g2,g3⟩:=z;rw[aL]at J;cases J;rw[UQ]at g2;cases g2;rw[lB]at g3;cases g3
      refine⟨_,rfl,.inl ⟨rfl,_,Be.of NJ⟩,_,rfl,B,_,_,rfl,rfl,NJ,Bo (by omega),?_⟩;have uV:Aj I (upd I B (.lst (Z++[.ref b]))):=Aj.lst NJ
      have US:∀c' lA,I c'=some (.dK lA)->(upd I B (.lst (Z++[.ref b]))) c'=some (.dK lA):=λc' lA e=>by
       rw[Ab (Bl e NJ (by intro z;cases z))];exact e
      have kl:∀x xs,x≠B->I x=some (.lst xs)->(upd I B (.lst (Z++[.ref b]))) x=some (.lst xs):=λx xs n e=>(Ab n).trans e;have oQ:∀l g,An (upd I B (.lst (Z++[.ref b]))) d l g↔An I d l g:=λl g=>An.keep uU US;obtain⟨ub,hb91,hb92⟩:=hb9;refine⟨Z++[.ref b],kL++[k],_,_,_,rfl,(IW.trans ch9).new hB,uU.MS UR uV kl US,A5,(uT.imp λ_ _ z=>Fl.up uV (Fl.up yW.2 z)).append (Ae.one ⟨b,ub,rfl,uV _ _ hb91,uV _ _ hb92⟩),?_,UR.keep NI US,(λl g z=>n1 _ _ ((oQ l g).mp z)),(λl g C r=>(oQ l g).mpr (n2 _ _ C r)),(λf M l g C r=>n3 f M l g C ((oQ l g).mp r)),(λl=>?_),(IX.trans yW.2).trans uV,kl _ _ ZV (yW.1 _ _ yV),(λl g z=>m5 _ _ (n5 _ _ ((oQ l g).mp z))),(λt' b' g l C r z3 z4=>n6 t' b' g l C r z3 ((oQ l g).mp z4))⟩
      ·rw[Ew NI US,List.length_append,List.length_singleton];omega
      ·have e10:(∀g,¬An (upd I B (.lst (Z++[.ref b]))) d l g)↔∀g,¬An I d l g:=⟨λz g y=>z g ((oQ l g).mpr y),λz g y=>z g ((oQ l g).mp y)⟩;rw[e10];by_cases dH:l=k
       ·subst dH;exact⟨λ_=>⟨⟨a,m1 _ _ BA⟩,NK⟩,λ_=>by simp⟩
       ·rw[S l dH,<- m4 l];simp[dH]
     ·have cE:C0 p (.inl (a:Int))≠[]:=λz=>by
       rw[z]at he;exact absurd he (by decide)
      refine⟨Z,kL,_,_,_,rfl,IW.trans ch9,uU,NJ,uT.imp (λ_ _ z=>Fl.up yW.2 z),by omega,UR,n1,n2,n3,(λl=>?_),IX.trans yW.2,yW.1 _ _ yV,(λl g z=>m5 _ _ (n5 _ _ z)),n6⟩;by_cases dH:l=k
      ·subst dH;refine⟨λz=>absurd z hkb,λz=>?_⟩;obtain⟨x,hx⟩:=List.exists_mem_of_ne_nil _ cE;obtain⟨uQ,l9,us9,J,_⟩:=yO x (Mw hx)
       have hs:(Af (C0 p (.inl (a:Int))) (.inl (uQ:Int))).isSome=true:=by
        obtain⟨y,hy⟩:=Lr (k:=x.1) (v:=x.2) hx;rw[<- J,hy];rfl
       exact absurd ⟨c,_,aL,UQ,hs⟩ (z.2 uQ)
      ·rw[S l dH];exact m4 l
    ·have mB:¬An m d k a:=λz=>by
      obtain⟨c',lA,J,g2,g3⟩:=z;rw[aL]at J;cases J;rw[Y]at g2;cases g2;rw[nM]at g3;cases g3
     exact⟨Z,kL,_,_,_,rfl,IW,oP,UO,uT,EN,UP,m1,m2,m3,m4,IX,yV,m5,U m (λ_ _ z=>z) mB⟩
   rintro σ m ⟨Z,kL,v5,v6,v7,rfl,IW,oP,UO,uT,EN,UP,m1,m2,m3,m4,IX,yV,m5,m6⟩;refine⟨Z,kL,_,_,_,_,rfl,IW,oP,UO,uT,EN,UP,m1,m2,(λf M k a C r=>?_),m4⟩;rw[List.take_add_one,yS]at M;rcases hH.mp M with y|y
   ·exact m3 f y k a C r
   ·have e1:f=lk:=by simpa using y
    subst e1;obtain⟨lx,ux,tx,bx,f1,f2,f3,f4,f5⟩:=(nQ k a f (m1 _ _ r) C).up lt7;have ex:=hlx lx f1;subst ex;rw[ZU]at f2;cases f2;refine m6 tx bx a k ?_ f4 f5 r;rw[List.take_length];exact f3
  rintro σ G ⟨bs,o,v4,v5,v6,v7,rfl,ch,fV,UN,ZP,ZQ,nb,l1,l2,l3,l4⟩;rw[AZ.1,List.take_length]at l2 l3;exact⟨_,rfl,q B bs o G hB ch fV UN ZP ZQ (λk a=>⟨λz=>⟨l1 k a z,λf M y=>l3 f M k a y z⟩,λz=>l2 k a z.1 z.2⟩) l4⟩
def R7(K:W.Frag):Sp:=λf H Q _=>Rf λ(a:Addr) (b:oB) (c:oD)=>Js (f=[.ref a]) (Ax H a b c) ((∀w∈b,1<=w)) (1<=qv c) ((∀w∈b,intBits w<=256)) (intBits (qv c)<=256) (b.length<=8) (Bx (qv c) b<=3000) (∀(T:Addr) (d:ov) (e:Hp),H T=none->A8 H e->e T=some (.dT d)->Bv b c d->(d.map (·.1)).Nodup->d.length<=60000->Q (.ref T) e)
theorem o6{fd NL ES NM:pa}(F:Ea K "ranks" "ranks" Wy ad.dN fd)(yX:Gk P w K mg base 6 ad.mT ["hall"] (jv K) NL)(qT:Gk P w K mg base 1 ad.gI ["pending"] (dz K) ES)(yY:Gk P w K mg base 1 ad.mU ["pending","ways","ranked"] (js K) NM):Bg P w K mg base Dr 7 ad.dN fd ["hall"] (R7 K):=by
 refine F.ok Gp (λvs H Q E h=>?_) (λaR A outer s H vs Q E hr h=>?_)
 ·rcases h with⟨a,ws,cm,rfl,ha,cD,AW,nG,rX,jB,hp,q⟩<;>rfl
 ·obtain⟨a,ws,cm,rfl,ha,cD,AW,nG,rX,jB,hp,q⟩:=h;refine⟨_,(A6 (Ak (i:=1) Gp.nd rfl (Or.inl rfl) (Ac yX.g (hr.mono (by decide)) rfl T.XR T.XS yX.b .nil Ai (A0 (pv 0) A7))) (A6 (Ak (i:=2) Gp.nd rfl (Or.inl rfl) (Ac qT.g (hr.mono (by decide)) rfl T.LK T.LL qT.b .nil Ai (A0 (pv 1) A7))) (A6 (Ak (i:=3) Gp.nd rfl (Or.inl rfl) Hq) (A6 (Ak (i:=4) Gp.nd rfl (Or.inl rfl) Ad) (A6 (Qr (De (i:=5) Gp.nd rfl (K7 (pv 1)) _ rfl Tx rfl rfl (λ_ _ _ _=>(Cy K (n:=2) rfl (Ar (Al (i:=0) N9 rfl (Or.inl rfl)) (Ar (Al (i:=1) N9 rfl (Or.inl rfl)) Cz)))) (λ_ _ _ _=>(Qs (D8 (Wk (pv 1))))) (λ_ _ _ _=>(pv 0)) rfl rfl)) (A6 (Kb lG (Kc (pv 5) (by intro _;rfl)) (A6 (Cv lG rfl (Di (pv 5)) (Al (i:=6) Gp.nd rfl (Or.inl rfl)) (A9 (Ka (Ds hr) (pv 3) (pv 6) (pv 4) rfl))) (A6 (Ak (i:=5) Gp.nd rfl (Or.inl rfl) (Ac yY.g (hr.mono (by decide)) rfl T.XT T.XU yY.b .nil Ai (A0 (pv 1) (A0 (pv 2) (A0 (pv 5) A7))))) (A9 (Ak (i:=4) Gp.nd rfl (Or.inl rfl) (Bd Dc (pv 4) Ad)))))) (A9 (Ah (pv 3))))))))),?_⟩;refine⟨_,rfl,a,ws,cm,rfl,ha,cD,AW,nG,rX,jB,hp,λD d H1 hD s1 eD bW bZ uS kB oM=>?_⟩;have nR:=bW.ok;refine⟨_,rfl,D,d,ws,cm,rfl,eD,bW,oM,λW wv H2 hW s2 eW yP hcmp IJ=>?_⟩;refine λT hT=>?_;have s3:A8 H2 (upd H2 T (.dT [])):=A8.upd hT;have e3:(upd H2 T (.dT [])) T=some (.dT []):=A5;generalize upd H2 T (.dT [])=U at s3 e3⊢;have xO:=s2.trans s3;have IY:=xO _ _ eD;have hTD:T≠D:=(Ag (s2 _ _ eD) hT).symm;refine⟨D,.dT d,trivial,IY,_,rfl,D,.dT d,rfl,trivial,IY,λo=>?_⟩;have yZ:=bW.keep (LT.of xO) (λc l e=>xO _ _ e);have hpo3:=yZ.ok;have NN:=uS.keep bW (λc l e=>xO _ _ e);have tF:LT U (upd U D (.cF o (.dT d))):=LT.dT IY
  have kF:∀c l,U c=some (.dK l)->(upd U D (.cF o (.dT d))) c=some (.dK l):=λc l e=>by
   rw[Ab (Bl e IY (by intro z;cases z))];exact e
  have bF:∀b C,b≠D->U b=some C->(upd U D (.cF o (.dT d))) b=some C:=λb C n e=>(Ab n).trans e;have dF:(upd U D (.cF o (.dT d))) D=some (.cF o (.dT d)):=A5;have zc:=yZ.keep tF kF;have BB:=NN.keep yZ kF;generalize upd U D (.cF o (.dT d))=HF at tF kF bF dF zc BB⊢;refine λR hR=>?_;refine Mo (K:=K) (d:=D) (o:=o) (u:=.dT d) (λi zs j=>∃(J:List (oB×Int)),Gc (j R=some (.lst zs)) (zs.length<=i) (Ae (Fl j) J zs) (A8 HF j) (∀k,k∈J↔∃v,(k,v)∈d.take i/\Yt HF v)) ⟨[],A5,da _,Ae.nil,A8.upd hR,λk=>⟨(λz=>by cases z),λ⟨v,z,_⟩=>by rw[List.take_zero]at z;cases z⟩⟩ (by rintro i zs j _ ⟨_,_,_,_,s,_⟩;exact s _ _ dF) ?_ ?_ ?_ ?_
  ·rintro i x y T2 zs j hi hit ⟨J,xM,qP,cU,s',NO⟩ NA;have hi3:i<3000:=hG hi oM;obtain⟨kk,bb,O,rfl,sY⟩:=hit;obtain⟨c,l,ey,hc,iY,yO⟩:=zc.1 _ (b5 O);have YR:y=.ref c:=ey;subst YR;have s4:A8 j (upd j T2 (.tup [.ref bb,.ref c])):=A8.upd NA;have e4:(upd j T2 (.tup [.ref bb,.ref c])) T2=some (.tup [.ref bb,.ref c]):=A5;generalize upd j T2 (.tup [.ref bb,.ref c])=N at s4 e4⊢;have zd:=s4 _ _ xM;refine⟨_,rfl,c,l,rfl,.inl (s4 _ _ (s' _ _ hc)),?_⟩;obtain⟨ku,xK,tV⟩:=sY.up (Aj.of s4);refine Dv (λNP=>?_) (λNP=>?_)
   ·have lB:l=[]:=by
     have:l.isEmpty=true:=by simpa using NP
     exact List.isEmpty_iff.mp this
    subst lB;have tt:Aj N (upd N R (.lst (zs++[.ref bb]))):=Aj.lst zd;refine⟨_,rfl,zd,Bo (by omega),J++[kk],A5,by rw[List.length_append,List.length_singleton];omega,(cU.imp λ_ _ z=>Fl.up tt (Fl.up (Aj.of s4) z)).append (Ae.one ⟨bb,ku,rfl,tt _ _ xK,tt _ _ tV⟩),(s'.trans s4).new hR,λk=>?_⟩;rw[List.mem_append,NO,List.mem_singleton,List.take_add_one,O];constructor
    ·rintro(⟨v,Z,S⟩|z)
     ·exact⟨v,ib _ Z,S⟩
     ·subst z;exact⟨.ref c,by simp,c,rfl,hc⟩
    ·rintro⟨v,Z,S⟩;rcases hH.mp Z with y|y
     ·exact .inl ⟨v,y,S⟩
     ·have G:(k,v)=(kk,.ref c):=by simpa using y
      cases G;exact .inr rfl
   ·have cE:l≠[]:=λz=>by
     rw[z]at NP;exact absurd NP (by decide)
    refine⟨J,zd,by omega,cU.imp λ_ _ z=>Fl.up (Aj.of s4) z,s'.trans s4,λk=>?_⟩;rw[NO,List.take_add_one,O];constructor
    ·rintro⟨v,Z,S⟩;exact⟨v,ib _ Z,S⟩
    ·rintro⟨v,Z,S⟩;rcases hH.mp Z with y|y
     ·exact⟨v,y,S⟩
     ·have G:(k,v)=(kk,.ref c):=by simpa using y
      cases G;obtain⟨c',M,e3⟩:=S;cases M;rw[hc]at e3;cases e3;exact absurd rfl cE
  ·rintro σ H1 Q1 Q2 hQ ⟨v,G,c,l,M,r,z⟩;exact⟨v,G,c,l,M,r,hQ _ _ z⟩
  ·rintro σ H1 Q1 Q2 hQ ⟨v,G,z⟩;exact⟨v,G,hQ _ _ z⟩
  rintro zs HG ⟨ET,NQ,qP,cU,sG,BC⟩;rw[show d.take (Dk (.dT d))=d from List.take_length]at BC;have uW:=Gr.start zc bZ BB BC;have ze:=sG _ _ dF;have ZO:Dk (.dT d)<=3000:=oM;have tG:LT HG (upd HG D (.dT d)):=⟨λb xs e=>by rw[Ab (Bl e ze (by intro z;cases z))];exact e,λb xs e=>by rw[Ab (Bl e ze (by intro z;cases z))];exact e⟩
  have nJ:A8 U (upd HG D (.dT d)):=λb C e=>by
   by_cases z:b=D
   ·subst z;rw[IY]at e;cases e;exact A5
   ·exact(Ab z).trans (sG _ _ (bF b C z e))
  refine⟨o,ze,?_⟩;have zd:=tG.1 _ _ NQ;have sC:Ae (Fl (upd HG D (.dT d))) ET zs:=cU.imp λ_ _ z=>Fl.up tG.2 z
  have cG:∀c l,HF c=some (.dK l)->(upd HG D (.dT d)) c=some (.dK l):=λc l e=>by
   rw[Ab (Bl (sG _ _ e) ze (by intro z;cases z))];exact sG _ _ e
  have hR3:U R=none:=by
   cases hx:U R with
   |none=>rfl
   |some C=>
    by_cases z:R=D
    ·rw[z,dF]at hR;cases hR
    ·rw[bF R C z hx]at hR;cases hR
  generalize upd HG D (.dT d)=N at tG nJ zd sC cG⊢;clear tG NQ cU sG ze;have NR:=yZ.keep (LT.of nJ) (λc l e=>nJ _ _ e);have EU:=NR.ok
  have hst4:Gr ws cm [] ET 1 (An N d):=by
   have e:An N d=An HF d:=by
    funext k f;exact propext (An.keep zc cG)
   rw[e];exact uW
  have hcm4:∀k f p,An N d k f->some p∈Ay ws k.1 cm k.2 f->Cg N wv p k f:=λk f p Z S=>((hcmp k f p ((An.keep bW (λc l e=>nJ _ _ (xO _ _ e))).mp Z) S).up (LT.of s3)).up (LT.of nJ);have eD4:=nJ _ _ IY;have eW4:=nJ _ _ (s3 _ _ eW);have eT4:=nJ _ _ e3;have hwo4:=yP.up ((LT.of s3).trans (LT.of nJ)) (da _)
  have hl4:Cp N d<=24000:=by
   have:=N4 EU;omega
  have hTv:∀I∈d,I.2≠ .ref T:=λI O z=>by
   obtain⟨c,l,G,M,_⟩:=hpo3 I O;rw[z]at G;cases G;rw[e3]at M;cases M
  dsimp only
  refine Hz (λσ' j=>fh λ(R:Addr) (X:List V) (J:List (oB×Int)) (tv:ov) (g:Int) (v6:Option V)=>Lg (σ'=[some (.ref a),some (.ref D),some (.ref W),some (.ref T),some (.int g),some (.ref R),v6]) ((∀b C,b≠T->N b=some C->(∀I∈d,I.2≠ .ref b)->j b=some C)) (Cr ws cm j d) (j T=some (.dT tv)) ((tv.map (·.1)).Nodup) (j R=some (.lst X)) (Ae (Fl j) J X) (Gr ws cm tv J g (An j d)) ((∀k f,An j d k f->An N d k f)) (tv.length+X.length+Cp j d<=27000))
   (λσ' j=>2*Cp j d+match σ' with
    |[_,_,_,_,_,some (.ref R),_]=>(match j R with
     |some (.lst [])=>0
     |_=>1)
    |_=>0) ⟨R,zs,ET,[],1,_,rfl,(λb C _ e _=>e),NR,eT4,List.Pairwise.nil,zd,sC,hst4,(λ_ _ z=>z),by show 0+zs.length+_<=_;omega⟩ ?_ ?_
  ·rintro σ' j ⟨R,X,J,tv,g,v6,rfl,kp,fV,BD,htv,xM,AZ,NS,yC,hsum⟩;have yU:=fV.ok;refine⟨_,rfl,_,.inl ⟨_,Be.of xM,rfl⟩,?_⟩
   have nH:=kp D _ hTD.symm eD4 (λI O z=>by
    obtain⟨c,l,G,M,_⟩:=EU I O;rw[z]at G;cases G;rw[eD4]at M;cases M)
   refine Dv (λcE=>?_) (λlB=>?_)
   ·have hrs0:0<X.length:=by
     cases X with
     |nil=>exact absurd cE (by decide)
     |cons x xs=>simp
    have hRT:R≠T:=Bl xM BD (by intro z;cases z)
    have mu0:(match j R with
     |some (.lst [])=>0
     |_=>1)=1:=by
     rw[xM];cases X with
     |nil=>exact absurd hrs0 (by decide)
     |cons x xs=>rfl
    refine⟨_,rfl,R,rfl,.inl ⟨⟨_,Be.of xM⟩,?_⟩⟩
    refine D4 (K:=K) (a:=R) (xs:=X) (λi σ L=>Yu λ(Y:ov) (v6:Option V)=>Tm (σ=[some (.ref a),some (.ref D),some (.ref W),some (.ref T),some (.int g),some (.ref R),v6]) ((∀b,b≠T->L b=j b)) (L T=some (.dT Y)) ((Y.map (·.1)).Nodup) ((∀I∈Y,∃n:Int,I.2=.int n/\1<=n/\n<g+1)) ((∀k,Af Y k=if k∈J.take i then some (.int g)else Af tv k)) (Y.length<=tv.length+i))
     ⟨tv,_,rfl,(λ_ _=>rfl),BD,htv,(λI O=>by obtain⟨n,G,M,e3⟩:=NS.2.1 I O;exact⟨n,G,M,by omega⟩),(λk=>by rw[List.take_zero,if_neg (by simp)]),da _⟩ (by rintro i σ L _ ⟨_,_,_,e,_⟩;exact Be.of ((e R hRT).trans xM)) ?_ ?_
    ·rintro i u σ L hu ⟨Y,v6,rfl,k5,hT5,EW,EX,zf,hl5⟩;have hi:=(bA.mp hu).1;obtain⟨k,NT,b,u1,rfl,nG,rX⟩:=AZ.get hu;have hbk:D9 L b k:=⟨u1,(k5 b (Bl nG BD (by intro z;cases z))).trans nG,(k5 u1 (Bl rX BD (by intro z;cases z))).trans rX⟩;refine⟨_,rfl,_,rfl,_,rfl,T,_,rfl,Rc.t hT5 hbk (Bo (by omega)),?_⟩;refine⟨B6 Y k (.int g),_,rfl,(λx n=>(Ab n).trans (k5 x n)),A5,lz EW,Su (P:=λv=>∃n:Int,v=.int n/\1<=n/\n<g+1) EX ⟨g,rfl,NS.1,by omega⟩,(λk'=>?_),eI (Dh _ _ _) (by omega)⟩;rw[Ga,zf,List.take_add_one,NT];by_cases z:k'=k
     ·rw[if_pos z,if_pos (by rw[z];simp)]
     ·rw[if_neg z];have e:(k'∈J.take i++(some k).toList)↔k'∈J.take i:=by simp[z]
      by_cases y:k'∈J.take i
      ·rw[if_pos y,if_pos (e.mpr y)]
      ·rw[if_neg y,if_neg (λx=>y (e.mp x))]
    rintro σ L ⟨Y,v65,rfl,k5,hT5,EW,EX,zf,hl5⟩;rw[AZ.1,List.take_length]at zf;have c5:∀c l,j c=some (.dK l)->L c=some (.dK l):=λc l e=>(k5 c (Bl e BD (by intro z;cases z))).trans e;have t5:LT j L:=⟨λb xs e=>(k5 b (Bl e BD (by intro z;cases z))).trans e,λb xs e=>(k5 b (Bl e BD (by intro z;cases z))).trans e⟩;have NU:=fV.keep t5 c5;have oN:=NU.ok;have UT:∀k f,An L d k f↔An j d k f:=λk f=>An.keep fV c5
    have elp5:An L d=An j d:=by
     funext k f;exact propext (UT k f)
    have hl5e:=Ew yU c5;have kp5:∀b C,b≠T->N b=some C->(∀I∈d,I.2≠ .ref b)->L b=some C:=λb C n e m=>(k5 b n).trans (kp b C n e m)
    have uY:∀b C,b≠T->N b=some C->(∀l,C≠ .dK l)->L b=some C:=λb C n e m=>kp5 b C n e λI O z=>by
     obtain⟨c,l,G,M,_⟩:=EU I O;rw[z]at G;cases G;rw[e]at M;exact m l (eT M)
    have hWT:W≠T:=Ag eW hT;have t45:LT N L:=⟨λb xs e=>uY b _ (Bl e eT4 (by intro z;cases z)) e (λl z=>nomatch z),λb xs e=>uY b _ (Bl e eT4 (by intro z;cases z)) e (λl z=>nomatch z)⟩;refine⟨_,rfl,_,rfl,_,rfl,D,W,R,d,wv,X,J,H1,ws,cm,rfl,(k5 D hTD.symm).trans nH,NU,uY W _ hWT eW4 (λl z=>nomatch z),hwo4.up t45 (da _),(λk f p Z S=>(hcm4 k f p (yC k f ((UT k f).mp Z)) S).up t45),(k5 R hRT).trans xM,AZ.imp (λ_ _ z=>Fl.up t5.2 z),eI (N4 oN) (by omega),λB bs beta H6 hB ch6 hps6 IZ hbs6 NV NW hbt6=>?_⟩;have hri6:Gr ws cm Y beta (g+1) (An H6 d):=Gr.step NS zf EX (λk f=>by rw[NW,UT]) (λk=>by rw[hbt6,elp5]);have hT6:H6 T=some (.dT Y):=ch6 T _ hT5 hTv;refine⟨_,rfl,_,_,rfl,rfl,⟨B,bs,beta,Y,g+1,_,rfl,(λb C n e m=>ch6 b C (kp5 b C n e m) m),hps6,hT6,EW,IZ,hbs6,hri6,(λk f z=>yC k f ((UT k f).mp ((NW k f).mp z).1)),by omega⟩,?_⟩
    show 2*Cp H6 d+(match H6 B with
     |some (.lst [])=>0
     |_=>1)<2*Cp j d+(match j R with
     |some (.lst [])=>0
     |_=>1)
    rw[mu0,IZ];cases bs with
    |nil=>
     show 2*Cp H6 d+0<_;have:Cp H6 d+0<=Cp L d:=NV;omega
    |cons x xs=>
     show 2*Cp H6 d+1<_;rw[List.length_cons]at NV;omega
   ·have hrs1:X=[]:=by
     cases X with
     |nil=>rfl
     |cons x xs=>exact absurd rfl lB
    have NX:J=[]:=by
     have:=AZ.1;rw[hrs1]at this;exact List.length_eq_zero_iff.mp this.symm
    rw[NX]at NS;refine⟨_,rfl,q T tv j (s1.free (s2.free hT)) (λb C e=>?_) BD NS.done htv (by omega)⟩;have e4:=nJ _ _ (xO _ _ (s1 _ _ e));refine kp b C (λz=>?_) e4 (λI O z=>?_)
    ·have:=s1.free (s2.free hT);rw[z,this]at e;cases e
    ·rw[kB I O b z]at e;cases e
  ·intro σ H0 Q1 Q2 z h1;obtain⟨_,e,k,t,h2⟩:=h1;exact⟨_,e,k,t,z _ _ h2⟩
def Va(K:W.Frag):Sp:=λd H Q _=>X3 λ(c:Addr) (v:V) (o:Option (oB×Int)) (a:ov)=>Gc (d=[.ref c,v]) (H c=some (.dT a)) (F4 H o v) (Rk a) (∀(p:Addr) (b:Hp),A8 H b->b p=some (.tup [.int (told a o).1,.int (told a o).2])->Q (.ref p) b)
theorem o7{r:pa}(F:Ea K "worth" "worth" ci ad.eV r):Bg P w K mg base Dr 1 ad.eV r ["table","behind"] (Va K):=by
 refine F.ok qq (λB H Q E h=>?_) (λC A j s H B Q E u h=>?_)
 ·rcases h with⟨c,v,o,b,rfl,g,a,x,q⟩<;>rfl
 ·obtain⟨c,v,o,b,rfl,g,a,x,q⟩:=h;refine⟨_,(A6 (Bt (B0 Nb (pv 1) Dd (Au _)) (A9 (Ah (Cm (A0 Ad (A0 Ad A7))))) Ap) (A6 (Bt (Ey (Ng (Ds u) (pv 1) (pv 0)) rfl) (A9 (Ah (Cm (A0 Ad (A0 (Er (Ds u) (pv 0) (pv 1) (λ_ _=>rfl)) A7))))) Ap) (A9 (Ah (Cm (A0 Ad (A0 Ad A7))))))),?_⟩;cases o with
  |none=>
   have f:v=.aX:=a;subst f;exact⟨_,rfl,rfl,_,rfl,K0 rfl ⟨Br,λp z=>q p _ (A8.upd z) A5⟩⟩
  |some k=>
   obtain⟨p,f,n⟩:=a;subst f;refine⟨_,rfl,rfl,_,rfl,Dm rfl ?_⟩;refine⟨_,rfl,_,rfl,c,_,rfl,Ct.t g (show D9 H p k from n),_,rfl,Dv (λd=>?_) (λd=>?_)⟩
   ·obtain⟨v,a⟩:=Option.isSome_iff_exists.mp d;obtain⟨m,e⟩:=x k v a;subst e
    have y:Ct H c (.ref p) (some (.int m)):=by
     rw[<- a];exact Ct.t g n
    refine⟨_,rfl,_,rfl,c,_,rfl,y,Br,λl i=>q l _ (A8.upd i) ?_⟩
    have e:told b (some k)=(0,m):=by
     show Pn (Af b k)=_;rw[a];rfl
    rw[e];exact A5
   ·refine⟨Br,λl i=>q l _ (A8.upd i) ?_⟩
    have e:told b (some k)=(1,0):=by
     show Pn (Af b k)=_;cases a:Af b k with
     |none=>rfl
     |some v=>rw[a]at d;exact absurd rfl d
    rw[e];exact A5
def dj(K:W.Frag):Sp:=λj H Q _=>fj λ(a i b:Addr) (d e:oB) (h:oD) (q w:Int) (c:Nat) (f:ov)=>Vk (j=[.ref a,.ref i,.ref b,.int w]) (w=(c:Int)) (Ax H a d h) (Cc H b e q) (H i=some (.dT f)) (Rk f) (c<d.length) (e.length=d.length) (d.length<=8) ((∀x∈d,1<=x)) (∀(p:Addr) (g:Hp),A8 H g->g p=some (.tup [.int (Kj f d e h q c).1,.int (Kj f d e h q c).2])->Q (.ref p) g)
theorem ng{Z oS dX:pa}(F:Ea K "call_worth" "call_worth" Wu ad.gJ Z)(X:Gk P w K mg base 1 ad.eV ["table","behind"] (Va K) oS)(U:Gk P w K mg base 5 ad.cZ ["hall","standing","who"] (Nu K) dX):Bg P w K mg base Dr 6 ad.gJ Z ["hall","table","standing","who"] (dj K):=by
 refine F.ok qj (λvs H Q E h=>?_) (λaR A O s H vs Q E L h=>?_)
 ·rcases h with⟨a,S,b,e,d,c,n,w0,who,f,rfl,rfl,ha,hb,hT,jS,hw,hl,h8,cD,q⟩<;>rfl
 ·obtain⟨a,S,b,e,d,c,n,w0,who,f,rfl,rfl,ha,hb,hT,jS,hw,hl,h8,cD,q⟩:=h;refine⟨_,(A9 (Ah (As (Xf K L rfl) (by rfl) T.uM boot_min (A0 (E8 (Di (Ac U.g (L.mono (by decide)) rfl T.qJ T.qK U.b .nil Ai (A0 (pv 0) (A0 (pv 2) (A0 (pv 3) A7))))) _ rfl Lv rfl rfl (λ_ _ _ _=>(Al (i:=0) M6 rfl (Or.inl rfl))) (λ_ _ _ _=>D0) (λ_ _ _ _=>(Ac X.g (L.mono (by decide)) rfl T.uJ T.uK X.b .nil Ai (A0 (pv 1) (A0 (pv 0) A7))))) A7)))),?_⟩
  have hbl:(Ay e d c n who).length<=2:=by
   unfold Ay;split<;>simp
  refine⟨_,rfl,_,rfl,_,rfl,a,b,e,d,c,n,_,who,rfl,rfl,ha,hb,hw,hl,h8,λl us H1 qI s1 Y nU=>⟨l,rfl,.inl ⟨⟨_,Be.of Y⟩,λW hW=>?_⟩⟩⟩;have lC:=nU.1;refine Kr (K:=K) (a:=l) (xs:=us) (λi g m=>g.length=i/\Tr m (λj=>told f ((Ay e d c n who).getD j none)) g/\m W=some (.lst g)/\A8 H1 m) ⟨rfl,(λj u h=>by simp at h),A5,A8.upd hW⟩ (by rintro i g m _ ⟨_,_,_,s⟩;exact Be.of (s _ _ Y)) ?_ ?_
  ·rintro i y g m hy ⟨qP,C,AY,R⟩ Qe hQ;obtain⟨o,ho,M⟩:=nU.get hy;have hi:=(bA.mp hy).1;refine⟨_,rfl,_,rfl,S,y,o,f,rfl,(s1.trans R) _ _ hT,M.up (Aj.of R),jS,λp r z G=>?_⟩;have B:=z _ _ AY;have tt:Aj r (upd r W (.lst (g++[.ref p]))):=Aj.lst B;refine hQ _ _ B (Bb (by omega)) ⟨by rw[List.length_append,List.length_singleton];omega,C.snoc ((Aj.of z).trans tt) qP (tt _ _ ?_),A5,(R.trans z).new hW⟩;have eo:(Ay e d c n who).getD i none=o:=by rw[List.getD_eq_getElem?_getD,ho];rfl
   show r p=some (.tup [.int (told f ((Ay e d c n who).getD i none)).1,.int (told f ((Ay e d c n who).getD i none)).2]);rw[eo];exact G
  rintro g r ⟨qP,C,B,z⟩;have x:g.length=(Ay e d c n who).length:=by omega
  have aS:=s1.trans z
  have nG:0<(Ay e d c n who).length:=by
   unfold Ay;simp
  refine⟨W,_,_,rfl,Be.of B,C.rp x,by omega,Vs _ _,Vw _ _,λv hv=>?_⟩;obtain⟨p,e1,G⟩:=C _ v hv;subst e1;refine q p r aS ?_;rw[G]
  have N:told f ((Ay e d c n who).getD (Mb ((List.range (Ay e d c n who).length).map λi=>wd (told f ((Ay e d c n who).getD i none)))) none)=Kj f e d c n who:=by
   by_cases D:Ek c n=true
   ·have I:Ay e d c n who=[Cw e d c n who false,Cw e d c n who true]:=by
     unfold Ay;rw[if_pos D]
    rw[I];unfold Kj lw;rw[if_pos D]
    have J:Mb ((List.range [Cw e d c n who false,Cw e d c n who true].length).map λi=>wd (told f ([Cw e d c n who false,Cw e d c n who true].getD i none)))=if Gb (told f (Cw e d c n who false)) (told f (Cw e d c n who true))=true then 1 else 0:=by
     rw[<- Zz];unfold Mb;rw[show((List.range [Cw e d c n who false,Cw e d c n who true].length).map λi=>wd (told f ([Cw e d c n who false,Cw e d c n who true].getD i none))).length-1=0+1 from rfl,Es];rfl
    rw[J];by_cases y:Gb (told f (Cw e d c n who false)) (told f (Cw e d c n who true))=true
    ·rw[if_pos y,if_pos y];rfl
    ·rw[if_neg y,if_neg y];rfl
   ·have I:Ay e d c n who=[Cw e d c n who false]:=by
     unfold Ay;rw[if_neg D]
    rw[I];unfold Kj;rw[if_neg D];rfl
  rw[<- N]
def V7(K:W.Frag):Sp:=λl H Q _=>fi λ(a g b:Addr) (c d:oB) (h:oD) (q:Int) (e:ov)=>Lg (l=[.ref a,.ref g,.ref b]) (Ax H a c h) (Cc H b d q) (H g=some (.dT e)) (Rk e) (0<c.length) (d.length=c.length) (c.length<=8) ((∀x∈c,1<=x)) (∀(j:Nat) (f:Hp),A8 H f->Iw (λi=>Kj e c d h q i) c.length j->Q (.int (j:Int)) f)
theorem nn{S EZ:pa}(F:Ea K "best_call" "best_call" Ww ad.eX S)(qU:Gk P w K mg base 6 ad.gJ ["hall","table","standing","who"] (dj K) EZ):Bg P w K mg base Dr 7 ad.eX S ["hall","table","standing"] (V7 K):=by
 refine F.ok cx (λvs H Q E h=>?_) (λaR A G s H vs Q E C h=>?_)
 ·rcases h with⟨a,N,b,c,f,d,n,g,rfl,B,Z,Y,jS,zO,hl,U,R,q⟩<;>rfl
 ·obtain⟨a,N,b,c,f,d,n,g,rfl,B,Z,Y,jS,zO,hl,U,R,q⟩:=h;refine⟨_,(A6 (De (i:=3) cx.nd rfl (Dz (by rfl) T.cJ (A0 (As (B8 K) (by rfl) T.bB PySem.boot_len (A0 (Bk (Bj K) (pv 0) Ad (λ_ _=>rfl)) A7)) A7)) _ rfl Mq rfl rfl (λ_ _ _ _=>(Al (i:=0) N8 rfl (Or.inl rfl))) (λ_ _ _ _=>D0) (λ_ _ _ _=>(Ac qU.g (C.mono (by decide)) rfl T.LM T.LN qU.b .nil Ai (A0 (pv 1) (A0 (pv 2) (A0 (pv 3) (A0 (pv 0) A7)))))) rfl rfl) (A9 (Ah (J0 PySem.F.plainAttrs_list PySem.F.slot_list_index PySem.F.type_list_index (Y7 C) (pv 3) (A0 (As (Xe K C rfl) (by rfl) T.AN boot_max (A0 (pv 3) A7)) A7))))),?_⟩;obtain⟨wt,cL,dD⟩:=id B;refine⟨_,rfl,a,_,_,_,rfl,rfl,.inr (Bm.of cL),rfl,wt,_,rfl,.inr (Bm.of dD),_,rfl,by omega,by rw[List.length_map];omega,λD X=>?_⟩;refine Du (cnt:=((c.map V.int).length:Int).toNat) (λj l y=>l.length=j/\Tr y (λi=>Kj g c f d n i) l/\y D=some (.lst l)/\A8 H y) ⟨rfl,(λi u h=>by simp at h),A5,A8.upd X⟩ ?_ ?_
  ·rintro j l J hj ⟨x,v,r,o⟩ Qe hQ;rw[List.length_map]at hj;have tE:j<c.length:=by omega
   refine⟨_,rfl,_,rfl,_,rfl,_,rfl,a,N,b,c,f,d,n,_,j,g,rfl,Int.zero_add _,B.same o,Z.same o,o _ _ Y,jS,tE,hl,U,R,λp2 L I e6=>?_⟩;have O:=I _ _ r;have tt:Aj L (upd L D (.lst (l++[.ref p2]))):=Aj.lst O;exact hQ _ _ O (Bb (by omega)) ⟨by rw[List.length_append,List.length_singleton];omega,v.snoc ((Aj.of I).trans tt) x (tt _ _ e6),A5,(o.trans I).new X⟩
  rintro l J ⟨x,v,r,o⟩
  have M:l.length=c.length:=by
   rw[x,List.length_map];omega
  refine⟨_,rfl,.inl ⟨rfl,_,Be.of r⟩,_,rfl,D,_,_,rfl,Be.of r,v.rp M,by omega,Vs _ _,Vw _ _,λvb tX=>?_⟩;obtain⟨pb,UW,z⟩:=v _ vb tX;subst UW;obtain⟨j,j1,j2,j3⟩:=least (Pr:=λm=>Kj g c f d n m=Kj g c f d n (E5 ((List.range c.length).map λi=>wd (Kj g c f d n i)))) _ rfl;have p:Iw (λi=>Kj g c f d n i) c.length j:=Iw.of zO j1 j2 j3;refine⟨D,l,_,wd (Kj g c f d n (E5 ((List.range c.length).map λi=>wd (Kj g c f d n i)))),_,j,rfl,rfl,Be.of r,Wo z,v.rp M,Mv _,⟨_,gm _ p.1,by rw[Zj];exact decide_eq_true j2⟩,(λm e hm he=>by rw[Zm he,Zj];exact l7 (j3 m hm)),?_⟩;exact q j J o p
def d8(K:W.Frag):Sp:=λj H Q _=>fj λ(a h b:Addr) (d e:oB) (i:oD) (q w:Int) (c:Nat) (f:ov)=>Lg (j=[.ref a,.ref h,.ref b,.int w]) (w=(c:Int)) (Ax H a d i) (Cc H b e q) (H h=some (.dT f)) (Rk f) (c<d.length) (e.length=d.length) (d.length<=8) (∀(g:Hp),A8 H g->Q (.bl (Ca f d e i q c)) g)
theorem mo{Y oS X cA:pa}(F:Ea K "worst_answer" "worst_answer" bi ad.gK Y)(x:Gk P w K mg base 1 ad.eV ["table","behind"] (Va K) oS)(D:Gk P w K mg base 4 ad.bT ["hall","standing","who","lost"] (Jo K) X)(aN:D1 K X ["hall","standing","who","lost"] [Value.bool false])(U:Gk P w K mg base 1 ad.cN ["hall","standing"] (Jn K) cA):Bg P w K mg base Dr 5 ad.gK Y ["hall","table","standing","who"] (d8 K):=by
 refine F.ok cq (λvs H Q E h=>?_) (λaR A S s H vs Q E r h=>?_)
 ·rcases h with⟨a,C,b,f,d,c,n,w0,who,i,rfl,rfl,y,B,J,R,O,L,I,q⟩<;>rfl
 ·obtain⟨a,C,b,f,d,c,n,w0,who,i,rfl,rfl,y,B,J,R,O,L,I,q⟩:=h;refine⟨_,(A6 (Ak (i:=4) cq.nd rfl (Or.inl rfl) (Ac x.g (r.mono (by decide)) rfl T.uJ T.uK x.b .nil Ai (A0 (pv 1) (A0 (Yh (Ac D.g (r.mono (by decide)) rfl T.gY T.dR aN (Kh) Ai (A0 (pv 0) (A0 (pv 2) (A0 (pv 3) A7))))) A7)))) (A6 (Bt (D8 (D5 (Ac U.g (r.mono (by decide)) rfl T.kG T.kH U.b .nil Ai (A0 (pv 0) (A0 (pv 2) A7))))) (A9 (Ah Dp)) Ap) (A9 (Ah (Cj (og r) (Ac x.g (r.mono (by decide)) rfl T.uJ T.uK x.b .nil Ai (A0 (pv 1) (A0 (Yh (Ac D.g (r.mono (by decide)) rfl T.gY T.dR D.b .nil Ai (A0 (pv 0) (A0 (pv 2) (A0 (pv 3) (A0 Dp A7)))))) A7))) (pv 4) (Au _)))))),?_⟩;refine⟨_,rfl,(λv u=>F4 u (Cw f d c n who false) v/\A8 H u),⟨_,rfl,_,rfl,_,rfl,a,b,f,d,c,n,who,false,rfl,y,B,O,L,I,(λz=>nomatch z),(λl m g=>⟨by unfold Cw;rw[if_pos l];rfl,g⟩),λl p m g G=>⟨by unfold Cw;rw[if_neg l];exact⟨p,rfl,G⟩,g⟩⟩,?_⟩;rintro v H1 ⟨hv,s1⟩;refine⟨C,v,_,i,rfl,s1 _ _ J,hv,R,λp1 m g e2=>?_⟩;have j:=s1.trans g;refine⟨_,rfl,_,rfl,a,b,f,d,c,n,rfl,y.same j,B.same j,_,rfl,?_⟩;have em:(!decide (c=none)&&decide (n=0))=Ek c n:=rfl;rw[em];refine Dv (λM=>?_) (λM=>?_)
  ·have o:Ek c n=false:=by simpa using M
   have e:Ca i f d c n who=false:=by
    unfold Ca;rw[o];rfl
   rw[<- e];exact q m j
  ·have o:Ek c n=true:=by simpa using M
   have cT:J6 c n true:=λ_=>by
    unfold Ek at o;simp only[Bool.and_eq_true,Bool.not_eq_true',decide_eq_false_iff_not,decide_eq_true_eq]at o;exact o
   refine⟨_,rfl,(λv u=>F4 u (Cw f d c n who true) v/\A8 m u),⟨_,rfl,_,rfl,_,rfl,a,b,f,d,c,n,who,true,rfl,y.same j,B.same j,O,L,I,cT,(λl m g=>⟨by unfold Cw;rw[if_pos l];rfl,g⟩),λl p m g G=>⟨by unfold Cw;rw[if_neg l];exact⟨p,rfl,G⟩,g⟩⟩,?_⟩;rintro v3 H3 ⟨N,s3⟩;refine⟨C,v3,_,i,rfl,s3 _ _ (j _ _ J),N,R,λp4 H4 s4 e4=>?_⟩;have Z:=s3.trans s4;refine⟨_,rfl,wd (told i (Cw f d c n who true)),wd (told i (Cw f d c n who false)),Wo e4,Wo (Z _ _ e2),Z6 _ _,eI (Mv _) (by decide),?_⟩;rw[Zz]
   have e:Ca i f d c n who=Gb (told i (Cw f d c n who false)) (told i (Cw f d c n who true)):=by
    unfold Ca;rw[o];rfl
   rw[<- e];exact q H4 (j.trans Z)
def dk(K:W.Frag):Sp:=λh H Q _=>Rf λ(a:Addr) (d:oB) (e:oD)=>Gc (h=[.ref a]) (Ax H a d e) (Da d e) ((∀(b:ov) (c:Hp),A8 H c->Bv d e b->(b.map (·.1)).Nodup->(Af b (d,0)).isSome=true->Q .aX c)) (∀(p:Addr) (g:List V) (f b:ov) (c:Hp),A8 H c->H p=none->c p=some (.lst g)->Bv d e b->(b.map (·.1)).Nodup->Af b (d,0)=none->ke d e b f->Ae (rk c) f g->Q (.ref p) c)
theorem nh{fd jI bR oV dX:pa}(F:Ea K "kept_paper" "kept_paper" bq ad.gL fd)(cR:Gk P w K mg base 7 ad.dN ["hall"] (R7 K) jI)(aO:Gk P w K mg base 1 ad.cH ["hall"] (Hw K) bR)(iB:Gk P w K mg base 7 ad.eX ["hall","table","standing"] (V7 K) oV)(bU:Gk P w K mg base 5 ad.cZ ["hall","standing","who"] (Nu K) dX):Bg P w K mg base Dr 8 ad.gL fd ["hall"] (dk K):=by
 refine F.ok Np (λvs H Q E h=>?_) (λaR A outer s H vs Q E G h=>?_)
 ·rcases h with⟨a,g,D,rfl,S,B,q0,q⟩<;>rfl
 ·obtain⟨a,g,D,rfl,S,B,q0,q⟩:=h;refine⟨_,(A6 (Ak (i:=1) Np.nd rfl (Or.inl rfl) (Ac cR.g (G.mono (by decide)) rfl T.uH T.uI cR.b .nil Ai (A0 (pv 0) A7))) (A6 (Bt (Ey (Ng (Ds G) (Ac aO.g (G.mono (by decide)) rfl T.fI T.fJ aO.b .nil Ai (A0 (pv 0) A7)) (pv 1)) rfl) (A9 (Ah Dd)) Ap) (A6 (Ak (i:=2) Np.nd rfl (Or.inl rfl) Hq) (A6 (Ak (i:=3) Np.nd rfl (Or.inl rfl) (Dy (A0 (Ac aO.g (G.mono (by decide)) rfl T.fI T.fJ aO.b .nil Ai (A0 (pv 0) A7)) A7))) (A6 (Kb lG (Kc (pv 3) (by intro _;rfl)) (A6 (Ak (i:=4) Np.nd rfl (Or.inl rfl) (Up PySem.F.plainAttrs_list PySem.F.slot_list_pop PySem.F.type_list_pop ae (pv 3))) (A9 (El (Ey (Dx (Ds G) (pv 4) (pv 2)) rfl) (A6 (Ka (Ds G) (pv 2) (pv 4) (Ac iB.g (G.mono (by decide)) rfl T.zW T.zX iB.b .nil Ai (A0 (pv 0) (A0 (pv 1) (A0 (pv 4) A7)))) rfl) (A9 (E9 (J0 PySem.F.plainAttrs_list PySem.F.slot_list_extend PySem.F.type_list_extend Ig (pv 3) (A0 (Ac bU.g (G.mono (by decide)) rfl T.qJ T.qK bU.b .nil Ai (A0 (pv 0) (A0 (pv 4) (A0 (Er (Ds G) (pv 2) (pv 4) (λ_ _=>rfl)) A7)))) A7))))) Ap)))) (A9 (Ah (As (Tv G rfl) (by rfl) T.nB boot_sorted (A0 (Up PySem.F.plainAttrs_dict PySem.F.slot_dict_items PySem.F.type_dict_items Y9 (pv 2)) A7))))))))),?_⟩;obtain⟨wt,cL,dD⟩:=id S;have hq:=B.qv;have cD:∀x∈g,1<=x:=λx hx=>(B.1 x hx).1;have h8:=B.2.2.2.1;have zO:=B.2.2.1;refine⟨_,rfl,a,g,D,rfl,S,(λw hw=>(B.1 w hw).1),hq.1,(λw hw=>Fo (by have:=B.1 w hw;omega) (B.1 w hw).2),Fo (by omega) hq.2,B.2.2.2.1,(by have:=B.2.2.2.2;omega),λTB I H1 hTB s1 uZ jY eG FA=>?_⟩
  have jS:Rk I:=λk v hv=>by
   obtain⟨m,e,_⟩:=jY.1 k v hv;exact⟨m,e⟩
  refine⟨_,rfl,a,g,D,rfl,S.same s1,λb0 r s2 zJ=>?_⟩;have U:=s1.trans s2;refine⟨_,rfl,TB,_,rfl,Ct.t (s2 _ _ uZ) (show D9 r b0 (g,0)from zJ),_,rfl,?_⟩;refine Dv (λh=>q0 I r U jY eG h) (λNZ=>?_)
  have fL:Af I (g,0)=none:=by
   cases e:Af I (g,0)with
   |none=>rfl
   |some v=>rw[e]at NZ;exact absurd rfl NZ
  have FC:Sf g D I (g,0):=⟨Nv rfl (λi hi=>⟨cD _ (by rw[List.getD_eq_getElem?_getD,List.getElem?_eq_getElem hi];exact nr hi),Int.le_refl _⟩) (Int.le_refl _) (by have:=hq.1;show(0:Int)<qv D;omega),fL,.base⟩;refine λC hC=>?_;have s3:A8 r (upd r C (.dT [])):=A8.upd hC;have e3:(upd r C (.dT [])) C=some (.dT []):=A5;generalize upd r C (.dT [])=H3 at s3 e3⊢;refine⟨_,rfl,a,g,D,rfl,(S.same U).same s3,λX H4 s4 nG=>?_⟩;refine⟨Br,λL hL=>?_⟩;have s5:A8 H4 (upd H4 L (.lst [.ref X])):=A8.upd hL;have e5:(upd H4 L (.lst [.ref X])) L=some (.lst [.ref X]):=A5;generalize upd H4 L (.lst [.ref X])=H5 at s5 e5⊢;have UX:r C=none:=hC
  have JA:r L=none:=by
   cases e:r L with
   |none=>rfl
   |some o=>rw[s4 _ _ (s3 _ _ e)]at hL;cases hL
  have xP:A8 r H5:=(s3.trans s4).trans s5;obtain⟨bu,FD,FE⟩:=nG.same s5;dsimp only;refine u8 ?_;refine wz ?_
  refine Hz (λσ' f=>X3 λ(c:List V) (E:List (oB×Int)) (d:ov) (v4:Option V)=>Tm (σ'=[some (.ref a),some (.ref TB),some (.ref C),some (.ref L),v4]) (A8 r f) (f L=some (.lst c)) (Ae (Fl f) E c) (f C=some (.dT d)) (Px g D I d E) (E.length<=2*d.length+1))
   (λ_ f=>3*(301-Gv (f C))+Lz (f L)) ⟨[.ref X],[(g,0)],[],none,rfl,xP,e5,Ae.one ⟨X,bu,rfl,FD,FE⟩,s5 _ _ (s4 _ _ e3),Px.start FC,by simp⟩ ?_ ?_
  ·rintro σ' f ⟨c,E,d,v4,rfl,s',Y,iR,Z,J,hEl⟩;have iY:=J.len B;refine⟨_,rfl,_,.inl ⟨_,Be.of Y,rfl⟩,?_⟩;refine Dv (λcE=>?_) (λlB=>?_)
   ·have FF:0<c.length:=by
     cases c with
     |nil=>exact absurd cE (by decide)
     |cons x xs=>simp
    have JZ:=iR.1;obtain⟨y,hy⟩:=W9 FF;refine⟨_,rfl,.inl ⟨rfl,_,Be.of Y⟩,L,c,y,rfl,rfl,Y,hy,?_⟩;obtain⟨k,NT,b,b2,rfl,FG,FH⟩:=iR.get hy
    have eE:E=E.take (c.length-1)++[k]:=by
     have R:=List.take_append_drop (c.length-1) E
     have h2:E.drop (c.length-1)=[k]:=by
      rw[List.drop_eq_getElem_cons (by omega),(List.getElem?_eq_some_iff.mp NT).2,List.drop_of_length_le (by omega)]
     rw[h2]at R;exact R.symm
    have FI:C≠L:=Bl Z Y (by intro z;cases z);have hTL:TB≠L:=λz=>by rw[z]at uZ;exact absurd (s2 _ _ uZ) (by rw[JA];exact λh=>nomatch h)
    have t4:Aj f (upd f L (.lst c.dropLast)):=Aj.lst Y;have zg:(upd f L (.lst c.dropLast)) L=some (.lst c.dropLast):=A5;have vA:(upd f L (.lst c.dropLast)) C=some (.dT d):=(Ab FI).trans Z;have vB:A8 r (upd f L (.lst c.dropLast)):=s'.new JA;generalize upd f L (.lst c.dropLast)=H6 at t4 zg vA vB⊢;have lD:Cc H6 b k.1 k.2:=⟨b2,t4 _ _ FG,t4 _ _ FH⟩
    have lF:Ae (Fl H6) (E.take (c.length-1)) c.dropLast:=by
     rw[List.dropLast_eq_take];exact(iR.imp (λ_ _ y=>Fl.up t4 y)).take _
    have OA:(E.take (c.length-1)).length=E.length-1:=by rw[List.length_take];omega
    rw[eE]at J;generalize E.take (c.length-1)=E0 at J lF OA eE;have OB:Lz (f L)=c.length:=by rw[Y];rfl
    have mO:Gv (f C)=d.length:=by rw[Z];rfl
    refine⟨_,rfl,_,rfl,C,_,rfl,Ct.t vA (show D9 H6 b k from lD),_,rfl,(λOC u=>X3 λ(c:List V) (E:List (oB×Int)) (BF:ov) (v4:Option V)=>Pu (OC=[some (.ref a),some (.ref TB),some (.ref C),some (.ref L),v4]) (A8 r u) (u L=some (.lst c)) (Ae (Fl u) E c) (u C=some (.dT BF)) (Px g D I BF E) (E.length<=2*BF.length+1) (3*(301-Gv (u C))+Lz (u L)<3*(301-Gv (f C))+Lz (f L))),λh=>?_,λh=>?_,?_⟩
    ·have JB:Af d k=none:=by
      cases e:Af d k with
      |none=>rfl
      |some v=>rw[e]at h;cases h
     have vC:Sf g D I k:=J.sf k (by simp);have oM:k.1.length=g.length:=(E2 vC.1).1;refine⟨_,rfl,_,rfl,_,rfl,a,TB,b,g,k.1,D,k.2,I,rfl,(S.same U).same vB,lD,vB _ _ (s2 _ _ uZ),jS,zO,oM,h8,cD,λj u s7 bS=>?_⟩;have OD:=s7 _ _ vA;have hL7:=s7 _ _ zg;refine⟨_,rfl,_,rfl,C,_,rfl,Rc.t OD (show D9 u b k from lD.same s7) (Bo (by omega)),?_⟩;have JY:L≠C:=λz=>FI z.symm;have k8:∀b o,b≠C->u b=some o->(upd u C (.dT (B6 d k (.int (j:Int))))) b=some o:=λb o n e=>(Ab n).trans e;have FJ:(upd u C (.dT (B6 d k (.int (j:Int))))) C=some (.dT (B6 d k (.int (j:Int)))):=A5;generalize upd u C (.dT (B6 d k (.int (j:Int))))=H8 at k8 FJ⊢;have t8:Aj u H8:=λb xs e=>k8 b _ (Bl e OD (by intro z;cases z)) e;have s8:A8 r H8:=λb o e=>k8 b o (Ag e UX) (s7 _ _ (vB _ _ e));have OE:=k8 _ _ JY hL7;have vD:Cc H8 b k.1 k.2:=(lD.same s7).up t8;have ev:Af (B6 d k (.int (j:Int))) k=some (.int (j:Int)):=by rw[Ga,if_pos rfl]
     refine⟨_,rfl,.inl ⟨rfl,_,Be.of OE⟩,_,rfl,_,rfl,_,rfl,_,rfl,C,.int (j:Int),rfl,(by rw[<- ev];exact Ct.t FJ (show D9 H8 b k from vD)),a,b,g,k.1,D,k.2,(j:Int),j,rfl,rfl,(S.same U).same s8,vD,bS.1,oM,h8,λl M O EO s9 el9 N=>?_⟩;obtain⟨Eb,UW,eb2,eb3⟩:=fw jY B vC bS;rw[UW]at N;have jU:=Z2 N;have OF:=s9 _ _ OE;have hel6:=lF.1;have lC:=jU.1;refine⟨L,l,c.dropLast,M,rfl,rfl,OF,el9,nf (Bo (by omega)),?_⟩;have uV:Aj O (upd O L (.lst (c.dropLast++M))):=Aj.lst OF;have vE:(upd O L (.lst (c.dropLast++M))) C=some (.dT (B6 d k (.int (j:Int)))):=(Ab FI).trans (s9 _ _ FJ);have iT:(B6 d k (.int (j:Int))).length=d.length+1:=by rw[Cs _ JB,List.length_append,List.length_singleton]
     refine⟨c.dropLast++M,E0++Eb,B6 d k (.int (j:Int)),_,rfl,(s8.trans s9).new JA,A5,((lF.imp λ_ _ y=>Fl.up (((Aj.of s7).trans t8).trans ((Aj.of s9).trans uV)) y).append (jU.imp λ_ _ y=>Fl.up uV y)),vE,J.put JB bS UW eb2,?_,?_⟩
     ·rw[List.length_append,iT,OA];omega
     ·have m1:Lz ((upd O L (.lst (c.dropLast++M))) L)=(c.dropLast++M).length:=by rw[A5];rfl
      have m2:Gv ((upd O L (.lst (c.dropLast++M))) C)=d.length+1:=by rw[vE];exact iT
      rw[m1,m2,OB,mO,List.length_append,List.length_dropLast];omega
    ·have jE:k∈d.map (·.1):=by
      cases e:Af d k with
      |none=>rw[e]at h;cases h
      |some v=>exact X1 e
     refine⟨c.dropLast,E0,d,_,rfl,vB,zg,lF,vA,J.skip jE,by omega,?_⟩;have m1:Lz (H6 L)=c.dropLast.length:=by rw[zg];rfl
     have m2:Gv (H6 C)=d.length:=by rw[vA];rfl
     rw[m1,m2,OB,mO,List.length_dropLast];omega
    ·rintro OC u ⟨es7,E7,cv7,v47,rfl,a1,a2,a3,a4,a5,a6,a7⟩;exact⟨⟨es7,E7,cv7,v47,rfl,a1,a2,a3,a4,a5,a6⟩,a7⟩
   ·have FK:c=[]:=by
     cases c with
     |nil=>rfl
     |cons x xs=>exact absurd rfl lB
    have hE1:E=[]:=by
     have R:=iR.1;rw[FK]at R;exact List.length_eq_zero_iff.mp R.symm
    subst hE1;refine⟨_,rfl,.inr (.inr (.inl ⟨rfl,.inr ⟨d,Z⟩⟩)),C,d,rfl,rfl,Z,λvw hvw=>?_⟩;have sV:A8 f (upd f vw (Rl vw C)):=A8.upd hvw;refine⟨vw,C,d,Jp,(λkv=>(Aq g (qv D)).idxOf kv.1),rfl,A5,sV _ _ Z,(λkv aL=>?_),Ud J,λp M ps O s9 hp e9 dM mR OG=>?_⟩
    ·obtain⟨_,j,ej,_⟩:=J.ent kv aL;have e:Jp kv=.int j:=by unfold Jp;rw[ej]
     rw[e,ej];exact⟨Ji _,by show 0<=40;omega⟩
    ·have hpH:H p=none:=by
      cases e:H p with
      |none=>rfl
      |some o=>rw[sV _ _ (s' _ _ (U _ _ e))]at hp;cases hp
     exact q p M ps I O (((U.trans s').trans sV).trans s9) hpH e9 jY eG fL (gu J dM mR) (Nf OG)
  ·intro σ H0 Q1 Q2 z R;obtain⟨_,e,k,t,h2⟩:=R;exact⟨_,e,k,t,z _ _ h2⟩
def df(K:W.Frag):Sp:=λi H Q _=>fi λ(a g b:Addr) (c e:oB) (h:oD) (q:Int) (f:ov)=>Pu (i=[.ref a,.ref g,.ref b]) (Ax H a c h) (Cc H b e q) (H g=some (.dT f)) (Rk f) (e.length=c.length) (c.length<=8) (∀(p:Addr) (d:Hp),A8 H d->d p=some (.tup ((Fn f c e h q).map V.bl))->Q (.ref p) d)
theorem mw{x N:pa}(F:Ea K "all_answers" "all_answers" Ws ad.gM x)(J:Gk P w K mg base 5 ad.gK ["hall","table","standing","who"] (d8 K) N):Bg P w K mg base Dr 6 ad.gM x ["hall","table","standing"] (df K):=by
 refine F.ok qh (λvs H Q E h=>?_) (λaR A r s H vs Q E hr h=>?_)
 ·rcases h with⟨a,v,b,c,f,d,n,i,rfl,o,C,B,I,G,y,q⟩<;>rfl
 ·obtain⟨a,v,b,c,f,d,n,i,rfl,o,C,B,I,G,y,q⟩:=h;refine⟨_,(A9 (Ah (Bn Fg (by rfl) T.kX boot_tuple (A0 (E8 (Dz (by rfl) T.cJ (A0 (As (B8 K) (by rfl) T.bB PySem.boot_len (A0 (Bk (Bj K) (pv 0) Ad (λ_ _=>rfl)) A7)) A7)) _ rfl Ks rfl rfl (λ_ _ _ _=>(Al (i:=0) L6 rfl (Or.inl rfl))) (λ_ _ _ _=>D0) (λ_ _ _ _=>(Ac J.g (hr.mono (by decide)) rfl T.LO T.LP J.b .nil Ai (A0 (pv 1) (A0 (pv 2) (A0 (pv 3) (A0 (pv 0) A7))))))) A7)))),?_⟩;obtain⟨wt,S,U⟩:=id o;refine⟨_,rfl,a,_,_,_,rfl,rfl,.inr (Bm.of S),rfl,wt,_,rfl,.inr (Bm.of U),_,rfl,by omega,by rw[List.length_map];omega,λD z=>?_⟩;refine Du (cnt:=((c.map V.int).length:Int).toNat) (λj m u=>m=((Fn i c f d n).take j).map V.bl/\u D=some (.lst m)/\A8 H u) ⟨rfl,A5,A8.upd z⟩ ?_ ?_
  ·rintro j m O Y ⟨rfl,l,g⟩ Qe X;rw[List.length_map]at Y;have M:j<c.length:=by omega
   have kE:=Dg i c f d n;refine⟨_,rfl,_,rfl,_,rfl,_,rfl,a,v,b,c,f,d,n,_,j,i,rfl,Int.zero_add _,o.same g,C.same g,g _ _ B,I,M,G,y,λH6 L=>?_⟩;have R:=L _ _ l;refine X _ _ R (Bb (by rw[List.length_map,List.length_take];omega)) ⟨?_,A5,(g.trans L).new z⟩;rw[List.take_add_one,M8 M,List.map_append];rfl
  rintro m O ⟨rfl,l,g⟩;have e:(Fn i c f d n).take ((c.map V.int).length:Int).toNat=Fn i c f d n:=List.take_of_length_le (by rw[Dg,List.length_map];omega);rw[e]at l;refine⟨D,_,rfl,.inl ⟨Be.of l,λp Z=>?_⟩⟩;exact q p _ (g.trans (A8.upd Z)) A5
def d4(K:W.Frag):Sp:=λh H Q _=>fk λ(a b A:Addr) (c:oB) (e:oD) (k:oB×Int) (f:ov)=>Tm (h=[.ref a,.ref b,.ref A]) (Ax H a c e) (Cc H b k.1 k.2) (H A=some (.tup ((Fn f c k.1 e k.2).map V.bl))) (k.1.length=c.length) (c.length<=8) (∀(l:Addr) (g:List V) (d:Hp),H l=none->A8 H d->d l=some (.lst g)->Ae (Fl d) ((List.range c.length).filterMap (M7 f c e k)) g->Q (.ref l) d)
theorem md{fd bE:pa}(F:Ea K "unbroken_behind" "unbroken_behind" Sz ad.gN fd)(aU:Gk P w K mg base 4 ad.bT ["hall","standing","who","lost"] (Jo K) bE)(aN:D1 K bE ["hall","standing","who","lost"] [Value.bool false]):Bg P w K mg base Dr 5 ad.gN fd ["hall","standing","answers"] (d4 K):=by
 refine F.ok ck (λvs H Q E h=>?_) (λaR A outer s H vs Q E hr h=>?_)
 ·rcases h with⟨a,b,A,f,d,k,g,rfl,ha,hb,hA,hl,h8,q⟩<;>rfl
 ·obtain⟨a,b,A,f,d,k,g,rfl,ha,hb,hA,hl,h8,q⟩:=h;refine⟨_,(A6 (De (i:=3) ck.nd rfl (Nh (by rfl) T.dB (A0 (pv 2) A7)) _ rfl Hf rfl rfl (λ_ _ _ _=>(Cy K (n:=2) rfl (Ar (Al (i:=0) Ef rfl (Or.inl rfl)) (Ar (Al (i:=1) Ef rfl (Or.inl rfl)) Cz)))) (λ_ _ _ _=>D0) (λ_ _ _ _=>(Ac aU.g (hr.mono (by decide)) rfl T.gY T.dR aU.b .nil Ai (A0 (pv 2) (A0 (pv 3) (A0 (pv 0) (A0 (pv 1) A7)))))) rfl rfl) (A9 (Ah (E8 (Di (pv 3)) _ rfl Hg rfl rfl (λ_ _ _ _=>(Al (i:=0) Hm rfl (Or.inl rfl))) (λ_ _ _ _=>(Qs (B0 K5 (pv 0) Dd (Au _)))) (λ_ _ _ _=>(pv 0)))))),?_⟩;have kE:=Dg g f k.1 d k.2;refine⟨_,rfl,true,A,rfl,⟨_,Bm.of hA⟩,λD hD=>?_⟩;refine Mn (K:=K) (b1:=true) (c:=A) (xs:=(Fn g f k.1 d k.2).map V.bl) (λi j l=>Ae (F4 l) ((List.range i).map (M7 g f d k)) j/\l D=some (.lst j)/\A8 H l) ⟨Ae.nil,A5,A8.upd hD⟩ (by rintro i j l _ ⟨_,_,s⟩;exact Bm.of (s _ _ hA)) ?_ ?_ ?_ ?_
  ·rintro i x T j B hx ⟨S,kK,I⟩ hT;have O:=(bA.mp hx).1;rw[List.length_map,kE]at O;rw[List.getElem?_map,M8 O]at hx;cases hx;have BE:=S.1;rw[List.length_map,List.length_range]at BE;have n:A8 B (upd B T (.tup [V.int (i:Nat),V.bl (Ca g f k.1 d k.2 i)])):=A8.upd hT;have Z:(upd B T (.tup [V.int (i:Nat),V.bl (Ca g f k.1 d k.2 i)])) T=some (.tup [V.int (i:Nat),V.bl (Ca g f k.1 d k.2 i)]):=A5;generalize upd B T (.tup [V.int (i:Nat),V.bl (Ca g f k.1 d k.2 i)])=M at n Z⊢;have zh:=I.trans n;simp only[Nz,↓reduceIte]
   have fin:∀(v:V) (m:Hp),A8 M m->F4 m (M7 g f d k i) v->m D=some (.lst j)/\j.length<sizeLine/\Ae (F4 (upd m D (.lst (j++[v])))) ((List.range (i+1)).map (M7 g f d k)) (j++[v])/\(upd m D (.lst (j++[v]))) D=some (.lst (j++[v]))/\A8 H (upd m D (.lst (j++[v]))):=λv m L R=>by
    have IV:=L _ _ (n _ _ kK);have U:Aj m (upd m D (.lst (j++[v]))):=Aj.lst IV;refine⟨IV,Bb (by omega),?_,A5,(zh.trans L).new hD⟩;rw[List.range_succ,List.map_append];exact(S.imp λ_ _ y=>F4.up (((Aj.of n).trans (Aj.of L)).trans U) y).append (Ae.one (F4.up U R))
   refine⟨_,rfl,_,rfl,_,rfl,_,rfl,a,b,f,k.1,d,k.2,i,Ca g f k.1 d k.2 i,rfl,ha.same zh,hb.same zh,O,hl,h8,Ie,λh m L=>?_,λh p m L hp=>?_⟩
   ·refine fin _ m L ?_;have e:M7 g f d k i=none:=by unfold M7 Cw;rw[if_pos h]
    rw[e];rfl
   ·refine fin _ m L ?_;have e:M7 g f d k i=some (Ba f k.1 i (Ca g f k.1 d k.2 i),Ci d k.2 (Ca g f k.1 d k.2 i)):=by unfold M7 Cw;rw[if_neg h]
    rw[e];exact⟨p,rfl,hp⟩
  ·rintro σ l Q1 Q2 G z;exact G _ _ z
  ·rintro σ l Q1 Q2 G ⟨v1,Y,v2,e2,v3,Z,v4,e4,a',b',ws',ls',cm',q',aK,OH,R,h1,h2,h3,h4,h5,h6,q1,q2⟩;exact⟨v1,Y,v2,e2,v3,Z,v4,e4,a',b',ws',ls',cm',q',aK,OH,R,h1,h2,h3,h4,h5,h6,λh B I=>G _ _ (q1 h B I),λh p B I hp=>G _ _ (q2 h p B I hp)⟩
  rintro j B ⟨S,kK,I⟩;rw[List.length_map,kE]at S;refine⟨_,rfl,D,rfl,.inl ⟨⟨_,Be.of kK⟩,λC hC=>?_⟩⟩;have BE:=S.1;rw[List.length_map,List.length_range]at BE;refine Tw (K:=K) (a:=D) (xs:=j) (λi J l=>Ae (Fl l) ((List.range i).filterMap (M7 g f d k)) J/\l C=some (.lst J)/\A8 B l) ⟨Ae.nil,A5,A8.upd hC⟩ (by rintro i J l _ ⟨_,_,s⟩;exact Be.of (s _ _ kK)) ?_ ?_ ?_ ?_
  ·rintro i x J M hx ⟨N,X,n⟩;obtain⟨r,fP,R⟩:=S.get hx;have O:=(bA.mp fP).1;rw[List.length_map,List.length_range]at O;rw[List.getElem?_map,List.getElem?_range O]at fP;have er:M7 g f d k i=r:=by simpa using fP
   have qP:J.length<=i:=by
    rw[N.1];exact eI (List.length_filterMap_le _ _) (by rw[List.length_range];exact da _)
   cases r with
   |none=>
    obtain rfl:x=.aX:=R;refine⟨_,rfl,rfl,_,rfl,Dm (by simp) ⟨?_,X,n⟩⟩;rw[List.range_succ,List.filterMap_append];have e0:[i].filterMap (M7 g f d k)=[]:=by simp[er]
    rw[e0,List.append_nil];exact N
   |some k'=>
    obtain⟨p,rfl,u,oK,nZ⟩:=R;have U:Aj M (upd M C (.lst (J++[.ref p]))):=Aj.lst X;refine⟨_,rfl,rfl,_,rfl,K0 (by simp) ⟨_,rfl,X,Bb (by omega),?_,A5,n.new hC⟩⟩;rw[List.range_succ,List.filterMap_append];have e0:[i].filterMap (M7 g f d k)=[k']:=by simp[er]
    rw[e0];exact(N.imp λ_ _ y=>Fl.up U y).append (Ae.one ⟨p,u,rfl,U _ _ (n _ _ oK),U _ _ (n _ _ nZ)⟩)
  ·rintro σ l Q1 Q2 G ⟨v,Y,e2,c,Z,z⟩;exact⟨v,Y,e2,c,Z,G _ _ z⟩
  ·rintro σ l Q1 Q2 G ⟨v,Y,z⟩;exact⟨v,Y,G _ _ z⟩
  rintro J M ⟨N,X,n⟩;rw[BE]at N;refine q C J M ?_ (I.trans n) X N;cases e:H C with
  |none=>rfl
  |some o=>rw[I _ _ e]at hC;cases hC
def d9(K:W.Frag):Sp:=λh H Q _=>Rf λ(a:Addr) (c:oB) (e:oD)=>Gc (h=[.ref a]) (Ax H a c e) (Da c e) ((∀(b:ov) (d:Hp),A8 H d->Bv c e b->(b.map (·.1)).Nodup->Af b (c,0)=none->Q .aX d)) (∀(p:Addr) (g:List V) (f b:ov) (d:Hp),A8 H d->H p=none->d p=some (.lst g)->Bv c e b->(b.map (·.1)).Nodup->(Af b (c,0)).isSome=true->Mh c e b f->Ae (Jb b c e d) f g->Q (.ref p) d)
theorem mq{fd jI bR FN FO:pa}(F:Ea K "broken_paper" "broken_paper" Wq ad.gO fd)(cR:Gk P w K mg base 7 ad.dN ["hall"] (R7 K) jI)(aO:Gk P w K mg base 1 ad.cH ["hall"] (Hw K) bR)(qX:Gk P w K mg base 6 ad.gM ["hall","table","standing"] (df K) FN)(qY:Gk P w K mg base 5 ad.gN ["hall","standing","answers"] (d4 K) FO):Bg P w K mg base Dr 8 ad.gO fd ["hall"] (d9 K):=by
 refine F.ok Nm (λvs H Q E h=>?_) (λaR A outer s H vs Q E hr h=>?_)
 ·rcases h with⟨a,j,G,rfl,ha,U,q0,q⟩<;>rfl
 ·obtain⟨a,j,G,rfl,ha,U,q0,q⟩:=h;refine⟨_,(A6 (Ak (i:=1) Nm.nd rfl (Or.inr rfl) (Ac cR.g (hr.mono (by decide)) rfl T.uH T.uI cR.b .nil Ai (A0 (pv 0) A7))) (A6 (Bt (Ey (Dx (Ds hr) (Ac aO.g (hr.mono (by decide)) rfl T.fI T.fJ aO.b .nil Ai (A0 (pv 0) A7)) (pv 1)) rfl) (A9 (Ah Dd)) Ap) (A6 (Ak (i:=2) Nm.nd rfl (Or.inl rfl) Hq) (A6 (Ak (i:=3) Nm.nd rfl (Or.inl rfl) (Dy (A0 (Ac aO.g (hr.mono (by decide)) rfl T.fI T.fJ aO.b .nil Ai (A0 (pv 0) A7)) A7))) (A6 (Kb lG (Kc (pv 3) (by intro _;rfl)) (A6 (Ak (i:=4) Nm.nd rfl (Or.inl rfl) (Up PySem.F.plainAttrs_list PySem.F.slot_list_pop PySem.F.type_list_pop ae (pv 3))) (A9 (El (Ey (Dx (Ds hr) (pv 4) (pv 2)) rfl) (A6 (Ka (Ds hr) (pv 2) (pv 4) (Ac qX.g (hr.mono (by decide)) rfl T.LS T.LU qX.b .nil Ai (A0 (pv 0) (A0 (pv 1) (A0 (pv 4) A7)))) rfl) (A9 (E9 (J0 PySem.F.plainAttrs_list PySem.F.slot_list_extend PySem.F.type_list_extend Ig (pv 3) (A0 (Ac qY.g (hr.mono (by decide)) rfl T.LV T.LW qY.b .nil Ai (A0 (pv 0) (A0 (pv 4) (A0 (Er (Ds hr) (pv 2) (pv 4) (λ_ _=>rfl)) A7)))) A7))))) Ap)))) (A9 (Ah (As (Q5 hr) (by rfl) T.nB boot_sorted (A0 (i9 (E8 (K7 (pv 2)) _ rfl Jv rfl rfl (λ_ _ _ _=>(Cy K (n:=2) rfl (Ar (Al (i:=0) Fc rfl (Or.inl rfl)) (Ar (Al (i:=1) Fc rfl (Or.inl rfl)) Cz)))) (λ_ _ _ _=>D0) (λ_ _ _ _=>(Cm (A0 (pv 0) (A0 (Er (Ds hr) (pv 2) (pv 0) (λ_ _=>rfl)) (A0 (pv 1) A7))))))) A7))))))))),?_⟩;obtain⟨wt,cL,dD⟩:=id ha;have hq:=U.qv;have cD:∀x∈j,1<=x:=λx hx=>(U.1 x hx).1;have h8:=U.2.2.2.1;have zO:=U.2.2.1;refine⟨_,rfl,a,j,G,rfl,ha,(λw hw=>(U.1 w hw).1),hq.1,(λw hw=>Fo (by have:=U.1 w hw;omega) (U.1 w hw).2),Fo (by omega) hq.2,U.2.2.2.1,(by have:=U.2.2.2.2;omega),λTB D H1 hTB s1 uZ jY eG FA=>?_⟩
  have jS:Rk D:=λk v hv=>by
   obtain⟨m,e,_⟩:=jY.1 k v hv;exact⟨m,e⟩
  refine⟨_,rfl,a,j,G,rfl,ha.same s1,λb0 N s2 zJ=>?_⟩;have aS:=s1.trans s2;refine⟨_,rfl,TB,_,rfl,Ct.t (s2 _ _ uZ) (show D9 N b0 (j,0)from zJ),_,rfl,?_⟩;refine Dv (λh=>q0 D N aS jY eG ?_) (λNZ=>?_)
  ·cases e:Af D (j,0)with
   |none=>rfl
   |some v=>rw[e]at h;cases h
  have fL:(Af D (j,0)).isSome=true:=by
   cases e:Af D (j,0)with
   |none=>rw[e]at NZ;exact absurd rfl NZ
   |some v=>rfl
  have FC:Uf j G D (j,0):=by
   refine⟨Nv rfl (λi hi=>⟨cD _ (by rw[List.getD_eq_getElem?_getD,List.getElem?_eq_getElem hi];exact nr hi),Int.le_refl _⟩) (Int.le_refl _) (by have:=hq.1;show(0:Int)<qv G;omega),?_,.base⟩;obtain⟨v,hv⟩:=Option.isSome_iff_exists.mp fL;obtain⟨m,e⟩:=jS _ v hv;exact⟨m,by rw[hv,e]⟩
  refine λC hC=>?_;have s3:A8 N (upd N C (.dT [])):=A8.upd hC;have e3:(upd N C (.dT [])) C=some (.dT []):=A5;generalize upd N C (.dT [])=H3 at s3 e3⊢;refine⟨_,rfl,a,j,G,rfl,(ha.same aS).same s3,λb1 H4 s4 nG=>?_⟩;refine⟨Br,λL hL=>?_⟩;have s5:A8 H4 (upd H4 L (.lst [.ref b1])):=A8.upd hL;have e5:(upd H4 L (.lst [.ref b1])) L=some (.lst [.ref b1]):=A5;generalize upd H4 L (.lst [.ref b1])=H5 at s5 e5⊢;have UX:N C=none:=hC
  have JA:N L=none:=by
   cases e:N L with
   |none=>rfl
   |some o=>rw[s4 _ _ (s3 _ _ e)]at hL;cases hL
  have xP:A8 N H5:=(s3.trans s4).trans s5;obtain⟨bu,FD,FE⟩:=nG.same s5;dsimp only;refine u8 ?_;refine wz ?_
  refine Hz (λσ' B=>X3 λ(d:List V) (E:List (oB×Int)) (c:ov) (v4:Option V)=>Pu (σ'=[some (.ref a),some (.ref TB),some (.ref C),some (.ref L),v4]) (A8 N B) (B L=some (.lst d)) (Ae (Fl B) E d) (B C=some (.dT c)) (Rb j G D c E) (E.length<=8*c.length+1) ((∀M∈c,∃t,M.2=.ref t/\B t=some (.tup ((Fn D j M.1.1 G M.1.2).map V.bl)))))
   (λ_ B=>9*(301-Gv (B C))+Lz (B L)) ⟨[.ref b1],[(j,0)],[],none,rfl,xP,e5,Ae.one ⟨b1,bu,rfl,FD,FE⟩,s5 _ _ (s4 _ _ e3),Rb.start FC,by simp,λM aL=>by cases aL⟩ ?_ ?_
  ·rintro σ' B ⟨d,E,c,v4,rfl,s',jC,iR,qV,gD,hEl,fM⟩;have iY:=gD.len U;refine⟨_,rfl,_,.inl ⟨_,Be.of jC,rfl⟩,?_⟩;refine Dv (λcE=>?_) (λlB=>?_)
   ·have FF:0<d.length:=by
     cases d with
     |nil=>exact absurd cE (by decide)
     |cons x xs=>simp
    have JZ:=iR.1;obtain⟨y,hy⟩:=W9 FF;refine⟨_,rfl,.inl ⟨rfl,_,Be.of jC⟩,L,d,y,rfl,rfl,jC,hy,?_⟩;obtain⟨k,NT,b,b2,rfl,FG,FH⟩:=iR.get hy
    have eE:E=E.take (d.length-1)++[k]:=by
     have Z:=List.take_append_drop (d.length-1) E
     have h2:E.drop (d.length-1)=[k]:=by
      rw[List.drop_eq_getElem_cons (by omega),(List.getElem?_eq_some_iff.mp NT).2,List.drop_of_length_le (by omega)]
     rw[h2]at Z;exact Z.symm
    have FI:C≠L:=Bl qV jC (by intro z;cases z);have t4:Aj B (upd B L (.lst d.dropLast)):=Aj.lst jC;have zg:(upd B L (.lst d.dropLast)) L=some (.lst d.dropLast):=A5;have vA:(upd B L (.lst d.dropLast)) C=some (.dT c):=(Ab FI).trans qV;have vB:A8 N (upd B L (.lst d.dropLast)):=s'.new JA;generalize upd B L (.lst d.dropLast)=S at t4 zg vA vB⊢
    have BG:(∀M∈c,∃t,M.2=.ref t/\S t=some (.tup ((Fn D j M.1.1 G M.1.2).map V.bl))):=λM aL=>by
     obtain⟨t,X,Y⟩:=fM M aL;exact⟨t,X,t4 _ _ Y⟩
    have lD:Cc S b k.1 k.2:=⟨b2,t4 _ _ FG,t4 _ _ FH⟩
    have lF:Ae (Fl S) (E.take (d.length-1)) d.dropLast:=by
     rw[List.dropLast_eq_take];exact(iR.imp (λ_ _ y=>Fl.up t4 y)).take _
    have OA:(E.take (d.length-1)).length=E.length-1:=by rw[List.length_take];omega
    rw[eE]at gD;generalize E.take (d.length-1)=E0 at gD lF OA eE;have OB:Lz (B L)=d.length:=by rw[jC];rfl
    have mO:Gv (B C)=c.length:=by rw[qV];rfl
    refine⟨_,rfl,_,rfl,C,_,rfl,Ct.t vA (show D9 S b k from lD),_,rfl,(λOC I=>X3 λ(d:List V) (E:List (oB×Int)) (BF:ov) (v4:Option V)=>Js (OC=[some (.ref a),some (.ref TB),some (.ref C),some (.ref L),v4]) (A8 N I) (I L=some (.lst d)) (Ae (Fl I) E d) (I C=some (.dT BF)) (Rb j G D BF E) (E.length<=8*BF.length+1) ((∀M∈BF,∃t,M.2=.ref t/\I t=some (.tup ((Fn D j M.1.1 G M.1.2).map V.bl)))) (9*(301-Gv (I C))+Lz (I L)<9*(301-Gv (B C))+Lz (B L))),λh=>?_,λh=>?_,?_⟩
    ·have JB:Af c k=none:=by
      cases e:Af c k with
      |none=>rfl
      |some v=>rw[e]at h;cases h
     have vC:Uf j G D k:=gD.sf k (by simp);have oM:k.1.length=j.length:=(E2 vC.1).1;refine⟨_,rfl,_,rfl,_,rfl,a,TB,b,j,k.1,G,k.2,D,rfl,(ha.same aS).same vB,lD,vB _ _ (s2 _ _ uZ),jS,oM,h8,λA I O eA=>?_⟩;have OD:=O _ _ vA;have hL7:=O _ _ zg;refine⟨_,rfl,_,rfl,C,_,rfl,Rc.t OD (show D9 I b k from lD.same O) (Bo (by omega)),?_⟩;have JY:L≠C:=λz=>FI z.symm;have k8:∀b o,b≠C->I b=some o->(upd I C (.dT (B6 c k (.ref A)))) b=some o:=λb o n e=>(Ab n).trans e;have FJ:(upd I C (.dT (B6 c k (.ref A)))) C=some (.dT (B6 c k (.ref A))):=A5;generalize upd I C (.dT (B6 c k (.ref A)))=H8 at k8 FJ⊢;have t8:Aj I H8:=λb xs e=>k8 b _ (Bl e OD (by intro z;cases z)) e;have s8:A8 N H8:=λb o e=>k8 b o (Ag e UX) (O _ _ (vB _ _ e));have OE:=k8 _ _ JY hL7;have vD:Cc H8 b k.1 k.2:=(lD.same O).up t8;have ev:Af (B6 c k (.ref A)) k=some (.ref A):=by rw[Ga,if_pos rfl]
     refine⟨_,rfl,.inl ⟨rfl,_,Be.of OE⟩,_,rfl,_,rfl,_,rfl,_,rfl,C,.ref A,rfl,(by rw[<- ev];exact Ct.t FJ (show D9 H8 b k from vD)),a,b,A,j,G,k,D,rfl,(ha.same aS).same s8,vD,t8 _ _ eA,oM,h8,λl us H9 EO s9 el9 jU=>?_⟩;have huf:=m9 jY U vC;have OF:=s9 _ _ OE;have hel6:=lF.1;have lC:=jU.1;have hfl:((List.range j.length).filterMap (M7 D j G k)).length<=j.length:=eI (List.length_filterMap_le _ _) (by rw[List.length_range];exact da _);refine⟨L,l,d.dropLast,us,rfl,rfl,OF,el9,nf (Bo (by omega)),?_⟩;have uV:Aj H9 (upd H9 L (.lst (d.dropLast++us))):=Aj.lst OF;have vE:(upd H9 L (.lst (d.dropLast++us))) C=some (.dT (B6 c k (.ref A))):=(Ab FI).trans (s9 _ _ FJ);have iT:(B6 c k (.ref A)).length=c.length+1:=by rw[Cs _ JB,List.length_append,List.length_singleton]
     have FP:Aj I (upd H9 L (.lst (d.dropLast++us))):=t8.trans ((Aj.of s9).trans uV);refine⟨d.dropLast++us,E0++(List.range j.length).filterMap (M7 D j G k),B6 c k (.ref A),_,rfl,(s8.trans s9).new JA,A5,((lF.imp λ_ _ y=>Fl.up ((Aj.of O).trans FP) y).append (jU.imp λ_ _ y=>Fl.up uV y)),vE,gD.put JB huf,?_,(λM aL=>?_),?_⟩
     ·rw[List.length_append,iT,OA];omega
     ·rw[Cs _ JB]at aL;rcases hH.mp aL with z|z
      ·obtain⟨t,X,Y⟩:=BG M z;exact⟨t,X,FP _ _ (O _ _ Y)⟩
      ·rw[List.mem_singleton.mp z];exact⟨A,rfl,FP _ _ eA⟩
     ·have m1:Lz ((upd H9 L (.lst (d.dropLast++us))) L)=(d.dropLast++us).length:=by rw[A5];rfl
      have m2:Gv ((upd H9 L (.lst (d.dropLast++us))) C)=c.length+1:=by rw[vE];exact iT
      rw[m1,m2,OB,mO,List.length_append,List.length_dropLast];omega
    ·have jE:k∈c.map (·.1):=by
      cases e:Af c k with
      |none=>rw[e]at h;cases h
      |some v=>exact X1 e
     refine⟨d.dropLast,E0,c,_,rfl,vB,zg,lF,vA,gD.skip jE,by omega,BG,?_⟩;have m1:Lz (S L)=d.dropLast.length:=by rw[zg];rfl
     have m2:Gv (S C)=c.length:=by rw[vA];rfl
     rw[m1,m2,OB,mO,List.length_dropLast];omega
    ·rintro OC I ⟨es7,E7,cv7,v47,rfl,a1,a2,a3,a4,a5,a6,a7,a8⟩;exact⟨⟨es7,E7,cv7,v47,rfl,a1,a2,a3,a4,a5,a6,a7⟩,a8⟩
   ·have FK:d=[]:=by
     cases d with
     |nil=>rfl
     |cons x xs=>exact absurd rfl lB
    have hE1:E=[]:=by
     have Z:=iR.1;rw[FK]at Z;exact List.length_eq_zero_iff.mp Z.symm
    subst hE1;refine⟨C,.dT c,trivial,qV,_,rfl,C,.dT c,rfl,trivial,qV,λo=>?_⟩;have bF:∀b ob,b≠C->B b=some ob->(upd B C (.cF o (.dT c))) b=some ob:=λb ob n e=>(Ab n).trans e;have dF:(upd B C (.cF o (.dT c))) C=some (.cF o (.dT c)):=A5
    have fF:∀b,(upd B C (.cF o (.dT c))) b=none->B b=none:=λb hb=>by
     by_cases z:b=C
     ·rw[z,dF]at hb;cases hb
     ·rw[Ab z]at hb;exact hb
    generalize upd B C (.cF o (.dT c))=HF at bF dF fF⊢;have tF:Aj B HF:=λb xs e=>bF b _ (Bl e qV (by intro z;cases z)) e;have hTBC:TB≠C:=Ag (s2 _ _ uZ) UX;have hTBF:HF TB=some (.dT D):=bF _ _ hTBC (s' _ _ (s2 _ _ uZ));refine λR hR=>?_;refine Mo (K:=K) (d:=C) (o:=o) (u:=.dT c) (λi J H5=>Ae (Jb D j G H5) (c.take i) J/\J.Nodup/\H5 R=some (.lst J)/\A8 HF H5) ⟨Ae.nil,List.nodup_nil,A5,A8.upd hR⟩ (by rintro i J H5 _ ⟨_,_,_,s⟩;exact s _ _ dF) ?_ ?_ ?_ ?_
    ·rintro i x y T2 J H5 hi hit ⟨cU,hzn,hR5,s5'⟩ NA;have hi3:i<c.length:=hi;obtain⟨kk,bb,aL,rfl,sY⟩:=hit;obtain⟨t,et,ht⟩:=fM _ (b5 aL);have ey:y=.ref t:=et;subst ey;obtain⟨⟨jE,⟨m,hm⟩,_⟩,_⟩:=gD.ent _ (b5 aL);have qP:=cU.1;rw[List.length_take]at qP;have s6:A8 H5 (upd H5 T2 (.tup [.ref bb,.ref t])):=A8.upd NA;have e6:(upd H5 T2 (.tup [.ref bb,.ref t])) T2=some (.tup [.ref bb,.ref t]):=A5;generalize upd H5 T2 (.tup [.ref bb,.ref t])=S at s6 e6⊢;have s56:=s5'.trans s6;have hR6:=s6 _ _ hR5;simp only[Nz,↓reduceIte];refine⟨_,rfl,_,rfl,_,rfl,TB,.int m,rfl,(by rw[<- hm];exact Ct.t (s56 _ _ hTBF) (show D9 S bb kk from sY.up (Aj.of s6))),_,rfl,Br,λp hp=>?_⟩;have O:A8 S (upd S p (.tup [.ref bb,.int m,.ref t])):=A8.upd hp;have e7:(upd S p (.tup [.ref bb,.int m,.ref t])) p=some (.tup [.ref bb,.int m,.ref t]):=A5;generalize upd S p (.tup [.ref bb,.int m,.ref t])=I at O e7⊢;have hR7:=O _ _ hR6;have tt:Aj I (upd I R (.lst (J++[.ref p]))):=Aj.lst hR7;refine⟨hR7,Bo (by omega),?_,?_,A5,(s56.trans O).new hR⟩
     ·rw[List.take_add_one,aL];exact(cU.imp λ_ _ y=>Jb.up (((Aj.of s6).trans (Aj.of O)).trans tt) y).append (Ae.one ⟨p,bb,t,m,rfl,tt _ _ e7,((sY.up (Aj.of s6)).up (Aj.of O)).up tt,hm,rfl,tt _ _ (O _ _ (s56 _ _ (tF _ _ ht)))⟩)
     ·refine List.nodup_append.mpr ⟨hzn,by simp,λu hu v hv z=>?_⟩;cases ly.mp hv;subst z;obtain⟨i',mG⟩:=il.mp hu;obtain⟨_,_,p',_,_,_,X,Y,_⟩:=cU.get mG;cases X;rw[s6 _ _ Y]at hp;cases hp
    ·rintro σ H1 Q1 Q2 hQ z;exact hQ _ _ z
    ·rintro σ H1 Q1 Q2 hQ ⟨v,X,v2,Y,v3,e3,a',w',e4,g,v5,e5,l,f⟩;exact⟨v,X,v2,Y,v3,e3,a',w',e4,g,v5,e5,l,λp hp=>hQ _ _ (f p hp)⟩
    rintro J HG ⟨cU,hzn,NQ,sG⟩;rw[show c.take (Dk (.dT c))=c from List.take_length]at cU;have ze:=sG _ _ dF;refine⟨o,ze,?_⟩;have hRC:R≠C:=Bl NQ ze (by intro z;cases z)
    have nJ:A8 B (upd HG C (.dT c)):=λb ob e=>by
     by_cases z:b=C
     ·subst z;rw[qV]at e;cases e;exact A5
     ·exact(Ab z).trans (sG _ _ (bF b ob z e))
    have tG:Aj HG (upd HG C (.dT c)):=λb xs e=>by rw[Ab (Bl e ze (by intro z;cases z))];exact e
    have sC:Ae (Jb D j G (upd HG C (.dT c))) c J:=cU.imp λ_ _ y=>Jb.up tG y;have zd:(upd HG C (.dT c)) R=some (.lst J):=(Ab hRC).trans NQ;generalize upd HG C (.dT c)=HI at nJ sC zd⊢;have qP:=sC.1;let kO:V->(oB×Int)×V:=λu=>c.getD (J.idxOf u) (([],0),.aX)
    have kAt:∀(i:Nat) (u:V),J[i]?=some u->c[i]?=some (kO u):=λi u hu=>by
     obtain⟨Z,X⟩:=bA.mp hu;have Y:J.idxOf u=i:=by rw[<- X];exact List.Nodup.idxOf_getElem hzn i Z
     show _=some (c.getD (J.idxOf u) _);rw[Y,List.getD_eq_getElem?_getD,List.getElem?_eq_getElem (by omega)];rfl
    have vF:∀u∈J,kO u∈c/\Jb D j G HI (kO u) u:=λu hu=>by
     obtain⟨i,hi⟩:=il.mp hu;have Z:=kAt i u hi;exact⟨b5 Z,sC.2 i _ _ Z hi⟩
    have kMap:J.map kO=c:=by
     apply List.ext_getElem?;intro i;rw[List.getElem?_map];cases hi:J[i]? with
     |none=>
      have:=List.getElem?_eq_none_iff.mp hi;rw[List.getElem?_eq_none (by omega)];rfl
     |some u=>rw[kAt i u hi];rfl
    refine⟨R,J,false,(λu=>L1 D j G (kO u)),(λu=>(Aq j (qv G)).idxOf (kO u).1),rfl,Be.of zd,by omega,⟨λu hu=>⟨(vF u hu).2.rp,⟨dS (kO u).1,_,rfl,by rw[if_neg (by decide)];exact⟨_,rfl⟩⟩,U0 _ _ _ _⟩,λu hu v hv=>Ym (vF u hu).2.rp (gD.ent _ (vF u hu).1).1.1 (gD.ent _ (vF v hv).1).1.1⟩,λp dJ hp dM mR=>?_⟩;have sP:A8 HI (upd HI p (.lst dJ)):=A8.upd hp
    have hpH:H p=none:=by
     cases e:H p with
     |none=>rfl
     |some o=>rw[nJ _ _ (s' _ _ (aS _ _ e))]at hp;cases hp
    have hcp:(dJ.map kO).Perm c:=by
     have:=dM.map kO;rw[kMap]at this;exact this
    refine q p dJ (dJ.map kO) D _ (((aS.trans s').trans nJ).trans sP) hpH A5 jY eG fL (Xc gD hcp (by rw[List.pairwise_map];exact mR)) ⟨by rw[List.length_map],λi r v X Y=>?_⟩;rw[List.getElem?_map,Y]at X;cases X;exact Jb.up (Aj.of sP) (vF v (dM.mem_iff.mp (b5 Y))).2
  ·intro σ H0 Q1 Q2 z Z;obtain⟨_,e,k,t,h2⟩:=Z;exact⟨_,e,k,t,z _ _ h2⟩
def V6(K:W.Frag):Sp:=λc H Q _=>Rf λ(b:Addr) (a:oB) (q:Int)=>Pt (c=[.ref b]) (Cc H b a q) (0<a.length) (∀j:Nat,Ju a j->Q (.int j) H)
theorem ni{g:pa}(F:Ea K "least_left" "least_left" br ad.eY g):Bg P w K mg base Dr 1 ad.eY g ["standing"] (V6 K):=by
 refine F.ok qk (λr H Q E h=>?_) (λv A f s H r Q E x h=>?_)
 ·rcases h with⟨b,e,n,rfl,⟨u,d,c⟩,o,q⟩<;>rfl
 ·obtain⟨b,e,n,rfl,⟨u,d,c⟩,o,q⟩:=h;refine⟨_,(A9 (Ah (J0 PySem.F.plainAttrs_tuple PySem.F.slot_tuple_index PySem.F.type_tuple_index Y8 (Bk (Bj K) (pv 0) Ad (λ_ _=>rfl)) (A0 (As (Ot K rfl) (by rfl) T.uM boot_min (A0 (Bk (Bj K) (pv 0) Ad (λ_ _=>rfl)) A7)) A7)))),?_⟩;refine⟨_,rfl,b,_,_,_,rfl,rfl,.inr (Bm.of d),rfl,.inr (.inl ⟨rfl,.inr ⟨_,c⟩⟩),_,rfl,b,_,_,_,rfl,rfl,.inr (Bm.of d),rfl,u,e,rfl,.inr (Bm.of c),o,λm p a=>?_⟩;obtain⟨j,i,l⟩:=S8 p;exact⟨u,e,m,j,rfl,rfl,Bm.of c,i,l,q j (Zu a i l)⟩
def jx(K:W.Frag)(aE aB aA aD aC:Addr):Sp:=λg H Q _=>fi λ(x e d b:Addr) (f:V) (a:ov) (c:oB) (q:Int)=>Ls (g=[.ref x,f,.ref b]) (H x=some (.ins aA e [("paper",.ref d)])) (H d=some (.dT a)) (Cc H b c q) (0<c.length) (∀v,si a (c,q) v->Q v H)
theorem um{p B:pa}(F:Ea K "call" "PaperCaller.call" q5 ad.mV p)(r:Gk P w K mg base 1 ad.eY ["standing"] (V6 K) B):Bg P w K mg base Dr 2 ad.mV p ["self","hall","standing"] (jx K aE aB aA aD aC):=by
 refine F.ok vt (λC H Q E h=>?_) (λD A o s H C Q E i h=>?_)
 ·rcases h with⟨x,e,d,b,z,a,m,n,rfl,l,g,c,u,q⟩<;>rfl
 ·obtain⟨x,e,d,b,z,a,m,n,rfl,l,g,c,u,q⟩:=h;refine⟨_,(A6 (Bt (Ey (Ng (Ds i) (pv 2) (Fk (pv 0) rfl)) rfl) (A9 (Ah (Er (Ds i) (Fk (pv 0) rfl) (pv 2) (λ_ _=>rfl)))) Ap) (A9 (Ah (Ac r.g (i.mono (by decide)) rfl T.zY T.zZ r.b .nil Ai (A0 (pv 2) A7))))),?_⟩;refine⟨_,rfl,_,rfl,x,_,e,_,.ref d,rfl,l,T.bN,T.bC,rfl,d,_,rfl,Ct.t g (D9.of c),_,rfl,?_⟩;cases f:Af a (m,n)with
  |none=>
   refine Dm rfl ?_;exact⟨_,rfl,b,m,n,rfl,c,u,λj y=>q _ (.inr ⟨f,j,rfl,y⟩)⟩
  |some v=>
   refine K0 rfl ?_;refine⟨_,rfl,x,_,e,_,.ref d,rfl,l,T.bN,T.bC,rfl,_,rfl,d,v,rfl,?_,q v (.inl f)⟩;rw[<- f];exact Ct.t g (D9.of c)
def d5(K:W.Frag)(aE aB aA aD aC:Addr):Sp:=λf H Q _=>yw λ(x c r b:Addr) (d:oB) (k:Nat) (e:V) (a:oB) (q:Int)=>Ls (f=[.ref x,e,.ref b]) (H x=some (.ins aB c (Dj r k))) (H r=some (.lst (d.map V.int))) (Cc H b a q) (0<a.length) (∀v:Int,Hc d k a v->Q (.int v) (upd H x (.ins aB c (Dj r (k+1)))))
theorem mh{o G:pa}(F:Ea K "call" "RowCaller.call" bd ad.gP o)(u:Gk P w K mg base 1 ad.eY ["standing"] (V6 K) G):Bg P w K mg base Dr 2 ad.gP o ["self","hall","standing"] (d5 K aE aB aA aD aC):=by
 refine F.ok cn (λI H Q E h=>?_) (λL A i s H I Q E C h=>?_)
 ·rcases h with⟨x,a,r,b,e,k,D,v,n,rfl,d,y,p,z,q⟩<;>rfl
 ·obtain⟨x,a,r,b,e,k,D,v,n,rfl,d,y,p,z,q⟩:=h;refine⟨_,(A6 (Ak (i:=3) cn.nd rfl (Or.inl rfl) (Fk (pv 0) rfl)) (A6 (Hr (pv 0) (Bd Dc (pv 3) Ad) rfl) (A6 (Bt (B0 Ho (pv 3) (As (B8 K) (by rfl) T.bB PySem.boot_len (A0 (Fk (pv 0) rfl) A7)) (Au _)) (A9 (Ah (Bk (Bj K) (Fk (pv 0) rfl) (pv 3) (λ_ _=>rfl)))) Ap) (A9 (Ah (Ac u.g (C.mono (by decide)) rfl T.zY T.zZ u.b .nil Ai (A0 (pv 2) A7))))))),?_⟩;have l:Bh H (upd H x (.ins aB a (Dj r (k+1)))):=Bh.ins d;have f:(upd H x (.ins aB a (Dj r (k+1)))) x=some (.ins aB a (Dj r (k+1))):=A5;refine⟨_,rfl,x,_,a,_,.int k,rfl,d,T.aV,T.bJ,rfl,?_⟩;refine⟨_,rfl,_,_,rfl,rfl,_,rfl,x,_,a,_,rfl,d,T.aV,T.bJ,(by show 2<1000;decide),?_⟩;rw[Pa r k ((k:Int)+1) (by omega)];generalize upd H x (.ins aB a (Dj r (k+1)))=J at l f q⊢;have m:=l.lst y;refine⟨_,rfl,_,rfl,x,_,a,_,.ref r,rfl,f,T.aV,T.bP,rfl,r,_,rfl,.inl (Be.of m),_,_,rfl,rfl,_,rfl,?_⟩;refine Dv (λg=>?_) (λg=>?_)
  ·have c:k<e.length:=by simpa using g
   exact⟨_,rfl,x,_,a,_,.ref r,rfl,f,T.aV,T.bP,rfl,_,rfl,r,_,_,_,rfl,rfl,.inl (Be.of m),W4 c,q _ (Hc.at c)⟩
  have c:e.length<=k:=by
   have:¬((k:Int)<e.length):=by simpa using g
   omega
  exact⟨_,rfl,b,v,n,rfl,p.aM l,z,λj B=>q _ (Hc.least c B)⟩
def V0(K:W.Frag)(aE aB aA aD aC:Addr):Sp:=λg H Q _=>sk λ(x e r a b:Addr) (d:List Bool) (k:Nat) (i:V) (h f:oB) (c:oD) (q:Int)=>Ls (g=[.ref x,.ref a,.ref b,i]) (H x=some (.ins aD e (Dj r k))) (H r=some (.lst (d.map V.bl))) (Ax H a h c) (Cc H b f q) (Q (.bl (decide (k<d.length)&&d.getD k false&&(!decide (c=none)&&decide (q=0)))) (upd H x (.ins aD e (Dj r (k+1)))))
theorem mj{p D:pa}(F:Ea K "loses" "RowRoad.loses" bf ad.eZ p)(m:Gk P w K mg base 1 ad.cN ["hall","standing"] (Jn K) D):Bg P w K mg base Dr 2 ad.eZ p ["self","hall","standing","who"] (V0 K aE aB aA aD aC):=by
 refine F.ok cp (λL H Q E h=>?_) (λU A l s H L Q E J h=>?_)
 ·rcases h with⟨x,d,r,a,b,f,k,M,B,y,c,n,rfl,g,z,u,v,q⟩<;>rfl
 ·obtain⟨x,d,r,a,b,f,k,M,B,y,c,n,rfl,g,z,u,v,q⟩:=h;refine⟨_,(A6 (Ak (i:=4) cp.nd rfl (Or.inl rfl) (Fk (pv 0) rfl)) (A6 (Hr (pv 0) (Bd Dc (pv 4) Ad) rfl) (A9 (Ah (E6 (Cj Ho (pv 4) (As (B8 K) (by rfl) T.bB PySem.boot_len (A0 (Fk (pv 0) rfl) A7)) (Au _)) (E6 (Bk (Bj K) (Fk (pv 0) rfl) (pv 4) (λ_ _=>rfl)) (Jg (Ac m.g (J.mono (by decide)) rfl T.kG T.kH m.b .nil Ai (A0 (pv 1) (A0 (pv 2) A7)))))))))),?_⟩;have i:Bh H (upd H x (.ins aD d (Dj r (k+1)))):=Bh.ins g;have j:(upd H x (.ins aD d (Dj r (k+1)))) x=some (.ins aD d (Dj r (k+1))):=A5;refine⟨_,rfl,x,_,d,_,.int k,rfl,g,T.bD,T.bQ,rfl,?_⟩;refine⟨_,rfl,_,_,rfl,rfl,_,rfl,x,_,d,_,rfl,g,T.bD,T.bQ,(by show 2<1000;decide),?_⟩;rw[Pa r k ((k:Int)+1) (by omega)];generalize upd H x (.ins aD d (Dj r (k+1)))=C at i j q⊢;have o:=i.lst z;refine⟨_,rfl,_,rfl,x,_,d,_,.ref r,rfl,j,T.bD,T.bX,rfl,r,_,rfl,.inl (Be.of o),_,_,rfl,rfl,_,(f.getD k false&&(!decide (c=none)&&decide (n=0))),rfl,λG R N=>?_,?_⟩
  ·have I:k<f.length:=by simpa using G
   exact⟨_,rfl,x,_,d,_,.ref r,rfl,j,T.bD,T.bX,rfl,_,rfl,r,_,_,_,rfl,rfl,.inl (Be.of o),jh I,_,(!decide (c=none)&&decide (n=0)),rfl,λ_ S O=>⟨_,rfl,_,rfl,a,b,B,y,c,n,rfl,u.aM i,v.aM i,O⟩,N⟩
  ·have e:decide ((k:Int)<((f.map V.bl).length:Int))=decide (k<f.length):=by simp
   show Q (.bl (decide ((k:Int)<((f.map V.bl).length:Int))&&_)) C;rw[e,<- Bool.and_assoc];exact q
def Uz(K:W.Frag)(aE aB aA aD aC:Addr):Sp:=λi H Q _=>sj λ(x h d a b:Addr) (e:ov) (j g:oB) (c:oD) (q:Int) (f:Nat)=>Tm (i=[.ref x,.ref a,.ref b,.int f]) (H x=some (.ins aC h [("paper",.ref d)])) (H d=some (.dT e)) (Ax H a j c) (Cc H b g q) ((Af e (g,q)=none->Q (.bl false) H)) ((∀v,Af e (g,q)=some v->∃(t:Addr) (bs:List Bool),v=.ref t/\H t=some (.tup (bs.map V.bl))/\f<bs.length/\Q (.bl ((!decide (c=none)&&decide (q=0))&&bs.getD f false)) H))
theorem mf{r G:pa}(F:Ea K "loses" "PaperRoad.loses" ba ad.fA r)(q:Gk P w K mg base 1 ad.cN ["hall","standing"] (Jn K) G):Bg P w K mg base Dr 2 ad.fA r ["self","hall","standing","who"] (Uz K aE aB aA aD aC):=by
 refine F.ok qb (λM H Q E h=>?_) (λR A p s H M Q E m h=>?_)
 ·rcases h with⟨x,i,d,a,b,g,C,o,c,n,who,rfl,l,j,u,f,y,B⟩<;>rfl
 ·obtain⟨x,i,d,a,b,g,C,o,c,n,who,rfl,l,j,u,f,y,B⟩:=h;refine⟨_,(A9 (Ah (E6 (Ac q.g (m.mono (by decide)) rfl T.kG T.kH q.b .nil Ai (A0 (pv 1) (A0 (pv 2) A7))) (E6 (oj (Ng (Ds m) (pv 2) (Fk (pv 0) rfl)) rfl) (Jg (Bk (Bj K) (Er (Ds m) (Fk (pv 0) rfl) (pv 2) (λ_ _=>rfl)) (pv 3) (λ_ _=>rfl))))))),?_⟩;refine⟨_,rfl,_,rfl,a,b,C,o,c,n,rfl,u,f,?_⟩;cases e:Af g (o,n)with
  |none=>
   refine⟨_,false,rfl,λ_ D z=>⟨_,rfl,_,rfl,x,_,i,_,.ref d,rfl,l,T.bG,T.aW,rfl,d,_,rfl,Ct.t j (D9.of f),_,false,rfl,?_,?_⟩,?_⟩
   ·intro h;rw[e]at h;exact absurd h (by decide)
   ·rw[e];exact z
   ·rw[Bool.and_false];exact y e
  |some v=>
   obtain⟨t,bs,rfl,I,J,L⟩:=B v e;refine⟨_,bs.getD who false,rfl,λ_ D z=>⟨_,rfl,_,rfl,x,_,i,_,.ref d,rfl,l,T.bG,T.aW,rfl,d,_,rfl,Ct.t j (D9.of f),_,bs.getD who false,rfl,λ_ O N=>⟨_,rfl,x,_,i,_,.ref d,rfl,l,T.bG,T.aW,rfl,_,rfl,d,.ref t,rfl,?_,_,rfl,t,_,_,_,rfl,rfl,.inr (Bm.of I),jh J,N⟩,?_⟩,L⟩
   ·rw[<- e];exact Ct.t j (D9.of f)
   ·rw[e];exact z
def Vb(K:W.Frag)(aE aB aA aD aC:Addr):Sp:=λD H Q _=>(sn λ(h c g r s d y:Addr) (j:oB) (m:oD) (f:ov) (C:List Bool) (k:Nat) (T:Int) (N:Nat)=>j8 (D=[.ref h,.ref c,.ref g,.int T]) (T=(N:Int)) (Ax H h j m) (c≠g) (H c=some (.ins aA r [("paper",.ref d)])) (H d=some (.dT f)) (H g=some (.ins aD s (Dj y k))) (H y=some (.lst (C.map V.bl))) (0<j.length) (j.length<=8) (Tl j m f) (N<=400) (∀(p l b:Addr) (n:List V) (z:List PR) (a:Hp),(∀A,H l≠some (.lst A))->Bh H a->a c=some (.ins aA r [("paper",.ref d)])->a g=some (.ins aD s (Dj y (k+N)))->
  a p=some (.tup [.ref l,.ref b])->a l=some (.lst n)->Ae (Py a) z n->a b=some (.lst [])->z.length=N->Rh j m f (λi q=>Jf C (k+i) m q) z->Q (.ref p) a))\/(so λ(h c g r s d B:Addr) (j:oB) (m:oD) (u:List Eb) (f:ov) (o:oB) (k:Nat) (T:Int) (N:Nat) (v:Eb)=>jb (D=[.ref h,.ref c,.ref g,.int T]) (T=(N:Int)) (Ax H h j m) (c≠g) (H c=some (.ins aB r (Dj B k))) (H B=some (.lst (o.map V.int))) ((∀x∈o,0<=x/\x<(j.length:Int))) (H g=some (.ins aC s [("paper",.ref d)])) (H d=some (.dT f)) ((∀e∈u,∃t,Af f e.k=some (.ref t)/\H t=some (.tup (e.a.map V.bl)))) (Yy j m u) ((∀e∈u,e.k.1.length=j.length/\∀x∈e.k.1,1<=x)) (0<j.length) (j.length<=8) (v∈u) (v.k=(j,0)) (v.r=(N:Int)) (N<=400) (∀(p l b:Addr) (n:List V) (bs:oB) (a:Hp),(∀A,H l≠some (.lst A))->Bh H a->a p=some (.tup [.ref l,.ref b])->a l=some (.lst n)->a b=some (.lst (bs.map V.int))->bs≠[]->1<=n.length->n.length<=N->Q (.ref p) a))
theorem o8{fd bR OJ FQ oX oY vG bE:pa}(F:Ea K "play" "play" cj ad.fB fd)(aO:Gk P w K mg base 1 ad.cH ["hall"] (Hw K) bR)(zi:Gk P w K mg base 2 ad.mV ["self","hall","standing"] (jx K aE aB aA aD aC) OJ)(qZ:Gk P w K mg base 2 ad.gP ["self","hall","standing"] (d5 K aE aB aA aD aC) FQ)(iE:Gk P w K mg base 2 ad.eZ ["self","hall","standing","who"] (V0 K aE aB aA aD aC) oX)(iG:Gk P w K mg base 2 ad.fA ["self","hall","standing","who"] (Uz K aE aB aA aD aC) oY)(rA:Gk P w K mg base 4 ad.dA ["hall","standing","who","lost"] (de K) vG)(cS:D1 K vG ["hall","standing","who","lost"] [Value.bool false])(aU:Gk P w K mg base 4 ad.bT ["hall","standing","who","lost"] (Jo K) bE)(aN:D1 K bE ["hall","standing","who","lost"] [Value.bool false]):Bg P w K mg base Dr 5 ad.fB fd ["hall","caller","road","turns"] (Vb K aE aB aA aD aC):=by
 refine F.ok Jm (λvs H Q E h=>?_) (λaR A outer s H vs Q E hr h=>?_)
 ·rcases h with⟨h,c,g,D,G,d,qg,m,n,x,tr,k,TT,N,rfl,rfl,M,OK,hc,OL,hg,hqg,fU,jB,nW,hN,q⟩|⟨h,c,g,D,G,d,qc,m,n,es,x,row,k,TT,N,e0,rfl,rfl,M,OK,hc,hqc,sE,hg,OL,fM,hle,qI,fU,jB,mP,tJ,her,hN,q⟩<;>rfl
 ·obtain h:=h;refine⟨_,(A6 (Ak (i:=4) Jm.nd rfl (Or.inl rfl) (Dy A7)) (A6 (Ak (i:=5) Jm.nd rfl (Or.inl rfl) (Ac aO.g (hr.mono (by decide)) rfl T.fI T.fJ aO.b .nil Ai (A0 (pv 0) A7))) (A6 (Kb lG (B0 Ho (As (B8 K) (by rfl) T.bB PySem.boot_len (A0 (pv 4) A7)) (pv 3) (Au _)) (A6 (Ak (i:=6) Jm.nd rfl (Or.inl rfl) (L9 (Ih (pv 1) T.bN T.XY zi.g (hr.mono (by decide)) zi.b .nil Ai (A0 (pv 0) (A0 (pv 5) A7))) (Ih (pv 1) T.aV T.MM qZ.g (hr.mono (by decide)) qZ.b .nil Ai (A0 (pv 0) (A0 (pv 5) A7))))) (A6 (Ak (i:=7) Jm.nd rfl (Or.inl rfl) (L9 (Ih (pv 2) T.bD T.AO iE.g (hr.mono (by decide)) iE.b .nil Ai (A0 (pv 0) (A0 (pv 5) (A0 (pv 6) A7)))) (Ih (pv 2) T.bG T.AQ iG.g (hr.mono (by decide)) iG.b .nil Ai (A0 (pv 0) (A0 (pv 5) (A0 (pv 6) A7)))))) (A6 (E9 (J0 PySem.F.plainAttrs_list PySem.F.slot_list_append PySem.F.type_list_append Fu (pv 4) (A0 (Cm (A0 (pv 5) (A0 (pv 6) (A0 (pv 7) A7)))) A7))) (A6 (Ak (i:=8) Jm.nd rfl (Or.inl rfl) (Ac rA.g (hr.mono (by decide)) rfl T.LC T.uG rA.b .nil Ai (A0 (pv 0) (A0 (pv 5) (A0 (pv 6) (A0 (pv 7) A7)))))) (A6 (Bt (Kc (pv 8) (by intro _;rfl)) (A9 (Ah (Cm (A0 (pv 4) (A0 (pv 8) A7))))) Ap) (A9 (Ak (i:=5) Jm.nd rfl (Or.inl rfl) (Ac aU.g (hr.mono (by decide)) rfl T.gY T.dR aU.b .nil Ai (A0 (pv 0) (A0 (pv 5) (A0 (pv 6) (A0 (pv 7) A7))))))))))))) (A9 (Ah (Cm (A0 (pv 4) (A0 (Dy A7) A7)))))))),?_⟩;rcases h with⟨h,c,g,D,G,d,qg,m,n,x,tr,k,TT,N,rfl,rfl,M,OK,hc,OL,hg,hqg,fU,jB,nW,hN,q⟩|⟨h,c,g,D,G,d,qc,m,n,es,x,row,k,TT,N,e0,rfl,rfl,M,OK,hc,hqc,sE,hg,OL,fM,hle,qI,fU,jB,mP,tJ,her,hN,q⟩
  ·refine⟨Br,λL hL=>?_⟩;have s1:A8 H (upd H L (.lst [])):=A8.upd hL;have X:(upd H L (.lst [])) L=some (.lst []):=A5;generalize upd H L (.lst [])=H1 at s1 X⊢;refine⟨_,rfl,h,m,n,rfl,M.same s1,λb0 S s2 uW=>?_⟩;have aS:=s1.trans s2
   refine Hz (λO u=>fh λ(o:List V) (b:Addr) (done:List PR) (v6 v7 v8:Option V)=>Lg (O=[some (.ref h),some (.ref c),some (.ref g),some (.int N),some (.ref L),some (.ref b),v6,v7,v8]) (Bh H u) (u L=some (.lst o)) (Ae (Py u) done o) (Cc u b (Hx m n done).1 (Hx m n done).2) (u c=some (.ins aA D [("paper",.ref d)])) (u g=some (.ins aD G (Dj qg (k+done.length)))) (Rh m n x (λi q=>Jf tr (k+i) n q) done) ((Af x (Hx m n done)).isSome=true) (done.length<=N))
    (λ(_:L2.St) (u:L2.Hp)=>match u L with|some (.lst Z)=>N-Z.length|_=>0) ⟨[],b0,[],none,none,none,rfl,A8.aM aS,s2 _ _ X,Ae.nil,uW,aS _ _ hc,aS _ _ hg,Rh.nil,nW.1,me _⟩ ?_ ?_
   ·rintro O u ⟨o,b,done,v6,v7,v8,rfl,st,R,jU,bH,iQ,FR,go,UB,hdN⟩;have lC:=jU.1
    have mu:∀S:Hp,∀zs:List V,S L=some (.lst zs)->(match S L with|some (.lst Z)=>N-Z.length|_=>0)=N-zs.length:=by
     intro S zs e;rw[e]
    refine⟨_,rfl,L,_,rfl,.inl (Be.of R),_,rfl,_,_,rfl,rfl,_,rfl,?_⟩;refine Dv (λaP=>?_) (λsW=>?_)
    ·have hd:done.length<N:=by
      have:((o.length:Nat):Int)<(N:Int):=by simpa using aP
      omega
     obtain⟨v0,fL⟩:=Option.isSome_iff_exists.mp UB;obtain⟨tI,qI,j,ej,hj,iY⟩:=nW.2 _ v0 fL;rw[ej]at fL;refine .inl ⟨_,rfl,c,D,_,rfl,iQ,rfl,_,rfl,_,rfl,c,D,d,b,_,x,(Hx m n done).1,(Hx m n done).2,rfl,iQ,st.dT OL,bH,by omega,λv hv=>?_⟩
     have ev:v=.int (j:Nat):=by
      rcases hv with z|⟨z,_⟩
      ·have z':Af x (Hx m n done)=some v:=z;rw[fL]at z';exact(eT z').symm
      ·have z':Af x (Hx m n done)=none:=z;rw[fL]at z';cases z'
     subst ev;refine .inl ⟨_,rfl,g,G,_,rfl,FR,rfl,_,rfl,_,rfl,_,rfl,g,G,qg,h,b,tr,k+done.length,_,m,(Hx m n done).1,n,(Hx m n done).2,rfl,FR,st.lst hqg,M.aM st,bH,?_⟩;rw[<- Y4 tr (k+done.length) n (Hx m n done).2];have U:J6 n (Hx m n done).2 (Jf tr (k+done.length) n (Hx m n done).2):=Zx;generalize OM:Jf tr (k+done.length) n (Hx m n done).2=f at U⊢;obtain⟨hz,hnx⟩:=iY f U;have t4:Bh u (upd u g (.ins aD G (Dj qg (k+done.length+1)))):=Bh.ins FR;have g4:(upd u g (.ins aD G (Dj qg (k+done.length+1)))) g=_:=A5;have c4:(upd u g (.ins aD G (Dj qg (k+done.length+1)))) c=_:=(Ab OK).trans iQ;generalize upd u g (.ins aD G (Dj qg (k+done.length+1)))=H4 at t4 g4 c4⊢;have cB:=st.trans t4;refine⟨_,rfl,.inl ⟨rfl,_,Be.of (t4.lst R)⟩,_,rfl,_,rfl,_,rfl,Br,λt ht=>?_⟩;have y:A8 H4 (upd H4 t (.tup [.ref b,.int (j:Nat),.bl f])):=A8.upd ht;have Y:(upd H4 t (.tup [.ref b,.int (j:Nat),.bl f])) t=some (.tup [.ref b,.int (j:Nat),.bl f]):=A5;have J:=y _ _ (t4.lst R);refine⟨L,o,_,rfl,rfl,J,Bb (by omega),?_⟩;have zj:=y _ _ c4;have zk:=y _ _ g4;generalize upd H4 t (.tup [.ref b,.int (j:Nat),.bl f])=B at y Y J zj zk⊢;have xX:=cB.trans (A8.aM y);have FT:Bh H (upd B L (.lst (o++[.ref t]))):=xX.new hL;have JC:(upd B L (.lst (o++[.ref t]))) L=some (.lst (o++[.ref t])):=A5;have t6:Gf u (upd B L (.lst (o++[.ref t]))):=(t4.trans (A8.aM y)).aZ.trans (Gf.lst J);have e6t:(upd B L (.lst (o++[.ref t]))) t=_:=Gf.lst (o:=.lst (o++[.ref t])) J _ _ Y;have c6:(upd B L (.lst (o++[.ref t]))) c=_:=(Ab (λz=>by rw[z,J]at zj;cases zj)).trans zj;have g6:(upd B L (.lst (o++[.ref t]))) g=_:=(Ab (λz=>by rw[z,J]at zk;cases zk)).trans zk;generalize upd B L (.lst (o++[.ref t]))=H6 at FT JC t6 e6t c6 g6⊢;have aI:=bH.aZ t6;have hus6:Ae (Py H6) (done++[(Hx m n done,j,f)]) (o++[.ref t]):=(Fz t6 jU).append (Ae.one ⟨t,b,rfl,e6t,aI⟩);refine⟨_,rfl,_,rfl,_,rfl,_,rfl,h,b,m,(Hx m n done).1,n,(Hx m n done).2,j,f,rfl,M.aM FT,aI,hj,tI,jB,U,λl H7 tH I el=>?_⟩;have hlb:(Ba m (Hx m n done).1 j f).length=m.length:=(Eo _ _ _ _).trans tI;have nU:Ei (Ba m (Hx m n done).1 j f) m.length=[]:=(Ml (by omega)).mpr (by rw[<- hlb,List.take_length];exact hz);rw[nU]at el;have kC:=FT.trans (A8.aM I);have hus7:=Fz (A8.aZ I) hus6;refine⟨_,rfl,_,.inl ⟨_,Be.of el,rfl⟩,Dm rfl ?_⟩;refine⟨_,rfl,_,rfl,_,rfl,_,rfl,h,b,m,(Hx m n done).1,n,(Hx m n done).2,j,f,rfl,M.aM kC,aI.same I,hj,tI,jB,U,(λz=>absurd z hz),λ_ b2 H8 C ON=>?_⟩;have hlen:(done++[(Hx m n done,j,f)]).length=done.length+1:=by rw[List.length_append];rfl
     have OO:=C _ _ (I _ _ JC);have est:Hx m n (done++[(Hx m n done,j,f)])=(Ba m (Hx m n done).1 j f,Ci n (Hx m n done).2 f):=ef;refine⟨⟨o++[.ref t],b2,done++[(Hx m n done,j,f)],_,_,_,rfl,kC.trans (A8.aM C),OO,Fz (A8.aZ C) hus7,?_,C _ _ (I _ _ c6),?_,go.snoc fL OM.symm,?_,by omega⟩,?_⟩
     ·rw[est];exact ON
     ·rw[hlen];exact C _ _ (I _ _ g6)
     ·rw[est];exact hnx
     ·rw[mu _ _ OO,mu _ _ R,List.length_append,List.length_singleton];omega
    ·have hge':N<=done.length:=by
      have:¬((o.length:Nat):Int)<(N:Int):=by simpa using sW
      omega
     have IL:done.length=N:=by omega
     refine⟨_,rfl,Br,λl hl=>?_⟩;have y:=A8.upd (o:=.lst []) hl;have Y:(upd u l (.lst [])) l=some (.lst []):=A5;generalize upd u l (.lst [])=B at y Y⊢;refine⟨Br,λp hp=>?_⟩;have s6:=A8.upd (o:=.tup [.ref L,.ref l]) hp;rw[IL]at FR;exact q p L l o done _ (λZ z=>by rw[hL]at z;cases z) ((st.trans (A8.aM y)).trans (A8.aM s6)) (s6 _ _ (y _ _ iQ)) (s6 _ _ (y _ _ FR)) A5 (s6 _ _ (y _ _ R)) (Fz (A8.aZ s6) (Fz (A8.aZ y) jU)) (s6 _ _ Y) IL go
   ·intro σ H0 Q1 Q2 z h1;obtain⟨_,e,L',o,X,e2,v,e3,i,j,e4,Y,b,e6,h2⟩:=h1;exact⟨_,e,L',o,X,e2,v,e3,i,j,e4,Y,b,e6,z _ _ h2⟩
  ·refine⟨Br,λL hL=>?_⟩;have s1:A8 H (upd H L (.lst [])):=A8.upd hL;have X:(upd H L (.lst [])) L=some (.lst []):=A5;generalize upd H L (.lst [])=H1 at s1 X⊢;refine⟨_,rfl,h,m,n,rfl,M.same s1,λb0 S s2 uW=>?_⟩;have aS:=s1.trans s2;obtain⟨eG,_,OP⟩:=hle
   refine Hz (λO u=>fk λ(o:List V) (b:Addr) (e:Eb) (k':Nat) (v6 v7 v8:Option V)=>Pu (O=[some (.ref h),some (.ref c),some (.ref g),some (.int N),some (.ref L),some (.ref b),v6,v7,v8]) (Bh H u) (u L=some (.lst o)) (Cc u b e.k.1 e.k.2) (e∈es) (e.r+(o.length:Int)<=N) (u c=some (.ins aB D (Dj qc k'))) (u g=some (.ins aC G [("paper",.ref d)])))
    (λ(_:L2.St) (u:L2.Hp)=>match u L with|some (.lst Z)=>N-Z.length|_=>0) ⟨[],b0,e0,k,none,none,none,rfl,A8.aM aS,s2 _ _ X,by rw[tJ];exact uW,mP,by rw[her];show(N:Int)+((0:Nat):Int)<=N;omega,aS _ _ hc,aS _ _ hg⟩ ?_ ?_
   ·rintro O u ⟨o,b,e,k',v6,v7,v8,rfl,st,R,bH,hee,hsum,iQ,FR⟩;obtain⟨fP,⟨kE,nO⟩,OQ⟩:=OP e hee
    have mu:∀S:Hp,∀zs:List V,S L=some (.lst zs)->(match S L with|some (.lst Z)=>N-Z.length|_=>0)=N-zs.length:=by
     intro S zs e;rw[e]
    refine⟨_,rfl,L,_,rfl,.inl (Be.of R),_,rfl,_,_,rfl,rfl,_,rfl,?_⟩;refine Dv (λaP=>?_) (λsW=>?_)
    ·obtain⟨tI,uR⟩:=qI e hee;refine .inr ⟨_,rfl,c,D,_,rfl,iQ,rfl,_,rfl,_,rfl,c,D,qc,b,row,k',_,e.k.1,e.k.2,rfl,iQ,st.lst hqc,bH,by omega,λv hv=>?_⟩;obtain⟨who,rfl,nD⟩:=Z5 hv sE tI;have t3:Bh u (upd u c (.ins aB D (Dj qc (k'+1)))):=Bh.ins iQ;have c3:(upd u c (.ins aB D (Dj qc (k'+1)))) c=_:=A5;have g3:(upd u c (.ins aB D (Dj qc (k'+1)))) g=_:=(Ab OK.symm).trans FR;generalize upd u c (.ins aB D (Dj qc (k'+1)))=H3 at t3 c3 g3⊢;have eF:=st.trans t3;obtain⟨t0,hvt,ht0⟩:=fM e hee;refine .inr ⟨_,rfl,g,G,_,rfl,g3,rfl,_,rfl,_,rfl,_,rfl,g,G,d,h,b,x,m,e.k.1,n,e.k.2,who,rfl,g3,eF.dT OL,M.aM eF,bH.aM t3,(λz=>by rw[show(e.k.1,e.k.2)=e.k from rfl,hvt]at z;cases z),λv hv=>?_⟩
     have ev:v=.ref t0:=by
      have nN:Af x e.k=some v:=hv;rw[hvt]at nN;exact(eT nN).symm
     refine⟨t0,e.a,ev,eF.tup ht0,(by rw[kE];exact nD),?_⟩
     have OS:e.a[who]?=some (e.a.getD who false):=by
      rw[List.getD_eq_getElem?_getD,List.getElem?_eq_getElem (by omega)];rfl
     have U:J6 n e.k.2 (e.a.getD who false):=λz=>nO (by rw[<- z];exact b5 OS)
     have vH:((!decide (n=none)&&decide (e.k.2=0))&&e.a.getD who false)=e.a.getD who false:=by
      cases z:e.a.getD who false with
      |false=>rw[Bool.and_false]
      |true=>
       obtain⟨m1,m2⟩:=U z;rw[decide_eq_false m1,decide_eq_true m2];rfl
     rw[vH];have hfl:=OQ who nD _ OS;generalize e.a.getD who false=f at U hfl⊢;refine⟨_,rfl,.inl ⟨rfl,_,Be.of (t3.lst R)⟩,_,rfl,_,rfl,_,rfl,Br,λt ht=>?_⟩;have y:A8 H3 (upd H3 t (.tup [.ref b,.int (who:Nat),.bl f])):=A8.upd ht;have J:=y _ _ (t3.lst R)
     have zl:o.length<N:=by
      have:((o.length:Nat):Int)<(N:Int):=by simpa using aP
      omega
     refine⟨L,o,_,rfl,rfl,J,Bb (by omega),?_⟩;have zj:=y _ _ c3;have zk:=y _ _ g3;generalize upd H3 t (.tup [.ref b,.int (who:Nat),.bl f])=B at y J zj zk⊢;have xX:=eF.trans (A8.aM y);have FT:Bh H (upd B L (.lst (o++[.ref t]))):=xX.new hL;have JC:(upd B L (.lst (o++[.ref t]))) L=some (.lst (o++[.ref t])):=A5;have t6:Gf u (upd B L (.lst (o++[.ref t]))):=(t3.trans (A8.aM y)).aZ.trans (Gf.lst J);have c6:(upd B L (.lst (o++[.ref t]))) c=_:=(Ab (λz=>by rw[z,J]at zj;cases zj)).trans zj;have g6:(upd B L (.lst (o++[.ref t]))) g=_:=(Ab (λz=>by rw[z,J]at zk;cases zk)).trans zk;generalize upd B L (.lst (o++[.ref t]))=H6 at FT JC t6 c6 g6⊢;have aI:=bH.aZ t6;have hln:(o++[V.ref t]).length=o.length+1:=by rw[List.length_append];rfl
     refine⟨_,rfl,_,rfl,_,rfl,_,rfl,h,b,m,e.k.1,n,e.k.2,who,f,rfl,M.aM FT,aI,nD,tI,jB,U,λl H7 tH I el=>?_⟩;have hlb:(Ba m e.k.1 who f).length=m.length:=(Eo _ _ _ _).trans tI;have kC:=FT.trans (A8.aM I);refine⟨_,rfl,_,.inl ⟨_,Be.of el,rfl⟩,?_⟩;refine Dv (λhb=>?_) (λhb=>?_)
     ·have cE:Ei (Ba m e.k.1 who f) m.length≠[]:=λz=>by
       rw[z]at hb;exact absurd hb (by decide)
      refine⟨_,rfl,_,rfl,Br,λp hp=>?_⟩;have C:=A8.upd (o:=.tup [.ref L,.ref l]) hp;exact q p L l _ _ _ (λZ z=>by rw[hL]at z;cases z) (kC.trans (A8.aM C)) A5 (C _ _ (I _ _ JC)) (C _ _ el) cE (by omega) (by omega)
     ·have he:Ei (Ba m e.k.1 who f) m.length=[]:=by
       cases hx:Ei (Ba m e.k.1 who f) m.length with
       |nil=>rfl
       |cons a r=>exact absurd (by rw[hx];rfl) hb
      have hz:(0:Int)∉Ba m e.k.1 who f:=by
       have:=(Ml (show m.length<=(Ba m e.k.1 who f).length by omega)).mp he;rw[<- hlb,List.take_length]at this;exact this
      obtain⟨r',UY,MX⟩:=hfl (Ba m e.k.1 who f,Ci n e.k.2 f) (by unfold Cw;rw[if_neg hz]);obtain⟨e',IT,hek',her'⟩:=gw eG UY;refine⟨_,rfl,_,rfl,_,rfl,_,rfl,h,b,m,e.k.1,n,e.k.2,who,f,rfl,M.aM kC,aI.same I,nD,tI,jB,U,(λz=>absurd z hz),λ_ b2 H8 C ON=>?_⟩;have OO:=C _ _ (I _ _ JC);refine⟨⟨o++[.ref t],b2,e',k'+1,_,_,_,rfl,kC.trans (A8.aM C),OO,by rw[hek'];exact ON,IT,by rw[hln];omega,C _ _ (I _ _ c6),C _ _ (I _ _ g6)⟩,?_⟩;rw[mu _ _ OO,mu _ _ R,hln];omega
    ·have:¬((o.length:Nat):Int)<(N:Int):=by simpa using sW
     omega
   ·intro σ H0 Q1 Q2 z h1;obtain⟨_,e,L',o,X,e2,v,e3,i,j,e4,Y,b,e6,h2⟩:=h1;exact⟨_,e,L',o,X,e2,v,e3,i,j,e4,Y,b,e6,z _ _ h2⟩
def V8(K:W.Frag):Sp:=λg H Q _=>fh λ(a l:Addr) (b:oB) (e:oD) (f:List V) (c:List Kq)=>Js (g=[.ref a,.ref l]) (Ax H a b e) (0<b.length) (b.length<=8) ((∀x∈b,1<=x)) (H l=some (.lst f)) (Ae (PQ H) c f) (Yw b.length c) (∀(r:Bool) (d:Hp),A8 H d->(r=true↔Yz b e c)->Q (.bl r) d)
theorem np{fd bR oG dX:pa}(F:Ea K "lets_kept" "lets_kept" bz ad.fD fd)(aO:Gk P w K mg base 1 ad.cH ["hall"] (Hw K) bR)(hU:Gk P w K mg base 1 ad.eR ["hall","who"] (V2 K) oG)(bU:Gk P w K mg base 5 ad.cZ ["hall","standing","who"] (Nu K) dX):Bg P w K mg base Dr 6 ad.fD fd ["hall","paper"] (V8 K):=by
 refine F.ok Nq (λvs H Q E h=>?_) (λaR A outer s H vs Q E O h=>?_)
 ·rcases h with⟨a,l,m,N,us,f,rfl,ha,h0,h8,cD,Y,S,hg,q⟩<;>rfl
 ·obtain⟨a,l,m,N,us,f,rfl,ha,h0,h8,cD,Y,S,hg,q⟩:=h;refine⟨_,(A6 (Ak (i:=2) Nq.nd rfl (Or.inl rfl) (Bn (Gg K (gn O) rfl) (by rfl) T.kY boot_dict (A0 (pv 1) A7))) (A6 (Bt (PW.pt (Jh (B0 Ho (As Os (by rfl) T.bB PySem.boot_len (A0 (pv 2) A7)) (As (B8 K) (by rfl) T.bB PySem.boot_len (A0 (pv 1) A7)) (Au _)) (Hs (Ey (Dx (Ds O) (Ac aO.g (O.mono (by decide)) rfl T.fI T.fJ aO.b .nil Ai (A0 (pv 0) A7)) (pv 2)) rfl)))) (A9 (Ah Dp)) Ap) (A6 (Cv lG rfl (Di (pv 1)) (Cy K (n:=2) rfl (Ar (Al (i:=3) Nq.nd rfl (Or.inl rfl)) (Ar (Al (i:=4) Nq.nd rfl (Or.inl rfl)) Cz))) (A6 (Bt (D8 (D5 (Ac hU.g (O.mono (by decide)) rfl T.zQ T.zR hU.b .nil Ai (A0 (pv 0) (A0 (pv 4) A7))))) (A9 (Ah Dp)) Ap) (A9 (Cv lG rfl (Di (Ac bU.g (O.mono (by decide)) rfl T.qJ T.qK bU.b .nil Ai (A0 (pv 0) (A0 (pv 3) (A0 (pv 4) A7))))) (Al (i:=5) Nq.nd rfl (Or.inl rfl)) (A9 (Bt (PW.pt (Jh (B0 Nb (pv 5) Dd (Au _)) (Hs (Ey (Dx (Ds O) (pv 5) (pv 2)) rfl)))) (A9 (Ah Dp)) Ap)))))) (A9 (Ah Dp))))),?_⟩;obtain⟨kE,hag⟩:=Wj S;refine⟨_,rfl,l,us,L4 f,rfl,Be.of Y,kE,hag,λd hd=>?_⟩;have o:A8 H (upd H d (.dT (B9 [] (L4 f)))):=A8.upd hd;have D:(upd H d (.dT (B9 [] (L4 f)))) d=some (.dT (B9 [] (L4 f))):=A5;generalize upd H d (.dT (B9 [] (L4 f)))=H1 at o D⊢;have lC:=S.1;have cL:=ha.same o;obtain⟨wt,U,X⟩:=id cL;refine⟨_,rfl,d,_,rfl,D,_,rfl,l,_,rfl,.inl (Be.of (o _ _ Y)),_,_,rfl,rfl,_,rfl,(λc n=>A8 H1 n/\(c=true↔¬((f.map (·.1)).Nodup/\(m,0)∈f.map (·.1)))),λaP=>?_,λsW=>?_,λc M v=>?_⟩
  ·simp only[decide_eq_true_eq]at aP;exact⟨A8.refl _,λ_ z=>(Wh f).mp (by omega) z.1,λ_=>rfl⟩
  ·simp only[decide_eq_false_iff_not]at sW;have eG:(f.map (·.1)).Nodup:=Classical.byContradiction λz=>sW (by have:=(Wh f).mpr z;omega);refine⟨_,rfl,a,m,N,rfl,cL,λp M C bH=>?_⟩;refine⟨_,rfl,d,_,rfl,Ct.t (C _ _ D) (show D9 M p (m,0)from bH),_,rfl,C,?_⟩;rw[<- ah];cases(Af (B9 [] (L4 f)) (m,0)).isSome<;>simp[eG]
  obtain⟨aS,v⟩:=v;refine Dv (λh=>?_) (λh=>?_)
  ·refine q false _ (o.trans aS) ⟨(λz=>nomatch z),λz=>absurd ⟨z.1,z.2.1⟩ (v.mp h)⟩
  obtain⟨eG,hb⟩:(f.map (·.1)).Nodup/\(m,0)∈f.map (·.1):=Classical.byContradiction λz=>h (v.mpr z)
  replace D:=aS _ _ D
  replace o:=o.trans aS;clear v h c cL U X wt aS hd;generalize M=H1 at D o⊢;refine⟨_,rfl,l,rfl,.inl ⟨⟨_,Be.of (o _ _ Y)⟩,?_⟩⟩;refine D4 (K:=K) (a:=l) (xs:=us) (λi B n=>Rf λ(v3 v4 I:Option V)=>O5 (B=[some (.ref a),some (.ref l),some (.ref d),v3,v4,I]) ((∀p∈f.take i,0<=p.2/\p.2<(m.length:Int)/\∀b∈Ay m p.1.1 N p.1.2 p.2.toNat,∃k,b=some k/\k∈f.map (·.1))) (A8 H1 n)) ⟨_,_,_,rfl,(λp Z=>by rw[List.take_zero]at Z;cases Z),A8.refl _⟩ (by rintro i B n _ ⟨_,_,_,_,_,s⟩;exact Be.of (s _ _ (o _ _ Y))) ?_ ?_
  ·rintro i u B M hu ⟨v3,v4,I,rfl,g,C⟩;obtain⟨p,Z,t,b,rfl,ht,hb⟩:=S.get hu;have EA:=b5 Z;have iT:=hg.1 p EA;have J:=o.trans C;have FU:Cc M b p.1.1 p.1.2:=Co J hb;refine⟨t,_,rfl,Bm.of (J _ _ ht),rfl,_,_,rfl,_,_,rfl,rfl,?_⟩;refine⟨_,rfl,_,rfl,a,m,N,_,rfl,ha.same J,_,rfl,Dv (λr=>?_) (λr=>?_)⟩
   ·refine q false _ J ⟨(λz=>nomatch z),λz=>?_⟩;have:=z.2.2 p EA;rw[decide_eq_true ⟨this.1,this.2.1⟩]at r;cases r
   have yM:0<=p.2/\p.2<(m.length:Int):=Classical.byContradiction λz=>r (by rw[decide_eq_false z];rfl);obtain⟨w,ew⟩:∃w:Nat,p.2=(w:Int):=⟨p.2.toNat,by omega⟩;have G:p.2.toNat=w:=by omega
   refine⟨_,rfl,_,rfl,_,rfl,a,b,m,p.1.1,N,p.1.2,_,w,rfl,ew,ha.same J,FU,by omega,iT,h8,λL ys H3 hL s3 eL oU=>⟨L,rfl,.inl ⟨⟨_,Be.of eL⟩,?_⟩⟩⟩;refine D4 (K:=K) (a:=L) (xs:=ys) (λj B n=>∃(I:Option V),O5 (B=[some (.ref a),some (.ref l),some (.ref d),some (.ref b),some (.int p.2),I]) ((∀x∈(Ay m p.1.1 N p.1.2 w).take j,∃k,x=some k/\k∈f.map (·.1))) (H3=n)) ⟨_,rfl,(λx R=>by rw[List.take_zero]at R;cases R),rfl⟩ (by rintro j B n _ ⟨_,_,_,e⟩;exact(by rw[<- e];exact Be.of eL)) ?_ ?_
   ·rintro j y B H4 hy ⟨I,rfl,nM,rfl⟩;obtain⟨x,R,hxv⟩:=oU.get hy;have mE:=J.trans s3;have ed3:=s3 _ _ (C _ _ D);cases x with
    |none=>
     obtain rfl:y=V.aX:=hxv;refine⟨_,rfl,rfl,_,rfl,(λc n=>c=true/\n=H3),(λ_=>⟨rfl,rfl⟩),(λz=>nomatch z),λc H5 v=>?_⟩;obtain⟨rfl,rfl⟩:=v;refine K0 rfl ?_;refine q false _ mE ⟨(λz=>nomatch z),λz=>?_⟩;obtain⟨k,e,_⟩:=(z.2.2 p EA).2.2 none (by rw[G];exact b5 R);cases e
    |some k=>
     obtain⟨bb,rfl,hk⟩:=hxv;refine⟨_,rfl,rfl,_,rfl,(λc n=>c= !(Af (B9 [] (L4 f)) k).isSome/\n=H3),(λz=>nomatch z),λ_=>⟨_,rfl,_,rfl,d,_,rfl,Ct.t ed3 (show D9 H3 bb k from hk),_,rfl,rfl,rfl⟩,λc H5 v=>?_⟩;obtain⟨rfl,rfl⟩:=v;refine Dv (λr=>?_) (λr=>?_)
     ·refine q false _ mE ⟨(λz=>nomatch z),λz=>?_⟩;obtain⟨k',e,dH⟩:=(z.2.2 p EA).2.2 (some k) (by rw[G];exact b5 R);cases e;rw[<- ah]at dH;rw[dH]at r;cases r
     ·refine⟨_,rfl,λx' kS=>?_,rfl⟩;rw[List.take_add_one,R]at kS;rcases hH.mp kS with z|z
      ·exact nM x' z
      ·have e:x'=some k:=by simpa using z
       refine⟨k,e,?_⟩;rw[<- ah];cases hv:(Af (B9 [] (L4 f)) k).isSome with
       |true=>rfl
       |false=>
        rw[hv]at r;exact absurd rfl r
   rintro B H4 ⟨I,rfl,nM,rfl⟩;rw[oU.1,List.take_length]at nM;refine⟨_,_,_,rfl,λp' KR=>?_,C.trans s3⟩;rw[List.take_add_one,Z]at KR;rcases hH.mp KR with z|z
   ·exact g p' z
   ·have e:p'=p:=by simpa using z
    rw[e];exact⟨yM.1,yM.2,by rw[G];exact nM⟩
  rintro B M ⟨v3,v4,I,rfl,g,C⟩;rw[S.1,List.take_length]at g;exact q true _ (o.trans C) ⟨λ_=>⟨eG,hb,g⟩,λ_=>rfl⟩
def dm(K:W.Frag):Sp:=λe H Q _=>fh λ(a b m:Addr) (d:oB) (c:oD) (p:Eb)=>Gc (e=[.ref a,.ref b,.ref m]) (Ax H a d c) (Cc H b p.k.1 p.k.2) (H m=some (.tup (p.a.map V.bl))) (∀r:Bool,(r=true↔Pw d c p)->Q (.bl r) H)
theorem nj{o v:pa}(F:Ea K "may_answer" "may_answer" bv ad.gQ o)(n:Gk P w K mg base 1 ad.cN ["hall","standing"] (Jn K) v):Bg P w K mg base Dr 2 ad.gQ o ["hall","standing","answers"] (dm K):=by
 refine F.ok ql (λD H Q E h=>?_) (λL A j s H D Q E C h=>?_)
 ·rcases h with⟨a,b,m,c,e,p,rfl,f,r,i,q⟩<;>rfl
 ·obtain⟨a,b,m,c,e,p,rfl,f,r,i,q⟩:=h;refine⟨_,(A6 (Bt (B0 uu (As (B8 K) (by rfl) T.bB PySem.boot_len (A0 (pv 2) A7)) (As (B8 K) (by rfl) T.bB PySem.boot_len (A0 (Bk (Bj K) (pv 0) Ad (λ_ _=>rfl)) A7)) (Au _)) (A9 (Ah Dp)) Ap) (A9 (Ah (om (Ac n.g (C.mono (by decide)) rfl T.kG T.kH n.b .nil Ai (A0 (pv 0) (A0 (pv 1) A7))) (Jg (Cj (Yf K) Dp (pv 2) rfl)))))),?_⟩;obtain⟨G,x,B⟩:=id f;refine⟨_,rfl,m,_,rfl,.inr (Bm.of i),_,rfl,a,_,_,_,rfl,rfl,.inr (Bm.of x),rfl,G,_,rfl,.inr (Bm.of B),rfl,_,rfl,Dv (λh=>?_) (λh=>?_)⟩
  ·rw[List.length_map,List.length_map]at h;refine q false ⟨(λz=>nomatch z),λz=>?_⟩;rw[z.1]at h;simp at h
  rw[List.length_map,List.length_map]at h
  have u:p.a.length=c.length:=by
   apply Classical.byContradiction;intro z;exact h (by simp;omega)
  refine⟨_,rfl,_,rfl,a,b,c,p.k.1,e,p.k.2,rfl,f,r,_,(λd l=>(d=true↔Pw c e p)/\l=H),rfl,(λh=>⟨⟨λ_=>⟨u,λ_=>?_⟩,λ_=>rfl⟩,rfl⟩),(λh=>⟨_,rfl,m,_,rfl,.inr (Bm.of i),rfl,gj _,_,rfl,?_,rfl⟩),λd l g=>?_⟩
  ·rw[Bool.and_eq_true]at h;exact⟨by simpa using h.1,by simpa using h.2⟩
  ·rw[if_pos rfl,gp];constructor
   ·intro z;exact⟨u,λy=>by simp[y]at z⟩
   ·intro z;by_cases y:true∈p.a
    ·obtain⟨I,J⟩:=z.2 y;simp[I,J]at h
    ·simp[y]
  obtain⟨g,rfl⟩:=g;exact q d g
def dq(K:W.Frag):Sp:=λh H Q _=>fi λ(a d b m:Addr) (c:oB) (e:oD) (f:List Eb) (p:Eb)=>Lg (h=[.ref a,.ref d,.ref b,.ref m]) (Ax H a c e) (c.length<=8) (H d=some (.dT (Ej f))) (D9 H b p.k) (Af (Ej f) p.k=some (.int p.r)) (p.k.1.length=c.length) (Pw c e p) (H m=some (.tup (p.a.map V.bl))) (∀(r:Bool) (g:Hp),A8 H g->(r=true↔∀w,w<c.length->Oj c e (Ej f) p w)->Q (.bl r) g)
theorem nq{fd bE:pa}(F:Ea K "goes_down" "goes_down" c0 ad.gR fd)(aU:Gk P w K mg base 4 ad.bT ["hall","standing","who","lost"] (Jo K) bE)(aN:D1 K bE ["hall","standing","who","lost"] [Value.bool false]):Bg P w K mg base Dr 5 ad.gR fd ["hall","listed","standing","answers"] (dq K):=by
 refine F.ok Qx (λvs H Q E h=>?_) (λaR A outer s H vs Q E D h=>?_)
 ·rcases h with⟨a,d,b,m,B,j,O,p,rfl,ha,h8,hd,X,fL,iT,U,Z,q⟩<;>rfl
 ·obtain⟨a,d,b,m,B,j,O,p,rfl,ha,h8,hd,X,fL,iT,U,Z,q⟩:=h;refine⟨_,(A6 (Cv lG rfl (Nh (by rfl) T.dB (A0 (pv 3) A7)) (Cy K (n:=2) rfl (Ar (Al (i:=4) Qx.nd rfl (Or.inl rfl)) (Ar (Al (i:=5) Qx.nd rfl (Or.inl rfl)) Cz))) (A6 (Ak (i:=6) Qx.nd rfl (Or.inl rfl) (Ac aU.g (D.mono (by decide)) rfl T.gY T.dR aU.b .nil Ai (A0 (pv 0) (A0 (pv 2) (A0 (pv 4) (A0 (pv 5) A7)))))) (A9 (Bt (PW.pt (ie (B0 K5 (pv 6) Dd (Au _)) (Qt (PW.pt (Jh (Ey (Dx (Ds D) (pv 6) (pv 1)) rfl) (Hs (B0 jk (Er (Ds D) (pv 1) (pv 6) (λ_ _=>rfl)) (Er (Ds D) (pv 1) (pv 2) (λ_ _=>rfl)) (Au _)))))))) (A9 (Ah Dp)) Ap)))) (A9 (Ah Dp))),?_⟩;have kE:=U.1;refine⟨_,rfl,true,m,rfl,⟨_,Bm.of Z⟩,?_⟩;refine Xs (K:=K) (b:=true) (c:=m) (xs:=p.a.map V.bl) (λi R g=>Rf λ(v4 v5 v6:Option V)=>O5 (R=[some (.ref a),some (.ref d),some (.ref b),some (.ref m),v4,v5,v6]) ((∀w,w<i->Oj B j (Ej O) p w)) (A8 H g)) ⟨_,_,_,rfl,(λwho h=>absurd h (mF _)),A8.refl _⟩ (by rintro i R g _ ⟨_,_,_,_,_,s⟩;exact Bm.of (s _ _ Z)) ?_ ?_
  ·rintro i x T R J hx ⟨v4,v5,v6,rfl,f,s1⟩ hT;rw[List.getElem?_map]at hx;obtain⟨e,I,rfl⟩:=dI.mp hx;have hi:=(bA.mp I).1;have s2:A8 J (upd J T (.tup [.int i,.bl e])):=A8.upd hT;have e2:(upd J T (.tup [.int i,.bl e])) T=some (.tup [.int i,.bl e]):=A5;generalize upd J T (.tup [.int i,.bl e])=H2 at s2 e2⊢;have n:=s1.trans s2;have FU:Cc H2 b p.k.1 p.k.2:=Co n X
   have cT:J6 j p.k.2 e:=λz=>by
    subst z;exact U.2 (b5 I)
   refine⟨T,_,rfl,Bm.of e2,rfl,_,_,rfl,_,_,rfl,rfl,?_⟩;refine⟨_,rfl,_,rfl,_,rfl,_,rfl,a,b,B,p.k.1,j,p.k.2,i,e,rfl,ha.same n,FU,by omega,iT,h8,cT,λhz C G=>?_,λhz pp C G hp=>?_⟩
   ·refine⟨_,rfl,rfl,_,rfl,(λc g=>c=false/\g=C),(λ_=>⟨rfl,rfl⟩),(λh=>by simp at h),λc H4 l=>?_⟩;obtain⟨rfl,rfl⟩:=l;refine Dm rfl ?_;refine⟨_,_,_,rfl,λw hw=>?_,n.trans G⟩;by_cases S:w=i
    ·subst S;intro l2 N k L;rw[I]at N;cases N;rw[Z1.mpr hz]at L;cases L
    ·exact f w (by omega)
   ·have u:=G _ _ (n _ _ hd);have Y:D9 C b p.k:=Co (n.trans G) X;have o:=ki (cm:=j) (q:=p.k.2) hz;refine⟨_,rfl,rfl,_,rfl,(λc g=>(c=true↔¬Oj B j (Ej O) p i)/\g=C),(λh=>by simp at h),(λ_=>?_),λc H4 l=>?_⟩
    ·refine⟨_,rfl,_,rfl,d,_,rfl,Ct.t u (show D9 C pp (Ba B p.k.1 i e,Ci j p.k.2 e)from hp),_,rfl,(λc g=>(c=true↔¬Oj B j (Ej O) p i)/\g=C),(λh=>?_),(λh=>?_),λc g l=>l⟩
     ·refine⟨⟨λ_ z=>?_,λ_=>rfl⟩,rfl⟩;obtain⟨r,D,_⟩:=z e I _ o;rw[D]at h;cases h
     ·cases M:Af (Ej O) (Ba B p.k.1 i e,Ci j p.k.2 e)with
      |none=>rw[M]at h;cases h
      |some v=>
       obtain⟨r,rfl⟩:=Zw M;refine⟨_,rfl,_,rfl,d,.int r,rfl,(by rw[<- M];exact Ct.t u hp),_,rfl,_,rfl,d,.int p.r,rfl,(by rw[<- fL];exact Ct.t u Y),_,_,rfl,rfl,_,rfl,?_,rfl⟩;constructor
       ·intro z y;obtain⟨r',UY,aP⟩:=y e I _ o;rw[M]at UY;cases UY;simp only[decide_eq_true_eq]at z;omega
       ·intro z;simp only[decide_eq_true_eq];apply Classical.byContradiction;intro y;refine z λl2 N k L=>?_;rw[I]at N;cases N;rw[o]at L;cases L;exact⟨r,M,by omega⟩
    obtain⟨l,rfl⟩:=l;refine Dv (λh=>?_) (λh=>?_)
    ·exact q false _ (n.trans G) ⟨(λz=>nomatch z),λz=>absurd (z i (by omega)) (l.mp h)⟩
    ·refine⟨_,_,_,rfl,λw hw=>?_,n.trans G⟩;by_cases S:w=i
     ·subst S;exact Classical.byContradiction λz=>h (l.mpr z)
     ·exact f w (by omega)
  rintro R J ⟨v4,v5,v6,rfl,f,s1⟩;rw[List.length_map,kE]at f;exact q true _ s1 ⟨λ_=>f,λ_=>rfl⟩
def V4(K:W.Frag):Sp:=λg H Q _=>fh λ(a l:Addr) (b:oB) (e:oD) (f:List V) (c:List Eb)=>Js (g=[.ref a,.ref l]) (Ax H a b e) (0<b.length) (b.length<=8) ((∀x∈b,1<=x)) (H l=some (.lst f)) (Ae (EV H) c f) (Yv b.length c) (∀(r:Bool) (d:Hp),A8 H d->(r=true↔Yy b e c)->Q (.bl r) d)
theorem mz{fd bR FV FW:pa}(F:Ea K "lets_broken" "lets_broken" Wt ad.fE fd)(aO:Gk P w K mg base 1 ad.cH ["hall"] (Hw K) bR)(rB:Gk P w K mg base 2 ad.gQ ["hall","standing","answers"] (dm K) FV)(rC:Gk P w K mg base 5 ad.gR ["hall","listed","standing","answers"] (dq K) FW):Bg P w K mg base Dr 6 ad.fE fd ["hall","paper"] (V4 K):=by
 refine F.ok Nn (λvs H Q E h=>?_) (λaR A outer s H vs Q E X h=>?_)
 ·rcases h with⟨a,l,j,y,us,f,rfl,ha,h0,h8,cD,M,bW,hg,q⟩<;>rfl
 ·obtain⟨a,l,j,y,us,f,rfl,ha,h0,h8,cD,M,bW,hg,q⟩:=h;refine⟨_,(A6 (Ak (i:=2) Nn.nd rfl (Or.inl rfl) (Bn (Gg K (gn X) rfl) (by rfl) T.kY boot_dict (A0 (E8 (Di (pv 1)) _ rfl Kv rfl rfl (λ_ _ _ _=>(Cy K (n:=3) rfl (Ar (Al (i:=0) Dw rfl (Or.inl rfl)) (Ar (Al (i:=1) Dw rfl (Or.inl rfl)) (Ar (Al (i:=2) Dw rfl (Or.inl rfl)) Cz))))) (λ_ _ _ _=>D0) (λ_ _ _ _=>(Cm (A0 (pv 0) (A0 (pv 1) A7))))) A7))) (A6 (Bt (PW.pt (Jh (B0 Ho (As Os (by rfl) T.bB PySem.boot_len (A0 (pv 2) A7)) (As (B8 K) (by rfl) T.bB PySem.boot_len (A0 (pv 1) A7)) (Au _)) (Hs (Ey (Dx (Ds X) (Ac aO.g (X.mono (by decide)) rfl T.fI T.fJ aO.b .nil Ai (A0 (pv 0) A7)) (pv 2)) rfl)))) (A9 (Ah Dp)) Ap) (A6 (Cv lG rfl (Di (pv 1)) (Cy K (n:=3) rfl (Ar (Al (i:=3) Nn.nd rfl (Or.inl rfl)) (Ar (Al (i:=4) Nn.nd rfl (Or.inl rfl)) (Ar (Al (i:=5) Nn.nd rfl (Or.inl rfl)) Cz)))) (A6 (Bt (PW.pt (Jh (B0 Ho (pv 4) Ad (Au _)) (Hs (D8 (D5 (Ac rB.g (X.mono (by decide)) rfl T.LZ T.MA rB.b .nil Ai (A0 (pv 0) (A0 (pv 3) (A0 (pv 5) A7))))))))) (A9 (Ah Dp)) Ap) (A9 (Bt (D8 (D5 (Ac rC.g (X.mono (by decide)) rfl T.MB T.MC rC.b .nil Ai (A0 (pv 0) (A0 (pv 2) (A0 (pv 3) (A0 (pv 5) A7))))))) (A9 (Ah Dp)) Ap)))) (A9 (Ah Dp))))),?_⟩;have hbl:=hg.2;have lC:=bW.1;refine⟨_,rfl,l,rfl,.inl ⟨⟨_,Be.of M⟩,λD hD=>?_⟩⟩;refine Mp (K:=K) (a:=l) (xs:=us) (λi I g=>g D=some (.lst I)/\A8 H g/\Ae (λ(e:Eb) u=>He g (e.k,.int e.r) u) (f.take i) I) ⟨A5,A8.upd hD,Ae.nil⟩ (by rintro i I g _ ⟨_,s,_⟩;exact Be.of (s _ _ M)) ?_ ?_ ?_ ?_
  ·rintro i u I g hu ⟨nH,s',U⟩;obtain⟨p,N,t,b,m,rfl,ht,hb,hm⟩:=bW.get hu;have hi:=(bA.mp hu).1;have qP:=U.1;rw[List.length_take]at qP;refine⟨t,.ref b,.int p.r,.ref m,rfl,Bm.of (s' _ _ ht),?_⟩;simp only[Nz,↓reduceIte];refine⟨_,rfl,_,rfl,Br,λL hT0=>?_⟩;have G:A8 g (upd g L (.tup [.ref b,.int p.r])):=A8.upd hT0;have e2:(upd g L (.tup [.ref b,.int p.r])) L=some (.tup [.ref b,.int p.r]):=A5;generalize upd g L (.tup [.ref b,.int p.r])=J at G e2⊢;have kK:=G _ _ nH;have t3:Aj J (upd J D (.lst (I++[.ref L]))):=Aj.lst kK;refine⟨kK,Bo (by omega),A5,(s'.trans G).new hD,?_⟩;rw[List.take_add_one,N];refine(U.imp λe v z=>?_).append (Ae.one ⟨L,b,rfl,t3 _ _ e2,(Co (s'.trans G) hb).up t3⟩);obtain⟨t',b',e',h1,h2⟩:=z;exact⟨t',b',e',t3 _ _ (G _ _ h1),(Co G h2).up t3⟩
  ·intro O R Q1 Q2 hQ z;exact hQ _ _ z
  ·rintro O R Q1 Q2 hQ ⟨v,B,v2,e2,z1,z2⟩;exact⟨v,B,v2,e2,z1,λp N=>hQ _ _ (z2 p N)⟩
  rintro I H0 ⟨hD0,s0,U⟩;rw[lC,List.take_length]at U;obtain⟨kE,hag⟩:=gh U;refine⟨D,I,Lj f,rfl,Be.of hD0,kE,hag,λd hd=>?_⟩;have x:A8 H (upd H0 d (.dT (Ej f))):=s0.trans (A8.upd hd);have B:(upd H0 d (.dT (Ej f))) d=some (.dT (Ej f)):=A5;generalize upd H0 d (.dT (Ej f))=R at x B⊢;have cL:=ha.same x;refine⟨_,rfl,d,_,rfl,B,_,rfl,l,_,rfl,.inl (Be.of (x _ _ M)),_,_,rfl,rfl,_,rfl,(λc g=>A8 R g/\(c=true↔¬((f.map (·.k)).Nodup/\(j,0)∈f.map (·.k)))),λaP=>?_,λsW=>?_,λc J o=>?_⟩
  ·simp only[decide_eq_true_eq]at aP;exact⟨A8.refl _,λ_ z=>(Sh f).mp (by omega) z.1,λ_=>rfl⟩
  ·simp only[decide_eq_false_iff_not]at sW;have eG:(f.map (·.k)).Nodup:=Classical.byContradiction λz=>sW (by have:=(Sh f).mpr z;omega);refine⟨_,rfl,a,j,y,rfl,cL,λp J G bH=>?_⟩;refine⟨_,rfl,d,_,rfl,Ct.t (G _ _ B) (show D9 J p (j,0)from bH),_,rfl,G,?_⟩;rw[<- lv];cases(Af (Ej f) (j,0)).isSome<;>simp[eG]
  obtain⟨Z,o⟩:=o;refine Dv (λh=>?_) (λh=>?_)
  ·refine q false _ (x.trans Z) ⟨(λz=>nomatch z),λz=>absurd ⟨z.1,z.2.1⟩ (o.mp h)⟩
  obtain⟨eG,zJ⟩:(f.map (·.k)).Nodup/\(j,0)∈f.map (·.k):=Classical.byContradiction λz=>h (o.mpr z)
  replace B:=Z _ _ B
  replace x:=x.trans Z;clear o h c cL Z;generalize J=R at B x⊢;refine⟨_,rfl,l,rfl,.inl ⟨⟨_,Be.of (x _ _ M)⟩,?_⟩⟩;refine D4 (K:=K) (a:=l) (xs:=us) (λi O g=>Rf λ(v3 v4 v5:Option V)=>O5 (O=[some (.ref a),some (.ref l),some (.ref d),v3,v4,v5]) ((∀e∈f.take i,1<=e.r/\Pw j y e/\∀w,w<j.length->Oj j y (Ej f) e w)) (A8 R g)) ⟨_,_,_,rfl,(λp N=>by rw[List.take_zero]at N;cases N),A8.refl _⟩ (by rintro i O g _ ⟨_,_,_,_,_,s⟩;exact Be.of (s _ _ (x _ _ M))) ?_ ?_
  ·rintro i u O H3 hu ⟨v3,v4,v5,rfl,n,Y⟩;obtain⟨e,he,t,b,m,rfl,ht,hb,hm⟩:=bW.get hu;have S:=b5 he;obtain⟨JZ,heq,hea⟩:=hg.1 e S;have C:=x.trans Y;refine⟨t,_,rfl,Bm.of (C _ _ ht),rfl,_,_,rfl,_,_,rfl,_,_,rfl,rfl,?_⟩;refine⟨_,rfl,_,_,rfl,rfl,_,rfl,(λc g=>(c=true↔¬(1<=e.r/\Pw j y e))/\g=H3),(λh=>?_),(λh=>⟨_,rfl,_,rfl,_,rfl,a,b,m,j,y,e,rfl,ha.same C,Co C hb,C _ _ hm,λr fP=>⟨_,rfl,?_,rfl⟩⟩),λc H4 o=>?_⟩
   ·simp only[decide_eq_true_eq]at h;exact⟨⟨λ_ z=>by omega,λ_=>rfl⟩,rfl⟩
   ·simp only[decide_eq_false_iff_not]at h;have h1:1<=e.r:=by omega
    rw[show(1<=e.r/\Pw j y e)↔Pw j y e from⟨λz=>z.2,λz=>⟨h1,z⟩⟩,<- fP];cases r<;>simp
   obtain⟨o,rfl⟩:=o;refine Dv (λh=>?_) (λh=>?_)
   ·exact q false _ C ⟨(λz=>nomatch z),λz=>absurd ⟨(z.2.2 e S).1,(z.2.2 e S).2.1⟩ (o.mp h)⟩
   obtain⟨he1,fM⟩:1<=e.r/\Pw j y e:=Classical.byContradiction λz=>h (o.mpr z);clear o h;refine⟨_,rfl,_,rfl,_,rfl,_,rfl,a,d,b,m,j,y,f,e,rfl,ha.same C,h8,Y _ _ B,Co C hb,gy eG S,JZ,fM,C _ _ hm,λr H5 s5 fP=>?_⟩;refine⟨_,rfl,?_⟩;refine Dv (λh=>?_) (λh=>?_)
   ·refine q false _ (C.trans s5) ⟨(λz=>nomatch z),λz=>?_⟩;have:=fP.mpr (z.2.2 e S).2.2;rw[this]at h;cases h
   ·have hrt:r=true:=by
     cases r with
     |true=>rfl
     |false=>exact absurd rfl h
    refine⟨_,_,_,rfl,λe' IT=>?_,Y.trans s5⟩;rw[List.take_add_one,he]at IT;rcases hH.mp IT with z|z
    ·exact n e' z
    ·have ee:e'=e:=by simpa using z
     rw[ee];exact⟨he1,fM,fP.mp hrt⟩
  rintro O H3 ⟨v3,v4,v5,rfl,n,Y⟩;rw[lC,List.take_length]at n;exact q true _ (x.trans Y) ⟨λ_=>⟨eG,zJ,n⟩,λ_=>rfl⟩
def jt(K:W.Frag)(aE aB aA aD aC:Addr):Sp:=λf H Q _=>X3 λ(x d a:Addr) (e:List V)=>Pt (f=[.ref x,.ref a]) (H x=some (.ins aB d [])) (H a=some (.lst e)) (∀(r:Addr) (c:Hp),H r=none->c x=some (.ins aB d (Dj r 0))->c r=some (.lst e)->(∀b o,b≠x->H b=some o->c b=some o)->Q .aX c)
theorem uh{l:pa}(F:Ea K "__init__" "RowCaller.__init__" pj ad.mW l):Bg P w K mg base Dr 1 ad.mW l ["self","row"] (jt K aE aB aA aD aC):=by
 refine F.ok vo (λu H Q E h=>?_) (λv A j s H u Q E y h=>?_)
 ·rcases h with⟨x,c,a,d,rfl,g,m,q⟩<;>rfl
 ·obtain⟨x,c,a,d,rfl,g,m,q⟩:=h;refine⟨_,(A6 (Hr (pv 0) (Bn Ce (by rfl) T.dC boot_list (A0 (pv 1) A7)) rfl) (A9 (Hr (pv 0) Ad rfl))),?_⟩;refine⟨_,rfl,a,d,rfl,.inl (Be.of m),λr i=>?_⟩;have f:x≠r:=Ag g i;have p:(upd H r (.lst d)) x=some (.ins aB c []):=by rw[Ab f];exact g
  refine⟨_,rfl,x,_,c,_,rfl,p,T.aV,T.bP,(by show 0<1000;decide),?_⟩;refine⟨_,rfl,x,_,c,_,rfl,A5,T.aV,T.bJ,(by show 1<1000;decide),?_⟩;show Q .aX (upd (upd (upd H r (.lst d)) x (.ins aB c [("row",.ref r)])) x (.ins aB c (F0 "asked" (.int 0) [("row",.ref r)])));rw[Ss];refine q r _ i A5 ?_ λb o n e=>?_
  ·rw[Ab (Ne.symm f),Ab (Ne.symm f),A5]
  ·rw[Ab n,Ab n,Ab (Ag e i)];exact e
def jr(K:W.Frag)(aE aB aA aD aC:Addr):Sp:=λg H Q _=>rj λ(x c l:Addr) (f:List V) (e:ov)=>Gc (g=[.ref x,.ref l]) (H x=some (.ins aA c [])) (H l=some (.lst f)) (Ae (He H) e f) (∀(d:Addr) (a:Hp),H d=none->a x=some (.ins aA c [("paper",.ref d)])->a d=some (.dT (B9 [] e))->(∀b o,b≠x->H b=some o->a b=some o)->Q .aX a)
theorem uf{v:pa}(F:Ea K "__init__" "PaperCaller.__init__" ph ad.mX v):Bg P w K mg base Dr 1 ad.mX v ["self","paper"] (jr K aE aB aA aD aC):=by
 refine F.ok vn (λG H Q E h=>?_) (λI A m s H G Q E D h=>?_)
 ·rcases h with⟨x,c,l,z,n,rfl,i,y,a,q⟩<;>rfl
 ·obtain⟨x,c,l,z,n,rfl,i,y,a,q⟩:=h;refine⟨_,(A9 (Hr (pv 0) (Bn (Gg K (gn D) rfl) (by rfl) T.kY boot_dict (A0 (pv 1) A7)) rfl)),?_⟩;refine⟨_,rfl,l,z,n,rfl,Be.of y,a.1,(λj u p f B=>a.2 j p u B f),λd g=>?_⟩;have r:x≠d:=Ag i g;have f:(upd H d (.dT (B9 [] n))) x=some (.ins aA c []):=(Ab r).trans i;refine⟨_,rfl,x,_,c,_,rfl,f,T.bN,T.bC,(by show 0<1000;decide),?_⟩;refine q d _ g A5 ((Ab r.symm).trans A5) λb o C e=>?_;rw[Ab C,Ab (Ag e g)];exact e
def jy(K:W.Frag)(aE aB aA aD aC:Addr):Sp:=λf H Q _=>X3 λ(x d a:Addr) (e:List V)=>Pt (f=[.ref x,.ref a]) (H x=some (.ins aD d [])) (H a=some (.lst e)) (∀(r:Addr) (c:Hp),H r=none->c x=some (.ins aD d (Dj r 0))->c r=some (.lst e)->(∀b o,b≠x->H b=some o->c b=some o)->Q .aX c)
theorem uo{l:pa}(F:Ea K "__init__" "RowRoad.__init__" qa ad.mY l):Bg P w K mg base Dr 1 ad.mY l ["self","row"] (jy K aE aB aA aD aC):=by
 refine F.ok vv (λu H Q E h=>?_) (λv A j s H u Q E y h=>?_)
 ·rcases h with⟨x,c,a,d,rfl,g,m,q⟩<;>rfl
 ·obtain⟨x,c,a,d,rfl,g,m,q⟩:=h;refine⟨_,(A6 (Hr (pv 0) (Bn Ce (by rfl) T.dC boot_list (A0 (pv 1) A7)) rfl) (A9 (Hr (pv 0) Ad rfl))),?_⟩;refine⟨_,rfl,a,d,rfl,.inl (Be.of m),λr i=>?_⟩;have f:x≠r:=Ag g i;have p:(upd H r (.lst d)) x=some (.ins aD c []):=by rw[Ab f];exact g
  refine⟨_,rfl,x,_,c,_,rfl,p,T.bD,T.bX,(by show 0<1000;decide),?_⟩;refine⟨_,rfl,x,_,c,_,rfl,A5,T.bD,T.bQ,(by show 1<1000;decide),?_⟩;show Q .aX (upd (upd (upd H r (.lst d)) x (.ins aD c [("row",.ref r)])) x (.ins aD c (F0 "asked" (.int 0) [("row",.ref r)])));rw[Ss];refine q r _ i A5 ?_ λb o n e=>?_
  ·rw[Ab (Ne.symm f),Ab (Ne.symm f),A5]
  ·rw[Ab n,Ab n,Ab (Ag e i)];exact e
def dl(K:W.Frag)(aE aB aA aD aC:Addr):Sp:=λg H Q _=>rj λ(x e l:Addr) (c:List V) (f:ov)=>Ls (g=[.ref x,.ref l]) (H x=some (.ins aC e [])) (H l=some (.lst c)) (c.length<=700) (Ae (Om H) f c) (∀(d:Addr) (a:Hp),H d=none->a x=some (.ins aC e [("paper",.ref d)])->a d=some (.dT (B9 [] f))->(∀b o,b≠x->H b=some o->a b=some o)->Q .aX a)
theorem ui{fd:pa}(F:Ea K "__init__" "PaperRoad.__init__" ir ad.kW fd):Bg P w K mg base Dr 1 ad.kW fd ["self","paper"] (dl K aE aB aA aD aC):=by
 refine F.ok vp (λvs H Q E h=>?_) (λaR A S s H vs Q E hr h=>?_)
 ·rcases h with⟨x,I,l,us,y,rfl,hx,O,lC,G,q⟩<;>rfl
 ·obtain⟨x,I,l,us,y,rfl,hx,O,lC,G,q⟩:=h;refine⟨_,(A9 (Hr (pv 0) (Bn (Gg K (gn hr) rfl) (by rfl) T.kY boot_dict (A0 (E8 (Di (pv 1)) _ rfl Fq rfl rfl (λ_ _ _ _=>(Cy K (n:=3) rfl (Ar (Al (i:=0) Cl rfl (Or.inl rfl)) (Ar (Al (i:=1) Cl rfl (Or.inl rfl)) (Ar (Al (i:=2) Cl rfl (Or.inl rfl)) Cz))))) (λ_ _ _ _=>D0) (λ_ _ _ _=>(Cm (A0 (pv 0) (A0 (pv 2) A7))))) A7)) rfl)),?_⟩;refine⟨_,rfl,l,rfl,.inl ⟨⟨_,Be.of O⟩,λD hD=>?_⟩⟩;refine Mp (K:=K) (a:=l) (xs:=us) (λi c a=>a D=some (.lst c)/\A8 H a/\Ae (He a) (y.take i) c) ⟨A5,A8.upd hD,Ae.nil⟩ (by rintro i c a _ ⟨_,s,_⟩;exact Be.of (s _ _ O)) ?_ ?_ ?_ ?_
  ·rintro i u c a hu ⟨nH,U,g⟩;obtain⟨p,R,t,b,w,rfl,ht,M⟩:=G.get hu;have hi:=(bA.mp hu).1;have qP:=g.1;rw[List.length_take]at qP;refine⟨t,.ref b,w,p.2,rfl,Bm.of (U _ _ ht),?_⟩;simp only[Nz,↓reduceIte];refine⟨_,rfl,_,rfl,Br,λf L=>?_⟩;have r:A8 a (upd a f (.tup [.ref b,p.2])):=A8.upd L;have m:(upd a f (.tup [.ref b,p.2])) f=some (.tup [.ref b,p.2]):=A5;generalize upd a f (.tup [.ref b,p.2])=Y at r m⊢;have kK:=r _ _ nH;have X:Gf Y (upd Y D (.lst (c++[.ref f]))):=Gf.lst kK;refine⟨kK,Bb (by omega),A5,(U.trans r).new hD,?_⟩;rw[X0 R];exact(g.imp λ_ _ z=>(z.same r).aZ X).append (Ae.one ⟨f,b,rfl,X _ _ m,(Co (U.trans r) M).up X⟩)
  ·intro σ C Q1 Q2 J z;exact J _ _ z
  ·rintro σ C Q1 Q2 J ⟨v,n,v2,m,z1,z2⟩;exact⟨v,n,v2,m,z1,λp R=>J _ _ (z2 p R)⟩
  rintro c C ⟨UJ,B,g⟩;rw[G.1,List.take_length]at g;refine⟨D,c,y,rfl,Be.of UJ,g.1,(λj u p n m=>g.2 j p u m n),λd N=>?_⟩;have uR:=B _ _ hx;have Z:x≠d:=Ag uR N;have n:(upd C d (.dT (B9 [] y))) x=some (.ins aC I []):=(Ab Z).trans uR;refine⟨_,rfl,x,_,I,_,rfl,n,T.bG,T.aW,(by show 0<1000;decide),?_⟩;refine q d _ (B.free N) A5 ((Ab Z.symm).trans A5) λb o M e=>?_;rw[Ab M,Ab (Ag (B _ _ e) N)];exact B _ _ e
def V5(K:W.Frag):Sp:=λc H Q _=>Rf λ(a:Addr) (b:oB) (k:Int)=>Pt (c=[.ref a,.int k]) (Be K H a (b.map V.int)) (0<=k) (Q (.int (Dt b k)) H)
theorem n0{i:pa}(F:Ea K "_law_cell_at" "_law_cell_at" bm ad.fG i):Bg P w K mg base Dr 1 ad.fG i ["script","k"] (V5 K):=by
 refine F.ok qi (λj H Q E h=>?_) (λl A f s H j Q E m h=>?_)
 ·rcases h with⟨a,e,k,rfl,c,d,q⟩<;>rfl
 ·obtain⟨a,e,k,rfl,c,d,q⟩:=h;refine⟨_,(A6 (Bt (B0 Ho (pv 1) (As (B8 K) (by rfl) T.bB PySem.boot_len (A0 (pv 0) A7)) (Au _)) (A9 (Ah (Bk (Bj K) (pv 0) (pv 1) (λ_ _=>rfl)))) Ap) (A9 (Ah Ad))),?_⟩;refine⟨_,rfl,_,rfl,a,_,rfl,.inl c,_,_,rfl,rfl,_,rfl,?_⟩;refine Dv (λb=>?_) (λb=>?_)
  ·have g:k<e.length:=by simpa using b
   exact⟨_,rfl,_,rfl,a,_,_,_,rfl,rfl,.inl c,ft d g,q⟩
  ·have g:¬k<e.length:=by simpa using b
   rw[Xi d g]at q;exact q
def dw(K:W.Frag):Sp:=λf H Q _=>Yu λ(a:Addr) (e:oB)=>O5 (f=[.ref a]) (Be K H a (e.map V.int)) (∀(p:Addr) (b:oB) (d:oD) (c:Hp),A8 H c->Ax c p b d->Da b d->b.length<=3->(∀x∈b,x<=5)->Q (.ref p) c)
theorem nw{fd oZ vI:pa}(F:Ea K "_law_hall" "_law_hall" Ta ad.gS fd)(l:Gk P w K mg base 1 ad.fG ["script","k"] (V5 K) oZ)(rD:Gk P w K mg base 1 ad.cY ["waits","calm"] (dy K) vI)(iH:D1 K vI ["waits","calm"] [Value.none]):Bg P w K mg base Dr 2 ad.gS fd ["script"] (dw K):=by
 refine F.ok Hv (λvs H Q E h=>?_) (λaR A outer s H vs Q E D h=>?_)
 ·rcases h with⟨a,d,rfl,B,q⟩<;>rfl
 ·obtain⟨a,d,rfl,B,q⟩:=h;refine⟨_,(A6 (Ak (i:=1) Hv.nd rfl (Or.inl rfl) (Bd Dc Ad (Bd D7 (Ac l.g (D.mono (by decide)) rfl T.kI T.kJ l.b .nil Ai (A0 (pv 0) (A0 Ad A7))) Ad))) (A6 (De (i:=2) Hv.nd rfl (Dz (by rfl) T.cJ (A0 (pv 1) A7)) _ rfl O8 rfl rfl (λ_ _ _ _=>(Al (i:=0) Oe rfl (Or.inl rfl))) (λ_ _ _ _=>D0) (λ_ _ _ _=>(Bd Dc Ad (Bd D7 (Ac l.g (D.mono (by decide)) rfl T.kI T.kJ l.b .nil Ai (A0 (pv 1) (A0 (Bd Dc (pv 0) Ad) A7))) Ad))) rfl rfl) (A6 (Ak (i:=3) Hv.nd rfl (Or.inl rfl) (Bd D7 (Ac l.g (D.mono (by decide)) rfl T.kI T.kJ l.b .nil Ai (A0 (pv 0) (A0 Ad A7))) Ad)) (A6 (El (B0 Hn (pv 1) Ad (Au _)) (A6 (Ak (i:=4) Hv.nd rfl (Or.inr rfl) (Bd Dc Ad (Bd D7 (Bd Gj (Ac l.g (D.mono (by decide)) rfl T.kI T.kJ l.b .nil Ai (A0 (pv 0) (A0 Ad A7))) Ad) Ad))) (A6 (De (i:=2) Hv.nd rfl (Dz (by rfl) T.cJ (A0 (pv 1) A7)) _ rfl O9 rfl rfl (λ_ _ _ _=>(Al (i:=0) Of rfl (Or.inl rfl))) (λ_ _ _ _=>D0) (λ_ _ _ _=>(Bd Dc (pv 1) (Bd D7 (Ac l.g (D.mono (by decide)) rfl T.kI T.kJ l.b .nil Ai (A0 (pv 2) (A0 (Bd Dc (pv 0) Ad) A7))) Ad))) rfl rfl) (A9 (Ak (i:=3) Hv.nd rfl (Or.inl rfl) (Bd D7 (pv 3) Ad))))) Ap) (A6 (El (B0 Hn (pv 3) Ad (Au _)) (A9 (Ak (i:=3) Hv.nd rfl (Or.inl rfl) Dd)) Ap) (A9 (Ah (Ac rD.g (D.mono (by decide)) rfl T.KZ T.uF rD.b .nil Ai (A0 (pv 2) (A0 (pv 3) A7)))))))))),?_⟩;have hm3:=Db (Dt d 0) (show(0:Int)<3 by decide);have N:=Db (Dt d 4) (show(0:Int)<3 by decide);refine⟨_,rfl,a,d,_,rfl,B,by decide,_,_,rfl,rfl,by simp,_,_,rfl,rfl,?_⟩;dsimp only;generalize hM:1+Dt d 0%3=M;have hM1:1<=M/\M<=3:=by omega
  refine⟨_,rfl,M,rfl,by omega,by omega,λW hW=>?_⟩;refine Du (cnt:=M.toNat) (λi n j=>∃(b:oB),Gc (n=b.map V.int) (b.length=i) ((∀x∈b,1<=x/\x<=5)) (j W=some (.lst n)) (A8 H j)) ⟨[],rfl,rfl,(λ_ z=>nomatch z),A5,A8.upd hW⟩ ?_ ?_
  ·rintro i n H1 hi ⟨b,rfl,r,f,v,o⟩ Qe hQ;have mG:i<M.toNat:=hi;have hm5:=Db (Dt d (0+(i:Int)+1)) (show(0:Int)<5 by decide);refine⟨_,rfl,_,rfl,_,_,rfl,rfl,a,d,_,rfl,o.seq B,(by omega),_,_,rfl,rfl,by simp,_,_,rfl,rfl,?_⟩;refine hQ _ _ v (Bb (by rw[List.length_map];omega)) ⟨b++[1+Dt d (0+(i:Int)+1)%5],by rw[List.map_append];rfl,by rw[List.length_append,r];rfl,λx kS=>?_,A5,o.new hW⟩;rcases hH.mp kS with z|z
   ·exact f x z
   ·rw[List.mem_singleton.mp z];omega
  rintro n H1 ⟨b,rfl,r,hx5,eW,o⟩;refine⟨_,rfl,a,d,_,rfl,o.seq B,by decide,_,_,rfl,rfl,by simp,?_⟩;dsimp only;generalize Dt d 4%3=C at N⊢;have hls:=Db (Dt d 0/3) (show(0:Int)<2 by decide);refine⟨_,rfl,rfl,_,rfl,(λg j=>X3 λ(I:Addr) (b:oB) (u:Int) (v4:Option V)=>Js (g=[some (.ref a),some (.int M),some (.ref I),some (.int u),v4]) (A8 H j) (j I=some (.lst (b.map V.int))) (b.length=M.toNat) ((∀x∈b,1<=x/\x<=5)) ((M=3->∀x∈b,x<=4)) (0<=u) (u<=2) ((M=3->u<=1))),λz=>?_,λz=>?_,?_⟩
  ·refine⟨_,rfl,a,d,_,rfl,o.seq B,by decide,_,_,rfl,rfl,⟨by decide,by decide⟩,_,_,rfl,rfl,by simp,_,_,rfl,rfl,?_⟩;dsimp only;have hE:1<=1+Dt d 0/3%2/\1+Dt d 0/3%2<=2:=by omega
   generalize 1+Dt d 0/3%2=E at hE⊢;refine⟨_,rfl,M,rfl,by omega,by omega,λW2 EY=>?_⟩;refine Du (cnt:=M.toNat) (λi n j=>∃(b:oB),Gc (n=b.map V.int) (b.length=i) ((∀x∈b,1<=x/\x<=4)) (j W2=some (.lst n)) (A8 H1 j)) ⟨[],rfl,rfl,(λ_ z=>nomatch z),A5,A8.upd EY⟩ ?_ ?_
   ·rintro i n X hi ⟨b,rfl,r,f,v,G⟩ Qe hQ;have mG:i<M.toNat:=hi;have hm5:=Db (Dt d (0+(i:Int)+1)) (show(0:Int)<3 by decide);refine⟨_,rfl,_,rfl,_,rfl,_,_,rfl,rfl,a,d,_,rfl,(o.trans G).seq B,(by omega),_,_,rfl,rfl,by simp,_,_,rfl,rfl,?_⟩;refine hQ _ _ v (Bb (by rw[List.length_map];omega)) ⟨b++[E+Dt d (0+(i:Int)+1)%3],by rw[List.map_append];rfl,by rw[List.length_append,r];rfl,λx kS=>?_,A5,G.new EY⟩;rcases hH.mp kS with z|z
    ·exact f x z
    ·rw[List.mem_singleton.mp z];omega
   rintro n X ⟨b,rfl,r,O,Z,G⟩;have oA:=Db C (show(0:Int)<2 by decide);exact⟨_,rfl,_,_,rfl,rfl,by simp,W2,b,C%2,_,rfl,o.trans G,Z,r,(λx f=>by have:=O x f;omega),(λ_ x f=>(O x f).2),oA.1,by omega,λ_=>by omega⟩
  ·have J:M≠3:=λe=>by
    rw[e]at z;exact absurd z (by decide)
   exact⟨W,b,C,_,rfl,o,eW,r,hx5,(λe=>absurd e J),N.1,by omega,λe=>absurd e J⟩
  rintro g X ⟨I,S,u,v4,rfl,G,Y,hxl',U,R,NP,kQ,yL⟩;refine⟨_,rfl,rfl,_,rfl,(λg j=>∃(y:oD),Pt (g=[some (.ref a),some (.int M),some (.ref I),some (vO y),v4]) (j=X) ((∀c,y=some c->1<=c/\c<=2)) ((M=3->∀c,y=some c->c<=1))),(λ_=>⟨none,rfl,rfl,(λc m=>by cases m),λ_ c m=>by cases m⟩),λz=>?_,?_⟩
  ·have hcn:u≠0:=λe=>by
    rw[e]at z;exact absurd z (by decide)
   exact⟨some u,rfl,rfl,(λc m=>by cases m;omega),λh c m=>by cases m;exact yL h⟩
  rintro g H3 ⟨y,rfl,rfl,nQ,L⟩;have hn:1<=S.length/\S.length<=3:=by omega
  have hOk:=U9 (n:=0) (m:=0) hn.1 hn.2 U (λh=>R (by omega)) nQ (λh=>L (by omega));exact⟨_,rfl,_,rfl,I,S,y,rfl,Y,by omega,by omega,(λx f=>(U x f).1),(λc m=>(nQ c m).1),λp H4 s4 hh=>q p S y H4 (G.trans s4) hh hOk hn.2 λx f=>(U x f).2⟩
def jw(K:W.Frag):Sp:=λg H Q _=>fh λ(u:V) (a:oB) (d:oD) (c M:Int) (e:Bool)=>Ls (g=[u,.int M,.int c]) (M=(a.length:Nat)) (0<a.length) (a.length<=8) (Re e a d 300 H u) (∀(f:V) (b:Hp),A8 H b->Re e a d 301 b f->Q f b)
theorem ul{Z:pa}(F:Ea K "_law_spoiled_entry" "_law_spoiled_entry" pz ad.mZ Z):Bg P w K mg base Dr 1 ad.mZ Z ["entry","many","cell"] (jw K):=by
 refine F.ok d0 (λvs H Q E h=>?_) (λaR A J s H vs Q E hr h=>?_)
 ·rcases h with⟨u,r,cm,c,_,kb,rfl,rfl,fU,jB,R,q⟩<;>rfl
 ·obtain⟨u,r,cm,c,_,kb,rfl,rfl,fU,jB,R,q⟩:=h;refine⟨_,(A6 (Bt (B0 Hn (As (B8 K) (by rfl) T.bB PySem.boot_len (A0 (pv 0) A7)) Ad (Au _)) (A9 (Ah (Cm (A0 (Bk (Bj K) (pv 0) Ad (λ_ _=>rfl)) (A0 (Bd D7 (Bd Dc (Bd Dc (Bk (Bj K) (pv 0) Ad (λ_ _=>rfl)) Ad) (Bd D7 (pv 2) (pv 1))) (pv 1)) A7))))) Ap) (A6 (Bt (B0 Hn (Bd D7 (pv 2) Ad) Ad (Au _)) (A9 (Ah (Cm (A0 (Bk (Bj K) (pv 0) Ad (λ_ _=>rfl)) (A0 (Bd Dc (Bk (Bj K) (pv 0) Ad (λ_ _=>rfl)) Ad) (A0 (Bk (Bj K) (pv 0) Ad (λ_ _=>rfl)) A7)))))) Ap) (A6 (Ak (i:=3) d0.nd rfl (Or.inl rfl) (Bd D7 (Bd Gj (pv 2) Ad) (pv 1))) (A6 (Ak (i:=4) d0.nd rfl (Or.inl rfl) (Bd (i6 K) (Bd (Wf K) (Fw (Wz K) (Bk (Bj K) (pv 0) Ad (λ_ _=>rfl)) K8 (Gn (pv 3))) (Cm (A0 (ol (Bk (Bj K) (Bk (Bj K) (pv 0) Ad (λ_ _=>rfl)) (pv 3) (λ_ _=>rfl))) A7))) (Fw (Wz K) (Bk (Bj K) (pv 0) Ad (λ_ _=>rfl)) (Gn (Bd Dc (pv 3) Ad)) K8))) (A9 (Ah (Cm (A0 (Bk (Bj K) (pv 0) Ad (λ_ _=>rfl)) (A0 (Bk (Bj K) (pv 0) Ad (λ_ _=>rfl)) (A0 (pv 4) A7)))))))))),?_⟩;cases kb with
  |true=>
   obtain⟨p,⟨e,b,rfl,a,z⟩,C⟩:=R;refine⟨_,rfl,e,_,rfl,.inr (Bm.of a),rfl,_,rfl,K0 (by simp) ?_⟩;refine⟨_,rfl,e,_,_,_,rfl,rfl,.inr (Bm.of a),rfl,_,rfl,e,_,_,_,rfl,rfl,.inr (Bm.of a),rfl,_,_,rfl,rfl,_,rfl,_,rfl,_,_,rfl,rfl,(by show(0:Int)<_;omega),_,_,rfl,rfl,_,rfl,_,_,rfl,rfl,(by show(0:Int)<_;omega),Br,λf d=>?_⟩;exact q _ _ (A8.upd d) ⟨(p.1,_),⟨f,b,rfl,A5,Co (A8.upd d) z⟩,C⟩
  |false=>
   obtain⟨p,⟨e,b,m,rfl,a,z,B⟩,C,kE,hpr⟩:=R;refine⟨_,rfl,e,_,rfl,.inr (Bm.of a),rfl,_,rfl,Dm (by simp) ?_⟩;refine⟨_,rfl,_,_,rfl,rfl,by simp,rfl,_,rfl,Dv (λ_=>?_) (λ_=>?_)⟩
   ·refine⟨_,rfl,e,_,_,_,rfl,rfl,.inr (Bm.of a),rfl,_,rfl,e,_,_,_,rfl,rfl,.inr (Bm.of a),rfl,_,_,rfl,rfl,_,rfl,e,_,_,_,rfl,rfl,.inr (Bm.of a),rfl,Br,λf d=>?_⟩;exact q _ _ (A8.upd d) ⟨⟨p.k,p.r+1,p.a⟩,⟨f,b,m,rfl,A5,Co (A8.upd d) z,A8.upd d _ _ B⟩,C,kE,by show p.r+1<=301;omega⟩
   have XH:0<=c/3%(r.length:Int):=Int.emod_nonneg _ (by omega);have I:c/3%(r.length:Int)<(r.length:Int):=Int.emod_lt_of_pos _ (by omega);refine⟨_,rfl,_,_,rfl,rfl,⟨by decide,by decide⟩,_,rfl,_,_,rfl,rfl,(by show(0:Int)<_;omega),?_⟩;dsimp only;generalize c/3%(r.length:Int)=j at XH I⊢;obtain⟨i,rfl⟩:∃i:Nat,j=(i:Int):=⟨j.toNat,by omega⟩;have G:i<p.a.length:=by omega
   obtain⟨g,nG⟩:∃b,p.a[i]?=some b:=⟨p.a[i],eH G⟩;refine⟨_,rfl,e,_,_,_,rfl,rfl,.inr (Bm.of a),rfl,_,rfl,_,rfl,m,_,rfl,Bm.of B,m7 (by rw[List.length_map];exact G),λl oK=>?_⟩;rw[g7 (by omega) (by rw[List.length_map];omega),Int.toNat_natCast];have D:A8 H (upd H l (.tup ((p.a.map V.bl).take i))):=A8.upd oK;have U:(upd H l (.tup ((p.a.map V.bl).take i))) l=some (.tup ((p.a.map V.bl).take i)):=A5;generalize upd H l (.tup ((p.a.map V.bl).take i))=v at D U⊢;refine⟨_,rfl,e,_,_,_,rfl,rfl,.inr (Bm.of (D _ _ a)),rfl,_,rfl,m,_,_,_,rfl,rfl,.inr (Bm.of (D _ _ B)),X9 nG,_,rfl,Br,λn nZ=>?_⟩;have L:A8 v (upd v n (.tup [.bl (!g)])):=A8.upd nZ;have X:(upd v n (.tup [.bl (!g)])) n=some (.tup [.bl (!g)]):=A5;generalize upd v n (.tup [.bl (!g)])=H2 at L X⊢;refine⟨l,n,_,_,rfl,rfl,Bm.of (L _ _ U),X,(by simp),nf (Bb (by simp;omega)),λp3 x s3 e3=>?_⟩;have O:=(D.trans L).trans s3;refine⟨_,rfl,e,_,_,_,rfl,rfl,.inr (Bm.of (O _ _ a)),rfl,_,rfl,_,_,rfl,rfl,_,rfl,m,_,rfl,Bm.of (O _ _ B),m8 (by rw[List.length_map];exact G),λo MY=>?_⟩;rw[Xk (by omega) (by rw[List.length_map];omega),show((i:Int)+1).toNat=i+1 by omega];have M:A8 x (upd x o (.tup ((p.a.map V.bl).drop (i+1)))):=A8.upd MY;have Y:(upd x o (.tup ((p.a.map V.bl).drop (i+1)))) o=some (.tup ((p.a.map V.bl).drop (i+1))):=A5;generalize upd x o (.tup ((p.a.map V.bl).drop (i+1)))=H4 at M Y⊢;refine⟨p3,o,_,_,rfl,rfl,M _ _ e3,Y,nf (Bb (by simp;omega)),λp5 S s5 e5=>?_⟩;have y:=(O.trans M).trans s5;refine⟨_,rfl,e,_,_,_,rfl,rfl,.inr (Bm.of (y _ _ a)),rfl,_,rfl,e,_,_,_,rfl,rfl,.inr (Bm.of (y _ _ a)),rfl,_,rfl,Br,λf d=>?_⟩;have N:A8 S (upd S f (.tup [.ref b,.int p.r,.ref p5])):=A8.upd d;refine q _ _ (y.trans N) ⟨⟨p.k,p.r,p.a.take i++[!g]++p.a.drop (i+1)⟩,⟨f,b,p5,rfl,A5,Co (y.trans N) z,?_⟩,C,by simp;omega,by show p.r<=301;omega⟩;rw[N _ _ e5,List.map_append,List.map_append,List.map_take,List.map_drop];rfl
def dh(K:W.Frag):Sp:=λi H Q _=>fk λ(l:Addr) (a:oB) (f:oD) (d:List V) (c M:Int) (g:Bool)=>Js (i=[.ref l,.int M,.int c]) (M=(a.length:Nat)) (0<a.length) (a.length<=8) (H l=some (.lst d)) (0<d.length) (d.length<=301) ((∀u∈d,Re g a f 300 H u)) (∀(h:Addr) (e:List V) (b:Hp),A8 H b->b h=some (.lst e)->e.length<=700->(∀u∈e,Re g a f 301 b u)->Q (.ref h) b)
theorem n8{fd OV:pa}(F:Ea K "_law_spoiled" "_law_spoiled" bn ad.gT fd)(zo:Gk P w K mg base 1 ad.mZ ["entry","many","cell"] (jw K) OV):Bg P w K mg base Dr 2 ad.gT fd ["paper","many","cell"] (dh K):=by
 refine F.ok No (λvs H Q E h=>?_) (λaR A outer s H vs Q E hr h=>?_)
 ·rcases h with⟨l,n,B,f,c,_,I,rfl,rfl,fU,jB,hl,OW,lC,d,q⟩<;>rfl
 ·obtain⟨l,n,B,f,c,_,I,rfl,rfl,fU,jB,hl,OW,lC,d,q⟩:=h;refine⟨_,(A6 (Ak (i:=3) No.nd rfl (Or.inl rfl) (Bn Ce (by rfl) T.dC boot_list (A0 (pv 0) A7))) (A6 (Ak (i:=4) No.nd rfl (Or.inl rfl) (Bd D7 (Bd Gj (pv 2) Ad) (As (B8 K) (by rfl) T.bB PySem.boot_len (A0 (pv 3) A7)))) (A6 (El (B0 Hn (Bd D7 (pv 2) Ad) Ad (Au _)) (A9 (Qq (Ac zo.g (hr.mono (by decide)) rfl T.XW T.XX zo.b .nil Ai (A0 (Bk (Bj K) (pv 3) (pv 4) (λ_ _=>rfl)) (A0 (pv 1) (A0 (Bd Gj (pv 2) Ad) A7)))) (ap (pv 3) (pv 4) Tb))) Ap) (A6 (El (B0 Hn (Bd D7 (Bd Gj (pv 2) Ad) Ad) Ad (Au _)) (A9 (Ak (i:=3) No.nd rfl (Or.inl rfl) (Bd o9 (Fw (Kf K) (pv 3) (Gn (pv 4)) K8) (Fw (Kf K) (pv 3) K8 (Gn (pv 4)))))) Ap) (A6 (El (B0 Hn (Bd D7 (Bd Gj (pv 2) Ad) Ad) Ad (Au _)) (A9 (Ak (i:=3) No.nd rfl (Or.inl rfl) (Fw (Kf K) (pv 3) (Gn Ad) K8))) Ap) (A9 (Ah (pv 3)))))))),?_⟩;refine⟨_,rfl,l,_,rfl,.inl (Be.of hl),λR hR=>?_⟩;have v:A8 H (upd H R (.lst f)):=A8.upd hR;have C:(upd H R (.lst f)) R=some (.lst f):=A5;generalize upd H R (.lst f)=H1 at v C⊢;refine⟨_,rfl,_,_,rfl,rfl,⟨by decide,by decide⟩,_,rfl,R,_,rfl,.inl (Be.of C),_,_,rfl,rfl,(by show(0:Int)<_;omega),?_⟩;have N:0<=c/8%(f.length:Int):=Int.emod_nonneg _ (by omega);have O:c/8%(f.length:Int)<(f.length:Int):=Int.emod_lt_of_pos _ (by omega);dsimp only;generalize c/8%(f.length:Int)=A at N O⊢;refine⟨_,rfl,_,_,rfl,rfl,by simp,rfl,_,rfl,(λb g=>∃(a:List V),Gc (b=[some (.ref l),some (.int (n.length:Nat)),some (.int c),some (.ref R),some (.int A)]) (A8 H g) (g R=some (.lst a)) (a.length=f.length) (∀u∈a,Re I n B 301 g u)),λ_=>?_,λ_=>⟨f,rfl,v,C,rfl,λu e=>((d u e).up (Aj.of v)).mono (by decide)⟩,?_⟩
  ·obtain⟨ua,S,hua⟩:=u4 N O;refine⟨_,rfl,_,rfl,R,_,_,_,rfl,rfl,.inl (Be.of C),S,_,rfl,_,rfl,_,_,rfl,rfl,⟨by decide,by decide⟩,ua,n,B,_,_,I,rfl,rfl,fU,jB,(d ua hua).up (Aj.of v),λu' o x G=>?_⟩;have r:=x _ _ C;refine⟨_,rfl,_,rfl,R,f,_,_,rfl,rfl,r,ud N O,?_⟩;have t3:Aj o (upd o R (.lst (f.set A.toNat u'))):=Aj.lst r;refine⟨_,rfl,(v.trans x).new hR,A5,by rw[List.length_set],λu e=>?_⟩;rcases List.mem_or_eq_of_mem_set e with z|z
   ·exact((d u z).up ((Aj.of (v.trans x)).trans t3)).mono (by decide)
   ·rw[z];exact G.up t3
  rintro b o ⟨a,rfl,x,r,qI,rE⟩;refine⟨_,rfl,_,_,rfl,rfl,⟨by decide,by decide⟩,_,_,rfl,rfl,by simp,rfl,_,rfl,(λb g=>Yu λ(i:Addr) (a:List V)=>Gc (b=[some (.ref l),some (.int (n.length:Nat)),some (.int c),some (.ref i),some (.int A)]) (A8 H g) (g i=some (.lst a)) (a.length<=700) (∀u∈a,Re I n B 301 g u)),λ_=>?_,λ_=>⟨R,a,rfl,x,r,by omega,rE⟩,?_⟩
  ·refine⟨_,rfl,_,rfl,_,rfl,R,_,rfl,Be.of r,λj oK=>?_⟩;generalize hX:Iq a (some A) none=X;have hXl:X.length<=a.length:=by rw[<- hX];exact Ec _ _ _
   have U:∀u∈X,u∈a:=λu e=>by rw[<- hX]at e;exact Ms e
   have y:A8 o (upd o j (.lst X)):=A8.upd oK;have D:(upd o j (.lst X)) j=some (.lst X):=A5;generalize upd o j (.lst X)=p at y D⊢;refine⟨_,rfl,_,rfl,_,rfl,R,_,rfl,Be.of (y _ _ r),λJ nZ=>?_⟩;generalize hY:Iq a none (some A)=Y;have hYl:Y.length<=a.length:=by rw[<- hY];exact Ec _ _ _
   have Z:∀u∈Y,u∈a:=λu e=>by rw[<- hY]at e;exact Ms e
   have m:A8 p (upd p J (.lst Y)):=A8.upd nZ;have M:(upd p J (.lst Y)) J=some (.lst Y):=A5;generalize upd p J (.lst Y)=L at m M⊢;refine⟨j,J,_,_,rfl,rfl,m _ _ D,M,nf (Bo (by omega)),λp5 hp5=>?_⟩;have s5:A8 L (upd L p5 (.lst (X++Y))):=A8.upd hp5;have xP:=(y.trans m).trans s5;refine⟨p5,X++Y,rfl,x.trans xP,A5,by rw[List.length_append];omega,λu e=>(rE u ?_).up (Aj.of xP)⟩;rcases hH.mp e with z|z
   ·exact U u z
   ·exact Z u z
  rintro b p ⟨i,jX,rfl,y,D,kA,BI⟩;refine⟨_,rfl,_,_,rfl,rfl,⟨by decide,by decide⟩,_,_,rfl,rfl,by simp,rfl,_,rfl,(λb g=>Yu λ(i:Addr) (a:List V)=>Gc (b=[some (.ref l),some (.int (n.length:Nat)),some (.int c),some (.ref i),some (.int A)]) (A8 H g) (g i=some (.lst a)) (a.length<=700) (∀u∈a,Re I n B 301 g u)),λ_=>?_,λ_=>⟨i,jX,rfl,y,D,kA,BI⟩,?_⟩
  ·refine⟨_,rfl,_,rfl,i,_,rfl,Be.of D,λj oK=>?_⟩;have m:A8 p (upd p j (.lst (Iq jX (some 1) none))):=A8.upd oK;exact⟨j,_,rfl,y.trans m,A5,eI (Ec _ _ _) kA,λu e=>(BI u (Ms e)).up (Aj.of m)⟩
  rintro b L ⟨R4,us4,rfl,m,M,hl4,OX⟩;exact⟨_,rfl,q R4 us4 L m M hl4 OX⟩
def d6(K:W.Frag)(aE aB aA aD aC:Addr):Sp:=λh H Q _=>fk λ(a l g:Addr) (d:oB) (b:oD) (c:List V) (f:oB)=>Js (h=[.ref a,.ref l,.ref g]) (Ax H a d b) (Da d b) (H l=some (.lst c)) (c.length<=700) ((∀u∈c,Re true d b 301 H u)) (H g=some (.lst (f.map V.int))) (f.length<=63) (∀e,Bh H e->Q (.bl true) e)
theorem mi{fd pA pB OY OZ:pa}(F:Ea K "_law_kept_holds" "_law_kept_holds" Wp ad.gU fd)(iI:Gk P w K mg base 6 ad.fD ["hall","paper"] (V8 K) pA)(iJ:Gk P w K mg base 5 ad.fB ["hall","caller","road","turns"] (Vb K aE aB aA aD aC) pB)(zp:Gk P w K mg base 1 ad.mX ["self","paper"] (jr K aE aB aA aD aC) OY)(zq:Gk P w K mg base 1 ad.mY ["self","row"] (jy K aE aB aA aD aC) OZ):Bg P w K mg base Dr 7 ad.gU fd ["hall","paper","cells"] (d6 K aE aB aA aD aC):=by
 refine F.ok Nl (λvs H Q E h=>?_) (λaR A outer s H vs Q E n h=>?_)
 ·rcases h with⟨a,l,sc,D,U,d,X,rfl,ha,R,Y,lC,f,Z,iY,q⟩<;>rfl
 ·obtain⟨a,l,sc,D,U,d,X,rfl,ha,R,Y,lC,f,Z,iY,q⟩:=h;refine⟨_,(A6 (Ak (i:=3) Nl.nd rfl (Or.inl rfl) (Bn Ce (by rfl) T.dC boot_list (A0 (pv 1) A7))) (A6 (Bt (D8 (D5 (Ac iI.g (n.mono (by decide)) rfl T.AD T.AE iI.b .nil Ai (A0 (pv 0) (A0 (pv 3) A7))))) (A9 (Ah (Cj (L8 n) (pv 3) (pv 1) (Au _)))) Ap) (A6 (Ak (i:=4) Nl.nd rfl (Or.inl rfl) (As (B8 K) (by rfl) T.bB PySem.boot_len (A0 (pv 2) A7))) (A6 (Qq (Ac iJ.g (n.mono (by decide)) rfl T.AA T.AB iJ.b .nil Ai (A0 (pv 0) (A0 (K6 T.jH zp.g (n.mono (by decide)) (by rfl) T.jW zp.b .nil Ai (A0 (pv 3) A7)) (A0 (K6 T.oE zq.g (n.mono (by decide)) (by rfl) T.rV zq.b .nil Ai (A0 (E8 (Di (pv 2)) _ rfl Ip rfl rfl (λ_ _ _ _=>(Al (i:=0) Iu rfl (Or.inl rfl))) (λ_ _ _ _=>D0) (λ_ _ _ _=>(Cj Hn (Bd D7 (pv 0) Ad) Ad (Au _)))) A7)) (A0 (pv 4) A7))))) (Cy K (n:=2) rfl (Ar (Al (i:=5) Nl.nd rfl (Or.inl rfl)) (Ar (Al (i:=6) Nl.nd rfl (Or.inl rfl)) Cz)))) (A9 (Ah (E6 (Cj (L8 n) (pv 6) (Dy A7) (Au _)) (E6 (Cj Hn (As (B8 K) (by rfl) T.bB PySem.boot_len (A0 (pv 5) A7)) (pv 4) (Au _)) (Jg (Cj (L8 n) (pv 3) (pv 1) (Au _))))))))))),?_⟩;have h8:=R.2.2.2.1;have fU:=R.2.2.1;have cD:∀x∈D,1<=x:=λx hx=>(R.1 x hx).1;obtain⟨u,S,bH⟩:=Tt (P:=PQ H) (X:=λp=>p.1∈Aq D (qv U)) d f;have iT:=S.1;have I:Yw D.length u:=⟨λp hp=>(Et (bH p hp)).1,by omega⟩;have zr:∀{j:Hp}{x:Addr},Aj H j->j x=some (.lst d)->Rp j (.list (u.map dQ)) (.ref x):=λt e=>b6 e (ou (S.imp λ_ _ y=>PQ.up t y));refine⟨_,rfl,l,_,rfl,.inl (Be.of Y),λo oK=>?_⟩;have s1:A8 H (upd H o (.lst d)):=A8.upd oK;have m:(upd H o (.lst d)) o=some (.lst d):=A5;generalize upd H o (.lst d)=H1 at s1 m⊢;refine⟨_,rfl,_,rfl,a,o,D,U,d,u,rfl,ha.same s1,fU,h8,cD,m,S.imp (λ_ _ y=>PQ.up (Aj.of s1) y),I,λr H2 s2 fP=>⟨_,rfl,?_⟩⟩;have b:=s1.trans s2;refine Dv (λhn=>?_) (λhn=>?_)
  ·have N:=zr (Aj.of b) (s2 _ _ m);refine⟨_,rfl,_,rfl,_,_,N,zr (Aj.of b) (b _ _ Y),Ru u,?_⟩;rw[if_neg (by decide),PySem.SeqAt.eqv_refl _ (C6 _ _ N)];exact q _ (A8.aM b)
  have dY:=fP.mp (by cases r with|true=>rfl|false=>exact absurd rfl hn);clear hn fP;have nW:=Zv dY bH;refine⟨_,rfl,sc,_,rfl,.inl (Be.of (b _ _ Z)),?_⟩;refine⟨_,rfl,_,rfl,λc dc hc JD hnc=>⟨c,dc,o,d,L4 u,rfl,A5,Ep hc JD _ _ (s2 _ _ m),?_,λpd H5 hpd ec epd ho=>⟨rfl,?_⟩⟩⟩
  ·obtain⟨x1,x2⟩:=Wj (S.imp λ_ _ y=>PQ.up (Aj.of (b.trans (Ep (C:=aA) hc JD))) y);exact⟨x1,λi r v m e2=>x2 i v r e2 m⟩
  have s5:=K4 hc JD ho;refine⟨_,rfl,sc,rfl,.inl ⟨⟨_,Be.of (s5 _ _ (b _ _ Z))⟩,λB hB=>?_⟩⟩;refine Kr (K:=K) (a:=sc) (xs:=X.map V.int) (λi O j=>∃(C:List Bool),Pt (O=C.map V.bl) (C.length=i) (j B=some (.lst O)) (A8 H5 j)) ⟨[],rfl,rfl,A5,A8.upd hB⟩ (by rintro i O j _ ⟨_,_,_,_,s⟩;exact Be.of (s _ _ (s5 _ _ (b _ _ Z)))) ?_ ?_
  ·rintro i y O H6 hy ⟨C,rfl,FA,IZ,L⟩ Qe hQ;have hi:=(bA.mp hy).1;rw[List.length_map]at hi;rw[List.getElem?_map]at hy;obtain⟨x,hx,rfl⟩:=dI.mp hy;refine⟨_,rfl,_,_,rfl,rfl,by simp,rfl,?_⟩;exact hQ _ _ IZ (Bb (by rw[List.length_map];omega)) ⟨C++[_],by rw[List.map_append];rfl,by rw[List.length_append,FA];rfl,A5,L.new hB⟩
  rintro O G ⟨C,rfl,FA,eB,sG⟩;refine λg dg I xQ hng=>⟨g,dg,B,_,rfl,A5,Ep I xQ _ _ eB,λqg H6 hqg eg eqg PB=>⟨rfl,?_⟩⟩;have L:=K4 I xQ PB;have sF:A8 H2 H6:=(s5.trans sG).trans L;refine⟨_,rfl,.inl ⟨a,c,g,dc,dg,pd,qg,D,U,_,C,0,_,(X.map V.int).length,rfl,rfl,(ha.same b).same sF,Ag (sG _ _ ec) I,(sG.trans L) _ _ ec,(sG.trans L) _ _ epd,eg,eqg,fU,h8,nW,by rw[List.length_map];omega,λp3 l3 b3 NG rs qH hl10 vK hc10 hg10 ep3 el J eb MX hkr=>?_⟩⟩;refine⟨p3,_,rfl,Bm.of ep3,rfl,_,_,rfl,_,_,rfl,rfl,?_⟩;refine⟨_,rfl,Br,λzt GC=>?_⟩;have M:A8 qH (upd qH zt (.lst [])):=A8.upd GC;have DM:(upd qH zt (.lst [])) zt=some (.lst []):=A5;generalize upd qH zt (.lst [])=zC at M DM⊢;have zu:Bh H zC:=(A8.aM (b.trans sF)).trans (vK.trans (A8.aM M));have GD:zC o=some (.lst d):=M _ _ (vK.lst (sF _ _ (s2 _ _ m)));have N:=zr zu.aZ GD;have hu3:=J.1;refine⟨_,_,Wn (ws:=[]) (M _ _ eb),Wn (ws:=[]) DM,(by rw[Rv];decide),_,true,rfl,(λ_ Q' z=>?_),?_⟩
  ·refine⟨_,rfl,l3,_,rfl,.inl (Be.of (M _ _ el)),_,rfl,rfl,_,true,rfl,(λ_ Q2 z2=>?_),?_⟩
   ·refine⟨_,rfl,_,rfl,_,_,N,zr zu.aZ (zu.lst Y),Ru u,?_⟩;rw[if_neg (by decide),PySem.SeqAt.eqv_refl _ (C6 _ _ N)];exact z2
   ·rw[decide_eq_true (show V.int (NG.length:Int)=V.int ((X.map V.int).length:Int)by rw[hu3,MX])];exact z
  rw[if_neg (by decide),Zh];exact q _ zu
def V9(K:W.Frag):Sp:=λh H Q _=>fk λ(a l:Addr) (f:oB) (g:oD) (e:List V) (c:List Eb) (b:Eb)=>Pu (h=[.ref a,.ref l]) (Ax H a f g) (H l=some (.lst e)) (Ae (EV H) c e) ((c.map (·.k)).Nodup) (b∈c) (b.k=(f,0)) (∀d,A8 H d->Q (.int b.r) d)
theorem ny{R bR:pa}(F:Ea K "_law_rank" "_law_rank" cf ad.fH R)(M:Gk P w K mg base 1 ad.cH ["hall"] (Hw K) bR):Bg P w K mg base Dr 2 ad.fH R ["hall","paper"] (V9 K):=by
 refine F.ok cy (λvs H Q E h=>?_) (λaR A C s H vs Q E X h=>?_)
 ·rcases h with⟨a,l,c,N,Z,n,r,rfl,U,v,all,O,B,G,q⟩<;>rfl
 ·obtain⟨a,l,c,N,Z,n,r,rfl,U,v,all,O,B,G,q⟩:=h;refine⟨_,(A6 (Cv lG rfl (Di (pv 1)) (Al (i:=2) cy.nd rfl (Or.inl rfl)) (A9 (Bt (B0 (L8 X) (Bk (Bj K) (pv 2) Ad (λ_ _=>rfl)) (Ac M.g (X.mono (by decide)) rfl T.fI T.fJ M.b .nil Ai (A0 (pv 0) A7)) (Au _)) (A9 (Ah (Bk (Bj K) (pv 2) Ad (λ_ _=>rfl)))) Ap))) (A9 (Ah Ad))),?_⟩;refine⟨_,rfl,l,rfl,.inl ⟨⟨_,Be.of v⟩,?_⟩⟩;refine D4 (K:=K) (a:=l) (xs:=Z) (λi p J=>∃(I:Option V),O5 (p=[some (.ref a),some (.ref l),I]) (A8 H J) (∀(j:Nat) (e:Eb),j<i->n[j]?=some e->e.k≠(c,0))) ⟨_,rfl,A8.refl _,λj e h=>absurd h (mF j)⟩ (by rintro i p J _ ⟨_,_,s,_⟩;exact Be.of (s _ _ v)) ?_ ?_
  ·rintro i u p H1 hu ⟨I,rfl,f,x⟩;obtain⟨e,o,PD⟩:=all.get hu;obtain⟨t,b,m,rfl,Y,hb,_⟩:=EV.same f PD;have YJ:=Bm.of (K:=K) Y;refine⟨_,rfl,t,_,_,_,rfl,rfl,.inr YJ,rfl,_,rfl,a,c,N,rfl,U.same f,λb2 L g rX=>?_⟩
   have iX:D9 L b e.k:=by
    obtain⟨w,y1,y2⟩:=hb;exact⟨w,g _ _ y1,g _ _ y2⟩
   refine⟨_,_,Sy iX,Sy (k:=(c,0)) rX,(by rw[Jx];decide),_,rfl,?_⟩;show(if PyData.eqv (dS e.k) (dS (c,0))=true then _ else _);rw[Q8];refine Dv (λz=>?_) (λz=>?_)
   ·have z:=of_decide_eq_true z
    have ee:e=r:=by
     obtain⟨j,d⟩:=il.mp B
     have yE:i=j:=by
      have S:(n.map (·.k))[i]?=some (c,0):=by rw[List.getElem?_map,o,<- z];rfl
      have h2:(n.map (·.k))[j]?=some (c,0):=by rw[List.getElem?_map,d,<- G];rfl
      have mG:=(bA.mp S).1;exact((List.getElem?_inj mG O).mp (S.trans h2.symm))
     rw[yE,d]at o;exact(eT o).symm
    subst ee;exact⟨_,rfl,t,_,_,_,rfl,rfl,.inr (Bm.of (g _ _ Y)),rfl,q L (f.trans g)⟩
   ·refine⟨_,rfl,f.trans g,λj e' d D=>?_⟩;rcases la j i with y|y
    ·exact x j e' y D
    ·rw[show j=i by omega,o]at D;cases D;exact λw=>z (decide_eq_true w)
  rintro p H1 ⟨I,rfl,f,x⟩;obtain⟨j,d⟩:=il.mp B;exact absurd G (x j r (by have:=(bA.mp d).1;rw[all.1];exact this) d)
def jz(K:W.Frag)(aE aB aA aD aC:Addr):Sp:=λh H Q _=>fk λ(a l g:Addr) (d:oB) (b:oD) (c:List V) (f:oB)=>Js (h=[.ref a,.ref l,.ref g]) (Ax H a d b) (Da d b) (H l=some (.lst c)) (c.length<=700) ((∀u∈c,Re false d b 301 H u)) (H g=some (.lst (f.map V.int))) (f.length<=63) (∀e,Bh H e->Q (.bl true) e)
theorem uq{fd pC pD pB PF vL:pa}(F:Ea K "_law_broken_holds" "_law_broken_holds" iu ad.nA fd)(iK:Gk P w K mg base 6 ad.fE ["hall","paper"] (V4 K) pC)(iL:Gk P w K mg base 2 ad.fH ["hall","paper"] (V9 K) pD)(iJ:Gk P w K mg base 5 ad.fB ["hall","caller","road","turns"] (Vb K aE aB aA aD aC) pB)(zv:Gk P w K mg base 1 ad.mW ["self","row"] (jt K aE aB aA aD aC) PF)(nK:Gk P w K mg base 1 ad.kW ["self","paper"] (dl K aE aB aA aD aC) vL):Bg P w K mg base Dr 7 ad.nA fd ["hall","paper","cells"] (jz K aE aB aA aD aC):=by
 refine F.ok Nr (λvs H Q E h=>?_) (λaR A outer s H vs Q E u h=>?_)
 ·rcases h with⟨a,l,sc,n,N,m,cs,rfl,S,aH,U,lC,o,qG,iY,q⟩<;>rfl
 ·obtain⟨a,l,sc,n,N,m,cs,rfl,S,aH,U,lC,o,qG,iY,q⟩:=h;refine⟨_,(A6 (Ak (i:=3) Nr.nd rfl (Or.inl rfl) (Bn Ce (by rfl) T.dC boot_list (A0 (pv 1) A7))) (A6 (Bt (D8 (D5 (Ac iK.g (u.mono (by decide)) rfl T.AF T.AG iK.b .nil Ai (A0 (pv 0) (A0 (pv 3) A7))))) (A9 (Ah (Cj (L8 u) (pv 3) (pv 1) (Au _)))) Ap) (A6 (Ak (i:=4) Nr.nd rfl (Or.inr rfl) (As (B8 K) (by rfl) T.bB PySem.boot_len (A0 (Bk (Bj K) (pv 0) Ad (λ_ _=>rfl)) A7))) (A6 (Ak (i:=5) Nr.nd rfl (Or.inl rfl) (Ac iL.g (u.mono (by decide)) rfl T.AL T.AM iL.b .nil Ai (A0 (pv 0) (A0 (pv 1) A7)))) (A6 (De (i:=6) Nr.nd rfl (Di (pv 2)) _ rfl Gz rfl rfl (λ_ _ _ _=>(Al (i:=0) Hb rfl (Or.inl rfl))) (λ_ _ _ _=>D0) (λ_ _ _ _=>(Bd D7 (Bd Gj (pv 0) Ad) (pv 1))) rfl rfl) (A6 (Qq (Ac iJ.g (u.mono (by decide)) rfl T.AA T.AB iJ.b .nil Ai (A0 (pv 0) (A0 (K6 T.kZ zv.g (u.mono (by decide)) (by rfl) T.nC zv.b .nil Ai (A0 (pv 6) A7)) (A0 (K6 T.fK nK.g (u.mono (by decide)) (by rfl) T.gZ nK.b .nil Ai (A0 (pv 3) A7)) (A0 (pv 5) A7))))) (Cy K (n:=2) rfl (Ar (Al (i:=7) Nr.nd rfl (Or.inl rfl)) (Ar (Al (i:=8) Nr.nd rfl (Or.inl rfl)) Cz)))) (A9 (Ah (E6 (Cj (oh u) (pv 8) (Dy A7) (Au _)) (E6 (aj jm jm Ad (As (B8 K) (by rfl) T.bB PySem.boot_len (A0 (pv 7) A7)) (pv 5)) (Jg (Cj (L8 u) (pv 3) (pv 1) (Au _))))))))))))),?_⟩;have h8:=aH.2.2.2.1;have fU:=aH.2.2.1;have cD:∀x∈n,1<=x:=λx hx=>(aH.1 x hx).1;obtain⟨D,M,L⟩:=Tt (P:=EV H) (X:=λp=>p.k∈Aq n (qv N)/\p.a.length=n.length/\p.r<=301) m o;have iT:=M.1;have I:Yv n.length D:=⟨λp hp=>⟨(Et (L p hp).1).1,(E2 (L p hp).1).2.2.1,by have:=(L p hp).2.1;omega⟩,by omega⟩;have zr:∀{v:Hp}{x:Addr},Aj H v->v x=some (.lst m)->Rp v (.list (D.map dE)) (.ref x):=λt e=>b6 e (lf (M.imp λ_ _ y=>EV.up t y));refine⟨_,rfl,l,_,rfl,.inl (Be.of U),λC oK=>?_⟩;have s1:A8 H (upd H C (.lst m)):=A8.upd oK;have R:(upd H C (.lst m)) C=some (.lst m):=A5;generalize upd H C (.lst m)=H1 at s1 R⊢;refine⟨_,rfl,_,rfl,a,C,n,N,m,D,rfl,S.same s1,fU,h8,cD,R,M.imp (λ_ _ y=>EV.up (Aj.of s1) y),I,λr H2 s2 fP=>⟨_,rfl,?_⟩⟩;have j:=s1.trans s2;refine Dv (λhn=>?_) (λhn=>?_)
  ·have Z:=zr (Aj.of j) (s2 _ _ R);refine⟨_,rfl,_,rfl,_,_,Z,zr (Aj.of j) (j _ _ U),Rt D,?_⟩;rw[if_neg (by decide),PySem.SeqAt.eqv_refl _ (C6 _ _ Z)];exact q _ (A8.aM j)
  have O:=fP.mp (by cases r with|true=>rfl|false=>exact absurd rfl hn);clear hn fP;obtain⟨wt,cL,dD⟩:=id (S.same j);refine⟨_,rfl,a,_,_,_,rfl,rfl,.inr (Bm.of cL),rfl,wt,_,rfl,.inr (Bm.of dD),?_⟩;obtain⟨G,mP,tJ⟩:=gB.mp O.2.1;have fP:=(O.2.2 G mP).1;have AV:=(L G mP).2.2;refine⟨_,rfl,_,rfl,a,l,n,N,m,D,G,rfl,S.same j,j _ _ U,M.imp (λ_ _ y=>EV.up (Aj.of j) y),O.1,mP,tJ,λH3 s3=>?_⟩;have PH:=s3 _ _ (j _ _ qG);refine⟨_,rfl,sc,rfl,.inl ⟨⟨_,Be.of PH⟩,λB hB=>?_⟩⟩;refine Kr (K:=K) (a:=sc) (xs:=cs.map V.int) (λi zs v=>∃(b:oB),Gc (zs=b.map V.int) (b.length=i) ((∀x∈b,0<=x/\x<(n.length:Int))) (v B=some (.lst zs)) (A8 H3 v)) ⟨[],rfl,rfl,(λx hx=>by cases hx),A5,A8.upd hB⟩ (by rintro i zs v _ ⟨_,_,_,_,_,s⟩;exact Be.of (s _ _ PH)) ?_ ?_
  ·rintro i y zs H6 X ⟨b,rfl,FA,sE,IZ,J⟩ Qe hQ;have hi:=(bA.mp X).1;rw[List.length_map]at hi;rw[List.getElem?_map]at X;obtain⟨x,hx,rfl⟩:=dI.mp X;have hb:=Db (x/2) (show(0:Int)<(n.length:Int)by omega);refine⟨_,rfl,_,_,rfl,rfl,⟨by decide,by decide⟩,_,rfl,_,_,rfl,rfl,(by show(0:Int)<_;rw[List.length_map];omega),?_⟩;refine hQ _ _ IZ (Bb (by rw[List.length_map];omega)) ⟨b++[_],by rw[List.map_append];rfl,by rw[List.length_append,FA];rfl,λy X=>?_,A5,J.new hB⟩;rcases hH.mp X with z|z
   ·exact sE y z
   ·rw[List.mem_singleton.mp z,List.length_map];exact hb
  rintro zs H4 ⟨b,rfl,FA,sE,eB,s4⟩;refine⟨_,rfl,_,rfl,λc dc hc JD hnc=>⟨c,dc,B,_,rfl,A5,Ep hc JD _ _ eB,λqc H5 hqc ec eqc TF=>⟨rfl,?_⟩⟩⟩;have s5:=K4 hc JD TF;have xP:A8 H2 H5:=(s3.trans s4).trans s5;obtain⟨f,xK,tV,hk3⟩:=W0 (M.imp λ_ _ y=>EV.up (Aj.of (j.trans xP)) y)
  have eG:(f.map (·.1)).Nodup:=by
   rw[tV];exact O.1
  have epa:B9 [] f=f:=by
   have:=E1 f [] (by rw[List.nil_append];exact eG);rw[List.nil_append]at this;exact this
  refine⟨_,rfl,λg dg I xQ hng=>⟨g,dg,C,m,f,rfl,A5,Ep I xQ _ _ (xP _ _ (s2 _ _ R)),lC,xK.imp (λ_ _ z=>z.same (Ep I xQ)),λd H6 hd eg ed PB=>⟨rfl,?_⟩⟩⟩;have J:=K4 I xQ PB;rw[epa]at ed;have sF:A8 H2 H6:=xP.trans J;refine⟨_,rfl,.inr ⟨a,c,g,dc,dg,d,qc,n,N,D,f,b,0,_,G.r.toNat,G,rfl,(by omega),(S.same j).same sF,Ag ec I,J _ _ ec,J _ _ eqc,sE,eg,ed,(λe he=>?_),O,(λe he=>Et (L e he).1),fU,h8,mP,tJ,(by omega),(by omega),λp3 l3 b3 NG bs qH hl10 vK ep3 el eb cE h1 h2=>?_⟩⟩
  ·obtain⟨t,m1,m2⟩:=hk3 e he;exact⟨t,Bp eG m1,J _ _ m2⟩
  refine⟨p3,_,rfl,Bm.of ep3,rfl,_,_,rfl,_,_,rfl,rfl,?_⟩;refine⟨_,rfl,Br,λzt GC=>?_⟩;have Y:A8 qH (upd qH zt (.lst [])):=A8.upd GC;have DM:(upd qH zt (.lst [])) zt=some (.lst []):=A5;generalize upd qH zt (.lst [])=zC at Y DM⊢;have zu:Bh H zC:=(A8.aM (j.trans sF)).trans (vK.trans (A8.aM Y));have GD:zC C=some (.lst m):=Y _ _ (vK.lst (sF _ _ (s2 _ _ R)));have Z:=zr zu.aZ GD;refine⟨_,_,Wn (Y _ _ eb),Wn (ws:=[]) DM,(by rw[Rv];decide),_,true,rfl,(λ_ Q' z=>?_),?_⟩
  ·refine⟨_,rfl,l3,_,rfl,.inl (Be.of (Y _ _ el)),_,_,rfl,rfl,_,rfl,K0 (decide_eq_true (by omega)) ?_⟩;refine⟨_,rfl,_,_,rfl,rfl,_,true,rfl,(λ_ Q2 z2=>?_),?_⟩
   ·refine⟨_,rfl,_,rfl,_,_,Z,zr zu.aZ (zu.lst U),Rt D,?_⟩;rw[if_neg (by decide),PySem.SeqAt.eqv_refl _ (C6 _ _ Z)];exact z2
   ·rw[decide_eq_true (show(NG.length:Int)<=G.r by omega)];exact z
  rw[if_pos rfl,Zh,decide_eq_false cE];exact q _ zu
def di(K:W.Frag)(aE aB aA aD aC:Addr):Sp:=λh H Q _=>fk λ(a l:Addr) (c:oB) (b:oD) (g:List V) (f d:ov)=>Js (h=[.ref a,.ref l]) (Ax H a c b) (Da c b) (H l=some (.lst g)) (Ae (Jb d c b H) f g) (Mh c b d f) (Bv c b d) ((d.map (·.1)).Nodup) (∀e,A8 H e->Q (.bl true) e)
theorem n9{fd jI vL bR pD oV bE oX oY:pa}(F:Ea K "_law_at_last" "_law_at_last" bo ad.gW fd)(cR:Gk P w K mg base 7 ad.dN ["hall"] (R7 K) jI)(nK:Gk P w K mg base 1 ad.kW ["self","paper"] (dl K aE aB aA aD aC) vL)(aO:Gk P w K mg base 1 ad.cH ["hall"] (Hw K) bR)(iL:Gk P w K mg base 2 ad.fH ["hall","paper"] (V9 K) pD)(iB:Gk P w K mg base 7 ad.eX ["hall","table","standing"] (V7 K) oV)(aU:Gk P w K mg base 4 ad.bT ["hall","standing","who","lost"] (Jo K) bE)(aN:D1 K bE ["hall","standing","who","lost"] [Value.bool false])(iE:Gk P w K mg base 2 ad.eZ ["self","hall","standing","who"] (V0 K aE aB aA aD aC) oX)(iG:Gk P w K mg base 2 ad.fA ["self","hall","standing","who"] (Uz K aE aB aA aD aC) oY):Bg P w K mg base Dr 8 ad.gW fd ["hall","paper"] (di K aE aB aA aD aC):=by
 refine F.ok Jk (λvs H Q E h=>?_) (λaR A outer s H vs Q E L h=>?_)
 ·rcases h with⟨a,l,f,c,J,C,r,rfl,M,D,hl,p,I,N,PJ,q⟩<;>rfl
 ·obtain⟨a,l,f,c,J,C,r,rfl,M,D,hl,p,I,N,PJ,q⟩:=h;refine⟨_,(A6 (Ak (i:=2) Jk.nd rfl (Or.inl rfl) (Ac cR.g (L.mono (by decide)) rfl T.uH T.uI cR.b .nil Ai (A0 (pv 0) A7))) (A6 (Ak (i:=3) Jk.nd rfl (Or.inl rfl) (K6 T.fK nK.g (L.mono (by decide)) (by rfl) T.gZ nK.b .nil Ai (A0 (Bn Ce (by rfl) T.dC boot_list (A0 (pv 1) A7)) A7))) (A6 (Ak (i:=4) Jk.nd rfl (Or.inl rfl) (Ac aO.g (L.mono (by decide)) rfl T.fI T.fJ aO.b .nil Ai (A0 (pv 0) A7))) (A6 (Cv lG rfl (Dz (by rfl) T.cJ (A0 (Ac iL.g (L.mono (by decide)) rfl T.AL T.AM iL.b .nil Ai (A0 (pv 0) (A0 (pv 1) A7))) A7)) (Al (i:=5) Jk.nd rfl (Or.inl rfl)) (A6 (Bt (B0 Nb (pv 4) Dd (Au _)) (A9 (Ah Dp)) Ap) (A6 (Ak (i:=6) Jk.nd rfl (Or.inl rfl) (Ac iB.g (L.mono (by decide)) rfl T.zW T.zX iB.b .nil Ai (A0 (pv 0) (A0 (pv 2) (A0 (pv 4) A7))))) (A9 (Ak (i:=4) Jk.nd rfl (Or.inl rfl) (Ac aU.g (L.mono (by decide)) rfl T.gY T.dR aU.b .nil Ai (A0 (pv 0) (A0 (pv 4) (A0 (pv 6) (A0 (L9 (Ih (pv 3) T.bD T.AO iE.g (L.mono (by decide)) iE.b .nil Ai (A0 (pv 0) (A0 (pv 4) (A0 (pv 6) A7)))) (Ih (pv 3) T.bG T.AQ iG.g (L.mono (by decide)) iG.b .nil Ai (A0 (pv 0) (A0 (pv 4) (A0 (pv 6) A7))))) A7)))))))))) (A9 (Ah (Cj Nb (pv 4) Dd (Au _)))))))),?_⟩;have hq:=D.qv;have fU:=D.2.2.1;have jB:=D.2.2.2.1;have cD:∀x∈f,1<=x:=λx hx=>(D.1 x hx).1;obtain⟨es,iR,dY,bH⟩:=Lh N I p;obtain⟨S,mP,tJ⟩:=gB.mp dY.2.1;have fP:=(dY.2.2 S mP).1;have fL:=(bH S mP).2.2;have hr3:=Po D N PJ fL;rw[tJ]at fL;have hbeg:(f,(0:Int))∈C.map (·.1):=I.1.sZ.resolve_right λy=>by cases y
  have lC:=p.1;have iT:=I.1.len D;refine⟨_,rfl,a,f,c,rfl,M,(λw hw=>(D.1 w hw).1),hq.1,(λw hw=>Fo (by have:=D.1 w hw;omega) (D.1 w hw).2),Fo (by omega) hq.2,D.2.2.2.1,(by have:=D.2.2.2.2;omega),λTB tw H1 hTB s1 uZ GF _ _=>?_⟩;have hve:=X2 GF N
  have jS:Rk tw:=λk v hv=>by
   obtain⟨m,e,_⟩:=GF.1 k v hv;exact⟨m,e⟩
  refine⟨_,rfl,l,_,rfl,.inl (Be.of (s1 _ _ hl)),λp1 oK=>?_⟩;have s2:A8 H1 (upd H1 p1 (.lst J)):=A8.upd oK;have e2:(upd H1 p1 (.lst J)) p1=some (.lst J):=A5;generalize upd H1 p1 (.lst J)=H2 at s2 e2⊢;have rE:Ae (Om H2) C J:=p.imp λG u ⟨pp,b,t,m,e,h1,h2,h3,h4,h5⟩=>⟨pp,b,.int m,e,by rw[h4];exact s2 _ _ (s1 _ _ h1),h2.up (Aj.of (s1.trans s2))⟩;refine λg dg hg xQ hng=>⟨g,dg,p1,J,C,rfl,A5,Ep hg xQ _ _ e2,(by omega),rE.imp (λ_ _ z=>z.same (Ep hg xQ)),λd H3 hd eg ed PB=>⟨rfl,?_⟩⟩;have s3:=K4 hg xQ PB;have epa:B9 [] C=C:=E1 C [] I.1.nd;rw[epa]at ed;have mE:=(s1.trans s2).trans s3
  have fM:xl r f c C H3:=λG O=>by
   obtain⟨i,hi,e⟩:=List.getElem_of_mem O;obtain⟨u,hu⟩:∃u,J[i]?=some u:=⟨J[i]'(by omega),eH _⟩;obtain⟨pp,b,t,m,_,_,_,_,h4,h5⟩:=p.2 i G u (by rw[List.getElem?_eq_getElem hi,e]) hu;exact⟨t,h4,mE _ _ h5⟩
  refine⟨_,rfl,a,f,c,rfl,M.same mE,λB H4 s4 hstB=>?_⟩;have IU:=mE.trans s4;refine⟨_,rfl,_,rfl,a,l,f,c,J,es,S,rfl,M.same IU,IU _ _ hl,iR.imp (λ_ _ y=>EV.up (Aj.of IU) y),dY.1,mP,tJ,λH5 s5=>⟨_,rfl,by omega,by omega,?_⟩⟩;have UI:=IU.trans s5;have s35:=s4.trans s5
  refine P0 (n:=S.r.toNat) (λn σ Y=>X3 λ(o:Option (oB×Int)) (sv:V) (v5 v6:Option V)=>Gc (σ=[some (.ref a),some (.ref l),some (.ref TB),some (.ref g),some sv,v5,v6]) (A8 H5 Y) (F4 Y o sv) ((o=none->(n:Int)=S.r)) (∀k,o=some k->k∈C.map (·.1)/\∃m:Int,Af r k=some (.int m)/\m+n=S.r))
   ⟨some (f,0),.ref B,_,_,rfl,A8.refl _,⟨B,rfl,hstB.same s5⟩,(λz=>by cases z),λk e=>by cases e;exact⟨hbeg,_,fL,by omega⟩⟩ ?_ ?_
  ·rintro n σ' Y hn ⟨o,sv,v5,v6,rfl,U,iX,KU,iV⟩;cases o with
   |none=>
    have:=KU rfl;omega
   |some k=>
    obtain⟨cW,m,hm,hmn⟩:=iV k rfl;obtain⟨b,rfl,bH⟩:=iX;obtain⟨m0,Z,mO,tI,qI⟩:=Z3 I N cW;rw[hm]at Z;cases Z;have s0':=UI.trans U;have s3':=s35.trans U;refine⟨_,rfl,rfl,_,rfl,Dm rfl ?_⟩;have rZ:Cc Y b k.1 k.2:=bH;refine⟨_,rfl,_,rfl,_,rfl,a,TB,b,f,k.1,c,k.2,tw,rfl,M.same s0',rZ,s3' _ _ (s3 _ _ (s2 _ _ uZ)),jS,fU,tI,jB,cD,λj H7 X R=>?_⟩;have s07:=s0'.trans X;have VA:=s3'.trans X;obtain⟨G,O,VB⟩:=gB.mp cW;obtain⟨t,et,ht⟩:=fM G O
    have PL:Af C k=some (.ref t):=by
     rw[<- VB,<- et];exact Bp I.1.nd (show(G.1,G.2)∈C from O)
    have kE:=Dg r f G.1.1 c G.1.2;refine⟨_,rfl,_,rfl,_,rfl,.inr ⟨_,rfl,g,dg,_,rfl,VA _ _ eg,rfl,_,rfl,_,rfl,_,rfl,g,dg,d,a,b,C,f,k.1,c,k.2,j,rfl,VA _ _ eg,VA _ _ ed,M.same s07,rZ.same X,(λz=>by rw[show(k.1,k.2)=k from rfl,PL]at z;cases z),λv hv=>?_⟩⟩
    have ev:v=.ref t:=by
     have nN:Af C k=some v:=hv;rw[PL]at nN;exact(eT nN).symm
    refine⟨t,_,ev,VA _ _ ht,(by rw[kE];exact R.1),?_⟩
    have vH:((!decide (c=none)&&decide (k.2=0))&&(Fn r f G.1.1 c G.1.2).getD j false)=Ca r f k.1 c k.2 j:=by
     rw[List.getD_eq_getElem?_getD,M8 R.1,VB];show(Ek c k.2&&Ca r f k.1 c k.2 j)=_;unfold Ca;cases Ek c k.2<;>rfl
    rw[vH];have cT:J6 c k.2 (Ca r f k.1 c k.2 j):=Ie;have cP:M7 r f c k j∈Ay f k.1 c k.2 j:=Vn cT
    have jE:k∈Aq f (qv c):=by
     rw[<- VB];exact(I.1.ent G O).1.1
    have hgo:=(W5 GF jE fU R cP).2 m (by rw[hve];exact hm);refine⟨a,b,f,k.1,c,k.2,j,Ca r f k.1 c k.2 j,rfl,M.same s07,rZ.same X,R.1,tI,jB,cT,(λhz H8 s8=>?_),λhz b2 H8 s8 ON=>?_⟩
    ·have en:M7 r f c k j=none:=by
      unfold M7 Cw;rw[if_pos hz]
     have:=hgo.1 en;exact⟨none,.aX,_,_,rfl,(U.trans X).trans s8,rfl,(λ_=>by omega),λk e=>by cases e⟩
    ·have en:M7 r f c k j=some (Ba f k.1 j (Ca r f k.1 c k.2 j),Ci c k.2 (Ca r f k.1 c k.2 j)):=by
      unfold M7 Cw;rw[if_neg hz]
     obtain⟨m',a1,a2,a3⟩:=I0 N hm R.1 en;have sW:=hgo.2 _ m' en (by rw[hve];exact a1);have nM:=(I.1.ent G O).2 j _ R.1 (by rw[VB];exact en);exact⟨some (Ba f k.1 j (Ca r f k.1 c k.2 j),Ci c k.2 (Ca r f k.1 c k.2 j)),.ref b2,_,_,rfl,(U.trans X).trans s8,⟨b2,rfl,ON⟩,(λe=>by cases e),λk2 e=>by cases e;exact⟨nM.resolve_right (λy=>by cases y),m',a1,by omega⟩⟩
  rintro σ' Y ⟨o,sv,v5,v6,rfl,U,iX,KU,iV⟩;cases o with
  |some k=>
   obtain⟨cW,m,hm,hmn⟩:=iV k rfl;obtain⟨m0,Z,mO,_⟩:=Z3 I N cW;rw[hm]at Z;cases Z;omega
  |none=>
   have esv:sv=.aX:=iX;subst esv;exact⟨_,rfl,rfl,q _ (UI.trans U)⟩
def R6(K:W.Frag):Sp:=λd H Q _=>Yu λ(a:Addr) (b:oB)=>Gc (d=[.ref a]) (Be K H a (b.map V.int)) (b.length<=63) ((∀z∈b,intBits z<=2^20)) (∀c,Q (.bl true) c)
theorem ma{fd GG oZ GH pA GI GJ GK pC PM GL:pa}(F:Ea K "law" "law" Ke ad.gX fd)(rF:Gk P w K mg base 2 ad.gS ["script"] (dw K) GG)(bV:Gk P w K mg base 1 ad.fG ["script","k"] (V5 K) oZ)(rG:Gk P w K mg base 8 ad.gL ["hall"] (dk K) GH)(iI:Gk P w K mg base 6 ad.fD ["hall","paper"] (V8 K) pA)(kM:Gk P w K mg base 7 ad.gU ["hall","paper","cells"] (d6 K aE aB aA aD aC) GI)(kN:Gk P w K mg base 2 ad.gT ["paper","many","cell"] (dh K) GJ)(rH:Gk P w K mg base 8 ad.gO ["hall"] (d9 K) GK)(iK:Gk P w K mg base 6 ad.fE ["hall","paper"] (V4 K) pC)(sH:Gk P w K mg base 7 ad.nA ["hall","paper","cells"] (jz K aE aB aA aD aC) PM)(rJ:Gk P w K mg base 8 ad.gW ["hall","paper"] (di K aE aB aA aD aC) GL):Bg P w K mg base Dr 9 ad.gX fd ["script"] (R6 K):=by
 refine F.ok Jj (λvs H Q E h=>?_) (λaR A outer s H vs Q E g h=>?_)
 ·rcases h with⟨a,X,rfl,hS,J,hbig,q⟩<;>rfl
 ·obtain⟨a,X,rfl,hS,J,hbig,q⟩:=h;refine⟨_,(A6 (Ak (i:=1) Jj.nd rfl (Or.inl rfl) (Ac rF.g (g.mono (by decide)) rfl T.MD T.ME rF.b .nil Ai (A0 (pv 0) A7))) (A6 (Ak (i:=2) Jj.nd rfl (Or.inl rfl) (As (B8 K) (by rfl) T.bB PySem.boot_len (A0 (Bk (Bj K) (pv 1) Ad (λ_ _=>rfl)) A7))) (A6 (Ak (i:=3) Jj.nd rfl (Or.inl rfl) (Fw (Kf K) (pv 0) (Gn Ad) (Gn Ad))) (A6 (Ak (i:=4) Jj.nd rfl (Or.inl rfl) (Ac bV.g (g.mono (by decide)) rfl T.kI T.kJ bV.b .nil Ai (A0 (pv 0) (A0 Ad A7)))) (A6 (Ak (i:=5) Jj.nd rfl (Or.inl rfl) (Ac rG.g (g.mono (by decide)) rfl T.LQ T.LR rG.b .nil Ai (A0 (pv 1) A7))) (A6 (Bt (B0 K5 (pv 5) Dd (Au _)) (A6 (Bt (PW.pt (Jh (D8 (D5 (Ac iI.g (g.mono (by decide)) rfl T.AD T.AE iI.b .nil Ai (A0 (pv 1) (A0 (Bn Ce (by rfl) T.dC boot_list (A0 (pv 5) A7)) A7))))) (Hs (D8 (D5 (Ac kM.g (g.mono (by decide)) rfl T.AJ T.AK kM.b .nil Ai (A0 (pv 1) (A0 (pv 5) (A0 (pv 3) A7))))))))) (A9 (Ah Dp)) Ap) (A9 (Ah (Ac kM.g (g.mono (by decide)) rfl T.AJ T.AK kM.b .nil Ai (A0 (pv 1) (A0 (Ac kN.g (g.mono (by decide)) rfl T.AH T.AI kN.b .nil Ai (A0 (pv 5) (A0 (pv 2) (A0 (pv 4) A7)))) (A0 (pv 3) A7))))))) Ap) (A6 (Ak (i:=5) Jj.nd rfl (Or.inl rfl) (Ac rH.g (g.mono (by decide)) rfl T.LX T.LY rH.b .nil Ai (A0 (pv 1) A7))) (A6 (Bt (PW.pt (Jh (D8 (D5 (Ac iK.g (g.mono (by decide)) rfl T.AF T.AG iK.b .nil Ai (A0 (pv 1) (A0 (Bn Ce (by rfl) T.dC boot_list (A0 (pv 5) A7)) A7))))) (Hs (D8 (D5 (Ac sH.g (g.mono (by decide)) rfl T.MF T.MG sH.b .nil Ai (A0 (pv 1) (A0 (pv 5) (A0 (pv 3) A7))))))))) (A9 (Ah Dp)) Ap) (A6 (Bt (D8 (D5 (Ac rJ.g (g.mono (by decide)) rfl T.MJ T.MK rJ.b .nil Ai (A0 (pv 1) (A0 (pv 5) A7))))) (A9 (Ah Dp)) Ap) (A9 (Ah (Ac sH.g (g.mono (by decide)) rfl T.MF T.MG sH.b .nil Ai (A0 (pv 1) (A0 (Ac kN.g (g.mono (by decide)) rfl T.AH T.AI kN.b .nil Ai (A0 (pv 5) (A0 (pv 2) (A0 (pv 4) A7)))) (A0 (pv 3) A7))))))))))))))),?_⟩;refine⟨_,rfl,a,X,rfl,hS,λm f j H1 s1 v l _ _=>?_⟩;have h8:=l.2.2.2.1;have fU:=l.2.2.1;have cD:∀x∈f,1<=x:=λx hx=>(l.1 x hx).1;obtain⟨wt,cL,dD⟩:=id v;refine⟨_,rfl,m,_,_,_,rfl,rfl,.inr (Bm.of cL),rfl,wt,_,rfl,.inr (Bm.of dD),?_⟩;refine⟨_,rfl,_,rfl,_,rfl,a,_,rfl,s1.seq hS,λL hsl=>?_⟩;rw[Xl];have iY:(Xj X (some 6) (some 66)).length<=63:=eI (Rs _ _ _) J;generalize Xj X (some 6) (some 66)=G at iY⊢;have s2:A8 H1 (upd H1 L (.lst (G.map V.int))):=A8.upd hsl;have e2:(upd H1 L (.lst (G.map V.int))) L=some (.lst (G.map V.int)):=A5;generalize upd H1 L (.lst (G.map V.int))=H2 at s2 e2⊢;refine⟨_,rfl,a,X,_,rfl,(s1.trans s2).seq hS,by decide,?_⟩;dsimp only;generalize Dt X 5=cc;have em:((f.map V.int).length:Int)=(f.length:Nat):=by rw[List.length_map]
  refine⟨_,rfl,m,f,j,rfl,v.same s2,l,(λtv S R g eG hv=>?_),λp c ps tv S R hpn I g eG hv hk b=>?_⟩
  ·refine⟨_,rfl,rfl,_,rfl,Dm rfl ?_⟩;have zh:=s2.trans R;refine⟨_,rfl,m,f,j,rfl,v.same zh,l,(λtv2 U s4 Y _ yK=>?_),λp c ps tv2 U s4 hpn I Y uE yK nF b=>?_⟩
   ·rw[X2 Y g]at yK;rw[yK]at hv;cases hv
   have s24:=zh.trans s4
   have lC:c.length<=300:=by
    rw[b.1];exact nF.1.len l
   have OW:0<c.length:=by
    rw[b.1];cases ps with
    |nil=>have:=nF.1.sZ;simp at this
    |cons x xs=>simp
   obtain⟨es,iR,dY,M⟩:=Lh Y nF b;have hesl:=iR.1
   have zm:∀u∈c,Re false f j 300 U u:=λu n=>by
    obtain⟨i,hi⟩:=il.mp n;obtain⟨e,B,PD⟩:=iR.get hi;have h3:=M e (b5 B);exact⟨e,PD,h3.1,h3.2.1,Po l Y uE h3.2.2⟩
   have hgE:Yv f.length es:=⟨λe B=>⟨(Et (M e B).1).1,(E2 (M e B).1).2.2.1,by have:=(M e B).2.1;omega⟩,by omega⟩;refine⟨_,rfl,_,rfl,p,_,rfl,.inl (Be.of I),λo nZ=>?_⟩;have D:A8 U (upd U o (.lst c)):=A8.upd nZ;have e5:(upd U o (.lst c)) o=some (.lst c):=A5;generalize upd U o (.lst c)=H5 at D e5⊢;refine⟨m,o,f,j,c,es,rfl,v.same (s24.trans D),fU,h8,cD,e5,iR.imp (λ_ _ y=>EV.up (Aj.of D) y),hgE,λr H6 s6 O=>?_⟩;have er:r=true:=O.mpr dY;subst er;have PN:=D.trans s6;have sF:=s24.trans PN;refine⟨_,rfl,(λd H'=>d=false/\Bh H6 H'),(λz=>by cases z),(λ_=>⟨_,rfl,_,rfl,_,rfl,m,p,L,f,j,c,G,rfl,v.same sF,l,PN _ _ I,by omega,(λu n=>((zm u n).up (Aj.of PN)).mono (by decide)),(R.trans (s4.trans PN)) _ _ e2,iY,λZ C=>⟨_,rfl,rfl,C⟩⟩),λd Z hd=>?_⟩;obtain⟨rfl,C⟩:=hd;refine Dm rfl ?_;have GN:=(A8.aM PN).trans C;have VC:Ax Z m f j:=(v.same sF).aM C;refine⟨_,rfl,_,rfl,m,p,f,j,c,ps,tv2,rfl,VC,l,GN.lst I,b.imp (λ_ _ z=>Jb.up GN.aZ z),nF,Y,uE,λH8 s8=>⟨_,rfl,Dm rfl ?_⟩⟩;have GO:=GN.trans (A8.aM s8);refine⟨_,rfl,_,rfl,_,rfl,_,rfl,p,f,j,c,_,_,false,rfl,em,fU,h8,GO.lst I,OW,by omega,(λu n=>(zm u n).up GO.aZ),λl' dJ H9 s9 el EO vM=>?_⟩;exact⟨_,rfl,m,l',L,f,j,dJ,G,rfl,(VC.same s8).same s9,l,el,EO,vM,s9 _ _ (GO.lst ((R.trans s4) _ _ e2)),iY,λqH _=>q _⟩
  have zh:=s2.trans R
  have lC:c.length<=300:=by
   rw[b.1];exact hk.1.len l
  have OW:0<c.length:=by
   rw[b.1];cases ps with
   |nil=>have:=hk.1.sZ;simp at this
   |cons x xs=>simp
  refine⟨_,rfl,rfl,_,rfl,K0 rfl ?_⟩;obtain⟨qs,N,dY,M⟩:=Xw hk b;have hqsl:=N.1
  have zm:∀u∈c,Re true f j 300 S u:=λu n=>by
   obtain⟨i,hi⟩:=il.mp n;obtain⟨e,B,PD⟩:=N.get hi;exact⟨e,PD,M e (b5 B)⟩
  have hgQ:Yw f.length qs:=⟨λe B=>(Et (M e B)).1,by omega⟩;refine⟨_,rfl,_,rfl,p,_,rfl,.inl (Be.of I),λo nZ=>?_⟩;have D:A8 S (upd S o (.lst c)):=A8.upd nZ;have e5:(upd S o (.lst c)) o=some (.lst c):=A5;generalize upd S o (.lst c)=H5 at D e5⊢;refine⟨m,o,f,j,c,qs,rfl,v.same (zh.trans D),fU,h8,cD,e5,N.imp (λ_ _ y=>PQ.up (Aj.of D) y),hgQ,λr H6 s6 O=>?_⟩;have er:r=true:=O.mpr dY;subst er;have PU:=D.trans s6;have sF:=zh.trans PU;refine⟨_,rfl,(λd H'=>d=false/\Bh H6 H'),(λz=>by cases z),(λ_=>⟨_,rfl,_,rfl,_,rfl,m,p,L,f,j,c,G,rfl,v.same sF,l,PU _ _ I,by omega,(λu n=>((zm u n).up (Aj.of PU)).mono (by decide)),(R.trans PU) _ _ e2,iY,λZ C=>⟨_,rfl,rfl,C⟩⟩),λd Z hd=>?_⟩;obtain⟨rfl,C⟩:=hd;refine Dm rfl ?_;have GP:=(A8.aM PU).trans C;have VC:Ax Z m f j:=(v.same sF).aM C;refine⟨_,rfl,_,rfl,_,rfl,_,rfl,p,f,j,c,_,_,true,rfl,em,fU,h8,GP.lst I,OW,by omega,(λu n=>(zm u n).up GP.aZ),λl' dJ H9 s9 el EO vM=>?_⟩;exact⟨_,rfl,m,l',L,f,j,dJ,G,rfl,VC.same s9,l,el,EO,vM,s9 _ _ (GP.lst (R _ _ e2)),iY,λqH _=>q _⟩
end
structure Gd(K:W.Frag)(n:Str)(st:Stmt)(f:Addr):Prop where
 a:W.nsIn K mainGlobals n=some (some (.ref f))
 e:∃fd,Ea K n n st f fd
 k:W.keepIn K (.ref f)=true
structure fg(K:W.Frag)(x n:Str)(st:Stmt)(f:Addr):Prop where
 a:W.isFn K (.ref f)=true
 e:∃fd,Ea K x n st f fd
 k:W.keepIn K (.ref f)=true
theorem Gd.m0{K:W.Frag}{n:Str}{st:Stmt}{f:Addr}{h:oI}{i e:Option Addr}{g:Array (Option oI)}{kV b j d ct:oI}(a:W.nsIn K mainGlobals n=some (some (.ref f)))(l:K.lookup f=some ⟨h,i,.func (W.fnOf n n (Cb st) (Bu st) (Aa st) .none kV b j e d ct),g⟩)(c:W.codeIn K d n=true)(k:W.keepIn K (.ref f)=true):Gd K n st f:=⟨a,⟨_,U6 l c k⟩,k⟩
theorem fg.m1{K:W.Frag}{x n:Str}{st:Stmt}{f:Addr}{h:oI}{i e:Option Addr}{g:Array (Option oI)}{kV b j d ct:oI}(a:W.isFn K (.ref f)=true)(l:K.lookup f=some ⟨h,i,.func (W.fnOf x n (Cb st) (Bu st) (Aa st) .none kV b j e d ct),g⟩)(c:W.codeIn K d n=true)(k:W.keepIn K (.ref f)=true):fg K x n st f:=⟨a,⟨_,U6 l c k⟩,k⟩
local macro_rules | `(tactic| trivial)=>`(tactic| (intro _ _ _ _ _ _ us hl; first | (obtain e:=wx hl; subst e; rfl) | (obtain ⟨_,e⟩ := re hl; subst e; rfl) | (obtain ⟨_,_,e⟩ := rf hl; subst e; rfl) | (obtain ⟨_,_,_,e⟩ := j5 hl; subst e; rfl) | (obtain ⟨_,_,_,_,e⟩ := rg hl; subst e; rfl)))
theorem all_mk{l:W.OpenLaw}{w:px}{K:W.Frag}{h:Heap}{mg:Str->Option oI}{fa:Addr}(X:K.In h)(G:h.Ns mainGlobals mg)(hfa:mg "law"=some (.ref fa)){Z cH cN eR mS eS gE Y cZ dA eU gF gG gH mT gI mU dN eV gJ eX gK gL gM gN gO eY mV gP eZ fA fB fD gQ gR fE mW mX mY kW fG gS mZ gT gU fH nA gW gX r g j i m:Addr}{GQ pE GR pF GS pG GU vN:Option Addr}{GV GW GX GY:Array (Option oI)}{GZ pH pI pJ lH pK HA pL pM pN lI pO HB pP pQ pR lJ pS HC vP vQ vR pT vS:oI}{lK:Addr}{HD:oI}{HE:Option Addr}{HH:Nat}{HJ:Array (Option oI)}{lL:Addr}{HK:oI}{HL:Option Addr}{HM:Nat}{HN:Array (Option oI)}{lM:Addr}{HP:oI}{HQ:Option Addr}{HR:Nat}{HS:Array (Option oI)}
  (PV:W.nsIn K mainGlobals "hall_of"=some (some (.ref Z)))(PX:K.lookup Z=some ⟨GZ,GQ,.func (W.fnOf "hall_of" "hall_of" (Cb Gx) (Bu Gx) (Aa Gx) (.ref lK) pH pI pJ pE lH pK),GV⟩)(PY:W.codeIn K lH "hall_of"=true)(uF:W.keepIn K (.ref Z)=true)(BJ:K.lookup lK=some ⟨HD,HE,.seq #[Value.none] HH,HJ⟩)
  (vT:Gd K "beginning" bw cH)
  (vU:Gd K "may_lose" c8 cN)
  (vV:Gd K "is_listener" bj eR)
  (HU:Gd K "refuse_wrong_turn" pk mS)
  (vW:Gd K "left_behind" Wr eS)
  (vX:Gd K "quiet_behind" bg gE)
  (PZ:W.nsIn K mainGlobals "after"=some (some (.ref Y)))(QA:K.lookup Y=some ⟨HA,GR,.func (W.fnOf "after" "after" (Cb Gy) (Bu Gy) (Aa Gy) (.ref lL) pL pM pN pF lI pO),GW⟩)(QB:W.codeIn K lI "after"=true)(dR:W.keepIn K (.ref Y)=true)(BK:K.lookup lL=some ⟨HK,HL,.seq #[Value.bool false] HM,HN⟩)
  (vY:Gd K "all_behind" bp cZ)
  (QC:W.nsIn K mainGlobals "broken_ones"=some (some (.ref dA)))(QD:K.lookup dA=some ⟨HB,GS,.func (W.fnOf "broken_ones" "broken_ones" (Cb G3) (Bu G3) (Aa G3) (.ref lM) pP pQ pR pG lJ pS),GX⟩)(QE:W.codeIn K lJ "broken_ones"=true)(uG:W.keepIn K (.ref dA)=true)(BL:K.lookup lM=some ⟨HP,HQ,.seq #[Value.bool false] HR,HS⟩)
  (vZ:Gd K "quiet_values" bh eU)
  (wA:Gd K "how_many" c9 gF)
  (wB:Gd K "all_left" Wx gG)
  (wC:Gd K "standings" Wv gH)
  (HV:Gd K "calls_by_standing" pq mT)
  (wD:Gd K "ways_to" cg gI)
  (HW:Gd K "without_calls_left" pi mU)
  (wF:Gd K "ranks" Wy dN)
  (wG:Gd K "worth" ci eV)
  (wH:Gd K "call_worth" Wu gJ)
  (wI:Gd K "best_call" Ww eX)
  (wJ:Gd K "worst_answer" bi gK)
  (wK:Gd K "kept_paper" bq gL)
  (wL:Gd K "all_answers" Ws gM)
  (wM:Gd K "unbroken_behind" Sz gN)
  (wN:Gd K "broken_paper" Wq gO)
  (wO:Gd K "least_left" br eY)
  (HY:fg K "call" "PaperCaller.call" q5 mV)
  (wQ:fg K "call" "RowCaller.call" bd gP)
  (wR:fg K "loses" "RowRoad.loses" bf eZ)
  (wU:fg K "loses" "PaperRoad.loses" ba fA)
  (wV:Gd K "play" cj fB)
  (wW:Gd K "lets_kept" bz fD)
  (wX:Gd K "may_answer" bv gQ)
  (wY:Gd K "goes_down" c0 gR)
  (wZ:Gd K "lets_broken" Wt fE)
  (QF:fg K "__init__" "RowCaller.__init__" pj mW)
  (QG:fg K "__init__" "PaperCaller.__init__" ph mX)
  (QH:fg K "__init__" "RowRoad.__init__" qa mY)
  (QI:fg K "__init__" "PaperRoad.__init__" ir kW)
  (xA:Gd K "_law_cell_at" bm fG)
  (xB:Gd K "_law_hall" Ta gS)
  (HZ:Gd K "_law_spoiled_entry" pz mZ)
  (xC:Gd K "_law_spoiled" bn gT)
  (xD:Gd K "_law_kept_holds" Wp gU)
  (xE:Gd K "_law_rank" cf fH)
  (IA:Gd K "_law_broken_holds" iu nA)
  (xF:Gd K "_law_at_last" bo gW)
  (BM:W.nsIn K mainGlobals "law"=some (some (.ref gX)))(QJ:K.lookup gX=some ⟨HC,GU,.func (W.fnOf "law" "law" (Cb Ke) (Bu Ke) (Aa Ke) .none vP vQ vR vN pT vS),GY⟩)(QK:W.codeIn K pT "law"=true)(uL:W.keepIn K (.ref gX)=true)
  (sI:W.plainGet K r Str.empty=true)(sJ:W.hasDictIn K r=true)(sL:W.plainOver K r=true)(sM:W.findIn K (.ref r) "__setattr__"=some (some (.builtin "object.__setattr__")))(sO:W.makesIn K r=true)(sQ:W.keepIn K (.ref r)=true)(sR:W.findIn K (.ref r) "__init__"=some (some (.builtin "object.__init__")))(lN:W.plainGet K g Str.empty=true)(lO:W.hasDictIn K g=true)(lP:W.plainOver K g=true)(lQ:W.findIn K (.ref g) "__setattr__"=some (some (.builtin "object.__setattr__")))(lR:W.makesIn K g=true)(lS:W.keepIn K (.ref g)=true)(B:W.findIn K (.ref g) "__init__"=some (some (.ref mW)))(x:W.findIn K (.ref g) "call"=some (some (.ref gP)))(fW:W.findIn K (.ref g) "row"=some none)(dZ:W.findIn K (.ref g) "asked"=some none)(jJ:W.plainGet K j Str.empty=true)(jK:W.hasDictIn K j=true)(jL:W.plainOver K j=true)(jM:W.findIn K (.ref j) "__setattr__"=some (some (.builtin "object.__setattr__")))(jN:W.makesIn K j=true)(jO:W.keepIn K (.ref j)=true)(A:W.findIn K (.ref j) "__init__"=some (some (.ref mX)))(D:W.findIn K (.ref j) "call"=some (some (.ref mV)))(dG:W.findIn K (.ref j) "paper"=some none)(pU:W.plainGet K i Str.empty=true)(pV:W.hasDictIn K i=true)(pW:W.plainOver K i=true)(pX:W.findIn K (.ref i) "__setattr__"=some (some (.builtin "object.__setattr__")))(pY:W.makesIn K i=true)(pZ:W.keepIn K (.ref i)=true)(E:W.findIn K (.ref i) "__init__"=some (some (.ref mY)))(y:W.findIn K (.ref i) "loses"=some (some (.ref eZ)))(jP:W.findIn K (.ref i) "row"=some none)(fX:W.findIn K (.ref i) "asked"=some none)(lU:W.plainGet K m Str.empty=true)(lV:W.hasDictIn K m=true)(lW:W.plainOver K m=true)(lX:W.findIn K (.ref m) "__setattr__"=some (some (.builtin "object.__setattr__")))(lY:W.makesIn K m=true)(lZ:W.keepIn K (.ref m)=true)(C:W.findIn K (.ref m) "__init__"=some (some (.ref kW)))(u:W.findIn K (.ref m) "loses"=some (some (.ref fA)))(eC:W.findIn K (.ref m) "paper"=some none)
  {fN:Nat}(fY:W.nsIn K mainGlobals "MOST_LISTENERS"=some (some (.int 8 fN))){fO:Nat}(fZ:W.nsIn K mainGlobals "MOST_STANDINGS"=some (some (.int 3000 fO)))(QL:W.nsIn K mainGlobals "min"=some none)(zw:W.nsIn K mainGlobals "tuple"=some none)(QM:W.nsIn K mainGlobals "len"=some none)(QN:W.nsIn K mainGlobals "max"=some none)(nL:W.nsIn K mainGlobals "enumerate"=some none)(zx:W.nsIn K mainGlobals "range"=some none)(xG:W.nsIn K mainGlobals "sorted"=some none)(IB:W.nsIn K mainGlobals "dict"=some none)(IC:W.nsIn K mainGlobals "list"=some none)(f:W.nsIn K mainGlobals "Caller"=some (some (.ref r)))(c:W.nsIn K mainGlobals "RowCaller"=some (some (.ref g)))(a:W.nsIn K mainGlobals "PaperCaller"=some (some (.ref j)))(d:W.nsIn K mainGlobals "RowRoad"=some (some (.ref i)))(b:W.nsIn K mainGlobals "PaperRoad"=some (some (.ref m))):
  ∃fd:pa,(∀(s:oF) (v:oI),BindsTo s fd ⟨[v],[]⟩ [("script",v)])/\∀base:Heap,K.In base->base.Ns mainGlobals mg->Bg l.prog w K mg base Dr 9 fa fd ["script"] (R6 K):=by
 have e:=hfa.symm.trans (ml X G BM);cases e;have T:yx K mg ⟨Z,cH,cN,eR,mS,eS,gE,Y,cZ,dA,eU,gF,gG,gH,mT,gI,mU,dN,eV,gJ,eX,gK,gL,gM,gN,gO,eY,mV,gP,eZ,fA,fB,fD,gQ,gR,fE,mW,mX,mY,kW,fG,gS,mZ,gT,gU,fH,nA,gW,fa⟩ r g j i m:=⟨ml X G PV,uF,ml X G vT.a,vT.k,ml X G vU.a,vU.k,ml X G vV.a,vV.k,ml X G HU.a,HU.k,ml X G vW.a,vW.k,ml X G vX.a,vX.k,ml X G PZ,dR,ml X G vY.a,vY.k,ml X G QC,uG,ml X G vZ.a,vZ.k,ml X G wA.a,wA.k,ml X G wB.a,wB.k,ml X G wC.a,wC.k,ml X G HV.a,HV.k,ml X G wD.a,wD.k,ml X G HW.a,HW.k,ml X G wF.a,wF.k,ml X G wG.a,wG.k,ml X G wH.a,wH.k,ml X G wI.a,wI.k,ml X G wJ.a,wJ.k,ml X G wK.a,wK.k,ml X G wL.a,wL.k,ml X G wM.a,wM.k,ml X G wN.a,wN.k,ml X G wO.a,wO.k,ml X G wV.a,wV.k,ml X G wW.a,wW.k,ml X G wX.a,wX.k,ml X G wY.a,wY.k,ml X G wZ.a,wZ.k,ml X G xA.a,xA.k,ml X G xB.a,xB.k,ml X G HZ.a,HZ.k,ml X G xC.a,xC.k,ml X G xD.a,xD.k,ml X G xE.a,xE.k,ml X G IA.a,IA.k,ml X G xF.a,xF.k,ml X G BM,uL,mx X G QL,mx X G zw,mx X G QM,mx X G QN,mx X G nL,mx X G zx,mx X G xG,mx X G IB,mx X G IC,⟨_,ml X G fY⟩,⟨_,ml X G fZ⟩,ml X G f,ml X G c,ml X G a,ml X G d,ml X G b,⟨sI,sJ,sL,sM⟩,⟨sO,sR,sQ⟩,⟨lN,lO,lP,lQ⟩,⟨lR,B,QF.a,lS⟩,⟨x,wQ.a,wQ.k⟩,fW,dZ,⟨jJ,jK,jL,jM⟩,⟨jN,A,QG.a,jO⟩,⟨D,HY.a,HY.k⟩,dG,⟨pU,pV,pW,pX⟩,⟨pY,E,QH.a,pZ⟩,⟨y,wR.a,wR.k⟩,jP,fX,⟨lU,lV,lW,lX⟩,⟨lY,C,QI.a,lZ⟩,⟨u,wU.a,wU.k⟩,eC⟩;have QO:Rg K "hall_of" "hall_of" Gx Z _:=⟨⟨_,_,_,_,_,_,_,_,_,_,rfl,PX,PY⟩⟩;obtain⟨_,BN⟩:=vT.e;obtain⟨_,BO⟩:=vU.e;obtain⟨_,BP⟩:=vV.e;obtain⟨_,QP⟩:=HU.e;obtain⟨_,BQ⟩:=vW.e;obtain⟨_,BR⟩:=vX.e;have QQ:Rg K "after" "after" Gy Y _:=⟨⟨_,_,_,_,_,_,_,_,_,_,rfl,QA,QB⟩⟩;obtain⟨_,BS⟩:=vY.e;have QR:Rg K "broken_ones" "broken_ones" G3 dA _:=⟨⟨_,_,_,_,_,_,_,_,_,_,rfl,QD,QE⟩⟩;obtain⟨_,BU⟩:=vZ.e;obtain⟨_,BV⟩:=wA.e;obtain⟨_,BW⟩:=wB.e;obtain⟨_,BX⟩:=wC.e;obtain⟨_,QS⟩:=HV.e;obtain⟨_,BZ⟩:=wD.e;obtain⟨_,QT⟩:=HW.e;obtain⟨_,CA⟩:=wF.e;obtain⟨_,CB⟩:=wG.e;obtain⟨_,CC⟩:=wH.e;obtain⟨_,CD⟩:=wI.e;obtain⟨_,CF⟩:=wJ.e;obtain⟨_,CG⟩:=wK.e;obtain⟨_,CH⟩:=wL.e;obtain⟨_,CI⟩:=wM.e;obtain⟨_,CJ⟩:=wN.e;obtain⟨_,CK⟩:=wO.e;obtain⟨_,QU⟩:=HY.e;obtain⟨_,CL⟩:=wQ.e;obtain⟨_,CM⟩:=wR.e;obtain⟨_,CN⟩:=wU.e;obtain⟨_,CO⟩:=wV.e;obtain⟨_,CP⟩:=wW.e;obtain⟨_,CQ⟩:=wX.e;obtain⟨_,CS⟩:=wY.e;obtain⟨_,CT⟩:=wZ.e;obtain⟨_,QV⟩:=QF.e;obtain⟨_,QW⟩:=QG.e;obtain⟨_,QX⟩:=QH.e;obtain⟨_,QY⟩:=QI.e;obtain⟨_,CU⟩:=xA.e;obtain⟨_,CV⟩:=xB.e;obtain⟨_,QZ⟩:=HZ.e;obtain⟨_,CW⟩:=xC.e;obtain⟨_,CY⟩:=xD.e;obtain⟨_,CZ⟩:=xE.e;obtain⟨_,RA⟩:=IA.e;obtain⟨_,DA⟩:=xF.e;have RB:=U6 (st:=Ke) QJ QK uL
 have RC:D1 K (W.fnOf "hall_of" "hall_of" (Cb Gx) (Bu Gx) (Aa Gx) (.ref lK) pH pI pJ pE lH pK) ["waits","calm"] []:=λs q o p=>by
  have n:q.length=2:=by simpa using p
  obtain⟨_,_,rfl⟩:=rf n;exact BindsTo.of_defaults rfl (o _ _ BJ) rfl rfl rfl
 have iH:D1 K (W.fnOf "hall_of" "hall_of" (Cb Gx) (Bu Gx) (Aa Gx) (.ref lK) pH pI pJ pE lH pK) ["waits","calm"] [Value.none]:=λs q o p=>by
  have n:q.length=1:=by simpa using p
  obtain⟨_,rfl⟩:=re n;exact BindsTo.of_defaults rfl (o _ _ BJ) rfl rfl rfl
 have RD:=BN.binds (ps:=["hall"]) (by trivial);have RE:=BO.binds (ps:=["hall","standing"]) (by trivial);have RF:=BP.binds (ps:=["hall","who"]) (by trivial);have O:=QP.binds (ps:=["hall","standing","who","lost"]) (by trivial);have RG:=BQ.binds (ps:=["hall","standing","who","lost"]) (by trivial);have RH:=BR.binds (ps:=["hall","standing","lost"]) (by trivial)
 have RI:D1 K (W.fnOf "after" "after" (Cb Gy) (Bu Gy) (Aa Gy) (.ref lL) pL pM pN pF lI pO) ["hall","standing","who","lost"] []:=λs q o p=>by
  have n:q.length=4:=by simpa using p
  obtain⟨_,_,_,_,rfl⟩:=rg n;exact BindsTo.of_defaults rfl (o _ _ BK) rfl rfl rfl
 have F:D1 K (W.fnOf "after" "after" (Cb Gy) (Bu Gy) (Aa Gy) (.ref lL) pL pM pN pF lI pO) ["hall","standing","who","lost"] [Value.bool false]:=λs q o p=>by
  have n:q.length=3:=by simpa using p
  obtain⟨_,_,_,rfl⟩:=j5 n;exact BindsTo.of_defaults rfl (o _ _ BK) rfl rfl rfl
 have RJ:=BS.binds (ps:=["hall","standing","who"]) (by trivial)
 have RK:D1 K (W.fnOf "broken_ones" "broken_ones" (Cb G3) (Bu G3) (Aa G3) (.ref lM) pP pQ pR pG lJ pS) ["hall","standing","who","lost"] []:=λs q o p=>by
  have n:q.length=4:=by simpa using p
  obtain⟨_,_,_,_,rfl⟩:=rg n;exact BindsTo.of_defaults rfl (o _ _ BL) rfl rfl rfl
 have cS:D1 K (W.fnOf "broken_ones" "broken_ones" (Cb G3) (Bu G3) (Aa G3) (.ref lM) pP pQ pR pG lJ pS) ["hall","standing","who","lost"] [Value.bool false]:=λs q o p=>by
  have n:q.length=3:=by simpa using p
  obtain⟨_,_,_,rfl⟩:=j5 n;exact BindsTo.of_defaults rfl (o _ _ BL) rfl rfl rfl
 have RL:=BU.binds (ps:=["hall"]) (by trivial);have RM:=BV.binds (ps:=["hall"]) (by trivial);have RN:=BW.binds (ps:=["waits"]) (by trivial);have RO:=BX.binds (ps:=["hall"]) (by trivial);have P:=QS.binds (ps:=["hall"]) (by trivial);have RP:=BZ.binds (ps:=["pending"]) (by trivial);have L:=QT.binds (ps:=["pending","ways","ranked"]) (by trivial);have RQ:=CA.binds (ps:=["hall"]) (by trivial);have RS:=CB.binds (ps:=["table","behind"]) (by trivial);have RT:=CC.binds (ps:=["hall","table","standing","who"]) (by trivial);have RU:=CD.binds (ps:=["hall","table","standing"]) (by trivial);have RV:=CF.binds (ps:=["hall","table","standing","who"]) (by trivial);have RX:=CG.binds (ps:=["hall"]) (by trivial);have RY:=CH.binds (ps:=["hall","table","standing"]) (by trivial);have RZ:=CI.binds (ps:=["hall","standing","answers"]) (by trivial);have SA:=CJ.binds (ps:=["hall"]) (by trivial);have SD:=CK.binds (ps:=["standing"]) (by trivial);have R:=QU.binds (ps:=["self","hall","standing"]) (by trivial);have SE:=CL.binds (ps:=["self","hall","standing"]) (by trivial);have SF:=CM.binds (ps:=["self","hall","standing","who"]) (by trivial);have SG:=CN.binds (ps:=["self","hall","standing","who"]) (by trivial);have SH:=CO.binds (ps:=["hall","caller","road","turns"]) (by trivial);have SI:=CP.binds (ps:=["hall","paper"]) (by trivial);have SJ:=CQ.binds (ps:=["hall","standing","answers"]) (by trivial);have SK:=CS.binds (ps:=["hall","listed","standing","answers"]) (by trivial);have SM:=CT.binds (ps:=["hall","paper"]) (by trivial);have M:=QV.binds (ps:=["self","row"]) (by trivial);have J:=QW.binds (ps:=["self","paper"]) (by trivial);have S:=QX.binds (ps:=["self","row"]) (by trivial);have N:=QY.binds (ps:=["self","paper"]) (by trivial);have SN:=CU.binds (ps:=["script","k"]) (by trivial);have SO:=CV.binds (ps:=["script"]) (by trivial);have Q:=QZ.binds (ps:=["entry","many","cell"]) (by trivial);have SQ:=CW.binds (ps:=["paper","many","cell"]) (by trivial);have SR:=CY.binds (ps:=["hall","paper","cells"]) (by trivial);have SS:=CZ.binds (ps:=["hall","paper"]) (by trivial);have U:=RA.binds (ps:=["hall","paper","cells"]) (by trivial);have SU:=DA.binds (ps:=["hall","paper"]) (by trivial);refine⟨W.fnOf "law" "law" (Cb Ke) (Bu Ke) (Aa Ke) .none vP vQ vR vN pT vS,λs v=>.of_eq rfl,λbase _ _=>?_⟩;have rD:=Gk.mk (nz (P:=l.prog) (w:=w) (base:=base) T QO ) RC;have z:=Gk.mk (nk (P:=l.prog) (w:=w) (base:=base) T BN ) RD;have I:=Gk.mk (nt (P:=l.prog) (w:=w) (base:=base) T BO ) RE;have hU:=Gk.mk (mr (P:=l.prog) (w:=w) (base:=base) T BP ) RF;have yN:=Gk.mk (uj (P:=l.prog) (w:=w) (base:=base) T QP hU I) O;have hV:=Gk.mk (ms (P:=l.prog) (w:=w) (base:=base) T BQ yN) RG;have qN:=Gk.mk (mm (P:=l.prog) (w:=w) (base:=base) T BR ) RH;have H:=Gk.mk (o5 (P:=l.prog) (w:=w) (base:=base) T QQ hV qN) RI;have bU:=Gk.mk (nc (P:=l.prog) (w:=w) (base:=base) T BS H F I) RJ;have rA:=Gk.mk (mv (P:=l.prog) (w:=w) (base:=base) T QR hV) RK;have iA:=Gk.mk (mn (P:=l.prog) (w:=w) (base:=base) T BU ) RL;have qQ:=Gk.mk (nu (P:=l.prog) (w:=w) (base:=base) T BV iA) RM;have qR:=Gk.mk (nv (P:=l.prog) (w:=w) (base:=base) T BW ) RN;have qS:=Gk.mk (nl (P:=l.prog) (w:=w) (base:=base) T BX qQ qR iA) RO;have yX:=Gk.mk (uk (P:=l.prog) (w:=w) (base:=base) T QS qS bU) P;have qT:=Gk.mk (o0 (P:=l.prog) (w:=w) (base:=base) T BZ ) RP;have yY:=Gk.mk (ug (P:=l.prog) (w:=w) (base:=base) T QT ) L;have cR:=Gk.mk (o6 (P:=l.prog) (w:=w) (base:=base) T CA yX qT yY) RQ;have dU:=Gk.mk (o7 (P:=l.prog) (w:=w) (base:=base) T CB ) RS;have qU:=Gk.mk (ng (P:=l.prog) (w:=w) (base:=base) T CC dU bU) RT;have iB:=Gk.mk (nn (P:=l.prog) (w:=w) (base:=base) T CD qU) RU;have qW:=Gk.mk (mo (P:=l.prog) (w:=w) (base:=base) T CF dU H F I) RV;have rG:=Gk.mk (nh (P:=l.prog) (w:=w) (base:=base) T CG cR z iB bU) RX;have qX:=Gk.mk (mw (P:=l.prog) (w:=w) (base:=base) T CH qW) RY;have qY:=Gk.mk (md (P:=l.prog) (w:=w) (base:=base) T CI H F) RZ;have rH:=Gk.mk (mq (P:=l.prog) (w:=w) (base:=base) T CJ cR z qX qY) SA;have iC:=Gk.mk (ni (P:=l.prog) (w:=w) (base:=base) T CK ) SD;have zi:=Gk.mk (um (P:=l.prog) (w:=w) (base:=base) T QU iC) R;have qZ:=Gk.mk (mh (P:=l.prog) (w:=w) (base:=base) T CL iC) SE;have iE:=Gk.mk (mj (P:=l.prog) (w:=w) (base:=base) T CM I) SF;have iG:=Gk.mk (mf (P:=l.prog) (w:=w) (base:=base) T CN I) SG;have iJ:=Gk.mk (o8 (P:=l.prog) (w:=w) (base:=base) T CO z zi qZ iE iG rA cS H F) SH;have iI:=Gk.mk (np (P:=l.prog) (w:=w) (base:=base) T CP z hU bU) SI;have rB:=Gk.mk (nj (P:=l.prog) (w:=w) (base:=base) T CQ I) SJ;have rC:=Gk.mk (nq (P:=l.prog) (w:=w) (base:=base) T CS H F) SK;have iK:=Gk.mk (mz (P:=l.prog) (w:=w) (base:=base) T CT z rB rC) SM;have zv:=Gk.mk (uh (P:=l.prog) (w:=w) (base:=base) T QV ) M;have zp:=Gk.mk (uf (P:=l.prog) (w:=w) (base:=base) T QW ) J;have zq:=Gk.mk (uo (P:=l.prog) (w:=w) (base:=base) T QX ) S;have nK:=Gk.mk (ui (P:=l.prog) (w:=w) (base:=base) T QY ) N;have bV:=Gk.mk (n0 (P:=l.prog) (w:=w) (base:=base) T CU ) SN;have rF:=Gk.mk (nw (P:=l.prog) (w:=w) (base:=base) T CV bV rD iH) SO;have zo:=Gk.mk (ul (P:=l.prog) (w:=w) (base:=base) T QZ ) Q;have kN:=Gk.mk (n8 (P:=l.prog) (w:=w) (base:=base) T CW zo) SQ;have kM:=Gk.mk (mi (P:=l.prog) (w:=w) (base:=base) T CY iI iJ zp zq) SR;have iL:=Gk.mk (ny (P:=l.prog) (w:=w) (base:=base) T CZ z) SS;have sH:=Gk.mk (uq (P:=l.prog) (w:=w) (base:=base) T RA iK iL iJ zv nK) U;have rJ:=Gk.mk (n9 (P:=l.prog) (w:=w) (base:=base) T DA cR nK z iL iB H F iE iG) SU;exact ma T RB rF bV rG iI kM kN rH iK sH rJ
theorem walk{l:W.OpenLaw}{q:oT}{b:List Str}{j:(Str->Option oI)->Heap->Prop}{e:px->Heap->Prop}{d:DefRec}{K:Params->W.Frag}(r:l.most=some 63)(i:d.params.defaults=[])
  (n:∀(w:px) (h:Heap),e w h->(K w.params).In h)
  (F:∀(w:px) (c:Str->Option oI) (fa:Addr) (h:Heap),(K w.params).In h->h.Ns mainGlobals c->c d.name=some (.ref fa)->
   ∃g:pa,(∀(s:oF) (u:oI),BindsTo s g ⟨[u],[]⟩ [("script",u)])/\∀base:Heap,(K w.params).In base->base.Ns mainGlobals c->Bg l.prog w (K w.params) c base Dr 9 fa g ["script"] (R6 (K w.params))):
  W.WalkO q b j e l.row.toRowW d [] (λf vs=>PySem.call f vs):=
 L2.tT (n:=63) (k:=9) (x:="script") (CX:=λ_=>Dr) (sp:=λw=>R6 (K w.params)) r (by decide) i ⟨rfl,by decide,by decide⟩ n F (λ_ _ a v p o _ m=>⟨a,v,rfl,m,p,o,λ_=>rfl⟩) λ_ _ _ _ _ z=>z
end Law
namespace PySem.W.Fast
theorem tw5990930171544475221:True:=trivial
theorem tw13034392511374779226:True:=trivial
theorem tw1452821469791461279:True:=trivial
theorem tw8083768503912791902:True:=trivial
theorem tw14078496885492935302:True:=trivial
theorem tw1070234810709965906:True:=trivial
theorem tw2760176309887885513:True:=trivial
theorem tw3474107795316744418:True:=trivial
theorem tw9742758279401895423:True:=trivial
theorem tw6556260978822845999:True:=trivial
theorem tw699507923566530486:True:=trivial
theorem tw6309003625603159364:True:=trivial
theorem tw343157960544161155:True:=trivial
theorem tw6347760600354621777:True:=trivial
theorem tw5844165649029359221:True:=trivial
theorem tw13716233883207832129:True:=trivial
theorem tw5480862425774509339:True:=trivial
theorem tw5080173880779842818:True:=trivial
theorem tw17846378572668837260:True:=trivial
theorem tw1495032753589496307:True:=trivial
theorem tw13657166693865342279:True:=trivial
theorem tw9201313329472832255:True:=trivial
theorem tw17117683964456237055:True:=trivial
theorem tw12016227998374048527:True:=trivial
theorem tw4411958574054211200:True:=trivial
theorem tw16540124685240333288:True:=trivial
theorem tw4820465600674700359:True:=trivial
theorem tw4001763624302691079:True:=trivial
theorem tw15367288377478971874:True:=trivial
theorem tw16626436324544109966:True:=trivial
theorem tw17476401037658048631:True:=trivial
theorem tw15405723891107103837:True:=trivial
theorem tw10263243351874250179:True:=trivial
theorem tw12862191413640513330:True:=trivial
theorem tw14835257759367908849:True:=trivial
theorem tw9348884625963611550:True:=trivial
theorem tw15411807998831104532:True:=trivial
theorem tw2997033562509213246:True:=trivial
theorem tw18435296082088551324:True:=trivial
theorem tw11287908601139534120:True:=trivial
theorem tw15488858297474451944:True:=trivial
theorem tw725321350543086100:True:=trivial
theorem tw16328635421014463528:True:=trivial
theorem tw12088233142697432997:True:=trivial
theorem tw1477673526632591013:True:=trivial
theorem tw16910261448791225718:True:=trivial
theorem tw5932068063786745846:True:=trivial
theorem tw7146264287531533135:True:=trivial
theorem tw512077213553830286:True:=trivial
theorem tw115888871305510207:True:=trivial
theorem tw5310137930426404150:True:=trivial
theorem tw11772702422688784925:True:=trivial
theorem tw8493637098647124649:True:=trivial
theorem tw6917693766926272368:True:=trivial
theorem tw12861596468603212082:True:=trivial
theorem tw16491549056586100659:True:=trivial
theorem tw10905530968991577868:True:=trivial
theorem tw7070041591012216079:True:=trivial
theorem tw6746102267030092560:True:=trivial
theorem tw16144733839244662231:True:=trivial
theorem tw4604647081031813005:True:=trivial
theorem tw12459286218829812291:True:=trivial
theorem tw2076288770333877264:True:=trivial
theorem tw9329485513930224592:True:=trivial
theorem tw14746121424449391348:True:=trivial
theorem tw3612024462443028685:True:=trivial
theorem tw16367364116395956666:True:=trivial
theorem tw10876995122484392947:True:=trivial
theorem tw10596057694705799049:True:=trivial
theorem tw1077419783096151247:True:=trivial
theorem tw149655046545802206:True:=trivial
theorem tw12068044923923256260:True:=trivial
theorem tw16126948666108499331:True:=trivial
theorem tw1491986067081041129:True:=trivial
theorem tw12013974130462073351:True:=trivial
theorem tw17851599271822952935:True:=trivial
theorem tw1215912601486065550:True:=trivial
theorem tw7011747076615999712:True:=trivial
theorem tw16791860111797130426:True:=trivial
theorem tw2485184333816348223:True:=trivial
theorem tw10186439940316433135:True:=trivial
theorem tw2913252481350925764:True:=trivial
theorem tw16591778591650195403:True:=trivial
theorem tw4871360867134151758:True:=trivial
theorem tw15103535162144462478:True:=trivial
theorem tw9176571474032654826:True:=trivial
theorem tw3956786379903481302:True:=trivial
theorem tw149995706141467371:True:=trivial
theorem tw17719515381527517024:True:=trivial
theorem tw13276502564553883884:True:=trivial
theorem tw16743689246383200043:True:=trivial
theorem tw429580055510748009:True:=trivial
theorem tw2161454106187198854:True:=trivial
theorem tw16903513713445972959:True:=trivial
theorem tw15111745714793831307:True:=trivial
theorem tw4495307700209325494:True:=trivial
theorem tw3510430319471226883:True:=trivial
theorem tw8808442267242494312:True:=trivial
theorem tw14650090415241303971:True:=trivial
theorem tw1652860397398313751:True:=trivial
theorem tw8942320435827393213:True:=trivial
theorem tw15520302424943650423:True:=trivial
theorem tw3386699952390520944:True:=trivial
theorem tw6760604906754890228:True:=trivial
theorem tw12249334265303293833:True:=trivial
theorem tw13772408167983124233:True:=trivial
theorem tw2461077659781839857:True:=trivial
theorem tw16506297415095143247:True:=trivial
theorem tw375656845607995655:True:=trivial
theorem tw16644059291132824030:True:=trivial
theorem tw10195677467494516789:True:=trivial
theorem tw11510808533482852201:True:=trivial
theorem tw16383364130878771057:True:=trivial
theorem tw538889519068487777:True:=trivial
theorem tw10177021700828618595:True:=trivial
theorem tw2636290685131596262:True:=trivial
theorem tw14972800373128928448:True:=trivial
theorem tw8843164204236727773:True:=trivial
theorem tw94972357557088970:True:=trivial
theorem tw3295673986938421037:True:=trivial
theorem tw1481632382733759940:True:=trivial
theorem tw11483709762630930674:True:=trivial
theorem tw16434113530322706841:True:=trivial
theorem tw5716289402177857177:True:=trivial
theorem tw15112416242912517484:True:=trivial
theorem tw204721927071675336:True:=trivial
theorem tw4050958566654951249:True:=trivial
theorem tw7844683471545879172:True:=trivial
theorem tw2281866537553629432:True:=trivial
theorem tw7247256528073268997:True:=trivial
theorem tw17887049026345832434:True:=trivial
theorem tw10378815073509250270:True:=trivial
theorem tw9801785333309247603:True:=trivial
theorem tw10642582204439093257:True:=trivial
theorem tw11171281416674530538:True:=trivial
theorem tw2571087683776400122:True:=trivial
theorem tw2968832494120674794:True:=trivial
theorem tw6401630111914799428:True:=trivial
theorem tw5796785042015954718:True:=trivial
end PySem.W.Fast
open PySem PySem.W PyProof.Rows
set_option maxRecDepth 100000 in
set_option maxHeartbeats 0 in
theorem PySem.Challenge.cw_roundcall_k99_whole_papers_play_holds : PySem.Challenge.rw_roundcall_k99_whole_papers_play.Holds := by
 w_on; o_law; k_head; (case hw=>w_witness2)
 k_fill
 refine Law.walk (l:=PySem.Challenge.rw_roundcall_k99_whole_papers_play) rfl rfl (fun w h Y=>PySem.W.kIn_of Y) ?F
 case F =>
  intro w mg fa h KX G hmg
  refine' Law.all_mk KX G hmg ?_ ?_ ?_ ?_ ?_ (.m0 ?_ ?_ ?_ ?_) (.m0 ?_ ?_ ?_ ?_) (.m0 ?_ ?_ ?_ ?_) (.m0 ?_ ?_ ?_ ?_) (.m0 ?_ ?_ ?_ ?_) (.m0 ?_ ?_ ?_ ?_) ?_ ?_ ?_ ?_ ?_ (.m0 ?_ ?_ ?_ ?_) ?_ ?_ ?_ ?_ ?_ (.m0 ?_ ?_ ?_ ?_) (.m0 ?_ ?_ ?_ ?_) (.m0 ?_ ?_ ?_ ?_) (.m0 ?_ ?_ ?_ ?_) (.m0 ?_ ?_ ?_ ?_) (.m0 ?_ ?_ ?_ ?_) (.m0 ?_ ?_ ?_ ?_) (.m0 ?_ ?_ ?_ ?_) (.m0 ?_ ?_ ?_ ?_) (.m0 ?_ ?_ ?_ ?_) (.m0 ?_ ?_ ?_ ?_) (.m0 ?_ ?_ ?_ ?_) (.m0 ?_ ?_ ?_ ?_) (.m0 ?_ ?_ ?_ ?_) (.m0 ?_ ?_ ?_ ?_) (.m0 ?_ ?_ ?_ ?_) (.m0 ?_ ?_ ?_ ?_) (.m1 ?_ ?_ ?_ ?_) (.m1 ?_ ?_ ?_ ?_) (.m1 ?_ ?_ ?_ ?_) (.m1 ?_ ?_ ?_ ?_) (.m0 ?_ ?_ ?_ ?_) (.m0 ?_ ?_ ?_ ?_) (.m0 ?_ ?_ ?_ ?_) (.m0 ?_ ?_ ?_ ?_) (.m0 ?_ ?_ ?_ ?_) (.m1 ?_ ?_ ?_ ?_) (.m1 ?_ ?_ ?_ ?_) (.m1 ?_ ?_ ?_ ?_) (.m1 ?_ ?_ ?_ ?_) (.m0 ?_ ?_ ?_ ?_) (.m0 ?_ ?_ ?_ ?_) (.m0 ?_ ?_ ?_ ?_) (.m0 ?_ ?_ ?_ ?_) (.m0 ?_ ?_ ?_ ?_) (.m0 ?_ ?_ ?_ ?_) (.m0 ?_ ?_ ?_ ?_) (.m0 ?_ ?_ ?_ ?_) ?_ ?_ ?_ ?_ ?_ ?_ ?_ ?_ ?_ ?_ ?_ ?_ ?_ ?_ ?_ ?_ ?_ ?fm_x2 ?fm_x12 ?_ ?_ ?_ ?_ ?_ ?_ ?_ ?_ ?fm_x0 ?fm_x7 ?_ ?_ ?_ ?_ ?_ ?_ ?_ ?fm_x8 ?fm_x14 ?_ ?_ ?_ ?_ ?_ ?_ ?_ ?_ ?fm_x3 ?fm_x11 ?_ ?_ ?_ ?_ ?_ ?_ ?_ ?_ ?_ ?_ ?_ ?_ ?ac_Caller ?ac_RowCaller ?ac_PaperCaller ?ac_RowRoad ?ac_PaperRoad
  (case ac_Caller=>k_is)
  (case ac_RowCaller=>k_is)
  (case ac_PaperCaller=>k_is)
  (case ac_RowRoad=>k_is)
  (case ac_PaperRoad=>k_is)
  (case fm_x2=>k_is)
  (case fm_x12=>k_is)
  (case fm_x0=>k_is)
  (case fm_x7=>k_is)
  (case fm_x8=>k_is)
  (case fm_x14=>k_is)
  (case fm_x3=>k_is)
  (case fm_x11=>k_is)
  all_goals try k_is
  all_goals try first|kit_is|k_exc|rfl|kernel_rfl
