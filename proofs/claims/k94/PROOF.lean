import PyProof.Rows.All
import Wide.All
import OpenK.AllK
import Wide.FinOn
import Lean
import PyProof.EqAt
import PyProof.EqKinds
import PyProof.TupleCall
import PySem.Challenge.RW_roundcall_k94_join_and_leave
/-! THE HAND LAYER, for ints, bools, texts, own classes, LISTS and tuples (index, slices, in, append, pop ..), calls, loops. Paste it whole ahead of your own text; what your proof does not reach may be deleted. -/
set_option Elab.async false
set_option linter.all false
set_option maxRecDepth 100000
set_option maxHeartbeats 4000000
set_option bootstrap.genMatcherCode false
namespace L2
local macro_rules | `(tactic| omega) => `(tactic| lia)
open PySem PySem.Spec PyProof.Rows
abbrev ag:=@wpAny_bind
abbrev aN:=@wpAny_pure
abbrev b0:=@List.getElem?_eq_some_iff
abbrev cb:=@Heap.get?_push_of_some
abbrev cI:=@List.mem_of_getElem?
abbrev cX:=@Heap.get?_push_size
abbrev c4:=@List.mem_cons_self
abbrev de:=@Nat.le_refl
abbrev dr:=@Heap.lt_size
abbrev dI:=@Option.map_eq_some_iff
abbrev d0:=@List.mem_cons_of_mem
abbrev d3:=@List.getElem?_eq_getElem
abbrev ea:=@Nat.le_trans
abbrev en:=@Option.some.inj
abbrev eH:=@List.mem_cons
abbrev eI:=@Heap.get?_update_other
abbrev fe:=@Nat.ne_of_lt
abbrev ft:=@List.mem_map
abbrev fx:=@Bool.false_ne_true
abbrev fy:=@Nat.lt_of_lt_of_le
abbrev fC:=@List.mem_append
abbrev fD:=@wpAny_holding
abbrev gd:=@wpAny_seqItems
abbrev gv:=@List.mem_append_right
abbrev gy:=@List.mem_append_left
abbrev gC:=@List.mem_iff_getElem?
abbrev gU:=@Heap.get?_update_self
abbrev gW:=@wpAny_newObj_type
abbrev g6:=@wpAny_call_entry
abbrev il:=@Heap.SameBut.update
abbrev iv:=@wpAny_mono
abbrev iC:=@wpAny_truthy_bool
abbrev iE:=@Nat.lt_or_ge
abbrev iT:=@List.mem_singleton
abbrev i0:=@Nat.add_le_add_left
abbrev i3:=@Int.mul_le_mul_of_nonneg_left
abbrev jA:=@Array.getElem?_eq_some_iff
abbrev jG:=@PassesOwn.never
abbrev jJ:=@decide_eq_false
abbrev jN:=@Nat.zero_le
abbrev jT:=@wpAny_isInstance
abbrev la:=@wpAny_rule
abbrev ll:=@plainId_quiet
abbrev l0:=@Nat.not_lt_zero
abbrev l7:=@Nat.le_of_lt
abbrev me:=@Nat.lt_of_le_of_lt
abbrev ml:=@List.getElem_mem
abbrev mr:=@wpAny_callSpecial?_slot
abbrev mu:=@wpAny_attempt
abbrev mv:=@Int.le_trans
abbrev mx:=@List.mem_range
abbrev mD:=Value->Shared->Prop
abbrev mY:=List Int
abbrev nf:=Option Int
abbrev nB:=Shared
abbrev nL:=Value
abbrev nP:=Program
abbrev nU:=Around
abbrev nZ:=FuncData
abbrev n4:=World
abbrev oa:=PyData
abbrev Ex:=Sum Int Str
set_option hygiene false
local macro_rules (kind:=«term{_}») | `({$a:term,$b:term,$c,*})=>`(⟨$a,$b,$c,*⟩) | `({$a:term,$b:term})=>`(⟨$a,$b⟩)
local macro_rules | `(#[0])=>`(model X.prog X.w)
local macro_rules | `(#[1])=>`(Bf I q (by simp))
local macro_rules | `(#[2])=>`(Addr×Obj)
local macro_rules | `(#[3])=>`(s.heap.objs.size+1)
local macro_rules | `(#[4])=>`(A.under (.builtin "type.__call__" ⟨.ref C::us,b⟩))
local macro_rules | `(#[5])=>`(x==("__debug__":Str))
local macro_rules | `(#[6])=>`((∀x c,X.env.cells.lookup x=some c->c≠b))
local macro_rules | `(#[7])=>`(λz=>nomatch z)
def Jw:Ex->nL->Bool
 | .inl k,v=>Value.isInt k v
 | .inr x,v=>Value.isStrOf x v
def A5d(w:n4):Ex->Int
 | .inl k=>hashInt k
 | .inr x=>hashStr w x
theorem Ch:∀{k:Ex}{v:nL},Jw k v=true->(∃i t,k=Sum.inl i/\v=Value.int i t)\/(∃x t,k=Sum.inr x/\v=Value.str x t)
 | .inl i,v,h=>by
  obtain⟨t,e⟩:=Value.isInt_shape (k:=i) (v:=v) h;exact .inl ⟨i,t,rfl,e⟩
 | .inr x,v,h=>by
  obtain⟨t,e⟩:=Value.isStrOf_shape (x:=x) (v:=v) h;exact .inr ⟨x,t,rfl,e⟩
theorem Zi(i:Int)(t:Tok):Jw (.inl i) (.int i t)=true:=by simp[Jw,Value.isInt]
theorem Zj(x:Str)(t:Tok):Jw (.inr x) (.str x t)=true:=by simp[Jw,Value.isStrOf]
theorem vk(a b:Int):decide ((Sum.inl a:Ex)=Sum.inl b)=(a==b):=by
 by_cases e:a=b
 ·subst e;simp
 ·have h:¬(Sum.inl a:Ex)=Sum.inl b:=λq=>e (Sum.inl.inj q);rw[decide_eq_false h];exact(beq_eq_false_iff_ne.mpr e).symm
theorem vp(a b:Str):decide ((Sum.inr a:Ex)=Sum.inr b)=decide (a=b):=by
 by_cases e:a=b
 ·subst e;simp
 ·have h:¬(Sum.inr a:Ex)=Sum.inr b:=λq=>e (Sum.inr.inj q);rw[decide_eq_false h,decide_eq_false e]
theorem vn(a:Int)(b:Str):decide ((Sum.inl a:Ex)=Sum.inr b)=false:=jJ (λq=>nomatch q)
theorem vo(a:Str)(b:Int):decide ((Sum.inr a:Ex)=Sum.inl b)=false:=jJ (λq=>nomatch q)
def E2(prog:nP)(w:n4):PySem.KeyKind prog w Ex where
 is:=Jw
 hash:=A5d w
 inj:=λv a b n m=>by
  rcases Ch n with⟨i,t,rfl,rfl⟩|⟨x,t,rfl,rfl⟩
  ·rcases Ch m with⟨j,u,rfl,e⟩|⟨y,u,rfl,e⟩
   ·injection e with f _;rw[f]
   ·exact nomatch e
  ·rcases Ch m with⟨j,u,rfl,e⟩|⟨y,u,rfl,e⟩
   ·exact nomatch e
   ·injection e with f _;rw[f]
 byValue:=λk v h=>by
  rcases Ch h with⟨i,t,rfl,rfl⟩|⟨x,t,rfl,rfl⟩<;>rfl
 pyHash:=λg h=>by
  rcases Ch g with⟨i,t,rfl,rfl⟩|⟨x,t,rfl,rfl⟩
  ·exact wpAny_pyHash_int h
  ·exact wpAny_pyHash_str h
 eqBool:=λo g h=>by
  rcases Ch o with⟨i,t,rfl,rfl⟩|⟨x,t,rfl,rfl⟩
  ·rcases Ch g with⟨j,u,rfl,rfl⟩|⟨y,u,rfl,rfl⟩
   ·rw[vk]at h;exact wpAny_eqBool_int h
   ·rw[vn]at h;exact SeqAt.EqAt.int_str i t y u _ _ _ _ h
  ·rcases Ch g with⟨j,u,rfl,rfl⟩|⟨y,u,rfl,rfl⟩
   ·rw[vo]at h;exact SeqAt.EqAt.str_int x t j u _ _ _ _ h
   ·rw[vp]at h;exact wpAny_eqBool_str h
 «strs»:=λk x t v h=>by
  rcases Ch h with⟨i,u,rfl,e⟩|⟨y,u,rfl,e⟩
  ·exact nomatch e
  ·injection e with f _;subst f;cases v<;>rfl
theorem Ty(prog:nP)(w:n4)(i:Int)(t:Tok):(E2 prog w).is (.inl i) (.int i t)=true:=Zi i t
theorem Tz(prog:nP)(w:n4)(x:Str)(t:Tok):(E2 prog w).is (.inr x) (.str x t)=true:=Zj x t
inductive V where
 |bB|bl (b:Bool)|int (i:Int)|str (x:Str)|nQ (b:Array UInt8)|AM (b:UInt64)|ref (a:Addr)|ty (n:String)
 deriving DecidableEq
def B2:V->nL->Prop
 | .bB,u=>u=Value.none
 | .bl b,u=>u=Value.bool b
 | .int i,u=>∃t,u=Value.int i t
 | .str x,u=>∃t,u=Value.str x t
 | .nQ b,u=>∃t,u=Value.bytes b t
 | .AM b,u=>∃t,u=Value.float b t
 | .ref a,u=>u=Value.ref a
 | .ty n,u=>u=Value.type n
abbrev B0:List V->List nL->Prop:=Paired B2
theorem B0.length(r:B0 xs us):xs.length=us.length:=Paired.length r
theorem B0.get:∀{xs:List V}{us:List nL}{i:Nat}{x:V},B0 xs us->xs[i]?=some x->∃u,us[i]?=some u/\B2 x u
 |_,_,_,_,.nil,e=>by simp at e
 |_,_,0,_,.cons r _,e=>by simp at e;subst e;exact{_,rfl,r}
 |_,_,i+1,x,.cons _ t,e=>by
  obtain⟨u,b,f⟩:=B0.get (i:=i) (x:=x) t (by simpa using e);exact{u,by simpa using b,f}
theorem B0.set(r:B2 x u):∀{xs:List V}{us:List nL} (i:Nat),B0 xs us->B0 (xs.set i x) (us.set i u)
 |_,_,_,.nil=>.nil
 |_,_,0,.cons _ t=>.cons r t
 |_,_,i+1,.cons q t=>.cons q (B0.set r i t)
theorem B0.append(h:B0 xs us)(s:B0 ys ws):B0 (xs++ys) (us++ws):=by
 induction h with
 |nil=>exact s
 |cons r t b=>exact .cons r b
theorem B0.take:∀{xs:List V}{us:List nL} (n:Nat),B0 xs us->B0 (xs.take n) (us.take n)
 |_,_,0,_=>.nil
 |_,_,_+1,.nil=>.nil
 |_,_,n+1,.cons r t=>.cons r (B0.take n t)
theorem B0.drop:∀{xs:List V}{us:List nL} (n:Nat),B0 xs us->B0 (xs.drop n) (us.drop n)
 |_,_,0,r=>r
 |_,_,_+1,.nil=>.nil
 |_,_,n+1,.cons _ t=>B0.drop n t
def Gq:Option V->Option nL->Prop
 |some v,some u=>B2 v u
 |none,none=>True
 |_,_=>False
def KV:List (b×V)->List (b×nL)->Prop:=Paired λ(p:b×V) (q:b×nL)=>p.1=q.1/\B2 p.2 q.2
def kV:Ex->V
 | .inl i=>.int i
 | .inr x=>.str x
section
variable {prog:nP}{w:n4}
def Db(prog:nP)(w:n4)(h:Heap)(k:mY×Int)(a:Addr):Prop:=
 ∃o n u t,h.get? a=some o/\o.cls=.type "tuple"/\o.data=.seq #[.ref u,.int k.2 t] n/\IsTupleKey (intKind prog w) h k.1 u
theorem Db.typeIs{s:nB}{k:mY×Int}{a:Addr}(x:Db prog w s.heap k a):s.TypeIs (.ref a) "tuple":=let⟨o,_,_,_,e,b,_⟩:=x;⟨o,e,b⟩
theorem Db.inj(p:Db prog w h x a)(q:Db prog w h y a):x=y:=by
 obtain⟨o,n,u,t,m,_,i,j⟩:=p;obtain⟨z,A,C,B,f,_,b,v⟩:=q;obtain rfl:o=z:=en (m.symm.trans f);rw[i]at b;injection b with e _;simp only[Array.mk.injEq,List.cons.injEq,Value.ref.injEq,Value.int.injEq,and_true]at e;obtain⟨rfl,g,_⟩:=e;exact Prod.ext (j.inj v) g
theorem Db.keeps{k:mY×Int}{es ep}(x:Db prog w h k a)(f:h.get? d=some o)(hd:o.data=.dict es ep)(g:Heap.SameBut d h h'):Db prog w h' k a:=by
 obtain⟨i,n,u,t,e,m,b,p⟩:=x
 have j:a≠d:=by
  rintro rfl;obtain rfl:i=o:=en (e.symm.trans f);rw[hd]at b;exact nomatch b
 exact{i,n,u,t,(g.2 a j).trans e,m,b,p.keeps f hd g}
def Lo(prog:nP)(w:n4)(k:mY×Int):Int:=reduceHash (Builtin.Tuple.tupleHashOf [tupleKeyHash (intKind prog w) k.1,(intKind prog w).hash k.2])
theorem Wk{A:nU}{E:mD}{s:nB}{k:mY×Int}{a:Addr}{Q:Int->nB->Prop}(q:A.units+8<cLine)(g:Db prog w s.heap k a)(h:Q (Lo prog w k) {s with toks:=s.toks+(k.1.length+3) }):
  wpAny (model prog w) A (pyHash (.ref a)) Q E s:=by
 have b:=g.typeIs;obtain⟨o,n,u,t,m,_,i,j⟩:=g;unfold pyHash
 first|unfold pyHashByItsType|skip
 first|refine ag (wpAny_cRoomFor_or (.inr (by omega)) ?_)|skip
 refine ag (wpAny_specialOf b F.slot_tuple_hash.lookup ?_);show wpAny _ _ (if(some (Value.builtin "tuple.__hash__")==some Value.none)=true then _ else _) Q E s;rw[if_neg (by rw[beq_builtin_none];exact Bool.false_ne_true)];refine ag (wpAny_specialOf b F.slot_tuple_hash.lookup ?_);show wpAny _ _ (callSpecialIfBoundUnlessNone? (.ref a) "__hash__" _>>=_) Q E s;refine ag (wpAny_callSpecialIfBoundUnlessNone?_slot b F.slot_tuple_hash (g6 F.slot_tuple_hash b F.entry_tuple_hash ?_ (F.args_tuple_hash_1 _)));show wpAny _ _ (Builtin.Tuple.tupleItemsOf (.ref a)>>=_) _ _ s;refine ag (wpAny_tupleItemsOf m i ?_);refine ag ?_;rw[<- Array.forIn_toList];show wpAny _ _ (forIn [Value.ref u,Value.int k.2 t] _ _) _ _ _;rw[List.forIn_cons]
 have p:A.in1.units<cLine:=by
  first|(show A.units+1<cLine;omega)|(show A.units<cLine;omega)|(simp only[Around.in1];omega)
 refine ag (ag (wpAny_pyHash_tuple (knd:=intKind prog w) p j ?_));refine aN ?_;show wpAny _ _ (forIn [Value.int k.2 t] _ _) _ _ _;rw[List.forIn_cons];refine ag (ag ((intKind prog w).pyHash (k:=k.2) (by simp[intKind,Value.isInt]) ?_));refine aN ?_;show wpAny _ _ (forIn [] _ _) _ _ _;rw[List.forIn_nil];refine aN ?_;show wpAny _ _ (retInt (Builtin.Tuple.tupleHashOf [tupleKeyHash (intKind prog w) k.1,(intKind prog w).hash k.2])) _ _ _;refine wpAny_ret_mkInt ?_;generalize e:Builtin.Tuple.tupleHashOf [tupleKeyHash (intKind prog w) k.1,(intKind prog w).hash k.2]=z;show wpAny _ _ (if(decide (-(2:Int)^63<=z)&&decide (z<2^63))=true then _ else _) Q E _;unfold Lo reduceHash at h;rw[e]at h;by_cases f:(decide (-(2:Int)^63<=z)&&decide (z<2^63))=true
 ·rw[if_pos f];rw[if_pos f]at h;exact aN (by simpa[Nat.add_assoc]using h)
 ·rw[if_neg f];rw[if_neg f]at h;exact ag (la (aN (by simpa[Nat.add_assoc]using h)))
theorem j8{A:nU}{E:mD}{s:nB}{x y:mY×Int}{a b:Addr}{Q:Bool->nB->Prop}(J:A.units+8<cLine)(i:Db prog w s.heap x a)(j:Db prog w s.heap y b)(h:Q (decide (x=y)) s):
  wpAny (model prog w) A (eqBool (.ref a) (.ref b)) Q E s:=by
 unfold eqBool
 try with_reducible refine fD ?_
 show wpAny _ _ (if(Value.ref a==Value.ref b)=true then _ else _) Q E s;by_cases m:(Value.ref a==Value.ref b)=true
 ·rw[if_pos m];have e:a=b:=by have:=eq_of_beq m;injection this
  subst e;obtain rfl:=i.inj j;exact ag (la (aN (by simpa using h)))
 ·rw[if_neg m]
  refine ag (wpAny_richCompare_same_room (op:=.Eq) i.typeIs j.typeIs F.slot_tuple_eq
   (g6 F.slot_tuple_eq i.typeIs F.entry_tuple_eq ?_ (F.args_tuple_eq_2 _ _)) (by omega))
  have n:=j.typeIs;obtain⟨M,K,H,q,o,_,v,B⟩:=i;obtain⟨N,L,I,u,p,_,C,G⟩:=j;show wpAny _ _ (isInstance (.ref b) (.type "tuple")>>=_) _ _ s;refine ag (jT n isSubtype_tuple_tuple ?_);simp only[Bool.not_true,Bool.false_eq_true,if_false];refine ag (wpAny_tupleItemsOf o v ?_);refine ag (wpAny_tupleItemsOf p C ?_);refine ag ?_;show wpAny _ _ (forIn [(Value.ref H,Value.ref I),(Value.int x.2 q,Value.int y.2 u)] _ _) _ _ _;rw[List.forIn_cons]
  have D:A.in1.units<cLine:=by
   first|(show A.units+1<cLine;omega)|(show A.units<cLine;omega)|(simp only[Around.in1];omega)
  refine ag (ag (wpAny_eqBool_tuple (knd:=intKind prog w) D B G ?_));by_cases f:x.1=y.1
  ·rw[decide_eq_true f];simp only[Bool.not_true,Bool.false_eq_true,if_false];refine aN ?_;show wpAny _ _ (forIn [(Value.int x.2 q,Value.int y.2 u)] _ _) _ _ _;rw[List.forIn_cons];refine ag (ag ((intKind prog w).eqBool (a:=x.2) (b:=y.2) (by simp[intKind,Value.isInt]) (by simp[intKind,Value.isInt]) ?_));by_cases g:x.2=y.2
   ·rw[decide_eq_true g];simp only[Bool.not_true,Bool.false_eq_true,if_false];refine aN ?_;show wpAny _ _ (forIn [] _ _) _ _ _;rw[List.forIn_nil];refine aN ?_;have e:decide (x=y)=true:=decide_eq_true (Prod.ext f g);rw[e]at h;exact aN ⟨_,rfl,(λe=>nomatch e),iC h⟩
   ·rw[decide_eq_false g];simp only[Bool.not_false,if_true];have e:decide (x=y)=false:=jJ λz=>g (by rw[z]);rw[e]at h;exact ag (aN (aN (aN (aN ⟨_,rfl,(λe=>nomatch e),iC h⟩))))
  ·rw[decide_eq_false f];simp only[Bool.not_false,if_true];have e:decide (x=y)=false:=jJ λz=>f (by rw[z]);rw[e]at h;exact ag (aN (aN (aN (aN ⟨_,rfl,(λe=>nomatch e),iC h⟩))))
theorem zf(p:IsTupleKey (intKind prog w) s.heap z a)(h:Q true s):wpAny (model prog w) A (eqIsQuiet 7 (.ref a)) Q E s:=by
 have m:=p.typeIs;obtain⟨o,f,n,y,_,q,x⟩:=p;unfold eqIsQuiet;refine ag (wpAny_specialOf m F.slot_tuple_eq.lookup ?_);show wpAny _ _ (isInstance (.ref a) (.type "tuple")>>=_) _ _ s;refine ag (jT m isSubtype_tuple_tuple ?_);simp only[Bool.not_true,Bool.false_eq_true,if_false];refine ag (gd y q ?_);refine ag ?_;show wpAny _ _ (forIn f _ _) _ _ s;rw[<- Array.forIn_toList];refine wpAny_forIn_list _ (λe r j=>r.1=none/\j=s/\∀v∈e,carriedByValue v=true) _ ?_ ?_ _ _ ⟨rfl,rfl,x.byValue⟩
 ·rintro v e r j ⟨g,rfl,b⟩;rw[eqIsQuiet_byValue _ (b v List.mem_cons_self)];refine ag (aN ?_);simp only[Bool.not_true,Bool.false_eq_true,if_false];exact aN ⟨rfl,rfl,λu i=>b u (d0 _ i)⟩
 ·rintro⟨B,C⟩ j ⟨g,rfl,_⟩;simp only at g;subst g;exact aN h
theorem Uj{A:nU}{E:mD}{s:nB}{k:mY×Int}{a:Addr}{Q:Bool->nB->Prop}(e:Db prog w s.heap k a)(h:Q true s):wpAny (model prog w) A (eqIsQuiet 8 (.ref a)) Q E s:=by
 have b:=e.typeIs;obtain⟨o,n,u,t,i,_,f,g⟩:=e;unfold eqIsQuiet;refine ag (wpAny_specialOf b F.slot_tuple_eq.lookup ?_);show wpAny _ _ (isInstance (.ref a) (.type "tuple")>>=_) _ _ s;refine ag (jT b isSubtype_tuple_tuple ?_);simp only[Bool.not_true,Bool.false_eq_true,if_false];refine ag (gd i f ?_);refine ag ?_;show wpAny _ _ (forIn #[Value.ref u,Value.int k.2 t] _ _) _ _ s;rw[<- Array.forIn_toList];show wpAny _ _ (forIn [Value.ref u,Value.int k.2 t] _ _) _ _ s;rw[List.forIn_cons];refine ag (ag (zf g ?_));simp only[Bool.not_true,Bool.false_eq_true,if_false];refine aN ?_;show wpAny _ _ (forIn [Value.int k.2 t] _ _) _ _ s;rw[List.forIn_cons,eqIsQuiet_byValue _ rfl];refine ag (ag (aN ?_));simp only[Bool.not_true,Bool.false_eq_true,if_false];refine aN ?_;show wpAny _ _ (forIn [] _ _) _ _ s;rw[List.forIn_nil];exact aN (aN h)
def De(prog:nP)(w:n4):HeapKind prog w (mY×Int)where
 is:=Db prog w
 hash:=Lo prog w
 draws:=λk=>k.1.length+3
 room:=λA=>A.units+8<cLine
 inj:=λf g=>f.inj g
 keeps:=λx j i m=>x.keeps j i m
 pyHash:=λe b h=>Wk e b h
 eqBool:=λe f g h=>j8 e f g h
 quiet:=λb h=>Uj b h
end
set_option genInjectivity false in
set_option genSizeOf false in
inductive HO where
  |lst (xs:List V)
  |tup (xs:List V)
  |dK (kvs:List (Ex×V))|dT (kvs:List ((List Int×Int)×V))
  |set (S:Int->Bool) (n:Nat)
  |ins (C dx:Addr) (fs:List (Str×V))
  |own (x:Addr)
  |xd (fs:List (Str×V))
  |met (f x:Addr)
  |pZ (lo hi:Int)
  |dG (o:Obj) (u:HO)
  |tY (ps:Array nL)
 |tab (q:Str) (pos:Pos)
  |ext (φ:Heap->Prop)
abbrev mF:=List ((List Int×Int)×V)
abbrev Hp:=Addr->Option HO
def Im(H:Hp)(b:Addr)(k:mY×Int):Prop:=∃u,H b=some (.tup [.ref u,.int k.2])/\H u=some (.tup (k.1.map V.int))
theorem Im.up{k:mY×Int}(f:∀b xs,H b=some (.tup xs)->e b=some (.tup xs))(h:Im H b k):Im e b k:=let⟨u,g,i⟩:=h;⟨u,f _ _ g,f _ _ i⟩
def upd(H:Hp)(a:Addr)(o:HO):Hp:=λb=>if b=a then some o else H b
theorem A2:upd H a o a=some o:=by unfold upd;rw[if_pos rfl]
theorem A9(h:b≠a):upd H a o b=H b:=by unfold upd;rw[if_neg h]
theorem Kg:upd (upd H a o) a u=upd H a u:=by
 funext b;unfold upd;split<;>rfl
theorem Bj{H:Hp}{a b:Addr}{o u:HO}(h:H a=some o)(h':H b=some u)(d:o≠u):a≠b:=by
 intro e;subst e;rw[h]at h';exact d (en h')
theorem Ag{H:Hp}{a b:Addr}{o:HO}(h:H a=some o)(h':H b=none):a≠b:=by
 intro e;subst e;rw[h]at h';cases h'
section
variable (P:nP) (w:n4)
def Bi(H:Hp)(h:Heap)(a:Addr):HO->Prop
 | .lst e=>e.length<=sizeLine/\∃(i:List nL) (n:Nat),B0 e i/\h.get? a=some {cls:=.type "list",data:=.seq i.toArray n}
 | .tup e=>(e.length<=sizeLine/\∃o,h.get? a=some o/\o.dict=none)/\∃i:List nL,B0 e i/\IsTup h a i.toArray
 | .dK b=>b.length<=sizeLine/\(a==sysModules)=false/\∃D,KV b D/\h.DictOf (E2 P w) a D
 | .dT b => b.length <= sizeLine /\ (a == sysModules) = false /\ ∃ e : List ((mY × Int) × Addr × nL),
   Paired (λ(p:(mY×Int)×V) (q:(mY×Int)×Addr×nL)=>p.1=q.1/\Im H q.2.1 p.1/\B2 p.2 q.2.2) b e/\
   ∃o z E,h.get? a=some o/\o.ExactDict/\o.data=.dict z E/\z.toList=e.map (entryOfKey (De P w))/\(e.map (·.1)).Nodup
 | .set S n=>h.SetOf (intKind P w) a S n
 | .ins C m fs => H m = some (.own a) /\ fs.length <= 1000 /\ m ≠ a /\ h.get? a = some (W.instObj C m) /\
   ∃g,h.Ns1 m g/\(∀f,Gq (fs.lookup f) (g f))/\PySem.Within g (fs.map (·.1))
 | .own _=>∃o,h.get? a=some o
 | .xd fs=>∃g,h.Ns1 a g/\∀f,Gq (fs.lookup f) (g f)
 | .pZ G F=>∃t u v,h.get? a=some {cls:=.type "range",data:=.fields #[.int G t,.int F u,.int 1 v] }
 | .dG o u=>h.get? a=some o/\Bi H h a u
 | .tY I=>h.get? a=some {cls:=.none,data:=.fields I}
 | .tab q j=>h.get? a=some (W.tabObj #[])\/∃c:Addr,H c=some (.own a)/\c≠a/\h.get? a=some (W.tabObj #[rawInt j.line,rawInt j.col,.ref c])/\h.CodeRec (.ref c) q
 | .met f x=>h.get? a=some (W.methodObj (.ref f) (.ref x))
 | .ext y=>y h/\(∃o,h.get? a=some o)/\∀A B:Heap,y A->(∀o,A.get? a=some o->B.get? a=some o)->y B
def Hv(H:Hp)(h:Heap):Prop:=∀a o,H a=some o->Bi P w H h a o
end
section
variable {P:nP}{w:n4}{H H':Hp}{h h':Heap}{a:Addr}{o:HO}
theorem Bi.lt(x:Bi P w H h a o):a<h.objs.size:=by
 cases o with
 |lst i=>obtain⟨_,_,_,_,e⟩:=x;exact dr e
 |tup i=>obtain⟨_,_,_,p⟩:=x;exact p.lt
 |dK b=>obtain⟨_,_,_,_,o,_,_,e,_⟩:=x;exact dr e
 |dT b=>obtain⟨_,_,_,_,o,_,_,e,_⟩:=x;exact dr e
 |set S n=>obtain⟨o,_,_,_,e,_⟩:=x;exact dr e
 |ins C j fs=>obtain⟨_,_,_,e,_⟩:=x;exact dr e
 |own y=>obtain⟨_,e⟩:=x;exact dr e
 |xd fs=>obtain⟨_,⟨_,_,_,e,_⟩,_⟩:=x;exact dr e
 |pZ v m=>obtain⟨_,_,_,e⟩:=x;exact dr e
 |dG z u=>obtain⟨e,_⟩:=x;exact dr e
 |tY A=>exact dr (show h.get? a=some _ from x)
 |tab q g=>
  rcases x with e|⟨_,_,_,e,_⟩
  ·exact dr e
  ·exact dr e
 |met f y=>exact dr (show h.get? a=some _ from x)
 |ext B=>obtain⟨_,⟨_,e⟩,_⟩:=x;exact dr e
theorem Paired.FA(h:Paired F l₁ l₂)(f:∀a b,F a b->G a b):Paired G l₁ l₂:=by
 induction h with
 |nil=>exact .nil
 |cons r t i=>exact .cons (f _ _ r) i
theorem Bi.fH(x:Bi P w H h a o)(k:∀b u,(b=a\/H b=some (.own a))->h.get? b=some u->h'.get? b=some u)
  (G:∀b,H b=some (.own a)->H' b=some (.own a))(L:∀b xs,H b=some (.tup xs)->H' b=some (.tup xs)):Bi P w H' h' a o:=by
 induction o with
 |lst xs=>obtain⟨z,A,n,r,e⟩:=x;exact{z,A,n,r,k _ _ (.inl rfl) e}
 |tup xs=>obtain⟨z,A,r,g,e,c⟩:=x;exact{{z.1,let⟨o,m,d⟩:=z.2;{o,k _ _ (.inl rfl) m,d}},A,r,g,k _ _ (.inl rfl) e,c}
 |dK B=>obtain⟨z,y,F,r,g,j,i,e,c⟩:=x;exact{z,y,F,r,g,j,i,k _ _ (.inl rfl) e,c}
 |dT B=>
  obtain⟨z,y,xs,r,g,j,i,e,c⟩:=x;exact{z,y,xs,Paired.FA r λp q z=>{z.1,z.2.1.up L,z.2.2},g,j,i,k _ _ (.inl rfl) e,c}
 |set S n=>obtain⟨g,j,i,t,e,c⟩:=x;exact{g,j,i,t,k _ _ (.inl rfl) e,c}
 |ins C T fs=>
  obtain⟨d,z,ne,e,D,⟨E,j,i,m,c⟩,r⟩:=x;exact{G _ d,z,ne,k _ _ (.inl rfl) e,D,{E,j,i,k _ _ (.inr d) m,c},r}
 |own y=>obtain⟨g,e⟩:=x;exact{g,k _ _ (.inl rfl) e}
 |xd fs=>obtain⟨D,⟨E,j,i,e,c⟩,r⟩:=x;exact{D,{E,j,i,k _ _ (.inl rfl) e,c},r}
 |pZ X U=>obtain⟨t,u,v,e⟩:=x;exact{t,u,v,k _ _ (.inl rfl) e}
 |dG g u M=>obtain⟨e,q⟩:=x;exact{k _ _ (.inl rfl) e,M q}
 |tab q O=>
  rcases x with e|⟨c,d,ne,e,R,N,F,Q,m,K,r⟩
  ·exact .inl (k _ _ (.inl rfl) e)
  ·cases m;exact .inr ⟨c,G _ d,ne,k _ _ (.inl rfl) e,c,N,F,Q,rfl,k _ _ (.inr d) K,r⟩
 |tY I=>
  have e:h.get? a=some {cls:=.none,data:=.fields I}:=x;show h'.get? a=some {cls:=.none,data:=.fields I};exact k a _ (.inl rfl) e
 |met f y=>
  have e:h.get? a=some (W.methodObj (.ref f) (.ref y)):=x;show h'.get? a=some (W.methodObj (.ref f) (.ref y));exact k a _ (.inl rfl) e
 |ext Y=>obtain⟨p,⟨o,e⟩,J⟩:=x;exact{J _ _ p λo q=>k _ _ (.inl rfl) q,{o,k _ _ (.inl rfl) e},J}
theorem Hv.lt(x:Hv P w H h)(e:H a=some o):a<h.objs.size:=(x a o e).lt
theorem Hv.fresh(x:Hv P w H h)(e:h.objs.size<=a):H a=none:=by
 cases q:H a with
 |none=>rfl
 |some u=>exact absurd (fy (x.lt q) e) (Nat.lt_irrefl _)
theorem Hv.kept(x:Hv P w H h)(k:∀b u,h.get? b=some u->h'.get? b=some u):Hv P w H h':=λa o e=>
 (x a o e).fH (λb u _ q=>k b u q) (λ_ q=>q) λ_ _ q=>q
theorem Hv.laid(x:Hv P w H h)(k:∀b u,h.get? b=some u->h'.get? b=some u)(i:h.objs.size<=a)(new:Bi P w (upd H a o) h' a o):Hv P w (upd H a o) h':=λb u e=>by
 have g:=x.fresh i;by_cases f:b=a
 ·subst f;rw[A2]at e;cases e;exact new
 ·rw[A9 f]at e;exact(x b u e).fH (λc v _ q=>k c v q) (λc q=>by rw[A9 (Ag q g)];exact q) λc j q=>by rw[A9 (Ag q g)];exact q
end
def Rd(H:Hp)(a:Addr)(u:HO):Prop:=H a=some u\/∃o,H a=some (.dG o u)
theorem Rd.ok(r:Rd H a u)(x:Hv P w H h):Bi P w H h a u:=by
 rcases r with r|⟨o,r⟩
 ·exact x a u r
 ·obtain⟨_,q⟩:=x a _ r;exact q
def FC:Option HO->Prop
 |some (.lst _)=>True
 |some (.dK _)=>True
 |some (.dT _)=>True
 |some (.set _ _)=>True
 |some (.ins _ _ _)=>True
 |some (.ext _)=>True
 |some (.tab _ _)=>True
 |_=>False
section
variable {P:nP}{w:n4}{H:Hp}{h h':Heap}{x e:Addr}{o':HO}
theorem Hv.write(ok:Hv P w H h)(i:FC (H x))(he:e=x\/H e=some (.own x))(k:∀b u,b≠e->h.get? b=some u->h'.get? b=some u)(p:∃u,h'.get? e=some u)
  (new:Bi P w (upd H x o') h' x o'):Hv P w (upd H x o') h':=λb u q=>by
 have n:∀c y,H c=some (.own y)->c≠x:=λc y r z=>by subst z;rw[r]at i;exact i
 have A:∀c m,H c=some (.tup m)->c≠x:=λc m r z=>by subst z;rw[r]at i;exact i
 by_cases f:b=x
 ·subst f;rw[A2]at q;cases q;exact new
 ·rw[A9 f]at q;by_cases j:b=e
  ·have o:H b=some (.own x):=by
    rcases he with z|z
    ·exact absurd (j.trans z) f
    ·rw[j];exact z
   rw[q]at o;cases o;obtain⟨v,B⟩:=p;exact{v,by rw[j];exact B}
  ·refine(ok b u q).fH (λc v g r=>k c v ?_ r) (λc r=>by rw[A9 (n c b r)];exact r) λc m r=>by rw[A9 (A c m r)];exact r
   rcases g with rfl|g
   ·exact j
   ·rintro rfl;rcases he with z|z
    ·exact n c b g z
    ·rw[g]at z;cases z;exact f rfl
end
structure Un(fs ex:List Addr)(H H':Hp)(h h':Heap):Prop where
 keep:∀b o,h.get? b=some o->H b=none->b∉fs->b∉ex->h'.get? b=some o
 slot:∀b o,h.get? b=some o->H b=none->b∈fs->b∉ex->∃sl,h'.get? b=some {o with slots:=sl}
 free:∀b o,h.get? b=some o->H b=none->b∉ex->H' b=none
 there:∀b o,h.get? b=some o->b∉ex->∃o',h'.get? b=some o'
 fP:∀b xs,H b=some (.tup xs)->H' b=some (.tup xs)
 fA:∀b o u,H b=some (.dG o u)->H' b=some (.dG o u)
 fQ:∀b ps,H b=some (.tY ps)->∃more,H' b=some (.tY (ps++more))
section
variable {fs fs' ex RJ:List Addr}{H H1 H2:Hp}{h h1 h2 h':Heap}{a x e:Addr}{o:HO}
theorem Un.any(u:Un fs ex H H1 h h1)(q:h.get? b=some f)(n:H b=none)(i:b∉ex):∃j,h1.get? b=some {f with slots:=j}:=by
 by_cases g:b∈fs
 ·exact u.slot b f q n g i
 ·exact{f.slots,u.keep b f q n g i}
theorem Un.trans(a:Un fs ex H H1 h h1)(b:Un fs ex H1 H2 h1 h2):Un fs ex H H2 h h2 where
 keep:=λc g q n j f=>b.keep c g (a.keep c g q n j f) (a.free c g q n f) j f
 slot:=λc g q n j f=>by
  obtain⟨z,i⟩:=a.slot c g q n j f;obtain⟨v,p⟩:=b.slot c _ i (a.free c g q n f) j f;exact{v,p}
 free:=λc g q n f=>by
  obtain⟨u,i⟩:=a.there c g q f;exact b.free c u i (a.free c g q n f) f
 there:=λc g q f=>by
  obtain⟨u,i⟩:=a.there c g q f;exact b.there c u i f
 fP:=λc m q=>b.fP c m (a.fP c m q)
 fA:=λc g m q=>b.fA c g m (a.fA c g m q)
 fQ:=λc y q=>by
  obtain⟨m1,i⟩:=a.fQ c y q;obtain⟨m2,p⟩:=b.fQ c _ i;exact{m1++m2,by rw[p,Array.append_assoc]}
theorem Un.kept(k:∀b u,h.get? b=some u->h'.get? b=some u):Un fs ex H H h h':=
 ⟨λb f q _ _ _=>k b f q,λb f q _ _ _=>⟨f.slots,k b f q⟩,λ_ _ _ n _=>n,λb f q _=>⟨f,k b f q⟩,λ_ _ q=>q,λ_ _ _ q=>q,λ_ g q=>⟨#[],by rw[q];simp⟩⟩
theorem Un.refl:Un fs ex H H h h:=Un.kept λ_ _ q=>q
theorem Un.laid(k:∀b u,h.get? b=some u->h'.get? b=some u)(g:h.objs.size<=a)(f:H a=none):Un fs ex H (upd H a o) h h' where
 keep:=λb u q _ _ _=>k b u q
 slot:=λb u q _ _ _=>⟨u.slots,k b u q⟩
 free:=λb u q n _=>by rw[A9 (Nat.ne_of_lt (Nat.lt_of_lt_of_le (Heap.lt_size q) g))];exact n
 there:=λb u q _=>⟨u,k b u q⟩
 fP:=λb i q=>by rw[A9 (Ag q f)];exact q
 fA:=λb u i q=>by rw[A9 (Ag q f)];exact q
 fQ:=λb j q=>⟨#[],by rw[A9 (Ag q f),q];simp⟩
theorem Un.write(f:FC (H x))(he:e=x\/H e=some (.own x))(k:∀b u,b≠e->h.get? b=some u->h'.get? b=some u)(p:∃u,h'.get? e=some u):Un fs ex H (upd H x o) h h':=by
 have j:∀b,H b=none->b≠x:=λb n z=>by subst z;rw[n]at f;exact f
 have i:∀b,H b=none->b≠e:=λb n z=>by
  subst z;rcases he with r|r
  ·exact j b n r
  ·rw[n]at r;cases r
 have g:∀b u,H b=some u->¬FC (some u)->b≠x:=λb u q v z=>by subst z;rw[q]at f;exact v f
 refine{λb u q n _ _=>k b u (i b n) q,λb u q n _ _=>{u.slots,k b u (i b n) q},λb u q n _=>by rw[A9 (j b n)];exact n,λb u q _=>?_,
  λb y q=>by rw[A9 (g b _ q λz=>z)];exact q,λb u y q=>by rw[A9 (g b _ q λz=>z)];exact q,λb A q=>{#[],by rw[A9 (g b _ q λz=>z),q];simp}}
 by_cases m:b=e
 ·subst m;exact p
 ·exact{u,k b u m q}
end
def OC(h:Heap)(H:Hp):List Addr:=(List.range h.objs.size).filter λa=>(H a).isSome
def Pj(h:Heap)(H:Hp):Heap:=W.hideAll h (OC h H)
theorem Zf(h:Heap)(H:Hp):(Pj h H).objs.size=h.objs.size:=W.hideAll_size _ _
theorem d6(e:h.get? b=some o)(n:H b=none):(Pj h H).get? b=some o:=
 W.hideAll_get _ e λf=>by
  have q:(H b).isSome=true:=(List.mem_filter.mp f).2;rw[n]at q;simp at q
theorem ln(e:(Pj h H).get? b=some o):h.get? b=some o/\H b=none:=by
 have f:h.get? b=some o:=W.of_hideAll (OC h H) e;refine{f,?_};cases q:H b with
 |none=>rfl
 |some x=>
  have g:b∈OC h H:=List.mem_filter.mpr ⟨mx.mpr (dr f),by simp[q]⟩;have z:(Pj h H).get? b=none:=W.hideAll_none (OC h H) g;rw[z]at e;cases e
def Ip(g h:Heap)(L:Addr):List #[2]:=(List.range h.objs.size).filterMap λa=>if a=L\/(g.get? a).isSome=true then none else(h.get? a).map λo=>(a,o)
theorem M5(h1:a≠L)(e:g.get? a=none)(b:h.get? a=some o):(a,o)∈Ip g h L:=
 List.mem_filterMap.mpr ⟨a,mx.mpr (dr b),by simp[h1,e,b]⟩
theorem Os(i:p∈Ip g h L):p.1≠L/\g.get? p.1=none/\h.get? p.1=some p.2:=by
 obtain⟨b,_,e⟩:=List.mem_filterMap.mp i;split at e
 ·cases e
 ·rename_i f;cases q:h.get? b with
  |none=>rw[q]at e;simp at e
  |some u=>
   rw[q]at e;simp only[Option.map_some,Option.some.injEq]at e;subst e;refine{λz=>f (.inl z),?_,q};show g.get? b=none;cases r:g.get? b with
   |none=>rfl
   |some v=>exact(f (.inr (by simp[r]))).elim
theorem fc:News g L h (Ip g h L):=λp e=>let⟨a,b,c⟩:=Os e;⟨c,a,b⟩
structure Mod(K:W.Frag)(mg:Str->Option nL)(base:Heap):Prop where
 dH:K.In base
 glob:base.Ns mainGlobals mg
 blt:∃mb,base.Ns builtinsNs mb/\∀x:Str,x≠"__name__"->mb x=bootBuiltins x
 nolimit:base.NoLimit
set_option genInjectivity false in
set_option genSizeOf false in
structure Cx where
 prog:nP
 w:n4
 K:W.Frag
 mg:Str->Option nL
 base:Heap
 A:nU
 N:List Str
 s₀:nB
 H₀:Hp
 env:Env
 outer:List Env
 stack:List Env
 ex:List Addr
 fn:Str->Bool
 calm:Bool
 pn:List #[2]
 xe:mD
def gF(l:List Env):List Addr:=l.filterMap (·.frame)
abbrev Cx.fs(X:Cx):List Addr:=gF X.outer
def FF(b:Scope)(x:Str):Prop:=b.names.lookup x=some .local\/b.names.lookup x=some .cell\/b.names.lookup x=some .free
def u8(b:Scope)(x:Str):Prop:=b.names.lookup x=some .local\/b.names.lookup x=some .cell
def A55(env:Env)(h:Heap)(m:Str->Option nL)(x:Str)(u:nL):Prop:=
 (env.kindOf x=some .local/\m x=some u)\/((env.kindOf x=some .cell\/env.kindOf x=some .free)/\∃c,env.cells.lookup x=some c/\h.IsCell c (some u))
structure Cx.Ok(X:Cx):Prop where
 mod:Mod X.K X.mg X.base
 kind:X.env.scope.kind=.function
 glob:X.env.globals=mainGlobals
 blt:X.env.builtins=builtinsNs
 above:X.s₀.heap.objs.size<=X.env.locals
 inj:∀x y c,X.env.cells.lookup x=some c->X.env.cells.lookup y=some c->x=y
 has:∀x,(X.env.kindOf x=some .cell\/X.env.kindOf x=some .free)->∃c,X.env.cells.lookup x=some c
 AN:∀x c,X.fn x=true->X.env.cells.lookup x=some c->X.s₀.heap.objs.size<=c
 hd:X.calm=true->X.A.handled=none
 frames:X.A.frames=some X.stack
 DK:X.stack=X.outer\/(X.stack=X.env::X.outer/\X.env.frame=some X.env.locals)
 FG:∀b∈X.ex,b≠X.env.locals/\∀x c,X.env.cells.lookup x=some c->c≠b
 bs:∀b o,X.base.get? b=some o->X.s₀.heap.get? b=some o/\X.H₀ b=none
 qA:X.base.objs.size<=X.s₀.heap.objs.size
 mQ:∀b o,X.base.get? b=some o->b∉X.ex
 mR:∀b∈X.ex,b∉X.fs
 fR:X.s₀.heap.FunFrames X.base X.outer
 uO:∀b∈X.fs,X.H₀ b=none
structure Ak(X:Cx)(pins:List #[2])(σ:List (Option V))(H:Hp)(s:nB):Prop where
 ok:X.Ok
 os:s.os=X.s₀.os
 bare:AllBare s.gens
 base:Un X.fs X.ex X.H₀ H X.s₀.heap s.heap
 loc:∃m,s.heap.Ns X.env.locals m/\∀(i:Nat) (x:Str) (v:V),X.N[i]?=some x->σ[i]?=some (some v)->FF X.env.scope x->∃u,B2 v u/\A55 X.env s.heap m x u
 cell:∀x c,X.env.cells.lookup x=some c->∃v,s.heap.IsCell c v
 free:H X.env.locals=none
 cH:∀x c,X.env.cells.lookup x=some c->H c=none
 pin:∀p∈X.pn++pins,s.heap.get? p.1=some p.2/\H p.1=none/\p.1≠X.env.locals/\p.1∉X.fs/\∀v,p.2.data≠ .cell v
 aJ:Hv X.prog X.w H s.heap
 len:σ.length=X.N.length
section
variable {X:Cx}{pins:List #[2]}{σ:List (Option V)}{H H':Hp}{s:nB}{h':Heap}
theorem Cx.Ok.RK(ok:X.Ok){b:Addr}{o:Obj}(e:X.base.get? b=some o):b∉X.fs:=λf=>by
 have:=(ok.fR.mem f).1;rw[e]at this;cases this
theorem Ak.bs(I:Ak X pins σ H s):∀b o,X.base.get? b=some o->s.heap.get? b=some o/\H b=none:=λb o e=>
 ⟨I.base.keep b o (I.ok.bs b o e).1 (I.ok.bs b o e).2 (I.ok.RK e) (I.ok.mQ b o e),I.base.free b o (I.ok.bs b o e).1 (I.ok.bs b o e).2 (I.ok.mQ b o e)⟩
theorem Ak.bk(I:Ak X pins σ H s):∀b o,X.base.get? b=some o->s.heap.get? b=some o:=λb o e=>(I.bs b o e).1
theorem Ak.mod(I:Ak X pins σ H s):Mod X.K X.mg X.base:=I.ok.mod
theorem Ak.fI(I:Ak X pins σ H s):X.K.In s.heap:=I.ok.mod.dH.keeps I.bk
theorem Ak.lt(I:Ak X pins σ H s):X.env.locals<s.heap.objs.size:=let⟨_,b,_⟩:=I.loc;b.lt
theorem Ak.sz(I:Ak X pins σ H s):X.s₀.heap.objs.size<=s.heap.objs.size:=ea I.ok.above (l7 I.lt)
theorem Ak.RL(I:Ak X pins σ H s)(h:s.heap.objs.size<=a):a∉X.fs:=λb=>by
 obtain⟨_,o,e,_⟩:=I.ok.fR.mem b;exact absurd (fy (dr e) (ea I.sz h)) (Nat.lt_irrefl _)
theorem Ak.uP(I:Ak X pins σ H s):∀x c,X.env.cells.lookup x=some c->c≠X.env.locals:=λx c e z=>by
 obtain⟨v,o,f,b⟩:=I.cell x c e;obtain⟨m,⟨n,j,i,g,h,_⟩,_⟩:=I.loc;rw[z,g]at f;cases f;rw[h]at b;cases b
theorem Ak.fR(I:Ak X pins σ H s):s.heap.FunFrames X.base X.outer:=by
 have all:∀(l:List Env),(∀b∈gF l,b∈X.fs)->X.s₀.heap.FunFrames X.base l->s.heap.FunFrames X.base l:=by
  intro l
  induction l with
  |nil=>intro _ _;trivial
  |cons j r x=>
   intro i p;obtain⟨n,⟨L,o,h,q,u,m⟩,v⟩:=p;have f:L∈X.fs:=i L (by unfold gF;rw[List.filterMap_cons,h];exact c4);obtain⟨y,e⟩:=I.base.slot L o u (I.ok.uO L f) f λz=>I.ok.mR L z f;exact{n,{L,_,h,q,e,m},x (λb g=>i b (by unfold gF;rw[List.filterMap_cons,h];exact d0 _ g)) v}
 exact all X.outer (λ_ g=>g) I.ok.fR
theorem Ak.stack(I:Ak X pins σ H s):s.heap.FunFrames X.base X.stack:=by
 rcases I.ok.DK with e|⟨e,b⟩
 ·rw[e];exact I.fR
 ·rw[e];obtain⟨m,f,_⟩:=I.loc;refine .cons (by rw[I.ok.kind];decide) b f ?_ I.fR;exact Heap.get?_none_of_le (ea I.ok.qA I.ok.above)
theorem Ak.mS(I:Ak X pins σ H s):∀b∈gF X.stack,b∈X.env.locals::X.fs:=λb f=>by
 rcases I.ok.DK with e|⟨e,g⟩
 ·rw[e]at f;exact d0 _ f
 ·rw[e]at f;unfold gF at f;rw[List.filterMap_cons,g]at f;exact f
theorem Ak.eZ(I:Ak X pins σ H s):∀b∈gF X.stack,H b=none:=λb f=>by
 rcases eH.mp (I.mS b f)with e|f
 ·rw[e];exact I.free
 ·obtain⟨_,o,g,_⟩:=I.ok.fR.mem f;exact I.base.free b o g (I.ok.uO b f) λz=>I.ok.mR b z f
theorem Ak.step{g':Array GenState}{t':Nat}{d':Drawn}{ch:List Addr}(I:Ak X pins σ H s)
  (E:∀b∈ch,(b∈X.ex\/X.s₀.heap.objs.size<=b)/\b≠X.env.locals/\#[6]/\∀p∈X.pn++pins,p.1≠b)
  (keep:∀b o,b≠X.env.locals->b∉X.fs->b∉ch->s.heap.get? b=some o->H b=none->h'.get? b=some o)
  (j:∀b o,b≠X.env.locals->b∈X.fs->b∉ch->s.heap.get? b=some o->H b=none->∃L,h'.get? b=some {o with slots:=L})(free:∀b o,b∉ch->s.heap.get? b=some o->H b=none->H' b=none)
  (A:∀b o,b∉ch->s.heap.get? b=some o->∃F,h'.get? b=some F)
  (U:∀b xs,H b=some (.tup xs)->H' b=some (.tup xs))(T:∀b o u,H b=some (.dG o u)->H' b=some (.dG o u))(Y:∀b J,H b=some (.tY J)->∃more,H' b=some (.tY (J++more)))
  (ns:∀m,s.heap.Ns X.env.locals m->h'.Ns X.env.locals m)(R:Hv X.prog X.w H' h')(Z:AllBare g'):
  Ak X pins σ H' {s with heap:=h',gens:=g',drawn:=d',toks:=t'}:=by
 have M:∀b o,X.s₀.heap.get? b=some o->b≠X.env.locals:=λb o e=>fe (fy (dr e) I.ok.above)
 have G:∀b o,X.s₀.heap.get? b=some o->b∉X.ex->b∉ch:=λb o e f y=>by
  rcases(E b y).1 with z|z
  ·exact f z
  ·exact absurd (fy (dr e) z) (Nat.lt_irrefl _)
 have g:∀x c,X.env.cells.lookup x=some c->∀v,s.heap.IsCell c v->h'.IsCell c v:=λx c e v ⟨o,B,K⟩=>by
  have C:c∉ch:=λz=>(E c z).2.2.1 x c e rfl;by_cases N:c∈X.fs
  ·obtain⟨L,q⟩:=j c o (I.uP x c e) N C B (I.cH x c e);exact{_,q,K}
  ·exact{o,keep c o (I.uP x c e) N C B (I.cH x c e),K}
 refine{I.ok,I.os,Z,{λb o e n y f=>?_,λb o e n y f=>?_,λb o e n f=>?_,λb o e f=>?_,λb xs e=>U b xs (I.base.fP b xs e),λb o xs e=>T b o xs (I.base.fA b o xs e),λb J e=>?_},?_,λx c e=>?_,?_,λx c e=>?_,λp O=>?_,R,I.len}
 ·exact keep b o (M b o e) y (G b o e f) (I.base.keep b o e n y f) (I.base.free b o e n f)
 ·obtain⟨L,h⟩:=I.base.slot b o e n y f;obtain⟨Q,D⟩:=j b _ (M b o e) y (G b o e f) h (I.base.free b o e n f);exact{Q,D}
 ·obtain⟨F,h⟩:=I.base.there b o e f;exact free b F (G b o e f) h (I.base.free b o e n f)
 ·obtain⟨F,h⟩:=I.base.there b o e f;exact A b F (G b o e f) h
 ·obtain⟨m1,h⟩:=I.base.fQ b J e;obtain⟨m2,D⟩:=Y b _ h;exact{m1++m2,by rw[D,Array.append_assoc]}
 ·obtain⟨m,hn,hl⟩:=I.loc;refine{m,ns m hn,λi x v h D S=>?_};obtain⟨u,r,l⟩:=hl i x v h D S;refine{u,r,?_};rcases l with l|⟨k,c,e,z⟩
  ·exact .inl l
  ·exact .inr ⟨k,c,e,g x c e _ z⟩
 ·obtain⟨v,z⟩:=I.cell x c e;exact{v,g x c e v z}
 ·obtain⟨m,⟨o,_,_,B,_⟩,_⟩:=I.loc;exact free _ o (λz=>(E _ z).2.1 rfl) B I.free
 ·obtain⟨v,o,B,K⟩:=I.cell x c e;exact free c o (λz=>(E c z).2.2.1 x c e rfl) B (I.cH x c e)
 ·obtain⟨e,n,ne,P,d⟩:=I.pin p O;have C:p.1∉ch:=λz=>(E p.1 z).2.2.2 p O rfl;exact{keep p.1 p.2 ne P C e n,free p.1 p.2 C e n,ne,P,d}
theorem Ak.un{t':Nat}(I:Ak X pins σ H s)(u:Un X.fs [] H H' s.heap h')(i:Hv X.prog X.w H' h'):Ak X pins σ H' {s with heap:=h',toks:=t'}:=by
 obtain⟨m,⟨o,A,y,h,r⟩,_⟩:=id I.loc;obtain⟨D,j⟩:=u.any h I.free (by simp)
 exact I.step (g':=s.gens) (d':=s.drawn) (ch:=[]) (λ_ z=>nomatch z) (λb o _ f _ e n=>u.keep b o e n f (by simp)) (λb o _ f _ e n=>u.slot b o e n f (by simp)) (λb o _ e n=>u.free b o e n (by simp)) (λb o _ e=>u.there b o e (by simp)) u.fP u.fA u.fQ (λB p=>by
  obtain⟨C,x,q,g,v⟩:=p;rw[h]at g;cases g;exact{_,x,q,j,v}) i I.bare
theorem Ak.call{g':Array GenState}{t':Nat}{d':Drawn}{ch:List Addr}(I:Ak X pins σ H s)(u:Un (gF X.stack) ch H H' s.heap h')(q:Hv X.prog X.w H' h')(y:AllBare g')
  (j:∀b∈ch,(b∈X.ex\/X.s₀.heap.objs.size<=b)/\b≠X.env.locals/\#[6]/\∀p∈X.pn++pins,p.1≠b):
  Ak X pins σ H' {s with heap:=h',gens:=g',drawn:=d',toks:=t'}:=by
 obtain⟨m,⟨o,F,E,i,r⟩,_⟩:=id I.loc;obtain⟨K,g⟩:=u.any i I.free λz=>(j _ z).2.1 rfl
 exact I.step (ch:=ch) j (λb o g v f e n=>u.keep b o e n (λz=>(eH.mp (I.mS b z)).elim g v) f) (λb o _ _ f e n=>u.any e n f) (λb o f e n=>u.free b o e n f) (λb o f e=>u.there b o e f) u.fP u.fA u.fQ (λG A=>by
  obtain⟨J,D,B,h,C⟩:=A;rw[i]at h;cases h;exact{_,D,B,g,C}) q y
theorem Ak.turned{t':Nat}{it:Addr}(I:Ak X pins σ H s)(k:∀b o,b≠it->s.heap.get? b=some o->h'.get? b=some o)(D:H it=none)(h:it≠X.env.locals)
  (h1:it∈X.ex\/X.s₀.heap.objs.size<=it)(y:∀x c,X.env.cells.lookup x=some c->c≠it)(A:∀p∈X.pn++pins,p.1≠it):Ak X pins σ H {s with heap:=h',toks:=t'}:=by
 have g:∀b u,H b=some u->b≠it:=λb u e z=>by rw[z,D]at e;cases e
 refine I.step (g':=s.gens) (d':=s.drawn) (ch:=[it]) (λb B=>?_) (λb o _ _ f e _=>k b o (λz=>f (by simp[z])) e) (λb o _ _ f e _=>⟨o.slots,k b o (λz=>f (by simp[z])) e⟩) (λ_ _ _ _ n=>n)
  (λb o f e=>⟨o,k b o (λz=>f (by simp[z])) e⟩) (λ_ _ e=>e) (λ_ _ _ e=>e) (λb F e=>⟨#[],by rw[e];simp⟩) (λm C=>?_) (λb u e=>?_) I.bare
 ·have e:b=it:=by simpa using B
  subst e;exact{h1,h,y,A}
 ·obtain⟨o,j,i,E,r⟩:=C;exact{o,j,i,k _ o (Ne.symm h) E,r}
 ·refine(I.aJ b u e).fH (λc v f q=>k c v ?_ q) (λ_ q=>q) λ_ _ q=>q;rcases f with z|z
  ·rw[z];exact g b u e
  ·exact g c _ z
theorem Ak.tok(I:Ak X pins σ H s)(t:Nat):Ak X pins σ H {s with toks:=t}:=I.un (h':=s.heap) (t':=t) Un.refl I.aJ
theorem Ak.kept{t':Nat}(I:Ak X pins σ H s)(k:∀b u,s.heap.get? b=some u->h'.get? b=some u):Ak X pins σ H {s with heap:=h',toks:=t'}:=I.un (Un.kept k) (I.aJ.kept k)
theorem Ak.laid{t':Nat}(I:Ak X pins σ H s)(k:∀b u,s.heap.get? b=some u->h'.get? b=some u)(e:s.heap.objs.size<=a)(new:Bi X.prog X.w (upd H a o) h' a o):
  Ak X pins σ (upd H a o) {s with heap:=h',toks:=t'}:=I.un (Un.laid k e (I.aJ.fresh e)) (I.aJ.laid k e new)
theorem Ak.write{t':Nat}(I:Ak X pins σ H s)(g:FC (H x))(he:e=x\/H e=some (.own x))(k:∀b u,b≠e->s.heap.get? b=some u->h'.get? b=some u)(f:∃u,h'.get? e=some u)
  (new:Bi X.prog X.w (upd H x o) h' x o):Ak X pins σ (upd H x o) {s with heap:=h',toks:=t'}:=I.un (Un.write g he k f) (I.aJ.write g he k f new)
theorem Ak.weak(I:Ak X pins σ H s)(j:b.length=σ.length)(w:∀(i:Nat) v,b[i]?=some (some v)->σ[i]?=some (some v)):Ak X pins b H s:=
 ⟨I.ok,I.os,I.bare,I.base,let⟨m,n,e⟩:=I.loc;⟨m,n,λi x v f g h=>e i x v f (w i v g) h⟩,I.cell,I.free,I.cH,I.pin,I.aJ,j.trans I.len⟩
theorem Ak.nR(I:Ak X pins σ H s)(h:∀p∈b,s.heap.get? p.1=some p.2/\H p.1=none/\p.1≠X.env.locals/\p.1∉X.fs/\∀v,p.2.data≠ .cell v):Ak X b σ H s:=
 ⟨I.ok,I.os,I.bare,I.base,I.loc,I.cell,I.free,I.cH,λp e=>(fC.mp e).elim (λz=>I.pin p (gy _ z)) (h p),I.aJ,I.len⟩
theorem Oq{N:List Str}(g:N.Nodup){i j:Nat}{x:Str}(a:N[i]?=some x)(b:N[j]?=some x):i=j:=by
 obtain⟨h,e⟩:=b0.mp a;obtain⟨m,f⟩:=b0.mp b;exact(List.getElem_inj g).mp (e.trans f.symm)
theorem Qx{M:Model}{A:nU}{E:mD}{i:Nat}{x:Str}{v:V}{u:nL}{Q:Unit->nB->Prop}(I:Ak X pins σ H s)(hN:X.N.Nodup)(N:X.N[i]?=some x)(D:u8 X.env.scope x)(r:B2 v u)
  (h:∀s',Ak X pins (σ.set i (some v)) H s'->(∃a,Heap.SameBut a s.heap s'.heap/\(a=X.env.locals\/X.env.cells.lookup x=some a))->Q () s')(hf:X.fn x=true\/X.env.scope.names.lookup x=some .local:=by first|exact .inl rfl|exact .inr rfl|assumption):wpAny M A (storeName X.env x u) Q E s:=by
 obtain⟨m,T,hl⟩:=id I.loc;have RM:(X.env.scope.kind== .class||(X.env.scope.kind== .module&&X.env.locals != X.env.globals))=false:=by rw[I.ok.kind];rfl
 have G:i<σ.length:=by rw[I.len];exact(b0.mp N).1
 have uP:=I.uP
 have B:∀{a:Addr}{h':Heap},(∃o,s.heap.get? a=some o/\H a=none)->Heap.SameBut a s.heap h'->Hv X.prog X.w H h':=λ{a h'} ha f b ob e=>by
  obtain⟨_,_,iJ⟩:=ha;refine(I.aJ b ob e).fH (λc P C q=>(f.2 c ?_).trans q) (λ_ q=>q) λ_ _ q=>q;rintro rfl;rcases C with rfl|C
  ·rw[iJ]at e;cases e
  ·rw[iJ]at C;cases C
 rcases D with J|J
 ·refine wpAny_storeName_local J T (λh' RN f=>?_) RM;obtain⟨oL,_,_,qB,_⟩:=id T;refine h _ ⟨I.ok,I.os,I.bare,⟨λb o e n K D=>?_,λb o e n K D=>?_,I.base.free,λb o e D=>?_,I.base.fP,I.base.fA,I.base.fQ⟩,⟨_,RN,λj y v' g F S=>?_⟩,λy c e=>?_,I.free,I.cH,λp U=>?_,B ⟨oL,qB,I.free⟩ f,by simpa using I.len⟩ ⟨_,f,.inl rfl⟩
  ·exact(f.2 b (fe (fy (dr e) I.ok.above))).trans (I.base.keep b o e n K D)
  ·obtain⟨sl,g⟩:=I.base.slot b o e n K D;exact{sl,(f.2 b (fe (fy (dr e) I.ok.above))).trans g}
  ·obtain⟨Z,g⟩:=I.base.there b o e D;exact{Z,(f.2 b (fe (fy (dr e) I.ok.above))).trans g}
  ·by_cases L:j=i
   ·subst L;rw[N]at g;cases g;rw[List.getElem?_set_self G]at F;cases F;exact{u,r,.inl {J,by simp}}
   ·rw[List.getElem?_set_ne (Ne.symm L)]at F;obtain⟨u',r',q⟩:=hl j y v' g F S;refine{u',r',?_};rcases q with⟨k,e⟩|⟨k,c,e,z⟩
    ·refine .inl ⟨k,?_⟩;have:y≠x:=λe=>L (Oq hN g (e▸N));simp[this,e]
    ·exact .inr ⟨k,c,e,z.sameBut f (uP y c e)⟩
  ·obtain⟨P,z⟩:=I.cell y c e;exact{P,z.sameBut f (uP y c e)}
  ·obtain⟨e,n,ne,Y,d⟩:=I.pin p U;exact{(f.2 p.1 ne).trans e,n,ne,Y,d}
 ·have R:X.fn x=true:=by
   rcases hf with z|z
   ·exact z
   ·rw[z]at J;cases J
  obtain⟨c,C⟩:=I.ok.has x (.inl J);obtain⟨P,z⟩:=I.cell x c C;refine wpAny_storeName_cell I.ok.kind J C z (λh' eG f=>?_);obtain⟨oc,qN,RO⟩:=id z;refine h {s with heap:=h'} ⟨I.ok,I.os,I.bare,⟨λb o e n K D=>?_,λb o e n K D=>?_,I.base.free,λb o e D=>?_,I.base.fP,I.base.fA,I.base.fQ⟩,⟨m,T.sameBut f (Ne.symm (uP x c C)),λj y v' g F S=>?_⟩,λy O e=>?_,I.free,I.cH,λp U=>?_,B ⟨oc,qN,I.cH x c C⟩ f,by simpa using I.len⟩ ⟨c,f,.inr C⟩
  ·exact(f.2 b (fe (fy (dr e) (I.ok.AN x c R C)))).trans (I.base.keep b o e n K D)
  ·obtain⟨sl,g⟩:=I.base.slot b o e n K D;exact{sl,(f.2 b (fe (fy (dr e) (I.ok.AN x c R C)))).trans g}
  ·obtain⟨Z,g⟩:=I.base.there b o e D;exact{Z,(f.2 b (fe (fy (dr e) (I.ok.AN x c R C)))).trans g}
  ·by_cases L:j=i
   ·subst L;rw[N]at g;cases g;rw[List.getElem?_set_self G]at F;cases F;exact{u,r,.inr {.inl J,c,C,eG}}
   ·rw[List.getElem?_set_ne (Ne.symm L)]at F;obtain⟨u',r',q⟩:=hl j y v' g F S;refine{u',r',?_};rcases q with q|⟨k,O,e,z'⟩
    ·exact .inl q
    ·refine .inr ⟨k,O,e,z'.sameBut f ?_⟩;rintro rfl;exact L (Oq hN g (I.ok.inj _ _ _ e C▸N))
  ·by_cases FI:O=c
   ·subst FI;exact{_,eG}
   ·obtain⟨w2,z2⟩:=I.cell y O e;exact{w2,z2.sameBut f FI}
  ·obtain⟨e,n,ne,Y,d⟩:=I.pin p U;refine{(f.2 p.1 ?_).trans e,n,ne,Y,d};intro q;rw[q,qN]at e;have q':oc=p.2:=en e;exact d P (by rw[<- q'];exact RO)
theorem Ke(I:Ak X pins σ H s)(e:X.N.Nodup)(g:X.N[i]?=some x)(j:u8 X.env.scope x)(r:B2 v u)
  (h:∀s',Ak X pins (σ.set i (some v)) H s'->Q () s')(f:X.fn x=true\/X.env.scope.names.lookup x=some .local:=by first|exact .inl rfl|exact .inr rfl|assumption):wpAny M A (storeName X.env x u) Q E s:=
 Qx I e g j r (λs' b _=>h s' b) f
theorem Ak.wL(I:Ak X pins σ H s)(j:s'.os=s.os)(u:Un (gF X.stack) ch H H' s.heap s'.heap)(f:Hv X.prog X.w H' s'.heap)(i:AllBare s'.gens)
  (m:∀b∈ch,(b∈X.ex\/X.s₀.heap.objs.size<=b)/\b≠X.env.locals/\#[6]/\∀p∈X.pn++pins,p.1≠b):Ak X pins σ H' s':=by
 obtain⟨h',h,g,o,n⟩:=s';have e:n=s.os:=j;subst e;exact I.call (g':=h) (t':=o) (d':=g) u f i m
end
abbrev XK:=nL->Option Addr->Hp->Prop
abbrev St:=List (Option V)
abbrev VK:=V->Hp->Prop
abbrev TE:=St->Hp->VK->Prop
abbrev TT:=St->Hp->(Bool->Hp->Prop)->Prop
abbrev TA:=St->Hp->(List V->Hp->Prop)->Prop
set_option genInjectivity false in
set_option genSizeOf false in
structure Hy where
 nx:St->Hp->Prop
 rt:VK
 bk:St->Hp->Prop:=λ_ _=>False
 ct:St->Hp->Prop:=λ_ _=>False
abbrev TS:=Hy->St->Hp->Prop
def EP(X:Cx)(b:List #[2])(f:St)(Q:VK)(u:nL)(s':nB):Prop:=∃v e,Ak X b f e s'/\B2 v u/\Q v e
def TP(X:Cx)(e:List #[2])(g:St)(Q:Bool->Hp->Prop)(b:Bool)(s':nB):Prop:=∃f,Ak X e g f s'/\Q b f
def AP(X:Cx)(b:List #[2])(g:St)(Q:List V->Hp->Prop)(us:List nL)(s':nB):Prop:=∃f e,Ak X b g e s'/\B0 f us/\Q f e
def SP(X:Cx)(e:List #[2])(D:Hy)(f:Flow)(s':nB):Prop:=
 match f with
 | .next=>∃b g,Ak X e b g s'/\D.nx b g
 | .brk=>∃b g,Ak X e b g s'/\D.bk b g
 | .cont=>∃b g,Ak X e b g s'/\D.ct b g
 | .ret u=>∃v b g,Ak X e b g s'/\B2 v u/\D.rt v g
def PE(X:Cx)(e:Expr)(t:TE):Prop:=
 ∀(b:List #[2]) (s:nB) (f:St) (H:Hp) (Q:VK),Ak X b f H s->t f H Q->wpAny #[0] X.A (eval e X.env) (EP X b f Q) X.xe s
def PT(X:Cx)(e:Expr)(t:TT):Prop:=
 ∀(b:List #[2]) (s:nB) (f:St) (H:Hp) (Q:Bool->Hp->Prop),Ak X b f H s->t f H Q->wpAny #[0] X.A (isTrue e X.env (eval e X.env)) (TP X b f Q) X.xe s
def PW(X:Cx)(e:Expr)(t:TT):Prop:=
 ∀(f:Sem nL) (b:List #[2]) (s:nB) (g:St) (H:Hp) (Q:Bool->Hp->Prop),Ak X b g H s->t g H Q->wpAny #[0] X.A (isTrue e X.env f) (TP X b g Q) X.xe s
theorem PW.pt{t:TT}(h:PW X e t):PT X e t:=h _
def PA(X:Cx)(es:List Expr)(t:TA):Prop:=
 ∀(e:Pos) (b:List #[2]) (s:nB) (f:St) (H:Hp) (Q:List V->Hp->Prop),Ak X b f H s->t f H Q->wpAny #[0] X.A (spliced (backTo e (starEach es X.env))) (AP X b f Q) X.xe s
def PS(X:Cx)(f:Stmt)(t:TS):Prop:=
 ∀(b:List #[2]) (s:nB) (e:St) (H:Hp) (D:Hy),Ak X b e H s->t D e H->wpAny #[0] X.A (exec f X.env) (SP X b D) X.xe s
def Pc(X:Cx)(f:List Stmt)(t:TS):Prop:=
 ∀(b:List #[2]) (s:nB) (e:St) (H:Hp) (D:Hy),Ak X b e H s->t D e H->wpAny #[0] X.A (execs f X.env) (SP X b D) X.xe s
theorem Bq{t:Sem e}(h:wpAny M A t Q E s)(f:∀a s,Q a s->b a s):wpAny M A t b E s:=iv h f λ_ _ x=>x
section
variable {X:Cx}
inductive RP(i:Nat)(σ:St)(H:Hp)(Q:VK):Prop
 |mk (v:_) (bW:σ[i]?=some (some v)) (bO:Q v H):RP i σ H Q
def tC(v:V):TE:=λ_ H Q=>Q v H
theorem yz{pos:Pos}(o:X.N[i]?=some x)(z:FF X.env.scope x)(hd:#[5]=false:=by decide)(A:(x==("__classdict__":Str))=false:=by decide):PE X (.Name x pos) (RP i):=by
 intro g s B H Q I h;obtain⟨v,e,h⟩:=h;obtain⟨m,y,p⟩:=I.loc;obtain⟨u,r,l⟩:=p i x v o e z;have b:EP X g B Q u s:={v,H,I,r,h};rcases l with⟨f,q⟩|⟨f,c,n,j⟩
 ·exact wpAny_Name (wpAny_loadName_local I.ok.kind f y q b) hd
 ·rcases f with f|f
  ·exact wpAny_Name (wpAny_loadName_cell I.ok.kind f n j b) hd
  ·exact wpAny_Name (wpAny_loadName_free I.ok.kind f n j b A) hd
theorem A5{i j pos}:PE X (.Constant (.int i) j pos) (tC (.int i)):=λ_ _ _ H _ I h=>wpAny_Constant_int ⟨.int i,H,I.tok _,⟨_,rfl⟩,h⟩
theorem Gi{b j pos}:PE X (.Constant (.bool b) j pos) (tC (.bl b)):=λ_ _ _ H _ I h=>Constant_bool ⟨.bl b,H,I,rfl,h⟩
theorem B9{j pos}:PE X (.Constant .none j pos) (tC .bB):=λ_ _ _ H _ I h=>Constant_none ⟨.bB,H,I,rfl,h⟩
theorem Ad{x j pos}:PE X (.Constant (.str x) j pos) (tC (.str x)):=λ_ _ _ H _ I h=>Calls.Constant_str ⟨.str x,H,I.tok _,⟨_,rfl⟩,h⟩
def Gl(X:Cx)(x:Str):Prop:=X.env.kindOf x=some .globalImplicit
theorem Jx{pos:Pos}(I:Ak X b g H s)(e:Gl X x)(f:X.mg x=some u)(h:Q u s)
  (hd:#[5]=false:=by decide):wpAny #[0] X.A (eval (.Name x pos) X.env) Q E s:=
 Calls.Name_function_global I.ok.kind e (Calls.loadGlobal_global (by rw[I.ok.glob];exact I.mod.glob.keeps I.bk) f h) hd
theorem Fb{pos:Pos}(I:Ak X b n H s)(g:Gl X x)(i:X.mg x=none)(m:bootBuiltins x=some u)(h:Q u s)
  (j:x≠"__name__":=by decide)(hd:#[5]=false:=by decide):wpAny #[0] X.A (eval (.Name x pos) X.env) Q E s:=by
 obtain⟨o,e,f⟩:=I.mod.blt;exact Calls.Name_function_global I.ok.kind g (Calls.loadGlobal_builtin (by rw[I.ok.glob];exact I.mod.glob.keeps I.bk) i (by rw[I.ok.blt];exact e.keeps I.bk) ((f x j).trans m) h) hd
theorem C9{pos:Pos}(b:Gl X x)(e:X.mg x=some u)(r:B2 v u)(hd:#[5]=false:=by decide):PE X (.Name x pos) (tC v):=
 λ_ _ _ H _ I h=>Jx I b e ⟨v,H,I,r,h⟩ hd
theorem lv{pos:Pos}(b:Gl X x)(e:X.mg x=none)(g:bootBuiltins x=some u)(r:B2 v u)(f:x≠"__name__":=by decide)(hd:#[5]=false:=by decide):PE X (.Name x pos) (tC v):=
 λ_ _ _ H _ I h=>Fb I b e g ⟨v,H,I,r,h⟩ f hd
variable {a b:Expr}{ta tb:TE}{pos:Pos}
def PC(X:Cx)(op:CmpOp)(a b:Expr)(t:TE):Prop:=
 ∀(e:List #[2]) (s:nB) (h:St) (H:Hp) (Q:VK),Ak X e h H s->t h H Q->
  wpAny #[0] X.A (eval a X.env) (λv f=>wpAny #[0] X.A (eval b X.env) (λu g=>wpAny #[0] X.A (compareOp op v u) (EP X e h Q) X.xe g) X.xe f) X.xe s
inductive tBK(Q:Bool->Hp->Prop)(x:V)(H1:Hp):Prop
 |mk (c:_) (bW:x=.bl c) (bO:Q c H1):tBK Q x H1
def tB(t:TE):TT:=λe H Q=>t e H (tBK Q)
theorem Ii{t:TE}(h:PC X op a b t)(h1:behindInMarks op b=false:=by first|exact FJ _ (by decide) (by decide)|rfl):PT X (.Compare a [op] [b] pos) (tB t):=by
 intro e s o H Q I j;refine wpAny_isTrue_Compare1 (Bq (h e s o H _ I j) λv p h1=>Bq h1 λu y i=>Bq i λc z ⟨x,f,g,n,m⟩=>?_) h1;obtain⟨d,rfl,q⟩:=m;cases n;exact iC ⟨f,g,q⟩
theorem Bd{t:TE}(h:PE X e t)(he:∀f,isTrue e X.env f=(do let v <- f;standAt e.pos;holding [v] (truthy v)):=by intro _;rfl):PT X e (tB t):=by
 intro g s p H Q I m;refine isTrue_plain (Bq (h g s p H _ I m) λv u ⟨x,i,j,o,n⟩=>?_) (he _);obtain⟨d,rfl,q⟩:=n;cases o;exact iC ⟨i,j,q⟩
variable {tA uA:TT}{rest:List Expr}
def A5n(t:TT):TT:=λf H Q=>t f H λc e=>Q (!c) e
theorem E3(g:PT X a tA):PW X (.BoolOp .And [a] pos) tA:=by
 intro m f s i H Q I h;refine isTrue_and (Bq (g f s i H Q I h) λc j e=>?_);cases c with
 |true=>exact isTrue_and_nil e
 |false=>exact e
theorem E8(g:PT X a tA):PW X (.BoolOp .Or [a] pos) tA:=by
 intro m f s i H Q I h;refine isTrue_or (Bq (g f s i H Q I h) λc j e=>?_);cases c with
 |false=>exact isTrue_or_nil e
 |true=>exact e
theorem Da(g:PT X a tA):PT X (.UnaryOp .Not a pos) (A5n tA):=by
 intro e s i H Q I h;exact isTrue_not (g e s i H (λc f=>Q (!c) f) I h)
theorem Ih{op}{t:TE}(h:PE X a t):PE X (.BoolOp op [a] pos) t:=λe s g H Q I f=>BoolOp_one (h e s g H Q I f)
def tIf(t:TT)(ta tb:TE):TE:=λe H Q=>t e H λc f=>if c=true then ta e f Q else tb e f Q
theorem Ou(q:PT X c tA)(o:PE X a ta)(p:PE X b tb):PE X (.IfExp c a b pos) (tIf tA ta tb):=by
 intro e s f H Q I h;refine wpAny_IfExp (Bq (q e s f H _ I h) λd m n=>?_);obtain⟨g,i,j⟩:=n;cases d with
 |true=>exact o e m f g Q i j
 |false=>exact p e m f g Q i j
end
def Ar(K:W.Frag)(H:Hp)(a:Addr)(xs:List V):Prop:=
 Rd H a (.lst xs)\/
  ∃(o:Obj) (b:Array nL) (n:Nat),K.lookup a=some o/\o.cls=.type "list"/\o.dict=none/\o.data=.seq b n/\b.size<=sizeLine/\B0 xs b.toList
def Ax(K:W.Frag)(H:Hp)(a:Addr)(xs:List V):Prop:=
 Rd H a (.tup xs)\/
  ∃(o:Obj) (b:Array nL) (n:Nat),K.lookup a=some o/\o.cls=.type "tuple"/\o.data=.seq b n/\b.size<=sizeLine/\B0 xs b.toList
def A58:nL->Option V
 | .none=>some .bB
 | .bool b=>some (.bl b)
 | .int i _=>some (.int i)
 | .str x _=>some (.str x)
 | .bytes b _=>some (.nQ b)
 | .float b _=>some (.AM b)
 | .ref a=>some (.ref a)
 | .type n=>some (.ty n)
 |_=>none
theorem B2.abs(r:B2 x u):A58 u=some x:=by
 cases x with
 |bB=>cases r;rfl
 |bl _=>cases r;rfl
 |int _=>obtain⟨t,rfl⟩:=r;rfl
 |str _=>obtain⟨t,rfl⟩:=r;rfl
 |nQ _=>obtain⟨t,rfl⟩:=r;rfl
 |AM _=>obtain⟨t,rfl⟩:=r;rfl
 |ref _=>cases r;rfl
 |ty _=>cases r;rfl
theorem B2.inj(r:B2 x u)(q:B2 y u):x=y:=en (r.abs.symm.trans q.abs)
theorem B0.inj(h:B0 xs us)(g:B0 ys us):xs=ys:=by
 induction h generalizing ys with
 |nil=>
  cases g;rfl
 |cons r t b=>
  cases g with
  |cons e f=>rw[r.inj e,b f]
section
variable {X:Cx}{pins:List #[2]}{σ:St}{H:Hp}{s:nB}{a:Addr}{xs ys:List V}
theorem Ar.of{K:W.Frag}(h:H a=some (.lst xs)):Ar K H a xs:=.inl (.inl h)
theorem Ax.of{K:W.Frag}(h:H a=some (.tup xs)):Ax K H a xs:=.inl (.inl h)
theorem Ak.list(I:Ak X pins σ H s)(h:Ar X.K H a xs):∃b:List nL,B0 xs b/\PlainL s.heap a b.toArray/\xs.length<=sizeLine:=by
 rcases h with h|⟨o,b,n,i,f,g,j,m,r⟩
 ·obtain⟨z,b,n,r,e⟩:=h.ok I.aJ;exact{b,r,{_,n,e,rfl,rfl,rfl},z}
 ·refine{b.toList,r,{o,n,I.fI a o i,f,g,by simpa using j},?_};have e:=r.length;simp only[Array.length_toList]at e;omega
theorem Ak.tuple(I:Ak X pins σ H s)(h:Ax X.K H a xs):∃b:List nL,B0 xs b/\IsTup s.heap a b.toArray/\xs.length<=sizeLine:=by
 rcases h with h|⟨o,b,n,g,f,i,j,r⟩
 ·obtain⟨z,b,r,p⟩:=h.ok I.aJ;exact{b,r,p,z.1}
 ·refine{b.toList,r,{o,I.fI a o g,f,n,by simpa using i},?_};have e:=r.length;simp only[Array.length_toList]at e;omega
theorem Ak.lI(I:Ak X pins σ H s)(h:Ar X.K H a xs)(h':Ar X.K H a ys):xs=ys:=by
 obtain⟨i,r,⟨o,n,e,_,_,d⟩,_⟩:=I.list h;obtain⟨b,m,⟨q,p,g,_,_,f⟩,_⟩:=I.list h';rw[e]at g;cases g;rw[d]at f;injection f with j _;have:i=b:=by simpa using congrArg Array.toList j
 subst this;exact r.inj m
theorem Ak.jL(I:Ak X pins σ H s)(h:Ax X.K H a xs)(h':Ax X.K H a ys):xs=ys:=by
 obtain⟨i,r,⟨o,e,_,n,d⟩,_⟩:=I.tuple h;obtain⟨b,m,⟨q,g,_,p,f⟩,_⟩:=I.tuple h';rw[e]at g;cases g;rw[d]at f;injection f with j _;have:i=b:=by simpa using congrArg Array.toList j
 subst this;exact r.inj m
end
abbrev Cx.jF(X:Cx)(E:mD):Cx:={X with xe:=E}
abbrev Cx.DM(X:Cx):Cx:=X.jF λ_ _=>False
theorem Cx.Ok.jF{X:Cx}(ok:X.Ok)(E:mD):(X.jF E).Ok:=
 ⟨ok.mod,ok.kind,ok.glob,ok.blt,ok.above,ok.inj,ok.has,ok.AN,ok.hd,ok.frames,ok.DK,ok.FG,ok.bs,ok.qA,ok.mQ,ok.mR,ok.fR,ok.uO⟩
theorem Cx.Ok.eJ{X:Cx}{E:mD}(ok:(X.jF E).Ok):X.Ok:=
 ⟨ok.mod,ok.kind,ok.glob,ok.blt,ok.above,ok.inj,ok.has,ok.AN,ok.hd,ok.frames,ok.DK,ok.FG,ok.bs,ok.qA,ok.mQ,ok.mR,ok.fR,ok.uO⟩
section
variable {X:Cx}{pins:List #[2]}{σ:St}{H:Hp}{s:nB}{E:mD}
theorem Ak.jF(I:Ak X pins σ H s)(E:mD):Ak (X.jF E) pins σ H s:={I.ok.jF E,I.os,I.bare,I.base,I.loc,I.cell,I.free,I.cH,I.pin,I.aJ,I.len}
theorem Ak.eJ(I:Ak (X.jF E) pins σ H s):Ak X pins σ H s:={I.ok.eJ,I.os,I.bare,I.base,I.loc,I.cell,I.free,I.cH,I.pin,I.aJ,I.len}
theorem SP.eJ(h:SP (X.jF E) pins D f s'):SP X pins D f s':=by
 cases f with
 |next=>obtain⟨b,e,I,q⟩:=h;exact{b,e,I.eJ,q}
 |brk=>obtain⟨b,e,I,q⟩:=h;exact{b,e,I.eJ,q}
 |cont=>obtain⟨b,e,I,q⟩:=h;exact{b,e,I.eJ,q}
 |ret u=>obtain⟨v,b,e,I,r,q⟩:=h;exact{v,b,e,I.eJ,r,q}
theorem Pc.DM{b:List Stmt}{t:TS}(h:Pc X.DM b t):Pc X b t:=λpins s σ H D I e=>
 iv (h pins s σ H D (I.jF _) e) (λ_ _ q=>q.eJ) λ_ _ z=>False.elim z
end
section
variable {X:Cx}{st:Stmt}{rest:List Stmt}{t u:TS}{e:Expr}{te:TE}{pos:Pos}
def A4x:TS:=λD b H=>D.nx b H
def A5s(t u:TS):TS:=λD b H=>t {D with nx:=u D} b H
theorem Ac:Pc X [] A4x:=λ_ _ b H _ I h=>wpAny_execs_nil ⟨b,H,I,h⟩
theorem A3(h1:PS X st t)(m:Pc X rest u):Pc X (st::rest) (A5s t u):=by
 intro b s o H D I h;refine wpAny_execs_cons (Bq (h1 b s o H {D with nx:=u D} I h) λf n q=>?_);cases f with
 |next=>
  obtain⟨g,i,j,q⟩:=q;exact m b n g i D j q
 |ret v=>exact q
 |brk=>exact q
 |cont=>exact q
theorem A7(h1:PS X st t):Pc X [st] t:=by
 intro b s g H D I h;refine wpAny_execs_cons (Bq (h1 b s g H D I h) λf i q=>?_);cases f with
 |next=>exact wpAny_execs_nil q
 |ret v=>exact q
 |brk=>exact q
 |cont=>exact q
theorem Ak.quiet(I:Ak X b f H s):interactive X.env=false:=by simp[interactive,I.ok.kind]
def A4t(te:TE):TS:=λD b H=>te b H λ_ f=>D.nx b f
theorem Bp(he:PE X e te)(j:swapsWith e none pos.line X.env=pure false:=by rfl):PS X (.Expr e pos) (A4t te):=by
 intro b s f H D I h;exact wpAny_Expr_any (Bq (he b s f H _ I h) λv o ⟨x,g,i,n,m⟩=>⟨f,g,i,m⟩) I.quiet j
def A5r(te:TE):TS:=λD b H=>te b H D.rt
theorem Aa(he:PE X e te):PS X (.Return (some e) pos) (A5r te):=by
 intro b s f H D I h;exact wpAny_Return_some (Bq (he b s f H _ I h) λv n ⟨x,g,i,m,j⟩=>⟨x,f,g,i,m,j⟩)
def A5l(c:TT)(t u:TS):TS:=λD f H=>c f H λb g=>if b=true then t D f g else u D f g
theorem Av(x:PT X c o)(q:Pc X a t)(v:Pc X b u):PS X (.If c a b pos) (A5l o t u):=by
 intro f s g H D I h;refine wpAny_If (Bq (x f s g H _ I h) λd n p=>?_);obtain⟨i,j,m⟩:=p;cases d with
 |true=>exact q f n g i D j m
 |false=>exact v f n g i D j m
def A2c:TS:=λ_ _ _=>False
theorem D0:PS X st A2c:=λ_ _ _ _ _ _ h=>h.elim
end
abbrev TG:=V->St->Hp->(St->Hp->Prop)->Prop
abbrev k8:=List V->St->Hp->(St->Hp->Prop)->Prop
def PG(X:Cx)(b:Expr)(t:TG):Prop:=
 ∀(e:List #[2]) (s:nB) (h:St) (H:Hp) (v:V) (u:nL) (Q:St->Hp->Prop),Ak X e h H s->B2 v u->t v h H Q->
  wpAny #[0] X.A (assign b X.env u) (λ_ i=>∃f g,Ak X e f g i/\Q f g) X.xe s
def DN(X:Cx)(m:List Expr)(t:k8):Prop:=
 ∀(b:List #[2]) (s:nB) (i:St) (H:Hp) (h:List V) (g:List nL) (Q:St->Hp->Prop),Ak X b i H s->B0 h g->t h i H Q->
  wpAny #[0] X.A (assignInOrder ((assignEach m X.env).map (·.2)) g) (λ_ j=>∃e f,Ak X b e f j/\Q e f) X.xe s
abbrev ud:=V->V->V->Hp->(Hp->Prop)->Prop
def A2r(X:Cx)(t:ud):Prop:=
 ∀(b:List #[2]) (s:nB) (h:St) (H:Hp) (o i v:V) (g f u:nL) (Q:Hp->Prop),Ak X b h H s->B2 o g->B2 i f->B2 v u->t o i v H Q->
  wpAny #[0] X.A (setItem g f u) (λ_ j=>∃e,Ak X b h e j/\Q e) X.xe s
abbrev OF:=V->V->Hp->VK->Prop
def PIp(X:Cx)(op:Operator)(t:OF):Prop:=
 ∀(b:List #[2]) (s:nB) (e:St) (H:Hp) (x y:V) (v u:nL) (Q:VK),Ak X b e H s->B2 x v->B2 y u->t x y H Q->
  wpAny #[0] X.A (inplaceOp op v u) (EP X b e Q) X.xe s
section
variable {X:Cx}{pos:Pos}
def Hr(i:Nat):TG:=λv b H Q=>Q (b.set i (some v)) H
theorem m9(f:X.N.Nodup)(j:X.N[i]?=some x)(m:u8 X.env.scope x)(g:X.fn x=true\/X.env.scope.names.lookup x=some .local:=by first|exact .inl rfl|exact .inr rfl|assumption):PG X (.Name x pos) (Hr i):=by
 intro b s o H v u Q I r h;exact wpAny_assign_Name (Ke I f j m r (λn e=>⟨_,H,e,h⟩) g)
def A31:k8:=λb e H Q=>b=[]/\Q e H
inductive Xa(t:TG)(u:k8)(vs:List V)(σ:St)(H:Hp)(Q:St->Hp->Prop):Prop
 |mk (v:_) (r:_) (bW:vs=v::r) (bO:t v σ H λσ' H'=>u r σ' H' Q):Xa t u vs σ H Q
theorem Bm:DN X [] A31:=by
 intro b s f H i g Q I r h;obtain⟨e,h⟩:=h;subst e;cases r;exact assignInOrder_nil ⟨f,H,I,h⟩
theorem Ai{t:TG}(h1:PG X e t)(n:DN X es u)
  (o:(assignEach (e::es) X.env).map (·.2)=assign e X.env::(assignEach es X.env).map (·.2):=by rfl):DN X (e::es) (Xa t u):=by
 intro b s y H B z Q I r h;obtain⟨v,A,m,h⟩:=h;subst m;cases r with
 |cons r q=>
  rw[o];refine assignInOrder_cons (Bq (h1 b s y H _ _ _ I r h) λ_ x j=>?_);obtain⟨f,g,i,p⟩:=j;exact n b x f g _ _ Q i q p
inductive kj(K:W.Frag)(n:Nat)(t:k8)(v:V)(σ:St)(H:Hp)(Q:St->Hp->Prop):Prop
 |mk (a:_) (xs:_) (bW:v=.ref a) (bO:Ax K H a xs) (cB:xs.length=n) (dM:t xs σ H Q):kj K n t v σ H Q
theorem z9{k:Nat}{t:k8}(y:X.calm=true)(h:DN X es t)
  (A:(assignEach es X.env).length=n:=by rfl)(p:(assignEach es X.env).findIdx? (·.1)=none:=by rfl):PG X (.Tuple es k pos) (kj X.K n t):=by
 intro f s j H v u Q I r g;obtain⟨a,E,q,B,z,g⟩:=g;subst q;cases r;obtain⟨F,i,C,G⟩:=I.tuple B;refine assign_Tuple_tuple (I.ok.hd y) C (by simp[A,<- z,i.length]) p λx D=>?_;have m:Ak X f j H {s with heap:=x}:=I.kept (t':=s.toks) λb o e=>D b o (fe (dr e)) e;exact h f _ j H E _ Q m (by simpa using i) g
def A5b(j h:TE)(t:ud):TG:=λv b H Q=>j b H λo e=>h b e λi f=>t o i v f λg=>Q b g
theorem g9{t:ud}(F:PE X o n)(E:PE X i m)(G:A2r X t)
  (D:∀v,assign (.Subscript o i pos) X.env v=(do
   let e <- holding [v] (eval o X.env);let g <- holding [v,e] (eval i X.env)
   standAt pos
   holding [v,e,g] (setItem e g v)
   release [v,e,g] []):=by intro _;rfl):PG X (.Subscript o i pos) (A5b n m t):=by
 intro b s j H v u Q I r h;rw[D];refine ag (fD (Bq (F b s j H _ I h) λe O f=>?_));obtain⟨x,p,A,M,J⟩:=f;refine ag (fD (Bq (E b O j p _ A J) λg P f=>?_));obtain⟨y,q,B,N,K⟩:=f;refine ag (wpAny_standAt (ag (fD (Bq (G b P j q x y v e g u _ B M N r K) λ_ R f=>?_))));obtain⟨z,C,L⟩:=f;exact wpAny_release ⟨j,z,C,L⟩
def RQ(f:TE)(g:TG):TS:=λD b H=>f b H λx e=>g x b e D.nx
theorem Dr(he:PE X e i)(o:PG X f g)(p:swapsWithSole [f] e pos.line X.env=pure false:=by rfl)(u:swappedStores [f] e X.env=pure none:=by rfl)
  (h1:(assignEach [f] X.env).map (·.2)=[assign f X.env]:=by rfl):PS X (.Assign [f] e pos) (RQ i g):=by
 intro b s j H D I h;refine wpAny_Assign_stores (Bq (he b s j H _ I h) λv A ⟨x,m,n,z,y⟩=>?_) p u;rw[h1];exact Bq (o b A j m x v _ n z y) λ_ B q=>q
theorem ze(o:X.N.Nodup)(q:X.N[i]?=some x)(z:u8 X.env.scope x)(he:PE X e g)(u:swapsWith e (some (.Name x b)) pos.line X.env=pure false:=by rfl)(p:X.fn x=true\/X.env.scope.names.lookup x=some .local:=by first|exact .inl rfl|exact .inr rfl|assumption):
  PS X (.Assign [.Name x b] e pos) (RQ g (Hr i)):=by
 intro f s C H D I h;refine wpAny_Assign_Name (Bq (he f s C H _ I h) λv E ⟨y,j,m,B,A⟩=>?_) u;exact Ke m o q z B (λF n=>⟨_,j,n,A⟩) p
inductive A4p(i:Nat)(te:TE)(ti:OF)(D:Hy)(σ:St)(H:Hp):Prop
 |mk (x:_) (bW:σ[i]?=some (some x)) (bO:te σ H λy H1=>ti x y H1 λz H2=>D.nx (σ.set i (some z)) H2):A4p i te ti D σ H
theorem gc(P:X.N.Nodup)(B:X.N[i]?=some x)(p:u8 X.env.scope x)(he:PE X e C)(Y:PIp X op E)(R:X.fn x=true\/X.env.scope.names.lookup x=some .local:=by first|exact .inl rfl|exact .inr rfl|assumption):
  PS X (.AugAssign (.Name x g) op e pos) (A4p i C E):=by
 intro b s F H D I h;obtain⟨v,N,h⟩:=h;obtain⟨m,U,S⟩:=I.loc;have q:FF X.env.scope x:=by rcases p with k|k;exact .inl k;exact .inr (.inl k)
 obtain⟨u,r,l⟩:=S i x v B N q;refine wpAny_AugAssign_Name ?_
 have A:wpAny #[0] X.A (eval e X.env) (λw j=>wpAny #[0] X.A (inplaceOp op u w) (λr n=>wpAny #[0] X.A (storeName X.env x r) (λ_=>SP X b D .next) X.xe n) X.xe j) X.xe s:=by
  refine Bq (he b s F H _ I h) λw s1 o=>?_;obtain⟨y,G,K,r1,Z⟩:=o;refine Bq (Y b s1 F G v y u w _ K r r1 Z) λz s2 o=>?_;obtain⟨zv,J,L,r2,q2⟩:=o;exact Ke L P B p r2 (λs3 M=>⟨_,J,M,q2⟩) R
 rcases l with⟨f,T⟩|⟨f,c,Q,O⟩
 ·exact wpAny_loadName_local I.ok.kind f U T A
 ·rcases f with f|f
  ·exact wpAny_loadName_cell I.ok.kind f Q O A
  ·rcases p with k|k
   ·have:X.env.scope.names.lookup x=some .free:=f;rw[k]at this;cases this
   ·have:X.env.scope.names.lookup x=some .free:=f;rw[k]at this;cases this
def ipI(f:Int->Int->Int):OF:=λx y H Q=>∃i j,x=.int i/\y=.int j/\Q (.int (f i j)) H
theorem df:PIp X .Add (ipI λi j=>i+j):=by
 intro b s o H x y v u Q I g m h;obtain⟨i,j,e,f,q⟩:=h;subst e;subst f;obtain⟨t,rfl⟩:=g;obtain⟨n,rfl⟩:=m;exact iadd_int ⟨.int _,H,I.tok _,⟨_,rfl⟩,q⟩
end
section
variable {X:Cx}{pos:Pos}
def jq(c:TT)(j:TS):TS:=λD e H=>∃W:Nat->St->Hp->Prop,(∃m,W m e H)/\∀m e H,W m e H->
 c e H λb h=>if b=true then∃N:St->Hp->Prop,(∀f g,N f g->∃i,i<m/\W i f g)/\j {D with nx:=N,ct:=N,bk:=D.nx} e h else D.nx e h
theorem Ox(K:PassesOwn #[0] X.A X.env X.xe)(R:PT X c M)(Q:Pc X j L):PS X (.While c j [] pos) (jq M L):=by
 intro e s σ H D I h;obtain⟨W,⟨m0,Y⟩,o⟩:=h;refine wpAny_While (codeAny_whileLoop (λn S=>∃p C,Ak X e p C S/\W n p C) ?_ m0 ⟨σ,H,I,Y⟩);rintro n T ⟨i,E,O,Z⟩;refine wpAny_passesOwn K (Bq (R e T i E _ O (o n i E Z)) λb U P=>?_);obtain⟨F,G,q⟩:=P;cases b with
 |true=>
  obtain⟨N,J,q⟩:=q;rw[if_pos rfl];refine wpAny_passesOwn K (Bq (Q e U i F _ G q) λf s3 u=>?_);cases f with
  |next=>
   obtain⟨g,m,x,A⟩:=u;obtain⟨z,y,B⟩:=J g m A;exact{z,y,g,m,x,B}
  |cont=>
   obtain⟨g,m,x,A⟩:=u;obtain⟨z,y,B⟩:=J g m A;exact{z,y,g,m,x,B}
  |brk=>exact u
  |ret v=>exact u
 |false=>
  rw[if_neg Bool.false_ne_true];exact wpAny_execs_nil ⟨i,F,G,q⟩
end
set_option genInjectivity false in
set_option genSizeOf false in
structure It where
 go:Nat->Hp->Prop
 uQ:Nat->Hp->V->Hp->Prop
 stop:Nat->Hp->Prop
def Md(X:Cx)(e:List #[2])(H:Hp)(b:Addr):Prop:=
 H b=none/\b≠X.env.locals/\b∉X.fs/\(b∈X.ex\/X.s₀.heap.objs.size<=b)/\#[6]/\∀p∈X.pn++e,p.1≠b
theorem Ak.lJ(I:Ak X f m H s)(g:s.heap.objs.size<=b)(i:h b=none):Md X f h b:=by
 refine{i,Nat.ne_of_gt (fy I.lt g),I.RL g,.inr (ea I.sz g),λx c e z=>?_,λp j z=>?_}
 ·obtain⟨v,q⟩:=I.cell x c e;exact absurd (fy q.lt (by rw[z];exact g)) (Nat.lt_irrefl _)
 ·exact absurd (fy (dr (I.pin p j).1) (by rw[z];exact g)) (Nat.lt_irrefl _)
structure R8(P:nP)(w:n4)(K:W.Frag)(tg:Expr)(J:It)(fp:List Addr)(it:Addr)(tn:Nat->Heap->Prop):Prop where
 mem:it∈fp
 obj:∀i h,tn i h->∀b∈fp,∃o,h.get? b=some o/\∀v,o.data≠ .cell v
 keep:∀i h h',tn i h->(∀b∈fp,∀o,h.get? b=some o->h'.get? b=some o)->tn i h'
 item:∀(X:Cx),X.prog=P->X.w=w->X.K=K->X.calm=true->∀(i:Nat) (pins:List #[2]) (s:nB) (σ:St) (H:Hp) (E:mD),Ak X pins σ H s->(∀b∈fp,Md X pins H b)->tn i s.heap->J.go i H->
  wpAny (model P w) X.A (pyNext (.ref it)) (λr s1=>∃u,r=some u/\
   wpAny (model P w) X.A (letOwnedTupleGo tg (.ref it) u) (λ_ s2=>∃x H',Ak X pins σ H' s2/\B2 x u/\J.uQ i H x H'/\tn (i+1) s2.heap/\∀b∈fp,H' b=none) E s1) E s
 done:∀(X:Cx),X.prog=P->X.w=w->X.K=K->X.calm=true->∀(i:Nat) (pins:List #[2]) (s:nB) (σ:St) (H:Hp) (E:mD),Ak X pins σ H s->(∀b∈fp,Md X pins H b)->tn i s.heap->J.stop i H->
  wpAny (model P w) X.A (pyNext (.ref it)) (λr s1=>r=none/\Ak X pins σ H s1) E s
 self:∀(A:nU) (i:Nat) (s:nB) (Q:mD) (E:mD),tn i s.heap->Q (.ref it) s->wpAny (model P w) A (pyIter (.ref it)) Q E s
abbrev TI:=St->Hp->(It->Hp->Prop)->Prop
def RS(X:Cx)(e:List #[2])(o:St)(n:Expr)(R:It->Hp->Prop)(m:nL)(i:nB):Prop:=
 ∃(h:Addr) (g:List Addr) (j:Nat->Heap->Prop) (J:It) (f:Hp),m=.ref h/\Ak X e o f i/\R8 X.prog X.w X.K n J g h j/\j 0 i.heap/\(∀b∈g,Md X e f b)/\R J f
def PI(X:Cx)(h e:Expr)(i:TI):Prop:=
 ∀(b:List #[2]) (s:nB) (f:St) (H:Hp) (R:It->Hp->Prop),Ak X b f H s->i f H R->
  wpAny #[0] X.A (eval e X.env) (λv g=>wpAny #[0] X.A (pyIter v) (RS X b f h R) X.xe g) X.xe s
theorem Xb(i:s.heap.get? it=some o)(f:o.cls=.type n)(hd:o.data=.fields vs)
  (g:["enumerate","zip","dict_itemiterator","dict_reverseitemiterator","odict_iterator","itertools.zip_longest","itertools.pairwise"].contains n=false)(b:Q () s):wpAny M A (letOwnedTupleGo e (.ref it) u) Q E s:=by
 unfold letOwnedTupleGo
 cases e<;>first
  |exact aN b
  | (cases u <;> first
    |exact aN b
    | (refine ag (wpAny_load i ?_)
       rw[f,hd];show wpAny M A (if(["enumerate","zip","dict_itemiterator","dict_reverseitemiterator","odict_iterator","itertools.zip_longest","itertools.pairwise"].contains n&&vs[0]? ==some (rawInt _))=true then _ else _) Q E s;rw[if_neg (by intro h;rw[g,Bool.false_and]at h;cases h)];exact aN b))
def tw(K:W.Frag)(a:Addr):It:=
 ⟨λi H=>∃b x,Ar K H a b/\b[i]?=some x,λi H x e=>e=H/\∀b,Ar K H a b->b[i]?=some x,λi H=>∃b,Ar K H a b/\b.length<=i⟩
def DP(K:W.Frag)(a:Addr):It:=
 ⟨λi H=>∃b x,Ax K H a b/\b[i]?=some x,λi H x e=>e=H/\∀b,Ax K H a b->b[i]?=some x,λi H=>∃b,Ax K H a b/\b.length<=i⟩
def jz(e:Int)(n:Nat):It:={λi _=>i<n,λi H x b=>b=H/\x=.int (e+i),λi _=>n<=i}
theorem ah{P:nP}{w:n4}{K:W.Frag}{tg:Expr}(a it:Addr):R8 P w K tg (tw K a) [it] it (λi h=>h.IsListIter it a i)where
 mem:=by simp
 obj:=λi h f b j=>by
  have e:b=it:=by simpa using j
  subst e;obtain⟨o,e,c,d⟩:=f;exact{o,e,λv z=>by rw[d]at z;cases z}
 keep:=λi h m f k=>f.at λo e=>k it (by simp) o e
 item:=by
  intro X G L F Q i g s R H E I n f J;subst G L F;obtain⟨xs,x,q,M⟩:=J;obtain⟨T,N,p,hz⟩:=I.list q;obtain⟨u,Z,ru⟩:=N.get M;obtain⟨y,A,Y,B,C,D⟩:=n it (by simp);refine wpAny_pyNext_list_item f p.isList (x:=u) (by simpa using Z) λm O sb=>?_;have S:Ak X g R H {s with heap:=m}:=I.turned (t':=s.toks) (λb o j e=>(sb.2 b j).trans e) y A B C D;obtain⟨o,e,c,d⟩:=id O;exact{u,rfl,Xb (s:={s with heap:=m}) e c d (by decide) {x,H,S,ru,{rfl,λys hy=>by rw[I.lI hy q];exact M},O,λb j=>(n b j).1}}
 done:=by
  intro X G L F Q i g s R H E I n f J;subst G L F;obtain⟨xs,q,M⟩:=J;obtain⟨T,N,p,hz⟩:=I.list q;obtain⟨y,A,Y,B,C,D⟩:=n it (by simp);have hl:=N.length;exact wpAny_pyNext_list_end (I.ok.hd Q) f p.isList (by simp;omega) λm U=>⟨rfl,I.turned (t':=s.toks) (λb o j e=>U b o j e) y A B C D⟩
 self:=λ_ _ _ _ _ f h=>wpAny_pyIter_listiter f h
theorem Wr{P:nP}{w:n4}{K:W.Frag}{tg:Expr}(a it:Addr):R8 P w K tg (DP K a) [it] it (λi h=>h.IsTupleIter it a i)where
 mem:=by simp
 obj:=λi h f b j=>by
  have e:b=it:=by simpa using j
  subst e;obtain⟨o,e,c,d⟩:=f;exact{o,e,λv z=>by rw[d]at z;cases z}
 keep:=λi h m f k=>f.at λo e=>k it (by simp) o e
 item:=by
  intro X J M G R i g s S H E I n f L;subst J M G;obtain⟨xs,x,q,N⟩:=L;obtain⟨y,O,p,hz⟩:=I.tuple q;obtain⟨u,Z,ru⟩:=O.get N;obtain⟨A,B,Y,C,D,F⟩:=n it (by simp);refine wpAny_pyNext_tuple_item f (show s.heap.IsTuple a y.toArray from p) (x:=u) (by simpa using Z) λm Q sb=>?_;have T:Ak X g S H {s with heap:=m}:=I.turned (t':=s.toks) (λb o j e=>(sb.2 b j).trans e) A B C D F;obtain⟨o,e,c,d⟩:=id Q;exact{u,rfl,Xb (s:={s with heap:=m}) e c d (by decide) {x,H,T,ru,{rfl,λys hy=>by rw[I.jL hy q];exact N},Q,λb j=>(n b j).1}}
 done:=by
  intro X J M G R i g s S H E I n f L;subst J M G;obtain⟨xs,q,N⟩:=L;obtain⟨y,O,p,hz⟩:=I.tuple q;obtain⟨A,B,Y,C,D,F⟩:=n it (by simp);have hl:=O.length;exact wpAny_pyNext_tuple_end (I.ok.hd R) f (show s.heap.IsTuple a y.toArray from p) (by simp;omega) λm U=>⟨rfl,I.turned (t':=s.toks) (λb o j e=>U b o j e) A B C D F⟩
 self:=λ_ _ _ _ _ f h=>wpAny_pyIter_tupleiter f h
theorem Wq{P:nP}{w:n4}{K:PySem.W.Frag}{U:Expr}(it:Addr)(q:Int)(n:Nat):R8 P w K U (jz q n) [it] it (λi h=>IsRangeIter h it (q+(i:Nat)*1) ((n:Int)-(i:Nat)) 1)where
 mem:=by simp
 obj:=λi h f b j=>by
  have e:b=it:=by simpa using j
  subst e
  exact{_,f,λv z=>by
   have Y:Data.fields _=Data.cell v:=z;cases Y}
 keep:=λi h m f k=>k it (by simp) _ f
 item:=by
  intro X D J C F i g s N H E I p f G;subst D J C;obtain⟨u,x,R,y,A,B⟩:=p it (by simp);have W:=Walks.range (prog:=X.prog) (w:=X.w) (I.ok.hd F) it q 1 n;refine W.item i s _ _ G f λv m M S L T=>?_;obtain⟨t,rfl⟩:=S;have O:Ak X g N H {s with heap:=m,toks:=M}:=I.turned (λb o j e=>T b o (by simpa using j) e) u x y A B;refine{_,rfl,Xb (s:={s with heap:=m,toks:=M}) (n:="range_iterator") L rfl rfl (by decide) {.int (q+i),H,O,{t,?_},{rfl,rfl},L,λb j=>(p b j).1}};rw[Int.mul_one]
 done:=by
  intro X D J C F i g s N H E I p f G;subst D J C;obtain⟨u,x,R,y,A,B⟩:=p it (by simp);exact wpAny_pyNext_range_end (I.ok.hd F) f (by have:n<=i:=G;omega) λm Q=>⟨rfl,I.turned (t':=s.toks) (λb o j e=>Q b o j e) u x y A B⟩
 self:=λ_ _ _ _ _ f h=>wpAny_pyIter_rangeiter f h
section
variable {X:Cx}{tg:Expr}
theorem Ub{h:List #[2]}{m:St}{H:Hp}{s:nB}{R:It->Hp->Prop}{E:mD}{f g:Int}{t u v:Tok}{j:Nat}(I:Ak X h m H s)(h1:-(2^62)<=f)(x:f<2^62)(y:-(2^62)<=g)(z:g<2^62)
  (q:R (jz f (g-f).toNat) H):wpAny #[0] X.A (pyIter (.ref s.heap.objs.size)) (RS X h m tg R) E {s with heap:=s.heap.push {cls:=.type "range",data:=.fields #[.int f t,.int g u,.int 1 v] },toks:=j}:=by
 refine wpAny_pyIter_range (IsRange.new ..) (small_one h1 x y z) ?_;have i:Ak X h m H {s with heap:=s.heap.push {cls:=.type "range",data:=.fields #[.int f t,.int g u,.int 1 v] },toks:=j}:=I.kept λb o e=>cb _ e
 refine{(s.heap.push {cls:=.type "range",data:=.fields #[.int f t,.int g u,.int 1 v] }).objs.size,[(s.heap.push {cls:=.type "range",data:=.fields #[.int f t,.int g u,.int 1 v] }).objs.size],_,_,H,rfl,
  i.kept (t':=j) λb o e=>cb _ e,Wq _ f (g-f).toNat,?_,λb A=>?_,q}
 ·have n:f+((0:Nat):Int)*1=f:=by simp
  have p:(((g-f).toNat:Nat):Int)-((0:Nat):Int)=Builtin.Range.rangeSize f g 1:=by rw[rangeSize_one];split<;>omega
  show IsRangeIter _ _ (f+((0:Nat):Int)*1) ((((g-f).toNat:Nat):Int)-((0:Nat):Int)) 1;rw[n,p];exact cX _ rfl
 ·have e:b=(s.heap.push {cls:=.type "range",data:=.fields #[.int f t,.int g u,.int 1 v] }).objs.size:=by simpa using A
  subst e;exact i.lJ (de _) (i.aJ.fresh (de _))
inductive d8(R:It->Hp->Prop)(vs:List V)(H1:Hp):Prop
 |mk (j:Int) (bW:vs=[.int j]) (bO:-(2^62)<=j) (cB:j<2^62) (dM:R (jz 0 j.toNat) H1):d8 R vs H1
def A32(b:TA):TI:=λe H R=>b e H (d8 R)
inductive d9(R:It->Hp->Prop)(vs:List V)(H1:Hp):Prop
 |mk (i j:Int) (bW:vs=[.int i,.int j]) (bO:(-(2^62)<=i/\i<2^62/\-(2^62)<=j/\j<2^62)) (cB:R (jz i (j-i).toNat) H1):d9 R vs H1
def A33(b:TA):TI:=λe H R=>b e H (d9 R)
theorem D4{a:Expr}{g:TA}{p pos:Pos}(n:Gl X "range")(o:X.mg "range"=none)(m:PA X [a] g)(u:starEach [a] X.env=[(false,eval a X.env)]:=by rfl):PI X tg (.Call (.Name "range" p) [a] [] pos) (A32 g):=by
 intro b s z H R I h;refine Call_ (Fb I n o boot_range (PyProof.Rows.callWith_type1 (Bq (m pos b s z H _ I h) λC B ⟨D,A,i,x,f⟩=>?_) u rfl));obtain⟨j,e,f,v,q⟩:=f;subst e;cases x with
 |cons r y=>
  cases y;obtain⟨t,rfl⟩:=r;exact call_range_1 (Ub i (by omega) (by omega) f v (by simpa using q))
theorem Zz{p pos:Pos}(x:Gl X "range")(y:X.mg "range"=none)(v:PA X [a,b] o)(z:starEach [a,b] X.env=[(false,eval a X.env),(false,eval b X.env)]:=by rfl)(n:starEach [b] X.env=[(false,eval b X.env)]:=by rfl):
  PI X tg (.Call (.Name "range" p) [a,b] [] pos) (A33 o):=by
 intro f s F H R I h;refine Call_ (Fb I x y boot_range (PyProof.Rows.callWith_type1 (Bq (v pos f s F H _ I h) λL J ⟨M,G,u,E,g⟩=>?_) (by rw[z,n]) (by rw[n];rfl)));obtain⟨i,j,e,⟨g,A,B,C⟩,q⟩:=g;subst e;cases E with
 |cons r m=>
  cases m with
  |cons D m=>
   cases m;obtain⟨t,rfl⟩:=r;obtain⟨K,rfl⟩:=D;exact call_range_2 (Ub u g A B C q)
def A5j(q:TI)(g:TG)(p:TS):TS:=λD b H=>q b H λJ n=>∃W:Nat->Nat->St->Hp->Prop,(∃m,W 0 m b n)/\∀i m b H,W i m b H->
 (J.stop i H/\D.nx b H)\/(J.go i H/\∃N:St->Hp->Prop,(∀f e,N f e->∃j,j<m/\W (i+1) j f e)/\∀x e,J.uQ i H x e->g x b e λh o=>p {D with nx:=N,ct:=N,bk:=D.nx} h o)
def Ow(e:List Addr)(h:Heap):List #[2]:=e.filterMap λb=>(h.get? b).map λo=>(b,o)
theorem Gw(g:b∈f)(e:h.get? b=some o):(b,o)∈Ow f h:=List.mem_filterMap.mpr ⟨b,g,by rw[e];rfl⟩
theorem Zu(j:p∈Ow f h):p.1∈f/\h.get? p.1=some p.2:=by
 obtain⟨b,i,e⟩:=List.mem_filterMap.mp j;cases q:h.get? b with
 |none=>rw[q]at e;cases e
 |some o=>
  rw[q]at e;have g:(b,o)=p:=en e;subst g;exact{i,q}
theorem Ak.pinned(I:Ak X f j H s)(u:∀b∈g,Md X f H b)(x:∀b∈g,∃o,s.heap.get? b=some o/\∀v,o.data≠ .cell v):Ak X (f++Ow g s.heap) j H s:=
 I.nR λp y=>(fC.mp y).elim (λz=>I.pin p (gv _ z)) λz=>by
  obtain⟨i,e⟩:=Zu z;obtain⟨m,n,q,_⟩:=u p.1 i;obtain⟨o,h,d⟩:=x p.1 i;rw[e]at h;cases h;exact{e,m,n,q,d}
theorem Ak.fS(I:Ak X (b++pl) e H s):Ak X b e H s:=I.nR λp f=>I.pin p (gv _ (gy _ f))
theorem Bt{K:List Stmt}{pos:Pos}(P:PassesOwn #[0] X.A X.env X.xe)(hc:X.calm=true)(hi:PI X tg B wi)(hg:PG X tg g)(A:Pc X K tb)
  (hs:∀x,foldedSetIterable B X.env x=pure x:=by intro _;rfl):PS X (.For tg B K [] pos) (A5j wi g tb):=by
 intro j s σ H D I h;refine wpAny_For (Bq (hi j s σ H _ I h) λv s1 h1=>Bq h1 λOG s2 h2=>?_) hs;obtain⟨it,O,tn,J,H2,e,I2,T,cS,f2,W,⟨m0,w0⟩,S⟩:=h2;subst e;have C:∀{G:Hp},(∀b∈O,G b=none)->∀b∈O,Md X j G b:=λhn b A=>⟨hn b A,(f2 b A).2⟩;refine codeAny_forLoop_any (λn s'=>∃i E G,Ak X j E G s'/\tn i s'.heap/\(∀b∈O,G b=none)/\W i n E G) ?_ m0 ⟨0,σ,H2,I2,cS,λb A=>(f2 b A).1,w0⟩;rintro n s3 ⟨i,F,U,I3,FK,OH,w3⟩;rcases S i n F U w3 with⟨R,qn⟩|⟨go,N,hN,step⟩
 ·refine wpAny_passesOwn P (Bq (T.done X rfl rfl rfl hc i j s3 F U X.xe I3 (C OH) FK R) λr s4 M=>?_);obtain⟨hr,I4⟩:=M;subst hr;exact wpAny_execs_nil ⟨F,U,I4,qn⟩
 ·refine wpAny_passesOwn P (Bq (T.item X rfl rfl rfl hc i j s3 F U X.xe I3 (C OH) FK go) λr s4 M=>?_);obtain⟨u,hr,h4⟩:=M;subst hr;refine wpAny_passesOwn P (Bq h4 λ_ s5 M=>?_);obtain⟨x,H5,I5,r5,y5,Z,fr5⟩:=M;have Y:=I5.pinned (C fr5) (T.obj _ _ Z);refine wpAny_passesOwn P (Bq (hg _ s5 F H5 x u _ Y r5 (step x H5 y5)) λ_ s6 M=>?_);obtain⟨σ6,H6,I6,q6⟩:=M;refine wpAny_passesOwn P (Bq (A _ s6 σ6 H6 _ I6 q6) λf s7 L=>?_)
  have z:∀{p:St}{q:Hp},Ak X (j++Ow O s5.heap) p q s7->N p q->∃m,m<n/\∃i E G,Ak X j E G s7/\tn i s7.heap/\(∀b∈O,G b=none)/\W i m E G:=λ{p q} y Q=>by
   obtain⟨m',hm,w7⟩:=hN p q Q;refine{m',hm,i+1,p,q,y.fS,T.keep _ _ _ Z λb A o e=>(y.pin (b,o) (gv _ (gv _ (Gw A e)))).1,λb A=>?_,w7};obtain⟨o,e,d⟩:=T.obj _ _ Z b A;exact(y.pin (b,o) (gv _ (gv _ (Gw A e)))).2.1
  cases f with
  |next=>obtain⟨p,q,y,Q⟩:=L;exact z y Q
  |cont=>obtain⟨p,q,y,Q⟩:=L;exact z y Q
  |brk=>obtain⟨p,q,y,L⟩:=L;exact{p,q,y.fS,L}
  |ret v=>obtain⟨x7,p,q,y,r7,L⟩:=L;exact{x7,p,q,y.fS,r7,L}
end
theorem D7{K:PySem.W.Frag}{a:Addr}{xs:List V}{g:TG}{z:TS}{D:Hy}{b:St}{H:Hp}(f:Nat->St->Hp->Prop)(A:f 0 b H)(C:∀i b H,i<=xs.length->f i b H->Ar K H a xs)
  (E:∀i x b H,xs[i]?=some x->f i b H->g x b H λn o=>z {D with nx:=f (i+1),ct:=f (i+1),bk:=D.nx} n o)(hd:∀b H,f xs.length b H->D.nx b H):
  ∃W:Nat->Nat->St->Hp->Prop,(∃m,W 0 m b H)/\∀i m b H,W i m b H->
   ((tw K a).stop i H/\D.nx b H)\/((tw K a).go i H/\∃N:St->Hp->Prop,(∀j h,N j h->∃v,v<m/\W (i+1) v j h)/\∀x h,(tw K a).uQ i H x h->g x b h λn o=>z {D with nx:=N,ct:=N,bk:=D.nx} n o):=by
 refine{λi m b H=>m=xs.length-i/\i<=xs.length/\f i b H,{xs.length,by simp,jN _,A},?_};rintro i m b H ⟨rfl,B,p⟩;have q:=C i b H B p;by_cases u:i<xs.length
 ·refine .inr ⟨⟨xs,xs[i],q,by simp[u]⟩,f (i+1),λj h F=>⟨xs.length-(i+1),by omega,rfl,u,F⟩,λx h y=>?_⟩;obtain⟨e,y⟩:=y;subst e;exact E i x b _ (y xs q) p
 ·have e:i=xs.length:=by omega
  subst e;exact .inl ⟨⟨xs,q,de _⟩,hd b H p⟩
theorem Rr{K:PySem.W.Frag}{a:Addr}{xs:List V}{g:TG}{z:TS}{D:Hy}{b:St}{H:Hp}(f:Nat->St->Hp->Prop)(A:f 0 b H)(C:∀i b H,i<=xs.length->f i b H->Ax K H a xs)
  (E:∀i x b H,xs[i]?=some x->f i b H->g x b H λn o=>z {D with nx:=f (i+1),ct:=f (i+1),bk:=D.nx} n o)(hd:∀b H,f xs.length b H->D.nx b H):
  ∃W:Nat->Nat->St->Hp->Prop,(∃m,W 0 m b H)/\∀i m b H,W i m b H->
   ((DP K a).stop i H/\D.nx b H)\/((DP K a).go i H/\∃N:St->Hp->Prop,(∀j h,N j h->∃v,v<m/\W (i+1) v j h)/\∀x h,(DP K a).uQ i H x h->g x b h λn o=>z {D with nx:=N,ct:=N,bk:=D.nx} n o):=by
 refine{λi m b H=>m=xs.length-i/\i<=xs.length/\f i b H,{xs.length,by simp,jN _,A},?_};rintro i m b H ⟨rfl,B,p⟩;have q:=C i b H B p;by_cases u:i<xs.length
 ·refine .inr ⟨⟨xs,xs[i],q,by simp[u]⟩,f (i+1),λj h F=>⟨xs.length-(i+1),by omega,rfl,u,F⟩,λx h y=>?_⟩;obtain⟨e,y⟩:=y;subst e;exact E i x b _ (y xs q) p
 ·have e:i=xs.length:=by omega
  subst e;exact .inl ⟨⟨xs,q,de _⟩,hd b H p⟩
theorem Ge{q:Int}{n:Nat}{g:TG}{A:TS}{D:Hy}{b:St}{H:Hp}(h:Nat->St->Hp->Prop)(B:h 0 b H)
  (C:∀i b H,i<n->h i b H->g (.int (q+i)) b H λo u=>A {D with nx:=h (i+1),ct:=h (i+1),bk:=D.nx} o u)(hd:∀b H,h n b H->D.nx b H):
  ∃W:Nat->Nat->St->Hp->Prop,(∃m,W 0 m b H)/\∀i m b H,W i m b H->
   ((jz q n).stop i H/\D.nx b H)\/((jz q n).go i H/\∃N:St->Hp->Prop,(∀j f,N j f->∃z,z<m/\W (i+1) z j f)/\∀x f,(jz q n).uQ i H x f->g x b f λo u=>A {D with nx:=N,ct:=N,bk:=D.nx} o u):=by
 refine{λi m b H=>m=n-i/\i<=n/\h i b H,{n,by simp,jN _,B},?_};rintro i m b H ⟨rfl,F,p⟩;by_cases v:i<n
 ·refine .inr ⟨v,h (i+1),λj f E=>⟨n-(i+1),by omega,rfl,v,E⟩,λx f y=>?_⟩;obtain⟨e,y⟩:=y;subst e y;exact C i b _ v p
 ·have e:i=n:=by omega
  subst e;exact .inl ⟨de _,hd b H p⟩
theorem Pb(i:St->Hp->Prop)(j:St->Hp->Nat)(u:i e H)
  (v:∀e H,i e H->c e H λb h=>if b=true then o {D with nx:=λf g=>i f g/\j f g<j e H,ct:=λf g=>i f g/\j f g<j e H,bk:=D.nx} e h else D.nx e h)
  (mono:∀e H Q n,(∀b h,Q b h->n b h)->c e H Q->c e H n):jq c o D e H:=by
 refine{λm e H=>m=j e H/\i e H,{_,rfl,u},?_};rintro m e H ⟨rfl,p⟩;refine mono e H _ _ (λb h q=>?_) (v e H p);cases b with
 |true=>exact{_,λf g ⟨x,l⟩=>{_,l,rfl,x},q}
 |false=>exact q
abbrev R2:=V->V->Hp->VK->Prop
def Ht(X:Cx)(f:nL->nL->Sem nL)(r:R2):Prop:=
 ∀(b:List #[2]) (s:nB) (e:St) (H:Hp) (x y:V) (v u:nL) (Q:VK),Ak X b e H s->B2 x v->B2 y u->r x y H Q->
  wpAny #[0] X.A (f v u) (EP X b e Q) X.xe s
def RU(X:Cx)(f:nL->Sem nL)(r:V->Hp->VK->Prop):Prop:=
 ∀(b:List #[2]) (s:nB) (e:St) (H:Hp) (x:V) (v:nL) (Q:VK),Ak X b e H s->B2 x v->r x H Q->
  wpAny #[0] X.A (f v) (EP X b e Q) X.xe s
def Cp(X:Cx)(f:nL)(r:List V->Hp->VK->Prop):Prop:=
 ∀(b:List #[2]) (s:nB) (h:St) (H:Hp) (g:List V) (e:List nL) (Q:VK),Ak X b h H s->B0 g e->r g H Q->
  wpAny #[0] X.A (call f e) (EP X b h Q) X.xe s
def A57(X:Cx)(r:V->Hp->(Bool->Hp->Prop)->Prop):Prop:=
 ∀(b:List #[2]) (s:nB) (e:St) (H:Hp) (x:V) (v:nL) (Q:Bool->Hp->Prop),Ak X b e H s->B2 x v->r x H Q->
  wpAny #[0] X.A (truthy v) (TP X b e Q) X.xe s
def AO(r:R2)(g h:TE):TE:=λb H Q=>g b H λx e=>h b e λy f=>r x y f Q
def tUn(r:V->Hp->VK->Prop)(e:TE):TE:=λf H Q=>e f H λx b=>r x b Q
inductive rI(C:Int->Int->Prop)(g:Int->Int->V)(x:V)(y:V)(H:Hp)(Q:VK):Prop
 |mk (i:_) (j:_) (bW:x=.int i) (bO:y=.int j) (cB:C i j) (dM:Q (g i j) H):rI C g x y H Q
inductive mn(g:Int->Int->V)(x:V)(y:V)(H:Hp)(Q:VK):Prop
 |mk (i:_) (j:_) (bW:x=.int i) (bO:y=.int j) (cB:Q (g i j) H):mn g x y H Q
inductive rU(g:Int->V)(x:V)(H:Hp)(Q:VK):Prop
 |mk (i:_) (bW:x=.int i) (bO:Q (g i) H):rU g x H Q
section
variable {X:Cx}{a b c:Expr}{ta tb tc:TE}{pos:Pos}
theorem uh(A:PE X a ta)(B:PE X b tb){e:List #[2]}{s:nB}{i:St}{H:Hp}{R:V->V->Hp->Prop}(I:Ak X e i H s)
  (h:ta i H λx o=>tb i o λy g=>R x y g){Q:mD}{f:nL->nL->Sem nL}
  (C:∀v u n x y g,Ak X e i g n->B2 x v->B2 y u->R x y g->wpAny #[0] X.A (f v u) Q X.xe n):
  wpAny #[0] X.A (eval a X.env) (λv j=>wpAny #[0] X.A (eval b X.env) (λu m=>wpAny #[0] X.A (f v u) Q X.xe m) X.xe j) X.xe s:=by
 refine Bq (A e s i H _ I h) λv J p=>?_;obtain⟨x,o,q,F,D⟩:=p;refine Bq (B e J i o _ q D) λu n p=>?_;obtain⟨y,g,z,G,E⟩:=p;exact C v u n x y g z F G E
theorem Ab{op:Operator}{r:R2}(m:Ht X (binaryOp op) r)(i:PE X a ta)(j:PE X b tb):PE X (.BinOp a op b pos) (AO r ta tb):=by
 intro e s z H Q I h;exact wpAny_BinOp (uh i j I h λv u p x y f g n o q=>m e p z f x y v u Q g n o q)
theorem M6(m:RU X (unaryOp op) r)(j:PE X a ta):PE X (.UnaryOp op a pos) (tUn r ta):=by
 intro e s f H Q I h;exact UnaryOp_ (Bq (j e s f H _ I h) λv p ⟨x,g,i,o,n⟩=>m e p f g x v Q i o n)
theorem FN{f:nL->nL->Sem nL}{C:Int->Int->Prop}{g:Int->Int->Int}
  (e:∀(i j:Int) (t u:Tok) (s:nB) (Q:mD) (E:mD),C i j->Q (.int (g i j) s.toks) {s with toks:=s.toks+1}->wpAny #[0] X.A (f (.int i t) (.int j u)) Q E s):
  Ht X f (rI C λi j=>.int (g i j)):=by
 intro m s A H x y v u Q I o p h;obtain⟨i,j,rfl,rfl,n,q⟩:=h;obtain⟨t,rfl⟩:=o;obtain⟨z,rfl⟩:=p;exact e i j t z s _ _ n ⟨.int (g i j),H,I.tok _,⟨_,rfl⟩,q⟩
theorem A3n{f:nL->nL->Sem nL}{g:Int->Int->Int}
  (e:∀(i j:Int) (t u:Tok) (s:nB) (Q:mD) (E:mD),Q (.int (g i j) s.toks) {s with toks:=s.toks+1}->wpAny #[0] X.A (f (.int i t) (.int j u)) Q E s):
  Ht X f (mn λi j=>.int (g i j)):=by
 intro m s z H x y v u Q I n o h;obtain⟨i,j,rfl,rfl,q⟩:=h;obtain⟨t,rfl⟩:=n;obtain⟨p,rfl⟩:=o;exact e i j t p s _ _ ⟨.int (g i j),H,I.tok _,⟨_,rfl⟩,q⟩
theorem lp{f:nL->nL->Sem nL}{g:Int->Int->Bool}
  (e:∀(i j:Int) (t u:Tok) (s:nB) (Q:mD) (E:mD),Q (.bool (g i j)) s->wpAny #[0] X.A (f (.int i t) (.int j u)) Q E s):
  Ht X f (mn λi j=>.bl (g i j)):=by
 intro m s z H x y v u Q I n o h;obtain⟨i,j,rfl,rfl,q⟩:=h;obtain⟨t,rfl⟩:=n;obtain⟨p,rfl⟩:=o;exact e i j t p s _ _ ⟨.bl (g i j),H,I,rfl,q⟩
def A52(i j:Int):Prop:=0<j/\j<1073741824
def A53(i j:Int):Prop:=0<=j/\j<=1000000/\i.natAbs<2^64
theorem Cw:Ht X (binaryOp .Add) (mn λi j=>.int (i+j)):=A3n λ_ _ _ _ _ _ _ q=>add_int q
theorem Vz:Ht X (binaryOp .Sub) (mn λi j=>.int (i-j)):=A3n λ_ _ _ _ _ _ _ q=>sub_int q
theorem Ay:Ht X (binaryOp .FloorDiv) (rI A52 λi j=>.int (i/j)):=FN λi j _ _ _ _ _ e q=>by
 have f:(0:Int)<j:=e.1;have g:j<1073741824:=e.2;exact floordiv_int (by omega) (by rw[Int.fdiv_eq_ediv_of_nonneg i (by omega)];exact q) (.inl (PyProof.noPylong_small (by omega)))
theorem B6:Ht X (binaryOp .Mod) (rI (λ_ j=>0<j) λi j=>.int (i%j)):=FN λi j _ _ _ _ _ e q=>by
 have f:(0:Int)<j:=e;exact mod_int' (by omega) (by rw[Int.fmod_eq_emod_of_nonneg i (by omega)];exact q)
theorem S6:Ht X (binaryOp .Pow) (rI A53 λi j=>.int (i^j.toNat)):=FN λ_ _ _ _ _ _ _ e q=>pow_int_small e.1 e.2.1 e.2.2 q
theorem unI{f:nL->Sem nL}{g:Int->Int}
  (e:∀(i:Int) (t:Tok) (s:nB) (Q:mD) (E:mD),Q (.int (g i) s.toks) {s with toks:=s.toks+1}->wpAny #[0] X.A (f (.int i t)) Q E s):
  RU X f (rU λi=>.int (g i)):=by
 intro j s n H x v Q I m h;obtain⟨i,rfl,q⟩:=h;obtain⟨t,rfl⟩:=m;exact e i t s _ _ ⟨.int (g i),H,I.tok _,⟨_,rfl⟩,q⟩
theorem Il:RU X (unaryOp .USub) (rU λi=>.int (-i)):=unI λ_ _ _ _ _ q=>neg_int q
end
def A4b:V->V->Bool
 | .bB,.bB=>true| .bB,.int _=>true| .int _,.bB=>true| .bB,.bl _=>true| .bl _,.bB=>true| .bB,.str _=>true| .str _,.bB=>true
 | .int _,.int _=>true| .bl _,.bl _=>true| .str _,.str _=>true| .nQ _,.nQ _=>true
 | .int _,.str _=>true| .str _,.int _=>true| .bl _,.str _=>true| .str _,.bl _=>true
 |_,_=>false
def rEq:R2:=λx y H Q=>A4b x y=true/\Q (.bl (decide (x=y))) H
def rNe:R2:=λx y H Q=>A4b x y=true/\Q (.bl (!decide (x=y))) H
theorem X5:decide (V.int i=V.int j)=(i==j):=by
 rw[Bool.eq_iff_iff];simp
theorem bq:decide (V.bl i=V.bl j)=(i==j):=by
 rw[Bool.eq_iff_iff];simp
theorem Rn:decide (V.str i=V.str j)=(i==j):=by
 rw[Bool.eq_iff_iff];simp
theorem X4:decide (V.nQ i=V.nQ j)=(i.toList==j.toList):=by
 rw[Bool.eq_iff_iff];cases i;cases j;simp
section
variable {X:Cx}{a b c:Expr}{ta tb tc:TE}{pos:Pos}
theorem Bf{k g:Bool}(I:Ak X f h H s)(q:Q (.bl k) H)(e:k=g):EP X f h Q (.bool g) s:=by
 subst e;exact{.bl k,H,I,rfl,q}
theorem Bk:Ht X (compareOp .Eq) rEq:=by
 intro n s o H x y v u Q I m e h;obtain⟨g,q⟩:=h;cases x with
 |bB=>
  cases m;cases y with
  |bB=>cases e;exact PySem.EqNone.eq_none_none #[1]
  |bl j=>cases e;exact PySem.EqNone.eq_none_bool #[1]
  |int j=>obtain⟨f,rfl⟩:=e;exact PySem.EqNone.eq_none_int #[1]
  |str j=>obtain⟨f,rfl⟩:=e;exact PySem.EqNone.eq_none_str #[1]
  |_=>exact absurd (show false=true from g) fx
 |bl i=>
  cases m;cases y with
  |bB=>cases e;exact PySem.EqNone.eq_bool_none #[1]
  |bl j=>cases e;exact eq_bool (Bf I q bq)
  |str j=>obtain⟨f,rfl⟩:=e;exact PySem.EqMixed.eq_bool_str #[1]
  |_=>exact absurd (show false=true from g) fx
 |int i=>
  obtain⟨t,rfl⟩:=m;cases y with
  |bB=>cases e;exact PySem.EqNone.eq_int_none #[1]
  |int j=>obtain⟨f,rfl⟩:=e;exact eq_int (Bf I q X5)
  |str j=>obtain⟨f,rfl⟩:=e;exact PySem.EqMixed.eq_int_str #[1]
  |_=>exact absurd (show false=true from g) fx
 |str i=>
  obtain⟨t,rfl⟩:=m;cases y with
  |bB=>cases e;exact PySem.EqNone.eq_str_none #[1]
  |bl j=>cases e;exact PySem.EqMixed.eq_str_bool #[1]
  |int j=>obtain⟨f,rfl⟩:=e;exact PySem.EqMixed.eq_str_int #[1]
  |str j=>obtain⟨f,rfl⟩:=e;exact eq_str (Bf I q Rn)
  |_=>exact absurd (show false=true from g) fx
 |nQ i=>
  obtain⟨t,rfl⟩:=m;cases y with
  |nQ j=>obtain⟨f,rfl⟩:=e;exact W.eq_bytes (Bf I q X4)
  |_=>exact absurd (show false=true from g) fx
 |_=>cases y<;>exact absurd (show false=true from g) fx
theorem U3:Ht X (compareOp .NotEq) rNe:=by
 intro n s o H x y v u Q I m e h;obtain⟨g,q⟩:=h;cases x with
 |bB=>
  cases m;cases y with
  |bB=>cases e;exact PySem.EqNone.ne_none_none #[1]
  |bl j=>cases e;exact PySem.EqNone.ne_none_bool #[1]
  |int j=>obtain⟨f,rfl⟩:=e;exact PySem.EqNone.ne_none_int #[1]
  |str j=>obtain⟨f,rfl⟩:=e;exact PySem.EqNone.ne_none_str #[1]
  |_=>exact absurd (show false=true from g) fx
 |bl i=>
  cases m;cases y with
  |bB=>cases e;exact PySem.EqNone.ne_bool_none #[1]
  |bl j=>cases e;exact ne_bool (Bf I q (congrArg not bq))
  |str j=>obtain⟨f,rfl⟩:=e;exact PySem.EqMixed.ne_bool_str #[1]
  |_=>exact absurd (show false=true from g) fx
 |int i=>
  obtain⟨t,rfl⟩:=m;cases y with
  |bB=>cases e;exact PySem.EqNone.ne_int_none #[1]
  |int j=>obtain⟨f,rfl⟩:=e;exact ne_int (Bf I q (congrArg not X5))
  |str j=>obtain⟨f,rfl⟩:=e;exact PySem.EqMixed.ne_int_str #[1]
  |_=>exact absurd (show false=true from g) fx
 |str i=>
  obtain⟨t,rfl⟩:=m;cases y with
  |bB=>cases e;exact PySem.EqNone.ne_str_none #[1]
  |bl j=>cases e;exact PySem.EqMixed.ne_str_bool #[1]
  |int j=>obtain⟨f,rfl⟩:=e;exact PySem.EqMixed.ne_str_int #[1]
  |str j=>obtain⟨f,rfl⟩:=e;exact ne_str (Bf I q (congrArg not Rn))
  |_=>exact absurd (show false=true from g) fx
 |nQ i=>
  obtain⟨t,rfl⟩:=m;cases y with
  |nQ j=>obtain⟨f,rfl⟩:=e;exact W.ne_bytes (Bf I q (congrArg not X4))
  |_=>exact absurd (show false=true from g) fx
 |_=>cases y<;>exact absurd (show false=true from g) fx
theorem Er:Ht X (compareOp .Lt) (mn λi j=>.bl (decide (i<j))):=lp λ_ _ _ _ _ _ _ q=>lt_int q
theorem nz:Ht X (compareOp .LtE) (mn λi j=>.bl (decide (i<=j))):=lp λ_ _ _ _ _ _ _ q=>le_int q
theorem K4:Ht X (compareOp .Gt) (mn λi j=>.bl (decide (j<i))):=lp λ_ _ _ _ _ _ _ q=>gt_int q
theorem ny:Ht X (compareOp .GtE) (mn λi j=>.bl (decide (j<=i))):=lp λ_ _ _ _ _ _ _ q=>ge_int q
theorem Zw:Ht X (compareOp .In) (λx y H Q=>∃i j,x=.str i/\y=.str j/\Q (.bl (!(Builtin.Str.occurrences j i 0 j.length 1).isEmpty)) H):=by
 intro e s n H x y v u Q I f g h;obtain⟨i,j,rfl,rfl,q⟩:=h;obtain⟨t,rfl⟩:=f;obtain⟨m,rfl⟩:=g;exact in_str (Bf I q rfl)
theorem Fw:Ht X (compareOp .Is) (λx y H Q=>y=.bB/\Q (.bl (decide (x=.bB))) H):=by
 intro e s i H x y v u Q I f g h;obtain⟨rfl,q⟩:=h;cases g;refine is_none_gen (Bf I q ?_)
 cases x<;>first
  |(cases f;rfl)
  |(obtain⟨t,rfl⟩:=f;rfl)
theorem Fq:Ht X (compareOp .IsNot) (λx y H Q=>y=.bB/\Q (.bl (!decide (x=.bB))) H):=by
 intro e s i H x y v u Q I f g h;obtain⟨rfl,q⟩:=h;cases g;refine isnot_none_gen (Bf I q ?_)
 cases x<;>first
  |(cases f;rfl)
  |(obtain⟨t,rfl⟩:=f;rfl)
theorem ff(b:Expr)(h:op≠ .In:=by decide)(g:op≠ .NotIn:=by decide):behindInMarks op b=false:=by
 have e:(op==CmpOp.In)=false:=by cases op<;>first|rfl|exact absurd rfl h
 have f:(op==CmpOp.NotIn)=false:=by cases op<;>first|rfl|exact absurd rfl g
 cases b<;>simp[behindInMarks,e,f]
theorem S8(n:Ht X (compareOp op) r)(i:PE X a ta)(j:PE X b tb)(m:behindInMarks op b=false):PE X (.Compare a [op] [b] pos) (AO r ta tb):=by
 intro e s A H Q I h;exact wpAny_Compare1 (uh i j I h λv u z x y f g o p q=>n e z A f x y v u Q g o p q) m
inductive jp(Q:Bool->Hp->Prop)(x:V)(H':Hp):Prop
 |mk (k:_) (bW:x=.bl k) (bO:Q k H'):jp Q x H'
def so(t:TE):TT:=λe H Q=>t e H (jp Q)
theorem Gy(C:Ht X (compareOp op) r)(q:PE X a ta)(A:PE X b tb)(B:behindInMarks op b=false):PT X (.Compare a [op] [b] pos) (so (AO r ta tb)):=by
 intro f s g H Q I h
 refine wpAny_isTrue_Compare1 (Bq (q f s g H _ I h) λv L ⟨x,i,n,G,D⟩=>Bq (A f L g i _ n D) λu M ⟨y,j,o,J,E⟩=>
  Bq (C f M g j x y v u _ o G J E) λc N ⟨z,m,p,K,k,e,F⟩=>?_) B
 subst e;cases K;exact iC ⟨m,p,F⟩
def A2u(K:W.Frag)(x:V)(H:Hp)(k:Bool):Prop:=
 match x with
 | .bB=>k=false
 | .bl b=>k=b
 | .int i=>k=(i != 0)
 | .str y=>y.length<=sizeLine/\k=((y.length:Int) != 0)
 | .nQ y=>y.size<=sizeLine/\k=((y.size:Int) != 0)
 | .ref p=>(∃f,Ar K H p f/\k= !f.isEmpty)\/(∃f,Ax K H p f/\k= !f.isEmpty)\/∃e,H p=some (.dK e)/\k= !e.isEmpty
 |_=>False
theorem Vf(r:KV kvs vs):(!vs.isEmpty)= !kvs.isEmpty:=by
 cases r<;>rfl
theorem O8(r:B0 xs e):(!e.toArray.isEmpty)= !xs.isEmpty:=by
 cases r<;>simp
theorem Ib:(sizeLine:Nat)<2^63:=by rw[sizeLine_eq];decide
theorem A2f:A57 X (λx H Q=>∃k,A2u X.K x H k/\Q k H):=by
 intro C s K H x v Q I o h;obtain⟨k,e,q⟩:=h;have G:=Ib;have J:sizeLine=16777216:=sizeLine_eq;cases x with
 |bB=>
  cases o;have f:k=false:=e;subst f;exact truthy_none ⟨H,I,q⟩
 |bl b=>
  cases o;have f:k=b:=e;subst f;exact iC ⟨H,I,q⟩
 |int i=>
  obtain⟨t,rfl⟩:=o;have f:k=(i != 0):=e;subst f;exact PySem.P.truthy_int ⟨H,I,q⟩
 |str y=>
  obtain⟨t,rfl⟩:=o;obtain⟨F,f⟩:y.length<=sizeLine/\k=((y.length:Int) != 0):=e;subst f;exact PySem.P.truthy_str (by omega) ⟨H,I.tok _,q⟩
 |nQ y=>
  obtain⟨t,rfl⟩:=o;obtain⟨F,f⟩:y.size<=sizeLine/\k=((y.size:Int) != 0):=e;subst f;exact W.truthy_bytes (by omega) ⟨H,I.tok _,q⟩
 |ref p=>
  cases o;have f:(∃n,Ar X.K H p n/\k= !n.isEmpty)\/(∃n,Ax X.K H p n/\k= !n.isEmpty)\/∃g,H p=some (.dK g)/\k= !g.isEmpty:=e;rcases f with⟨n,u,f⟩|⟨n,u,f⟩|⟨g,u,f⟩
  ·subst f;obtain⟨D,r,A,B⟩:=I.list u;have j:=r.length;exact wpAny_truthy_list A.isList (by simp only[List.size_toArray];omega) ⟨H,I.tok _,by rw[O8 r];exact q⟩
  ·subst f;obtain⟨D,r,A,B⟩:=I.tuple u;have j:=r.length;exact truthy_tuple A (by simp only[List.size_toArray];omega) ⟨H,I.tok _,by rw[O8 r];exact q⟩
  ·subst f;obtain⟨B,E,z,r,m⟩:g.length<=sizeLine/\(p==sysModules)=false/\∃z,KV g z/\s.heap.DictOf (E2 X.prog X.w) p z:=I.aJ p _ u;have j:g.length=z.length:=Paired.length r;exact wpAny_truthy_dict E m (by omega) ⟨H,I.tok _,by rw[Vf r];exact q⟩
 |_=>exact(show False from e).elim
theorem U8(n:PE X a ta)(he:∀e,isTrue a X.env e=(do let v <- e;standAt a.pos;holding [v] (truthy v))):
  PT X a (λg H Q=>ta g H λx i=>∃k,A2u X.K x i k/\Q k i):=by
 intro f s g H Q I h;exact isTrue_plain (Bq (n f s g H _ I h) λv q ⟨x,j,m,p,o⟩=>A2f f q g j x v Q m p o) (he _)
theorem Aw:Ht X (binaryOp .Add) (λx y H Q=>∃i j,x=.str i/\y=.str j/\i.length+j.length<=sizeLine/\Q (.str (i++j)) H):=by
 intro e s p H x y v u Q I g m h;obtain⟨i,j,rfl,rfl,f,q⟩:=h;obtain⟨t,rfl⟩:=g;obtain⟨n,rfl⟩:=m;exact add_str (λn o=>⟨.str (i++j),H,I.tok _,⟨_,rfl⟩,q⟩) f
theorem Dj(r:B0 [x] us):∃u,us=[u]/\B2 x u:=by
 cases r with
 |cons e f=>cases f;exact{_,rfl,e}
theorem Ya(r:B0 [x,y] us):∃u e,us=[u,e]/\B2 x u/\B2 y e:=by
 cases r with
 |cons f g=>
  cases g with
  |cons h i=>cases i;exact{_,_,rfl,f,h}
theorem Yp(g:X.calm=true):Cp X (.builtin "max") (λxs H Q=>∃i j,xs=[.int i,.int j]/\Q (.int (if j>i then j else i)) H):=by
 intro f s x H xs p Q I r h;obtain⟨i,j,rfl,q⟩:=h;obtain⟨u,v,rfl,⟨t,rfl⟩,⟨n,rfl⟩⟩:=Ya r;refine max_two_ints (I.ok.hd g) λm o k=>⟨_,H,I.kept k,?_,q⟩;by_cases e:j>i
 ·rw[if_pos e,if_pos e];exact{_,rfl}
 ·rw[if_neg e,if_neg e];exact{_,rfl}
theorem Yt(g:X.calm=true):Cp X (.builtin "min") (λxs H Q=>∃i j,xs=[.int i,.int j]/\Q (.int (if j<i then j else i)) H):=by
 intro f s x H xs p Q I r h;obtain⟨i,j,rfl,q⟩:=h;obtain⟨u,v,rfl,⟨t,rfl⟩,⟨n,rfl⟩⟩:=Ya r;refine min_two_ints (I.ok.hd g) λm o k=>⟨_,H,I.kept k,?_,q⟩;by_cases e:j<i
 ·rw[if_pos e,if_pos e];exact{_,rfl}
 ·rw[if_neg e,if_neg e];exact{_,rfl}
theorem Ko:Cp X (.type "int") (λxs H Q=>(∃i,xs=[.int i]/\Q (.int i) H)\/∃k,xs=[.bl k]/\Q (.int (if k then 1 else 0)) H):=by
 intro e s j H xs g Q I r h;rcases h with⟨i,rfl,q⟩|⟨k,rfl,q⟩
 ·obtain⟨u,rfl,t,rfl⟩:=Dj r;exact call_int_int ⟨.int i,H,I,⟨_,rfl⟩,q⟩
 ·obtain⟨u,rfl,f⟩:=Dj r;cases f;exact call_int_bool ⟨.int (if k then 1 else 0),H,I.tok _,⟨_,rfl⟩,q⟩
theorem Rg:Cp X (.type "str") (λxs H Q=>∃i,xs=[.int i]/\i.natAbs.log2<1920/\Q (.str (toString i)) H):=by
 intro e s j H xs g Q I r h;obtain⟨i,rfl,f,q⟩:=h;obtain⟨u,rfl,t,rfl⟩:=Dj r;exact PySem.P.str_of_int f ⟨.str _,H,I.tok _,⟨_,rfl⟩,q⟩
end
structure Ux(h:Heap)(x dx C:Addr)(mA:Str->Option nL):Prop where
 obj:h.get? x=some (W.instObj C dx)
 ns:h.Ns1 dx mA
 ne:dx≠x
theorem Zn{h:Heap}{b:Addr}{g:Str->Option nL}(n:h.Ns1 b g):∃i,h.get? b=some i/\∀name,W.lookIn name i=some (g name):=by
 obtain⟨o,f,B,x,p,u,_,v⟩:=n;refine{o,x,λname=>?_};have e:=v name;unfold nsFind findBy at e;rw[<- Array.find?_toList]at e;unfold W.lookIn;rw[p];dsimp only;split
 ·rename_i y q;rw[q]at e;exact congrArg some e
 ·rename_i q;rw[q]at e
  have a:f.toList.any (·.refKey)=false:=by
   rw[List.any_eq_false];intro y A;obtain⟨z,t,m⟩:=u y (Array.mem_toList_iff.mp A);simp[DictEntry.refKey,m]
  have j:¬f.toList.any (·.refKey)=true:=by rw[a];exact fx
  rw[if_neg j];exact congrArg some e
theorem Ux.look(I:Ux h x e C f):∃b,W.InstAt h x (W.instObj C e) C (some b)/\∀name,W.lookIn name b=some (f name):=
 let⟨b,i,g⟩:=Zn I.ns
 ⟨b,⟨I.obj,rfl,rfl,i⟩,g⟩
section
variable {prog:nP}{w:n4}{A:nU}{E:mD}{s:nB}{K:W.Frag}{x dx C f:Addr}{mA:Str->Option nL}{name:Str}{v:nL}
theorem km{b:Bool}{Q:mD}(X:K.In s.heap)(I:Ux s.heap x dx C mA)(g:W.plainGet K C name=true)(i:W.hasDictIn K C=true)
  (e:W.findIn K (.ref C) name=some none)(m:mA name=some v)(n:W.handedIn v=true)(h:Q v {s with toks:=s.toks+1}):
  wpAny (model prog w) A (getAttr (.ref x) name b) Q E s:=by
 obtain⟨o,J,j⟩:=I.look;exact W.get_value X J (W.plainGet_of g).1 (W.findObj_own i e rfl (by rw[j,m])) n h
theorem cv{pl:Sem Bool}{Q:nL×List nL->nB->Prop}(X:K.In s.heap)(I:Ux s.heap x dx C mA)(b:W.plainGet K C name=true)
  (e:W.findIn K (.ref C) name=some (some (.ref f)))(i:W.isFn K (.ref f)=true)(j:mA name=none)(h:Q (.ref f,[.ref x]) s):
  wpAny (model prog w) A (getMethod (.ref x) name pl) Q E s:=by
 obtain⟨m,J,g⟩:=I.look;exact W.method_fn X J (W.plainGet_of b).1 (W.plainGet_of b).2 e (beq_iff_eq.mp i) (by show(W.lookIn name m).map (·.isSome)=some false;rw[g,j];rfl) h
theorem mw{ns:List Str}{Q:Unit->nB->Prop}(X:K.In s.heap)(I:Ux s.heap x dx C mA)
  (B:W.findIn K (.ref C) "__setattr__"=some (some (.builtin "object.__setattr__")))(z:W.plainOver K C=true)(D:W.takerIn K C name=some none)(u:W.hasDictIn K C=true)
  (F:PySem.Within mA ns)(hsz:ns.length<=sizeLine)
  (h:∀h',Ux h' x dx C (λy=>if y=name then some v else mA y)->Heap.SameBut dx s.heap h'->Q () {s with heap:=h',toks:=s.toks+2}):
  wpAny (model prog w) A (setAttr (.ref x) name v) Q E s:=by
 obtain⟨N,J,L⟩:=I.look;refine W.set_plain X J B (W.osa_open (s:={s with toks:=s.toks+1}) (r:=none) X J z D λb=>?_);obtain⟨H,q,p⟩:=W.any_some u;have G:s.heap.get? x=some ⟨.ref C,some dx,.plain,#[]⟩:=I.obj;refine ag (aN (ag (ag (wpAny_loadPart G (ag (W.Looks.here (s:={s with toks:=s.toks+1}) (W.looks_clsIn X q) ?_))))));rw[p];refine aN (a:=some dx) (ag (aN (ag ?_)));refine wpAny_nsSet1 (s:={s with toks:=s.toks+1}) I.ns λh' j i=>?_;obtain⟨M,o,n,g,e,m⟩:=j.count (PySem.Within.cons name v F);refine ag (wpAny_lookBehind g (by rw[e];exact pastItsLine_dict (ea m (by rw[List.length_cons];omega))) ?_);exact aN (h _ ⟨(i.2 _ (Ne.symm I.ne)).trans I.obj,j,I.ne⟩ i)
theorem f9{R:Result->nB->Prop}{vs:List nL}{e:List (Str×nL)}(X:K.In s.heap)(m:W.makesIn K C=true)
  (j:W.findIn K (.ref C) "__init__"=some (some (.ref f)))(i:W.typeIn K (.ref f)=some (.type "function"))
  (h:codeAny (model prog w) (A.under (.builtin "type.__call__" ⟨.ref C::vs,e⟩)) (.call (.ref f) ⟨.ref #[3]::vs,e⟩) (W.InitBack #[3] R)
   {s with heap:=(s.heap.push W.emptyDict).push (W.instObj C s.heap.objs.size) }):
  codeAny (model prog w) A (.call (.ref C) ⟨vs,e⟩) R s:=by
 obtain⟨n,g,d,t,o⟩:=s;exact W.make_core (W.makes_of X m) (W.looks_findIn X j) (λb=>W.bind_fn X b i) (.inl rfl) h
end
def Hu(f:Str)(v:V):List (Str×V)->List (Str×V)
 |[]=>[(f,v)]
 |(g,x)::r=>if g=f then(g,v)::r else(g,x)::Hu f v r
theorem M0(f g:Str)(v:V):∀fs:List (Str×V),(Hu f v fs).lookup g=if g=f then some v else fs.lookup g
 |[]=>by
  show List.lookup g [(f,v)]=_;by_cases h:g=f
  ·have b:(g==f)=true:=beq_iff_eq.mpr h;simp only[List.lookup,b,if_pos h]
  ·have b:(g==f)=false:=beq_eq_false_iff_ne.mpr h;simp only[List.lookup,b,if_neg h]
 |(k,x)::r=>by
  have j:=M0 f g v r;rw[show Hu f v ((k,x)::r)=(if k=f then(k,v)::r else(k,x)::Hu f v r)from rfl];by_cases i:k=f
  ·rw[if_pos i];by_cases h:g=k
   ·have b:(g==k)=true:=beq_iff_eq.mpr h;simp only[List.lookup,b,if_pos (h.trans i)]
   ·have b:(g==k)=false:=beq_eq_false_iff_ne.mpr h;simp only[List.lookup,b,if_neg (λe:g=f=>h (e.trans i.symm))]
  ·rw[if_neg i];by_cases h:g=k
   ·have b:(g==k)=true:=beq_iff_eq.mpr h;simp only[List.lookup,b,if_neg (λe:g=f=>i (h.symm.trans e))]
   ·have b:(g==k)=false:=beq_eq_false_iff_ne.mpr h;simp only[List.lookup,b];exact j
theorem L8(f:Str)(v:V):∀fs:List (Str×V),f∈(Hu f v fs).map (·.1)/\∀g,g∈fs.map (·.1)->g∈(Hu f v fs).map (·.1)
 |[]=>⟨by simp[Hu],λg h=>by simp at h⟩
 |(k,x)::r=>by
  obtain⟨i,j⟩:=L8 f v r;rw[show Hu f v ((k,x)::r)=(if k=f then(k,v)::r else(k,x)::Hu f v r)from rfl];by_cases b:k=f
  ·rw[if_pos b];subst b;exact{by simp,λg h=>by simpa using h}
  ·rw[if_neg b];refine{?_,λg h=>?_}
   ·rw[List.map_cons];exact d0 _ i
   ·rw[List.map_cons]at h⊢;rcases eH.mp h with e|e
    ·exact eH.mpr (.inl e)
    ·exact d0 _ (j g e)
theorem Lz(f:Str)(v:V):∀fs:List (Str×V),(Hu f v fs).length<=fs.length+1
 |[]=>by simp[Hu]
 |(k,x)::r=>by
  have e:=Lz f v r;rw[show Hu f v ((k,x)::r)=(if k=f then(k,v)::r else(k,x)::Hu f v r)from rfl];by_cases b:k=f
  ·rw[if_pos b,List.length_cons,List.length_cons];omega
  ·rw[if_neg b,List.length_cons,List.length_cons];omega
theorem Gq.some_of(r:Gq (some v) o):∃u,o=some u/\B2 v u:=by
 cases o with
 |none=>exact(show False from r).elim
 |some u=>exact{u,rfl,r}
theorem Gq.none_of(r:Gq none o):o=none:=by
 cases o with
 |none=>rfl
 |some u=>exact(show False from r).elim
theorem Ze(r:B2 v u):W.handedIn u=true:=by
 cases v with
 |bB=>cases(show u=Value.none from r);rfl
 |bl b=>cases(show u=Value.bool b from r);rfl
 |int i=>obtain⟨t,e⟩:=(show∃t,u=Value.int i t from r);cases e;rfl
 |str x=>obtain⟨t,e⟩:=(show∃t,u=Value.str x t from r);cases e;rfl
 |nQ b=>obtain⟨t,e⟩:=(show∃t,u=Value.bytes b t from r);cases e;rfl
 |AM b=>obtain⟨t,e⟩:=(show∃t,u=Value.float b t from r);cases e;rfl
 |ref a=>cases(show u=Value.ref a from r);rfl
 |ty n=>cases(show u=Value.type n from r);rfl
section
variable {P:nP}{w:n4}{H H':Hp}{h h':Heap}{a C dx:Addr}{fs fs':List (Str×V)}
theorem Mz(g:Hv P w H h)(e:H a=some (.ins C dx fs)):∃b,Ux h a dx C b/\(∀f,Gq (fs.lookup f) (b f))/\PySem.Within b (fs.map (·.1))/\fs.length<=1000/\H dx=some (.own a):=by
 obtain⟨d,z,ne,i,b,n,r,q⟩:=(show Bi P w H h a (.ins C dx fs)from g a _ e);exact{b,{i,n,ne},r,q,z,d}
end
structure Cls(K:W.Frag)(C:Addr):Prop where
 pg:W.plainGet K C Str.empty=true
 hd:W.hasDictIn K C=true
 po:W.plainOver K C=true
 sa:W.findIn K (.ref C) "__setattr__"=some (some (.builtin "object.__setattr__"))
theorem Cls.get{K:W.Frag}{C:Addr}(c:Cls K C)(f:Str):W.plainGet K C f=true:=c.pg
def NoAttr(K:W.Frag)(C:Addr)(f:Str):Prop:=W.findIn K (.ref C) f=some none
theorem NoAttr.FP{K:W.Frag}{C:Addr}{f:Str}(n:NoAttr K C f):W.takerIn K C f=some none:=by
 unfold W.takerIn;rw[show W.findIn K (.ref C) f=some none from n];rfl
structure aw(K:W.Frag)(C:Addr)(m:Str)(f:Addr):Prop where
 at_:W.findIn K (.ref C) m=some (some (.ref f))
 fn:W.isFn K (.ref f)=true
 kp:W.keepIn K (.ref f)=true
section
variable {X:Cx}{pins:List #[2]}{σ:St}{H:Hp}{s:nB}{a C dx:Addr}{fs:List (Str×V)}{f:Str}{v:V}{A:nU}{E:mD}
theorem Vc(I:Ak X pins σ H s)(e:H a=some (.ins C dx fs))(c:Cls X.K C)(n:NoAttr X.K C f)(l:fs.lookup f=some v)
  (h:∀u s',Ak X pins σ H s'->B2 v u->Q u s'):wpAny #[0] A (getAttr (.ref a) f b) Q E s:=by
 obtain⟨j,O,r,_,_,_⟩:=Mz I.aJ e;obtain⟨u,i,g⟩:=Gq.some_of (v:=v) (o:=j f) (by rw[<- l];exact r f);exact km I.fI O (c.get f) c.hd n i (Ze g) (h u _ (I.tok _) g)
theorem Jk(I:Ak X pins σ H s)(e:H a=some (.ins C dx fs))(c:Cls X.K C)(k:aw X.K C m g)(l:fs.lookup m=none)
  (h:Q (.ref g,[.ref a]) s):wpAny #[0] A (getMethod (.ref a) m pl) Q E s:=by
 obtain⟨i,O,r,_,_,_⟩:=Mz I.aJ e;have b:i m=none:=Gq.none_of (by rw[<- l];exact r m);exact cv I.fI O (c.get m) k.at_ k.fn b h
theorem Wi(I:Ak X pins σ H s)(e:H a=some (.ins C dx fs))(c:Cls X.K C)(n:NoAttr X.K C f)(M:fs.length<1000)(K:B2 y u)
  (h:∀s',Ak X pins σ (upd H a (.ins C dx (Hu f y fs))) s'->Q () s'):wpAny #[0] A (setAttr (.ref a) f u) Q E s:=by
 obtain⟨m,O,r,p,_,j⟩:=Mz I.aJ e;have J:(fs.map (·.1)).length<=sizeLine:=by rw[List.length_map,sizeLine_eq];omega
 refine mw I.fI O c.sa c.po n.FP c.hd p J λB i L=>h _ ?_;have F:∃o,B.get? dx=some o:=let⟨o,_,_,x,_⟩:=i.ns;⟨o,x⟩;refine I.write (x:=a) (e:=dx) (by rw[e];exact True.intro) (.inr j) (λb q D z=>(L.2 b D).trans z) F ?_;refine{by rw[A9 O.ne];exact j,?_,O.ne,i.obj,_,i.ns,λg=>?_,λg G=>?_}
 ·have:=Lz f y fs;omega
 ·show Gq ((Hu f y fs).lookup g) (if g=f then some u else m g);rw[M0];by_cases q:g=f
  ·rw[if_pos q,if_pos q];exact K
  ·rw[if_neg q,if_neg q];exact r g
 ·by_cases q:g=f
  ·rw[q];exact(L8 f y fs).1
  ·refine(L8 f y fs).2 g (p g λz=>G ?_);show(if g=f then some u else m g)=none;rw[if_neg q];exact z
theorem Ak.made(I:Ak X pins σ H s):Ak X pins σ (upd (upd H s.heap.objs.size (.own #[3])) #[3] (.ins C s.heap.objs.size []))
  {s with heap:=(s.heap.push W.emptyDict).push (W.instObj C s.heap.objs.size) }:=by
 have g:(s.heap.push W.emptyDict).get? s.heap.objs.size=some W.emptyDict:=cX s.heap rfl
 have i:((s.heap.push W.emptyDict).push (W.instObj C s.heap.objs.size)).get? #[3]=some (W.instObj C s.heap.objs.size):=by
  have:=cX (s.heap.push W.emptyDict) (o:=W.instObj C s.heap.objs.size) rfl;rwa[Heap.size_push]at this
 have j:(s.heap.push W.emptyDict).Ns s.heap.objs.size (λ_=>none):={W.emptyDict,#[],_,g,rfl,(λe m=>absurd m (by simp)),λ_=>rfl};have h:=I.laid (a:=s.heap.objs.size) (o:=.own #[3]) (h':=s.heap.push W.emptyDict) (t':=s.toks) (λb u q=>cb _ q) (de _) ⟨_,g⟩;refine h.laid (a:=s.heap.objs.size+1) (o:=.ins C s.heap.objs.size []) (t':=s.toks) (λb u q=>cb _ q) (Nat.le_of_eq (Heap.size_push _ _)) ?_;have ne:s.heap.objs.size≠s.heap.objs.size+1:=fe (Nat.lt_succ_self _);refine{by rw[A9 ne,A2],jN _,ne,i,λ_=>none,(Heap.Ns1.of_empty j).at λo q=>cb _ q,λ_=>True.intro,λy n=>absurd rfl n}
theorem ka{prog:nP}{env:Env}{pos:Pos}(g:attributeBase e f env (eval e env)=eval e env)
  (h:wpAny (model prog w) A (eval e env) (λo b=>wpAny (model prog w) A (getAttr o f true) Q E b) E s):wpAny (model prog w) A (eval (.Attribute e f pos) env) Q E s:=
 Attribute_any_ h (by rw[arm_eval_Attribute,g])
end
inductive rq(K:W.Frag)(f:Str)(Q:VK)(x:V)(H1:Hp):Prop
 |mk (a:_) (C:_) (dx:_) (fs:_) (v:_) (bW:x=.ref a) (bO:H1 a=some (.ins C dx fs)) (cB:Cls K C) (dM:NoAttr K C f) (iK:fs.lookup f=some v) (qC:Q v H1):rq K f Q x H1
def A5i(K:W.Frag)(b:TE)(f:Str):TE:=λe H Q=>b e H (rq K f Q)
def A5f(K:W.Frag)(i j:TE)(f:Str):TS:=λD b H=>j b H λy h=>i b h λx e=>∃a C g fs,x=.ref a/\e a=some (.ins C g fs)/\Cls K C/\NoAttr K C f/\fs.length<1000/\
 D.nx b (upd e a (.ins C g (Hu f y fs)))
section
variable {X:Cx}{o e value:Expr}{f:Str}{pos pos' lK:Pos}{ta tv:TE}
theorem Bo(he:PE X e ta)(z:attributeBase e f X.env (eval e X.env)=eval e X.env):PE X (.Attribute e f pos) (A5i X.K ta f):=by
 intro b s D H Q I h;refine ka z (Bq (he b s D H _ I h) λu F m=>?_);obtain⟨x,g,i,B,a,C,E,fs,v,y,p,c,n,l,q⟩:=m;subst y;obtain rfl:u=Value.ref a:=B;exact Vc i p c n l λJ G j A=>⟨v,g,j,A,q⟩
theorem Fx(A:PE X o ta)(E:PE X value tv)(B:swapsWith value (some (.Attribute o f pos')) pos.line X.env=pure false):PS X (.Assign [.Attribute o f pos'] value pos) (A5f X.K ta tv f):=by
 intro b s g H D I h;refine plainObj_wpAny_Assign_Attribute (Bq (E b s g H _ I h) λu L ⟨y,i,j,K,q⟩=>Bq (A b L g i _ j q) λF O ⟨x,M,m,J,a,C,N,fs,z,v,c,n,l,G⟩=>?_) B;subst z;obtain rfl:F=Value.ref a:=J;exact Wi m v c n l K λP p=>⟨g,_,p,G⟩
end
section
variable {X:Cx}{pins:List #[2]}{σ:St}{H:Hp}{s:nB}{A:nU}{E:mD}{Q:mD}{c:nL}{b:Bool}
inductive Km(K:W.Frag)(H:Hp):V->nL->Prop where
 |bB:Km K H .bB (.type "NoneType")
 |bl (x:Bool):Km K H (.bl x) (.type "bool")
 |int (i:Int):Km K H (.int i) (.type "int")
 |str (x:Str):Km K H (.str x) (.type "str")
 |AM (x:UInt64):Km K H (.AM x) (.type "float")
 |lst {a:Addr}{xs:List V} (e:H a=some (.lst xs)):Km K H (.ref a) (.type "list")
 |dG {a:Addr}{o:Obj}{xs:List V} (e:H a=some (.dG o (.lst xs))):Km K H (.ref a) (.type "list")
 |tup {a:Addr}{xs:List V} (e:H a=some (.tup xs)):Km K H (.ref a) (.type "tuple")
 |dK {a:Addr}{kvs:List (Ex×V)} (e:H a=some (.dK kvs)):Km K H (.ref a) (.type "dict")
 |dT {a:Addr}{kvs:mF} (e:H a=some (.dT kvs)):Km K H (.ref a) (.type "dict")
 | ins {a C dx : Addr} {fs : List (Str × V)} (e : H a = some (.ins C dx fs)) (cl : Cls K C) (ha : W.findIn K (.ref C) "__class__" = some (some (.builtin "object.__class__")))
   (hn:W.specialIn K (.builtin "object.__class__") "__get__"=some (some (.builtin "getset_descriptor.__get__"))) (htk:W.takesIn K (.builtin "object.__class__")=some true)
   (hm:W.mroIn K C (.type "object")=some true):Km K H (.ref a) (.ref C)
theorem Zh{u t:nL}(I:Ak X pins σ H s)(g:B2 x u)(ty:Km X.K H x t)(e:W.kitOne X.K t c=some b)(h:∀R,Q (.bool b) {s with toks:=R}):
  wpAny #[0] A (call (.builtin "isinstance") [u,c]) Q E s:=by
 cases ty with
 |bB=>cases(show u=Value.none from g);exact W.kia_one W.kitx_none I.fI True.intro e #[7] h
 |bl y=>cases(show u=Value.bool y from g);exact W.kia_one W.kitx_bool I.fI True.intro e #[7] h
 |int i=>obtain⟨t,q⟩:=(show∃t,u=Value.int i t from g);cases q;exact W.kia_one W.kitx_int I.fI True.intro e #[7] h
 |str y=>obtain⟨t,q⟩:=(show∃t,u=Value.str y t from g);cases q;exact W.kia_one W.kitx_str I.fI True.intro e #[7] h
 |AM y=>obtain⟨t,q⟩:=(show∃t,u=Value.float y t from g);cases q;exact W.kia_one W.kitx_float I.fI True.intro e #[7] h
 |@lst a v f=>
  cases(show u=Value.ref a from g);obtain⟨_,_,n,_,j⟩:=(show Bi X.prog X.w H s.heap a (.lst v)from I.aJ a _ f);exact W.kia_one W.kitx_list I.fI ⟨_,j,rfl⟩ e #[7] h
 |@dG a P v f=>
  cases(show u=Value.ref a from g);obtain⟨_,_,_,n,_,j⟩:=(show Bi X.prog X.w H s.heap a (.dG P (.lst v))from I.aJ a _ f);exact W.kia_one W.kitx_list I.fI ⟨_,j,rfl⟩ e #[7] h
 |@tup a v f=>
  cases(show u=Value.ref a from g);obtain⟨_,_,_,p⟩:=(show Bi X.prog X.w H s.heap a (.tup v)from I.aJ a _ f);obtain⟨o,j,B,_⟩:=p;exact W.kia_one W.kitx_tuple I.fI ⟨o,j,B⟩ e #[7] h
 |@dK a m f=>
  cases(show u=Value.ref a from g);obtain⟨_,_,Y,_,p⟩:=(show Bi X.prog X.w H s.heap a (.dK m)from I.aJ a _ f);obtain⟨o,K,G,j,B,_⟩:=p;exact W.kia_one W.kitx_dict I.fI ⟨o,j,B.1⟩ e #[7] h
 |@dT a m f=>
  cases(show u=Value.ref a from g);obtain⟨_,_,v,_,o,K,G,j,B,_⟩:=(show Bi X.prog X.w H s.heap a (.dT m)from I.aJ a _ f);exact W.kia_one W.kitx_dict I.fI ⟨o,j,B.1⟩ e #[7] h
 |@ins a C S fs f F L N D M=>
  cases(show u=Value.ref a from g);obtain⟨T,O,_⟩:=Mz I.aJ f;obtain⟨U,J,_⟩:=O.look;exact W.kia_one (W.kitx_own (F.get _) F.hd L N D M) I.fI J e #[7] h
end
structure Ca(k:Nat)(A:nU):Prop where
 hd:A.handled=none
 dp:A.depth+3*k+5<recursionLimit
 un:A.units+16*k+200<cLine
theorem Ca.mono{j k:Nat}(r:Ca k A)(h:j<=k):Ca j A:={r.hd,by have:=r.dp;omega,by have:=r.un;omega}
theorem Ca.deeper{k:Nat}(r:Ca (k+1) A)(env:Env):Ca k (A.deeper env):=
 ⟨r.hd,by have:=r.dp;show A.depth+1+3*k+5<_;omega,by have:=r.un;show A.units+3+16*k+200<_;omega⟩
theorem Vm{A:nU}{C:Addr}{us:List nL}{b:List (Str×nL)}:#[4].depth=A.depth+1:=by
 first|rfl|simp[Around.under,Code.weight,Code.isCreation,Code.isGuard,Code.isCaller,Code.frames,Code.isFrame,guardIds]
theorem Vn{A:nU}{C:Addr}{us:List nL}{b:List (Str×nL)}:#[4].units=A.units+1:=by
 first|rfl|simp[Around.under,Code.cUnits,Code.frames,Code.isFrame]
theorem Ca.make{k:Nat}(r:Ca (k+1) A)(C:Addr)(us:List nL)(b:List (Str×nL)):Ca k #[4]:=
 ⟨r.hd,by have:=r.dp;rw[Vm];omega,by have:=r.un;rw[Vn];omega⟩
theorem Ca.depth{k:Nat}(r:Ca k A):A.depth<recursionLimit:=by have:=r.dp;omega
theorem Ca.units{k:Nat}(r:Ca k A):A.units+64<cLine:=by have:=r.un;omega
def Wn:TA:=λ_ H Q=>Q [] H
def Ul(g:TE)(h:TA):TA:=λb H Q=>g b H λx e=>h b e λi f=>Q (x::i) f
section
variable {X:Cx}{e:Expr}{es:List Expr}{te:TE}{t:TA}{pos:Pos}
theorem A4:PA X [] Wn:=λ_ _ _ _ H Q I h=>Calls.spliced_nil ⟨[],H,I,.nil,h⟩
theorem A0(o:PE X e te)(p:PA X es t)(q:starEach (e::es) X.env=(false,eval e X.env)::starEach es X.env:=by rfl):PA X (e::es) (Ul te t):=by
 intro pos b s f H Q I h;rw[q];show wpAny _ _ (spliced ((false,eval e X.env)::backTo pos (starEach es X.env))) _ _ s;refine Calls.spliced_cons (Bq (o b s f H _ I h) λu B n=>?_);obtain⟨x,g,j,z,v⟩:=n;exact Bq (p pos b B f g _ j v) λE D ⟨C,i,m,A,y⟩=>⟨x::C,i,m,.cons z A,y⟩
def A5t(t:TA):TE:=λg H Q=>t g H λf b=>f.length<=sizeLine/\∀p,b p=none->Q (.ref p) (upd b p (.tup f))
def A5m(t:TA):TE:=λg H Q=>t g H λf b=>f.length<=sizeLine/\∀p,b p=none->Q (.ref p) (upd b p (.lst f))
theorem Ah{x1}(h:PA X es t):PE X (.Tuple es x1 pos) (A5t t):=by
 intro f s v H Q I n;refine wpAny_Tuple_spliced (Bq (h pos f s v H _ I n) λo g ⟨p,i,j,r,z,q⟩=>⟨by rw[<- r.length];exact z,?_⟩);have m:i g.heap.objs.size=none:=j.aJ.fresh (de _);refine{.ref g.heap.objs.size,upd i g.heap.objs.size (.tup p),j.laid (t':=g.toks) (λb u e=>cb _ e) (de _) ?_,rfl,q _ m};exact{{z,{_,cX _ rfl,rfl}},o,r,{_,cX _ rfl,rfl,_,rfl}}
theorem B1(h:PA X es t):PE X (.List es pos) (A5m t):=by
 intro f s v H Q I n;refine wpAny_List_spliced (Bq (h pos f s v H _ I n) λo g ⟨p,i,j,r,z,q⟩=>⟨by rw[<- r.length];exact z,?_⟩);have m:i g.heap.objs.size=none:=j.aJ.fresh (de _);refine{.ref g.heap.objs.size,upd i g.heap.objs.size (.lst p),j.laid (t':=g.toks) (λb u e=>cb _ e) (de _) ?_,rfl,q _ m};exact{z,o,0,r,cX _ rfl}
end
abbrev Sp:=List V->Hp->VK->XK->Prop
abbrev ar:=List Env->Hp->nB->XK->nL->nB->Prop
structure Uv(P:nP)(w:n4)(K:W.Frag)(mg:Str->Option nL)(base:Heap)(A:nU)(outer:List Env)(s:nB)(H:Hp):Prop where
 frames:A.frames=some outer
 mod:Mod K mg base
 bs:∀b o,base.get? b=some o->s.heap.get? b=some o/\H b=none
 qA:base.objs.size<=s.heap.objs.size
 fR:s.heap.FunFrames base outer
 uO:∀b∈gF outer,H b=none
 aJ:Hv P w H s.heap
 bare:AllBare s.gens
def CE(outer:List Env)(P:nP)(w:n4)(H:Hp)(s:nB)(Q:VK)(u:nL)(s':nB):Prop:=
 ∃v b,s'.os=s.os/\AllBare s'.gens/\Un (gF outer) [] H b s.heap s'.heap/\Hv P w b s'.heap/\B2 v u/\Q v b
def CR(CX:ar)(outer:List Env)(P:nP)(w:n4)(H:Hp)(s:nB)(Q:VK)(E:XK)(r:Result)(s':nB):Prop:=
 match r with
 | .ok (.ret u)=>CE outer P w H s Q u s'
 | .ok _=>False
 | .error e=>CX outer H s E e s'
structure Ee(P:nP)(w:n4)(K:W.Frag)(mg:Str->Option nL)(base:Heap)(CX:ar)(k:Nat)(f:Addr)(fd:nZ)(ps:List Str)(sp:Sp):Prop where
 len:∀vs H Q E,sp vs H Q E->vs.length=ps.length
 run:∀(A:nU) (outer:List Env) (s:nB) (H:Hp) (args:Args) (us:List nL) (vs:List V) (Q:VK) (E:XK),Ca k A->Uv P w K mg base A outer s H->BindsTo s fd args (ps.zip us)->B0 vs us->sp vs H Q E->
  codeAny (model P w) A (.call (.ref f) args) (CR CX outer P w H s Q E) s
theorem Uv.make{P:nP}{w:n4}{K:W.Frag}{mg:Str->Option nL}{base:Heap}{A:nU}{outer:List Env}{s:nB}{H:Hp}(e:Uv P w K mg base A outer s H)(C:Addr)(us:List nL)(b:List (Str×nL)):
  Uv P w K mg base #[4] outer s H:={by first|exact e.frames|(simpa[Around.under,Code.envs,Code.isFrame,pushEnvs]using e.frames),e.mod,e.bs,e.qA,e.fR,e.uO,e.aJ,e.bare}
section
variable {X:Cx}{pins:List #[2]}{σ:St}{H:Hp}{s s':nB}
theorem Ak.AQ(I:Ak X pins σ H s):Uv X.prog X.w X.K X.mg X.base X.A X.stack s H:=
 ⟨I.ok.frames,I.ok.mod,I.bs,ea I.ok.qA I.sz,I.stack,I.eZ,I.aJ,I.bare⟩
theorem Ak.after(I:Ak X pins σ H s)(h:CE X.stack X.prog X.w H s Q u s'):EP X pins σ Q u s':=by
 obtain⟨v,i,n,e,un,j,r,q⟩:=h;obtain⟨m,g,d,t,f⟩:=s';obtain rfl:f=s.os:=n;exact{v,i,I.call (h':=m) (g':=g) (d':=d) (t':=t) (ch:=[]) un j e (λb z=>absurd z (by simp)),r,q}
end
def jf(sp:Sp)(cT:List V)(E:XK)(t:TA):TE:=λf H Q=>t f H λe b=>sp (e++cT) b Q E
inductive jk(C:Addr)(m:Str)(sp:Sp)(cT:List V)(E:XK)(t:TA)(σ:St)(Q:VK)(x:V)(H1:Hp):Prop
 |mk (a:_) (dx:_) (fs:_) (bW:x=.ref a) (bO:H1 a=some (.ins C dx fs)) (cB:fs.lookup m=none) (dM:t σ H1 λvs H2=>sp (x::(vs++cT)) H2 Q E):jk C m sp cT E t σ Q x H1
def sf(C:Addr)(m:Str)(sp:Sp)(cT:List V)(E:XK)(e:TE)(t:TA):TE:=λb H Q=>e b H (jk C m sp cT E t b Q)
def A4v(C:Addr)(sp:Sp)(cT:List V)(E:XK)(t:TA):TE:=λh H Q=>t h H λg e=>∀x b,e x=none->e b=none->b≠x->
 sp (.ref x::(g++cT)) (upd (upd e b (.own x)) x (.ins C b [])) (λv f=>v=.bB/\Q (.ref x) f) E
def Ep(K:W.Frag)(g:nZ)(f:List Str)(e:List nL):Prop:=
 ∀(s:nB) (b:List nL),K.In s.heap->(b++e).length=f.length->BindsTo s g ⟨b,[]⟩ (f.zip (b++e))
theorem Ep.all{K:W.Frag}{e:nZ}{b:List Str}(h:∀us:List nL,us.length=b.length->bindArgs e ⟨us,[]⟩=pure (b.zip us)):Ep K e b []:=λs us _ f=>by
 rw[List.append_nil]at f⊢;exact .of_eq (h us f)
def Jf(CX:ar)(X:Cx)(E:XK):Prop:=∀(b:List #[2]) (g:St) (H:Hp) (s:nB) (e:nL) (f:nB),Ak X b g H s->CX X.stack H s E e f->X.xe e f
section
variable {X:Cx}{CX:ar}{k:Nat}{f C:Addr}{fd:nZ}{ps:List Str}{sp:Sp}{cT:List V}{ds:List nL}{E:XK}{x m:Str}{p pos apos:Pos}{e o:Expr}{es:List Expr}{ta:TE}{t:TA}
theorem Wc(F:Ee X.prog X.w X.K X.mg X.base CX k f fd ps sp)(y:Ca k X.A)(q:Ep X.K fd ps ds)(hd:B0 cT ds)(z:Jf CX X E)
  (I:Ak X b i H s)(r:B0 vs us)(h:sp (vs++cT) H Q E):wpAny #[0] X.A (call (.ref f) us) (EP X b i Q) X.xe s:=by
 have j:B0 (vs++cT) (us++ds):=r.append hd;have v:(us++ds).length=ps.length:=by rw[<- j.length];exact F.len _ _ _ _ h
 refine wpAny_call (codeAny_mono (F.run X.A X.stack s H ⟨us,[]⟩ (us++ds) (vs++cT) Q E y I.AQ (q s us I.fI v) j h) λr A g=>?_);cases r with
 |error e=>exact z b i H s e A I g
 |ok n=>
  cases n with
  |ret u=>exact I.after g
  |next=>exact False.elim g
  |brk=>exact False.elim g
  |cont=>exact False.elim g
theorem Xo(F:Ee X.prog X.w X.K X.mg X.base CX k f fd ps sp)(z:Ca k X.A)(u:Gl X x)(y:X.mg x=some (.ref f))(v:W.keepIn X.K (.ref f)=true)(n:Ep X.K fd ps ds)(hd:B0 cT ds)(A:Jf CX X E)
  (j:PA X (e::es) t)(i:#[5]=false:=by decide)(he:starEach (e::es) X.env=(false,eval e X.env)::starEach es X.env:=by rfl)(B:(backTo pos (starEach es X.env)).any (·.1)=false:=by rfl):
  PE X (.Call (.Name x p) (e::es) [] pos) (jf sp cT E t):=by
 intro b s D H Q I h;refine wpAny_Call_Name_kw (Jx I u y ?_ i);refine W.callWith_K (h₀:=X.base) I.ok.mod.dH v (Bq (j pos b s D H _ I h) λK J ⟨L,G,g,r,q⟩=>⟨g.fI,?_⟩) he B;exact Wc F z n hd A g r q
theorem K7(he:PE X o ta)(c:Cls X.K C)(j:aw X.K C m f)(F:Ee X.prog X.w X.K X.mg X.base CX k f fd ps sp)(J:Ca k X.A)(G:Ep X.K fd ps ds)(hd:B0 cT ds)(L:Jf CX X E)(D:PA X (e::es) t)
  (z:starEach (e::es) X.env=(false,eval e X.env)::starEach es X.env:=by rfl)(M:(backTo pos (starEach es X.env)).any (·.1)=false:=by rfl)
  (K:eval (.Call (.Attribute o m apos) (e::es) [] pos) X.env=(do
   let n <- eval o X.env
   standAt apos.atName;let(f,first) <- holding [n] (getMethod n m pl)
   callWith pos f first (backTo pos (starEach (e::es) X.env)) (backToKw pos (keywordEach [] X.env))):=by rfl):
  PE X (.Call (.Attribute o m apos) (e::es) [] pos) (sf C m sp cT E ta t):=by
 intro b s v H Q I h;refine W.methodCall_KW (pl:=pl) (Bq (he b s v H _ I h) λu P ⟨x,y,g,O,a,U,fs,B,A,l,q⟩=>?_) K;subst B;obtain rfl:u=Value.ref a:=O;refine Jk g A c j l ?_;refine W.callWith_K (first:=[.ref a]) (h₀:=X.base) I.ok.mod.dH j.kp (Bq (D pos b P v y _ g q) λR Y ⟨S,T,i,r,N⟩=>⟨i.fI,?_⟩) z M;exact Wc (us:=.ref a::R) (vs:=.ref a::S) F J G hd L i (.cons rfl r) N
theorem g0(he:PE X o ta)(c:Cls X.K C)(i:aw X.K C m f)(F:Ee X.prog X.w X.K X.mg X.base CX k f fd ps sp)(z:Ca k X.A)(y:Ep X.K fd ps ds)(hd:B0 cT ds)(B:Jf CX X E)
  (A:eval (.Call (.Attribute o m apos) [] [] pos) X.env=(do
   let j <- eval o X.env
   standAt apos.atName;let(f,first) <- holding [j] (getMethod j m pl)
   callWith pos f first (backTo pos (starEach [] X.env)) (backToKw pos (keywordEach [] X.env))):=by rfl):
  PE X (.Call (.Attribute o m apos) [] [] pos) (sf C m sp cT E ta Wn):=by
 intro b s G H Q I h;refine W.methodCall_KW (pl:=pl) (Bq (he b s G H _ I h) λu L ⟨x,J,g,D,a,K,fs,v,n,l,q⟩=>?_) A;subst v;obtain rfl:u=Value.ref a:=D;refine Jk g n c i l ?_;exact W.callWith_K0 (first:=[.ref a]) g.fI i.kp (Wc (us:=[.ref a]) (vs:=[.ref a]) F z y hd B g (.cons rfl .nil) q)
structure Mk(K:W.Frag)(C f:Addr):Prop where
 makes:W.makesIn K C=true
 init:W.findIn K (.ref C) "__init__"=some (some (.ref f))
 fn:W.isFn K (.ref f)=true
 kp:W.keepIn K (.ref C)=true
theorem gq(M:Mk X.K C f)(F:Ee X.prog X.w X.K X.mg X.base CX k f fd ps sp)(L:Ca (k+1) X.A)(J:Ep X.K fd ps ds)(hd:B0 cT ds)
  (N:Jf CX X E)(I:Ak X b n H s)(r:B0 vs us)
  (h:∀x j,H x=none->H j=none->j≠x->sp (.ref x::(vs++cT)) (upd (upd H j (.own x)) x (.ins C j [])) (λv A=>v=.bB/\Q (.ref x) A) E):
  wpAny #[0] X.A (call (.ref C) us) (EP X b n Q) X.xe s:=by
 have q:=h #[3] s.heap.objs.size (I.aJ.fresh (Nat.le_succ _)) (I.aJ.fresh (de _)) (fe (Nat.lt_succ_self _));have i:=Ak.made (C:=C) I;have y:B0 (V.ref #[3]::(vs++cT)) (Value.ref #[3]::(us++ds)):=.cons rfl (r.append hd)
 have K:(Value.ref #[3]::us++ds).length=ps.length:=by
  have e:=y.length;rw[F.len _ _ _ _ q]at e;exact e.symm
 refine wpAny_call (f9 (f:=f) I.fI M.makes M.init (beq_iff_eq.mp M.fn) (codeAny_mono (F.run _ X.stack _ _ ⟨Value.ref #[3]::us,[]⟩ (Value.ref #[3]::(us++ds)) _ _ E (L.make C us [])
  (i.AQ.make C us []) (J _ (Value.ref #[3]::us) i.fI K) y q) λr R g=>?_))
 cases r with
 |error e=>exact N b n _ _ e R i g
 |ok G=>
  cases G with
  |ret u=>
   obtain⟨v,z,B,P,D,O⟩:=i.after g;subst D;exact{P,{V.ref #[3],z,B,rfl,O}}
  |next=>exact False.elim g
  |brk=>exact False.elim g
  |cont=>exact False.elim g
theorem fz(M:Mk X.K C f)(F:Ee X.prog X.w X.K X.mg X.base CX k f fd ps sp)(q:Ca (k+1) X.A)(j:Gl X x)(n:X.mg x=some (.ref C))(i:Ep X.K fd ps ds)(hd:B0 cT ds)(u:Jf CX X E)
  (g:#[5]=false:=by decide):PE X (.Call (.Name x p) [] [] pos) (A4v C sp cT E Wn):=by
 intro b s v H Q I h;refine wpAny_Call_Name_kw (Jx I j n ?_ g);exact W.callWith_K0 I.fI M.kp (gq (us:=[]) M F q i hd u I .nil h)
end
def PK(X:Cx)(g:List Keyword)(t:TA):Prop:=
 ∀(e:Pos) (b:List #[2]) (s:nB) (f:St) (H:Hp) (Q:List V->Hp->Prop),Ak X b f H s->t f H Q->wpAny #[0] X.A (evalAll ((backToKw e (keywordEach g X.env)).map (·.2))) (AP X b f Q) X.xe s
section
variable {X:Cx}{CX:ar}{k:Nat}{f C:Addr}{fd:nZ}{ps ks:List Str}{sp:Sp}{E:XK}{x m:Str}{p pos apos kpos:Pos}{e o:Expr}{es:List Expr}{FQ:List Keyword}{te ta:TE}{t tk:TA}{nm:Option Str}
theorem zd:PK X [] Wn:=λ_ _ _ _ H Q I h=>wpAny_evalAll_nil ⟨[],H,I,.nil,h⟩
theorem ma(y:PE X e te)(z:PK X FQ t):PK X (⟨nm,e,kpos⟩::FQ) (Ul te t):=by
 intro pos b s g H Q I h;show wpAny _ _ (evalAll ((do let v <- eval e X.env;standAt pos;pure v)::(backToKw pos (keywordEach FQ X.env)).map (·.2))) _ _ s;refine wpAny_evalAll_cons (ag (Bq (y b s g H _ I h) λu G ⟨x,i,n,D,A⟩=>ag (wpAny_standAt (aN ?_))));exact Bq (z pos b G g i _ n A) λL K ⟨J,j,q,F,B⟩=>⟨x::J,j,q,.cons D F,B⟩
variable {g:List nL->List nL->List nL}{gV:List V->List V->List V}
end
structure Ae(N P:List Str)(sc:Scope):Prop where
 kind:sc.kind=.function
 co:sc.isCoroutine=false
 gen:sc.isGenerator=false
 nd:N.Nodup
 pre:N.take P.length=P
 par:∀x∈P,sc.names.lookup x=some .local\/sc.names.lookup x=some .cell
 AS:∀y∈sc.names,y.2≠ .free
theorem Py{b:Str->Option NameKind}{x:Str}:∀{binds:List (Str×nL)}{m:Str->Option nL},(∀v,(x,v)∉binds)->bindL b binds m x=m x
 |[],_,_=>rfl
 |(n,v)::r,m,h=>by
  unfold bindL;rw[Py λw e=>h w (List.mem_cons_of_mem _ e)];split
  ·have:x≠n:=by rintro rfl;exact h v c4
   simp[this]
  ·rfl
theorem Pw{b:Str->Option NameKind}{x:Str}:∀{binds:List (Str×nL)}{m:Str->Option nL},(∀v,(x,v)∉binds)->bindC b binds m x=m x
 |[],_,_=>rfl
 |(n,v)::r,m,h=>by
  unfold bindC;rw[Pw λw e=>h w (List.mem_cons_of_mem _ e)];split
  ·rfl
  ·have:x≠n:=by rintro rfl;exact h v c4
   simp[this]
theorem Px{b:Str->Option NameKind}{x:Str}{v:nL}:∀{P:List Str}{vs:List nL}{i:Nat}{m:Str->Option nL},P.Nodup->P[i]?=some x->vs[i]?=some v->b x=some .local->
  bindL b (P.zip vs) m x=some v
 |[],_,_,_,_,h,_,_=>by simp at h
 |_::_,[],_,_,_,_,h,_=>by simp at h
 |p::P,w::vs,0,m,j,e,f,g=>by
  simp at e f;subst e;subst f;show bindL b ((p,w)::P.zip vs) m p=_;unfold bindL;rw[Py λv n=>(List.nodup_cons.mp j).1 (List.of_mem_zip n).1,if_pos g];simp
 |p::P,w::vs,i+1,m,j,e,f,g=>by
  show bindL b ((p,w)::P.zip vs) m x=_;unfold bindL;exact Px (i:=i) (List.nodup_cons.mp j).2 (by simpa using e) (by simpa using f) g
theorem Pu{b:Str->Option NameKind}{x:Str}{v:nL}:∀{P:List Str}{vs:List nL}{i:Nat}{m:Str->Option nL},P.Nodup->P[i]?=some x->vs[i]?=some v->b x≠some .local->
  bindC b (P.zip vs) m x=some v
 |[],_,_,_,_,h,_,_=>by simp at h
 |_::_,[],_,_,_,_,h,_=>by simp at h
 |p::P,w::vs,0,m,j,e,f,g=>by
  simp at e f;subst e;subst f;show bindC b ((p,w)::P.zip vs) m p=_;unfold bindC;rw[Pw λv n=>(List.nodup_cons.mp j).1 (List.of_mem_zip n).1,if_neg g];simp
 |p::P,w::vs,i+1,m,j,e,f,g=>by
  show bindC b ((p,w)::P.zip vs) m x=_;unfold bindC;exact Pu (i:=i) (List.nodup_cons.mp j).2 (by simpa using e) (by simpa using f) g
def start(N:List Str)(vs:List V):St:=vs.map some++List.replicate (N.length-vs.length) none
def Gc(CX:ar)(P:nP)(w:n4)(K:W.Frag)(mg:Str->Option nL)(base:Heap)(N:List Str)(g:Str)(b:Scope)(f:Addr)(h:nL)(A:nU)(outer:List Env)(s:nB)(H:Hp)(E:XK):Cx where
 prog:=P
 w:=w
 K:=K
 mg:=mg
 base:=base
 A:=A.deeper (envOfC g b s.heap.objs.size f h)
 N:=N
 s₀:=s
 H₀:=H
 env:=envOfC g b s.heap.objs.size f h
 outer:=outer
 stack:=envOfC g b s.heap.objs.size f h::outer
 ex:=[]
 calm:=true
 fn:=λ_=>true
 pn:=[]
 xe:=λe m=>wpAny (model P w) (A.deeper (envOfC g b s.heap.objs.size f h)) (leaving (envOfC g b s.heap.objs.size f h) e) (λ_ i=>CX outer H s E e i) (λj i=>CX outer H s E j i) m
theorem Ta{b:Scope}{n:Nat}{x:Str}(h:b.names.lookup x=some .cell):∃c,(cellsFrom n b.names []).lookup x=some c:=by
 have q:=W.cellsFrom_some b.names n [] (.inl h);exact Option.isSome_iff_exists.mp q
theorem Zg{CX:ar}{P:nP}{w:n4}{K:W.Frag}{mg:Str->Option nL}{base:Heap}{N B:List Str}{j:Str}{g:Scope}{f:Addr}{F:nL}{A:nU}{outer:List Env}{s O:nB}{H:Hp}{E:XK}{us:List nL}{vs:List V}
  (S:Ae N B g)(hd:A.handled=none)(n:Uv P w K mg base A outer s H)(U:vs.length=B.length)(r:B0 vs us)
  (x:InCallC s s.heap.objs.size (bindL (envOfC j g s.heap.objs.size f F).kindOf (B.zip us) λ_=>none) (cellsFrom #[3] g.names []) (bindC (envOfC j g s.heap.objs.size f F).kindOf (B.zip us) λ_=>none) O):
  Ak (Gc CX P w K mg base N j g f F A outer s H E) [] (start N vs) H O:=by
 have X:B.length<=N.length:=by have:=congrArg List.length S.pre;rw[List.length_take]at this;omega
 obtain⟨G,Y,rfl,L⟩:=x.done;have J:∀b:Addr,b∉(Gc CX P w K mg base N j g f F A outer s H E).ex:=λb z=>absurd (show b∈([]:List Addr)from z) (by simp)
 refine{{n.mod,S.kind,rfl,rfl,de _,λy z c G m=>?_,λy o=>?_,λy c _ h=>?_,λ_=>hd,Around.frames_deeper n.frames,.inr {rfl,rfl},λb z=>absurd z (J b),n.bs,n.qA,λb _ _=>J b,λb z=>absurd z (J b),n.fR,n.uO},
  rfl,n.bare,Un.kept L,{_,x.toInCall.ns,λi y v G m T=>?_},λy c h=>{_,x.cell y c h},n.aJ.fresh (de _),λy c h=>?_,λp C=>absurd (show p∈([]:List #[2])from C) (by simp),n.aJ.kept L,?_}
 ·exact name_of_addr x.apart (PySem.mem_of_lookup G) (PySem.mem_of_lookup m)
 ·have o:g.names.lookup y=some .cell\/g.names.lookup y=some .free:=o;rcases o with o|o
  ·exact Ta o
  ·exact absurd rfl (S.AS _ (PySem.mem_of_lookup o))
 ·exact l7 (x.above y c (PySem.mem_of_lookup h))
 ·have I:i<vs.length:=by
   unfold start at m;by_cases I:i<vs.length
   ·exact I
   ·rw[List.getElem?_append_right (by simpa using I)]at m;rw[List.getElem?_replicate]at m;split at m<;>cases m
  have Q:vs[i]?=some v:=by
   unfold start at m;rw[List.getElem?_append_left (by simpa using I),List.getElem?_map]at m;cases e:vs[i]? with
   |none=>rw[e]at m;cases m
   |some a=>rw[e]at m;cases m;rfl
  obtain⟨u,M,R⟩:=r.get Q
  have C:B[i]?=some y:=by
   rw[<- S.pre,List.getElem?_take_of_lt (by omega)];exact G
  have D:B.Nodup:=by rw[<- S.pre];exact S.nd.sublist (List.take_sublist _ _)
  refine{u,R,?_};rcases S.par y (cI C)with k|k
  ·exact .inl ⟨k,Px D C M k⟩
  ·obtain⟨c,e⟩:=Ta (n:=s.heap.objs.size+1) k;refine .inr ⟨.inl k,c,e,?_⟩;have q:=x.cell y c e;rw[Pu D C M (by show g.names.lookup y≠_;rw[k];decide)]at q;exact q
 ·exact n.aJ.fresh (l7 (x.above y c (PySem.mem_of_lookup h)))
 ·unfold start;show _=N.length;rw[List.length_append,List.length_map,List.length_replicate];omega
theorem cp{CX:ar}{P:nP}{w:n4}{K:W.Frag}{mg:Str->Option nL}{base:Heap}{k:Nat}{f:Addr}{name h:Str}{i:Arguments}{j:List Stmt}{g:Scope}{Z kV C pm z ct oc:nL}{X od:Option Addr}
  {gD:Array (Option nL)}{N L:List Str}{sp:Sp}(lk:K.lookup f=some ⟨oc,od,.func (W.fnOf name h i j g Z kV C pm X z ct),gD⟩)(mT:W.codeIn K z h=true)(S:Ae N L g)
  (G:∀vs H Q E,sp vs H Q E->vs.length=L.length)
  (eM:∀(A:nU) (outer:List Env) (s:nB) (H:Hp) (vs:List V) (Q:VK) (E:XK),Ca k (A.deeper (envOfC h g s.heap.objs.size f z))->sp vs H Q E->
   ∃t,Pc (Gc CX P w K mg base N h g f z A outer s H E) j t/\t {nx:=λ_ p=>Q .bB p,rt:=Q} (start N vs) H):
  Ee P w K mg base CX (k+1) f (W.fnOf name h i j g Z kV C pm X z ct) L sp:=by
 refine{G,λA outer s H Y us vs Q E M D hb r oW=>?_};have hl:=G _ _ _ _ oW;have U:K.In s.heap:=D.mod.dH.keeps λb o e=>(D.bs b o e).1;have O:s.heap.NoLimit:=D.mod.nolimit.keeps λb o e=>(D.bs b o e).1
 have FT:∀y∈L.zip us,g.names.lookup y.1=some .local\/(g.names.lookup y.1=some .cell/\((cellsFrom #[3] g.names []).lookup y.1).isSome=true):=λ⟨n,v⟩ hy=>by
  rcases S.par n (List.of_mem_zip hy).1 with q|q
  ·exact .inl q
  ·exact .inr ⟨q,W.cellsFrom_some _ _ _ (.inl q)⟩
 refine codeAny_call_function M.depth (U _ _ lk) rfl S.co S.gen rfl (W.codeRec_of U mT) (hb _ _ _ _ ?_);refine wpAny_newFunctionEnv_cells S.kind FT λenv he s1 x=>?_;subst he;refine{O.keeps x.toInCall.keep,codeAny_func ?_};obtain⟨t,ht,hq⟩:=eM A outer s H vs Q E (M.deeper _) oW;have I:Ak (Gc CX P w K mg base N h g f z A outer s H E) [] (start N vs) H s1:=Zg S M.hd D hl r x;refine iv (ht [] s1 (start N vs) H _ I hq) (λfl T B=>?_) λe T B=>B
 have F:∀{m:St}{p:Hp}{v:V}{u:nL},Ak (Gc CX P w K mg base N h g f z A outer s H E) [] m p T->B2 v u->Q v p->CE outer P w H s Q u T:=
  λ{m p v u} J R q=>⟨v,p,J.os,J.bare,J.base,J.aJ,R,q⟩
 cases fl with
 |ret u=>
  obtain⟨v,m,p,J,R,q⟩:=B;exact F J R q
 |next=>
  obtain⟨m,p,J,q⟩:=B;exact F (v:=V.bB) (u:=Value.none) J rfl q
 |brk=>
  obtain⟨_,_,_,q⟩:=B;exact False.elim q
 |cont=>
  obtain⟨_,_,_,q⟩:=B;exact False.elim q
section
variable {X:Cx}{x:Str}{p pos:Pos}{e:Expr}{es:List Expr}{t:TA}{id T:String}{r:List V->Hp->VK->Prop}
def OI(r:List V->Hp->VK->Prop)(t:TA):TE:=λg H Q=>t g H λf b=>r f b Q
theorem Aq(n:Cp X (.builtin id) r)(o:Gl X x)(q:X.mg x=none)(v:bootBuiltins x=some (.builtin id))(m:PA X (e::es) t)(u:x≠"__name__":=by decide)(j:#[5]=false:=by decide)
  (he:starEach (e::es) X.env=(false,eval e X.env)::starEach es X.env:=by rfl)(y:(backTo pos (starEach es X.env)).any (·.1)=false:=by rfl):PE X (.Call (.Name x p) (e::es) [] pos) (OI r t):=by
 intro b s f H Q I h;refine wpAny_Call_Name_kw (Fb I o q v ?_ u j);exact PyProof.Rows.callWith_builtin1 (Bq (m pos b s f H _ I h) λC B ⟨D,g,i,A,z⟩=>n b B f g D C Q i A z) he y
theorem D3(n:Cp X (.type T) r)(o:Gl X x)(q:X.mg x=none)(v:bootBuiltins x=some (.type T))(m:PA X (e::es) t)(u:x≠"__name__":=by decide)(j:#[5]=false:=by decide)
  (he:starEach (e::es) X.env=(false,eval e X.env)::starEach es X.env:=by rfl)(y:(backTo pos (starEach es X.env)).any (·.1)=false:=by rfl):PE X (.Call (.Name x p) (e::es) [] pos) (OI r t):=by
 intro b s f H Q I h;refine wpAny_Call_Name_kw (Fb I o q v ?_ u j);exact PyProof.Rows.callWith_type1 (Bq (m pos b s f H _ I h) λC B ⟨D,g,i,A,z⟩=>n b B f g D C Q i A z) he y
end
end L2
namespace HT
local macro_rules | `(tactic| omega) => `(tactic| lia)
open PySem PyProof.Rows
section
variable {prog:Program}{w:World}{A:Around}{E:Value->Shared->Prop}{s:Shared}
theorem uS{t b:Addr}(F:IsTup s.heap t vs.toArray)(D:IsTup s.heap b ws.toArray)(x:vs≠[])
  (h1:ws=[]->Q (.ref t) s)(C:ws≠[]->Q (.ref s.heap.objs.size) {s with heap:=s.heap.push {cls:=.type "tuple",data:=.seq (vs++ws).toArray} })
  (hsz:vs.length+ws.length<=sizeLine):wpAny (model prog w) A (binaryOp .Add (.ref t) (.ref b)) Q E s:=by
 obtain⟨⟨cls,q,data,B⟩,g,u,n,v⟩:=id F;obtain⟨⟨p,m,j,o⟩,i,z,y,f⟩:=id D;simp only at u v z f;subst u v z f;have e:vs.toArray++ws.toArray=(vs++ws).toArray:=by simp
 by_cases h:ws=[]
 ·exact concat_meets ⟨_,g,rfl⟩ ⟨_,i,rfl⟩ noFill_tuple_add seq_tuple_add PySem.F.slot_tuple_add PySem.F.entry_tuple_add (PySem.F.args_tuple_add_2 _ _)
   (tuple_addW1 t b vs.toArray ws.toArray n y q m B o (by simpa using x) (by simp[h])) ⟨g,i,h1 h⟩
 ·refine concat_meets ⟨_,g,rfl⟩ ⟨_,i,rfl⟩ noFill_tuple_add seq_tuple_add PySem.F.slot_tuple_add PySem.F.entry_tuple_add (PySem.F.args_tuple_add_2 _ _)
   (tuple_addW2 t b vs.toArray ws.toArray n y q m B o (by simpa using x) (by simpa using h) (by rw[List.size_toArray,List.size_toArray];exact hsz)) ⟨g,i,?_⟩
  rw[e];exact C h
def bS(n d:Nat):Option Int->Nat
 |none=>d
 |some v=>if v<0 then(v+(n:Int)).toNat else min v.toNat n
theorem cV(n d:Nat):bS n d none=d:=rfl
theorem dC(n d k:Nat):bS n d (some (k:Int))=min k n:=by
 show(if(k:Int)<0 then((k:Int)+(n:Int)).toNat else min (k:Int).toNat n)=min k n;rw[if_neg (by omega),Int.toNat_natCast]
theorem zp(n d:Nat)(hd:d<=n)(o:Option Int):bS n d o<=n:=by
 cases o with
 |none=>exact hd
 |some v=>
  show(if v<0 then(v+(n:Int)).toNat else min v.toNat n)<=n;by_cases b:v<0
  ·rw[if_pos b];omega
  ·rw[if_neg b];exact Nat.min_le_right _ _
theorem X2(v:Int)(n d:Nat):(if v<0 then max (v+(n:Int)) 0 else min v (n:Int))=((bS n d (some v):Nat):Int):=by
 show(if v<0 then max (v+(n:Int)) 0 else min v (n:Int))=(((if v<0 then(v+(n:Int)).toNat else min v.toNat n):Nat):Int);by_cases b:v<0
 ·simp only[if_pos b];omega
 ·simp only[if_neg b];omega
theorem V0(e b:Option Int)(n:Nat):Builtin.Slice.sliceAdjust e b 1 (n:Int)=(((bS n 0 e:Nat):Int),((bS n n b:Nat):Int)):=by
 have f:¬((1:Int)<0):=by omega
 unfold Builtin.Slice.sliceAdjust;simp only[f,if_false];refine Prod.ext ?_ ?_
 ·cases e with
  |none=>rfl
  |some v=>exact X2 v n 0
 ·cases b with
  |none=>rfl
  |some v=>exact X2 v n n
theorem W6(i j:Nat):Builtin.Slice.slicePlaces (i:Int) (j:Int) 1=j-i:=by
 unfold Builtin.Slice.slicePlaces;have b:(1:Int)>0:=by omega
 simp only[b,if_true,Int.ediv_one];split<;>omega
theorem P5(p:IsPart v o)(h:Q o s):wpAny (model prog w) A (Builtin.Slice.slicePartIndex v) Q E s:=by
 cases p with
 |none=>exact slicePart_none h
 |int i t=>exact slicePart_int h
theorem Ln{j:Addr}{g i:Value}{lo b:Option Int}{n:Nat}{Q:Int×Int×Nat->Shared->Prop}(o:s.heap.IsSliceOf j g i .none)(pl:IsPart g lo)(p:IsPart i b)
  (h:Q (((bS n 0 lo:Nat):Int),1,bS n n b-bS n 0 lo) s):wpAny (model prog w) A (Builtin.Slice.sliceApplied (.ref j) (pure (n:Int))) Q E s:=by
 obtain⟨q,e,m,f⟩:=id o;unfold Builtin.Slice.sliceApplied Builtin.Slice.sliceFields;refine wpAny_bind (wpAny_bind (wpAny_field e f (x:=g) rfl (wpAny_bind (wpAny_field e f (x:=i) rfl (wpAny_bind (wpAny_field e f (x:=.none) rfl (wpAny_pure ?_)))))));refine wpAny_bind (slicePart_none ?_);show wpAny _ _ (if((1:Int)==0)=true then _ else _) _ _ s;rw[if_neg (by decide)];refine wpAny_bind (P5 pl (wpAny_bind (P5 p (wpAny_bind (wpAny_pure ?_)))));show wpAny _ _ (match Builtin.Slice.sliceAdjust lo b 1 (n:Int)with|(lo,b)=>pure (lo,(1:Int),Builtin.Slice.slicePlaces lo b 1)) _ _ s;rw[V0 lo b n];show wpAny _ _ (pure (((bS n 0 lo:Nat):Int),(1:Int),Builtin.Slice.slicePlaces ((bS n 0 lo:Nat):Int) ((bS n n b:Nat):Int) 1)) _ _ s;rw[W6];exact wpAny_pure h
theorem gb(xs:Array Value)(i k:Nat):((List.range k).filterMap λ(m:Nat)=>xs[((i:Int)+(m:Int)*1).toNat]?).toArray=((xs.toList.drop i).take k).toArray:=by
 have e:(λ(m:Nat)=>xs[((i:Int)+(m:Int)*1).toNat]?)=λm=>xs[i+m]?:=by
  funext m;have:((i:Int)+(m:Int)*1).toNat=i+m:=by omega
  rw[this]
 rw[e];have:=pick_run xs i k;rw[List.filterMap_map]at this;have b:((λx=>xs[x]?) ∘ λx=>i+x)=λm=>xs[i+m]?:=rfl;rw[b]at this;rw[this]
theorem fT{t n:Addr}{b:Array Value}{p u:Value}{e f:Option Int}{Q:Value->Shared->Prop}(g:IsTup s.heap t b)(o:s.heap.IsSliceOf n p u .none)(pl:IsPart p e)(B:IsPart u f)
  (x:¬(bS b.size 0 e=0/\bS b.size b.size f=b.size))
  (h:Q (.ref s.heap.objs.size) {s with heap:=s.heap.push {cls:=.type "tuple",data:=.seq ((b.toList.drop (bS b.size 0 e)).take (bS b.size b.size f-bS b.size 0 e)).toArray} })
  (hsz:b.size<=sizeLine):wpAny (model prog w) A (getItem (.ref t) (.ref n)) Q E s:=by
 have i:sizeOk (.seq ((b.toList.drop (bS b.size 0 e)).take (bS b.size b.size f-bS b.size 0 e)).toArray):=by
  show((b.toList.drop (bS b.size 0 e)).take (bS b.size b.size f-bS b.size 0 e)).toArray.size<=sizeLine;rw[List.size_toArray,List.length_take,List.length_drop,Array.length_toList];omega
 have D:bS b.size b.size f<=b.size:=zp _ _ (Nat.le_refl _) f;obtain⟨z,v,m,C⟩:=id o;have j:s.TypeIs (.ref n) "slice":=⟨z,v,m⟩;unfold getItem
 try with_reducible refine wpAny_holding ?_
 first|refine wpAny_bind (wpAny_pure ?_)|skip
 refine wpAny_bind (wpAny_sequenceKey g.typeIs (by decide) ?_)
 refine wpAny_bind (wpAny_callSpecial?_slot (name:=Str.ofString "__getitem__") g.typeIs PyProof.Rows.slot_tuple_getitem
  (wpAny_call_entry PyProof.Rows.slot_tuple_getitem g.typeIs entry_tuple_getitem ?_ (args_tuple_getitem _ _)))
 show wpAny _ _ (Builtin.Tuple.tupleItemsOf (.ref t)>>=_) _ _ s;refine wpAny_bind (tupleItemsOf_ g ?_);refine wpAny_bind (wpAny_typeOf j ?_);rw[if_pos (by decide)];refine wpAny_bind (Ln o pl B ?_)
 have y:¬((((bS b.size 0 e:Nat):Int)==0&&(1:Int)==1&&(bS b.size b.size f-bS b.size 0 e)==b.size)=true):=by
  intro q;rw[Bool.and_eq_true,Bool.and_eq_true]at q;have F:((bS b.size 0 e:Nat):Int)=0:=eq_of_beq q.1.1;have G:bS b.size b.size f-bS b.size 0 e=b.size:=eq_of_beq q.2;exact x ⟨by omega,by omega⟩
 show wpAny _ _ (if(((bS b.size 0 e:Nat):Int)==0&&(1:Int)==1&&(bS b.size b.size f-bS b.size 0 e)==b.size)=true then _ else _) _ _ s;rw[if_neg y,gb]
 first
  |exact wpAny_bind (m:=Builtin.Tuple.tupleExact _) (wpAny_newObj_type (wpAny_pure ⟨_,rfl,wpAny_pure h⟩) i)
  |exact wpAny_bind (m:=Builtin.Tuple.tupleExact _) (wpAny_newObj_type (wpAny_bind (wpAny_pure (wpAny_pure ⟨_,rfl,wpAny_pure h⟩))) i)
  |exact wpAny_bind (wpAny_bind (m:=Builtin.Tuple.tupleExact _) (wpAny_newObj_type (wpAny_pure (wpAny_pure ⟨_,rfl,wpAny_pure h⟩)) i))
  |exact wpAny_bind (wpAny_bind (m:=Builtin.Tuple.tupleExact _) (wpAny_newObj_type (wpAny_pure ⟨_,rfl,wpAny_pure h⟩) i))
end
end HT
namespace L2
local macro_rules | `(tactic| omega) => `(tactic| lia)
open PySem PySem.Spec PyProof.Rows
abbrev TO:=St->Hp->(nf->Hp->Prop)->Prop
def PO(X:Cx)(e:Option Expr)(t:TO):Prop:=
 ∀(b:List (Addr×Obj)) (s:nB) (f:St) (H:Hp) (Q:nf->Hp->Prop),Ak X b f H s->t f H Q->
  wpAny (model X.prog X.w) X.A (evalPart e X.env) (λu h=>∃o g,Ak X b f g h/\IsPart u o/\Q o g) X.xe s
def n9:TO:=λ_ H Q=>Q none H
inductive jl(t:TE)(Q:nf->Hp->Prop)(x:V)(H1:Hp):Prop
 |mk (i:_) (bW:x=.int i) (bO:Q (some i) H1):jl t Q x H1
def A4y(t:TE):TO:=λb H Q=>t b H (jl t Q)
theorem Dq:∀{us:List nL},B0 (ns.map V.int) us->IntsAre us ns:=by
 induction ns with
 |nil=>intro us r;rw[List.map_nil]at r;cases r;exact .nil
 |cons n ns b=>
  intro us r;rw[List.map_cons]at r;cases r with
  |cons f g=>
   obtain⟨t,e⟩:=f;subst e;exact .cons n t (b g)
section
variable {X:Cx}{e:Expr}{te:TE}{lo hi:Option Expr}{tl th:TO}{pos p2:Pos}
theorem Dp:PO X none n9:=by
 intro b s f H Q I h;rw[evalPart_none];exact aN ⟨none,H,I,.none,h⟩
theorem Cn(h:PE X e te):PO X (some e) (A4y te):=by
 intro b s p H Q I m;rw[evalPart_some];refine Bq (h b s p H _ I m) λu v j=>?_;obtain⟨x,f,g,o,n⟩:=j;obtain⟨i,rfl,q⟩:=n;obtain⟨t,rfl⟩:=o;exact⟨some i,f,g,.int i t,q⟩
def FV(X:Cx)(r:V->nf->nf->Hp->VK->Prop):Prop:=
 ∀(b:List (Addr×Obj)) (s:nB) (i:St) (H:Hp) (x:V) (v g h:nL) (lo hi:nf) (f:Addr) (Q:VK),Ak X b i H s->B2 x v->s.heap.IsSliceOf f g h .none->IsPart g lo->IsPart h hi->r x lo hi H Q->
  ∃T j,typeLookup (.type T) "__getitem__"=pure (some (.builtin j))/\s.TypeIs v T/\wpAny (model X.prog X.w) X.A (getItem v (.ref f)) (EP X b i Q) X.xe s
def tSl(r:V->nf->nf->Hp->VK->Prop)(te:TE)(tl th:TO):TE:=λb H Q=>te b H λx f=>tl b f λl g=>th b g λu h=>r x l u h Q
theorem Ci{r:V->nf->nf->Hp->VK->Prop}(G:FV X r)(he:PE X e te)(F:PO X lo tl)(K:PO X hi th):PE X (.Subscript e (.Slice lo hi none p2) pos) (tSl r te tl th):=by
 intro f s i H Q I h;refine Subscript_ (Bq (he f s i H _ I h) λv S n=>?_);obtain⟨x,p,z,R,N⟩:=n;refine wpAny_Slice (Bq (F f S i p _ z N) λj U ⟨l,y,A,L,O⟩=>Bq (K f U i y _ A O) λm g n=>?_);obtain⟨u,o,B,M,P⟩:=n;rw[evalPart_none];refine aN ?_;have C:Ak X f i o {g with heap:=g.heap.push {cls:=.type "slice",data:=.fields #[j,m,.none] } }:=B.kept (t':=g.toks) λb Z q=>cb _ q;obtain⟨T,Y,D,J,E⟩:=G f {g with heap:=g.heap.push {cls:=.type "slice",data:=.fields #[j,m,.none] } } i o x v j m l u g.heap.objs.size Q C R (Heap.IsSliceOf.new ..) L M P;show wpAny (model X.prog X.w) X.A (subscriptTail e (.Slice lo hi none p2) v (.ref g.heap.objs.size)) (EP X f i Q) X.xe {g with heap:=g.heap.push {cls:=.type "slice",data:=.fields #[j,m,.none] } };exact tail_any (ops:=[.ref g.heap.objs.size,v]) J D E (by with_unfolding_all rfl)
def Ji(xs:List V)(lo hi:nf):List V:=(xs.drop (HT.bS xs.length 0 lo)).take (HT.bS xs.length xs.length hi-HT.bS xs.length 0 lo)
theorem Lw(xs:List V)(lo hi:nf):(Ji xs lo hi).length<=xs.length:=by
 unfold Ji;rw[List.length_take,List.length_drop];omega
inductive zl(K:W.Frag)(x:V)(lo:nf)(hi:nf)(H:Hp)(Q:VK):Prop
 |mk (a:_) (xs:_) (bW:x=.ref a) (bO:Ax K H a xs) (cB:¬(HT.bS xs.length 0 lo=0/\HT.bS xs.length xs.length hi=xs.length)) (dM:∀p,H p=none->Q (.ref p) (upd H p (.tup (Ji xs lo hi)))):zl K x lo hi H Q
theorem A0d:FV X (zl X.K):=by
 intro m s F H x v D E lo hi C Q I A o y z h;obtain⟨a,g,rfl,u,p,q⟩:=h;cases A;obtain⟨n,r,i,j⟩:=I.tuple u;have f:n.toArray.size=g.length:=by rw[List.size_toArray];exact r.length.symm
 refine⟨"tuple",_,PyProof.Rows.slot_tuple_getitem.lookup,i.typeIs,?_⟩;refine HT.fT i o y z (by rw[f];exact p) ?_ (by rw[f];exact j);rw[f];refine⟨.ref s.heap.objs.size,_,I.laid (t':=s.toks) (o:=.tup (Ji g lo hi)) (λb B q=>cb _ q) (de _) ?_,rfl,q _ (I.aJ.fresh (de _))⟩;exact⟨⟨ea (Lw g lo hi) j,⟨_,cX _ rfl,rfl⟩⟩,_,(r.drop (HT.bS g.length 0 lo)).take (HT.bS g.length g.length hi-HT.bS g.length 0 lo),IsTup.new _ _⟩
inductive o8(K:W.Frag)(x:V)(y:V)(H:Hp)(Q:VK):Prop
 |mk (a:_) (b:_) (xs:_) (ys:_) (bW:x=.ref a) (bO:y=.ref b) (cB:Ax K H a xs) (dM:Ax K H b ys) (iK:xs≠[]) (qC:xs.length+ys.length<=sizeLine) (DS:(ys=[]->Q (.ref a) H)) (hq7:(ys≠[]->∀p,H p=none->Q (.ref p) (upd H p (.tup (xs++ys))))):o8 K x y H Q
theorem B0.kJ(r:B0 xs us):us=[]↔xs=[]:=by
 cases r with
 |nil=>simp
 |cons _ _=>simp
theorem Xn:Ht X (binaryOp .Add) (o8 X.K):=by
 intro j s L H x y v u Q I C D h;obtain⟨a,b,E,F,rfl,rfl,m,n,o,i,A,B⟩:=h;cases C;cases D;obtain⟨G,g,p,_⟩:=I.tuple m;obtain⟨J,f,p2,_⟩:=I.tuple n;refine HT.uS p p2 (λz=>o (g.kJ.mp z)) (λz=>⟨.ref a,H,I,rfl,A (f.kJ.mp z)⟩) (λz=>?_) (by rw[<- g.length,<- f.length];exact i);refine⟨.ref s.heap.objs.size,_,I.laid (t':=s.toks) (o:=.tup (E++F)) (λb K q=>cb _ q) (de _) ?_,rfl,B (λw=>z (f.kJ.mpr w)) _ (I.aJ.fresh (de _))⟩;exact⟨⟨by rw[List.length_append];exact i,⟨_,cX _ rfl,rfl⟩⟩,_,g.append f,IsTup.new _ _⟩
end
def dq(n:Nat)(i:Int):Option Nat:=if 0<=i then(if i<n then some i.toNat else none)else if-(n:Int)<=i then some (i+n).toNat else none
def Ls(xs:List b)(i:Int):Option b:=(dq xs.length i).bind λj=>xs[j]?
theorem Xh(h:dq n i=some j):seqIndex? i n=some j/\j<n/\-(n:Int)<=i/\i<n:=by
 unfold dq at h;by_cases f:0<=i
 ·rw[if_pos f]at h;by_cases b:i<n
  ·rw[if_pos b]at h;have e:i.toNat=j:=en h;exact⟨by rw[seqIndex_of f b,e],by omega,by omega,b⟩
  ·rw[if_neg b]at h;cases h
 ·rw[if_neg f]at h;by_cases b:-(n:Int)<=i
  ·rw[if_pos b]at h;have e:(i+n).toNat=j:=en h;exact⟨by rw[seqIndex_neg (by omega) b,e],by omega,b,by omega⟩
  ·rw[if_neg b]at h;cases h
theorem Rc(h:Ls xs i=some v):∃j,seqIndex? i xs.length=some j/\xs[j]?=some v/\j<xs.length/\-(xs.length:Int)<=i/\i<xs.length:=by
 unfold Ls at h;cases e:dq xs.length i with
 |none=>rw[e]at h;cases h
 |some j=>
  rw[e]at h;obtain⟨f,g,m,n⟩:=Xh e;exact⟨j,f,h,g,m,n⟩
theorem Et{b:Type}{xs:List b}{j:Nat}{v:b}(h:xs[j]?=some v):Ls xs (j:Int)=some v:=by
 have f:j<xs.length:=(b0.mp h).1
 have e:dq xs.length (j:Int)=some j:=by
  unfold dq;rw[if_pos (by omega),if_pos (by omega)];simp
 unfold Ls;rw[e];exact h
theorem ba(xs:List b)(v:b):Ls (xs++[v]) (-1)=some v:=by
 have f:(xs++[v]).length=xs.length+1:=by simp
 have e:dq (xs++[v]).length (-1)=some xs.length:=by
  unfold dq;rw[f,if_neg (by decide),if_pos (by omega)];congr 1;omega
 unfold Ls;rw[e];show(xs++[v])[xs.length]?=some v;simp
def X1(b:Expr):Prop:=∀o i,subscripted b false o i=operate [o,i] (getItem o i)
def FW(X:Cx)(r:R2):Prop:=
 ∀(f b:Expr) (e:List (Addr×Obj)) (s:nB) (g:St) (H:Hp) (x y:V) (v u:nL) (Q:VK),Ak X e g H s->B2 x v->B2 y u->r x y H Q->
  subscripted b false v u=operate [v,u] (getItem v u)->wpAny (model X.prog X.w) X.A (subscriptTail f b v u) (EP X e g Q) X.xe s
def uc(X:Cx)(id:String)(r:V->List V->Hp->VK->Prop):Prop:=
 ∀(b:List (Addr×Obj)) (s:nB) (g:St) (H:Hp) (x:V) (f:List V) (v:nL) (e:List nL) (Q:VK),Ak X b g H s->B2 x v->B0 f e->r x f H Q->
  wpAny (model X.prog X.w) X.A (call (.builtin id) (v::e)) (EP X b g Q) X.xe s
section
variable {X:Cx}{a b:Expr}{ta tb:TE}{pos:Pos}
theorem o0(m:FW X r)(i:PE X a ta)(j:PE X b tb)(n:X1 b):PE X (.Subscript a b pos) (AO r ta tb):=by
 intro e s A H Q I h;exact Subscript_ (uh i j I h λv u z x y f g o p q=>m a b e z A f x y v u Q g o p q (n _ _))
inductive A3q(K:W.Frag)(x:V)(y:V)(H:Hp)(Q:VK):Prop
 |mk (p:_) (xs:_) (i:_) (v:_) (bW:x=.ref p) (bO:y=.int i) (cB:Ar K H p xs) (dM:Ls xs i=some v) (iK:Q v H):A3q K x y H Q
inductive A3s(K:W.Frag)(x:V)(y:V)(H:Hp)(Q:VK):Prop
 |mk (p:_) (xs:_) (i:_) (v:_) (bW:x=.ref p) (bO:y=.int i) (cB:Ax K H p xs) (dM:Ls xs i=some v) (iK:Q v H):A3s K x y H Q
inductive A3r(x:V)(y:V)(H:Hp)(Q:VK):Prop
 |mk (z:_) (i:_) (c:_) (bW:x=.str z) (bO:y=.int i) (cB:z.length<=sizeLine) (dM:Ls z.cps.toList i=some c) (iK:Q (.str ⟨#[c]⟩) H):A3r x y H Q
theorem ky:FW X (A3q X.K):=by
 intro A o e s E H x y v u Q I P R h D;obtain⟨p,Z,i,z,rfl,rfl,N,L,q⟩:=h;cases P;obtain⟨t,rfl⟩:=R;obtain⟨F,r,n,Y⟩:=I.list N;obtain⟨j,g,G,T,J,K⟩:=Rc L;obtain⟨w,B,O⟩:=r.get G;have M:=r.length;have U:=Ib;have f:EP X e E Q w s:=⟨z,H,I,O,q⟩;by_cases C:0<=i
 ·have m:i.toNat=j:=by
   rw[seqIndex_of C K]at g;exact en g
  exact item_listR n.isList C (by omega) (by rw[m];simpa using B) f D
 ·have m:(i+(F.toArray.size:Int)).toNat=j:=by
   rw[seqIndex_neg (by omega) J]at g;rw[List.size_toArray,<- M];exact en g
  exact subscriptTail_builtinR (x:=w) n.isList.typeIs slot_list_getitem.lookup
   (wpAny_getItem_list_neg (Q:=λr S=>r=w/\EP X e E Q r S) n.isList (by omega) (by rw[List.size_toArray]<;>omega) (by omega) (by rw[m];simpa using B) ⟨rfl,f⟩) D
theorem vh:FW X (A3s X.K):=by
 intro m g e s o H x y v u Q I K L h G;obtain⟨p,U,i,z,rfl,rfl,F,D,q⟩:=h;cases K;obtain⟨t,rfl⟩:=L;obtain⟨N,r,n,T⟩:=I.tuple F;obtain⟨j,B,C,O,P,R⟩:=Rc D;obtain⟨w,A,J⟩:=r.get C;have E:=r.length;have S:=Ib;have f:EP X e o Q w s:=⟨z,H,I,J,q⟩
 exact subscriptTail_builtinR (x:=w) n.typeIs slot_tuple_getitem.lookup
  (getItem_tuple (j:=j) (Q:=λr M=>r=w/\EP X e o Q r M) n (by omega) (by omega) (by rw[List.size_toArray,<- E];exact B) (by simpa using A) ⟨rfl,f⟩) G
theorem vg:FW X A3r:=by
 intro f e m s N H x y v u Q I F G h E;obtain⟨z,i,c,rfl,rfl,L,C,q⟩:=h;obtain⟨t,rfl⟩:=F;obtain⟨M,rfl⟩:=G;obtain⟨j,g,p,J,A,B⟩:=Rc C;have D:z.cps.toList.length=z.length:=by simp[Str.length]
 rw[D]at g A B;have K:=Ib
 exact tail_any (typeIs_str s z t) slot_str_getitem.lookup (getItem_str (c:=c) (by
  have n:decide (i< -(2^63:Int))=false:=jJ (by omega);have o:decide (i>=2^63)=false:=jJ (by omega);rw[n,o,Bool.or_false]) (by rw[g];simpa using p) ⟨.str ⟨#[c]⟩,H,I.tok _,⟨_,rfl⟩,q⟩) E
theorem Vo(e:List nL)(n j:Nat)(u:nL):Obj.mapSeq (·.setIfInBounds j u) {cls:=.type "list",data:=.seq e.toArray n}={cls:=.type "list",data:=.seq (e.set j u).toArray n}:=by
 simp[Obj.mapSeq]
theorem Ak.lst(I:Ak X f i H s)(h:H p=some (.lst xs)):
  ∃(g:List nL) (n:Nat),B0 xs g/\s.heap.get? p=some {cls:=.type "list",data:=.seq g.toArray n}/\xs.length<=sizeLine:=by
 obtain⟨z,g,n,r,e⟩:=I.aJ p _ h;exact⟨g,n,r,e,z⟩
theorem Ak.AU{g:List (Addr×Obj)}{o:St}{H:Hp}{s:nB}{p:Addr}{xs ys:List V}{j its':List nL}{n i:Nat}{f:Obj->Obj}(I:Ak X g o H s)(h:H p=some (.lst xs))
  (x:s.heap.get? p=some {cls:=.type "list",data:=.seq j.toArray n})(m:f {cls:=.type "list",data:=.seq j.toArray n}={cls:=.type "list",data:=.seq its'.toArray i})(r:B0 ys its')(hz:ys.length<=sizeLine)(t:Nat):
  Ak X g o (upd H p (.lst ys)) {s with heap:=s.heap.update p f,toks:=t}:=by
 have e:(s.heap.update p f).get? p=some {cls:=.type "list",data:=.seq its'.toArray i}:=by
  rw[Heap.get?_update_self f x (by rw[m]<;>rfl),m]
 refine I.write (x:=p) (e:=p) (by rw[h];trivial) (.inl rfl) (λb u v q=>(eI _ _ (Ne.symm v)).trans q) ⟨_,e⟩ ?_;exact⟨hz,its',i,r,e⟩
inductive oj(o:V)(i:V)(v:V)(H:Hp)(Q:(Hp->Prop)):Prop
 |mk (p:_) (xs:_) (k:_) (j:_) (bW:o=.ref p) (bO:i=.int k) (cB:H p=some (.lst xs)) (dM:dq xs.length k=some j) (iK:Q (upd H p (.lst (xs.set j v)))):oj o i v H Q
theorem Ue:A2r X oj:=by
 intro e s M H o i v R P u Q I J G K h;obtain⟨p,L,k,j,rfl,rfl,D,E,q⟩:=h;cases J;obtain⟨t,rfl⟩:=G;obtain⟨z,n,r,x,F⟩:=I.lst D;obtain⟨f,N,B,C⟩:=Xh E;have m:=r.length;have O:=Ib
 have y:Ak X e M (upd H p (.lst (L.set j v))) {s with heap:=s.heap.update p (Obj.mapSeq (·.setIfInBounds j u)) }:=
  I.AU D x (Vo z n j u) (r.set K j) (by rw[List.length_set];exact F) s.toks
 by_cases A:0<=k
 ·have g:k.toNat=j:=by
   rw[seqIndex_of A C]at f;exact en f
  exact W.ki_setAt x A (by omega) (by rw[List.size_toArray,<- m];exact C) (by rw[g];exact⟨_,y,q⟩)
 ·have g:(k+(z.toArray.size:Int)).toNat=j:=by
   rw[seqIndex_neg (by omega) B]at f;rw[List.size_toArray,<- m];exact en f
  exact W.ki_setBack x (by omega) (by rw[List.size_toArray,<- m];exact B) (by omega) (by rw[g];exact⟨_,y,q⟩)
theorem Sn(f e:nf)(n:Nat):(sliceBounds f e none n).1=((HT.bS n 0 f:Nat):Int)/\(sliceBounds f e none n).2.1=((HT.bS n n e:Nat):Int)/\(sliceBounds f e none n).2.2=1:=by
 refine⟨?_,?_,rfl⟩
 ·cases f with
  |none=>simp[sliceBounds,HT.bS]
  |some i=>
   simp only[sliceBounds,HT.bS,Option.getD_none,show(1:Int)>0 by decide,if_true];by_cases h:i<0
   ·simp only[h,if_true]<;>omega
   ·simp only[h,if_false]<;>omega
 ·cases e with
  |none=>simp[sliceBounds,HT.bS]
  |some i=>
   simp only[sliceBounds,HT.bS,Option.getD_none,show(1:Int)>0 by decide,if_true];by_cases h:i<0
   ·simp only[h,if_true]<;>omega
   ·simp only[h,if_false]<;>omega
theorem Pn(e:List nL)(f g:nf):slicePick e.toArray f g none=((e.drop (HT.bS e.length 0 f)).take (HT.bS e.length e.length g-HT.bS e.length 0 f)).toArray:=by
 obtain⟨h,i,j⟩:=Sn f g e.toArray.size;unfold slicePick;rw[h,i,j];simp only[sliceRange_one,pick_run,List.size_toArray]<;>rfl
inductive zk(K:W.Frag)(x:V)(lo:nf)(hi:nf)(H:Hp)(Q:VK):Prop
 |mk (a:_) (xs:_) (bW:x=.ref a) (bO:Ar K H a xs) (cB:∀p,H p=none->Q (.ref p) (upd H p (.lst (Ji xs lo hi)))):zk K x lo hi H Q
theorem mz:FV X (zk X.K):=by
 intro m s F H x v D E g i C Q I z n u y h;obtain⟨a,e,rfl,o,q⟩:=h;cases z;obtain⟨A,r,j,p⟩:=I.list o;have f:=r.length;refine⟨"list",_,slot_list_getitem.lookup,j.isList.typeIs,?_⟩;refine wpAny_getItem_list_slice j.isList n u y .none (by simp) ?_ (by rw[List.size_toArray]<;>omega);rw[Pn,<- f];refine⟨.ref s.heap.objs.size,_,I.laid (t':=s.toks) (o:=.lst (Ji e g i)) (λb B q=>cb _ q) (de _) ?_,rfl,q _ (I.aJ.fresh (de _))⟩;exact⟨ea (Lw e g i) p,_,0,(r.drop (HT.bS e.length 0 g)).take (HT.bS e.length e.length i-HT.bS e.length 0 g),cX _ rfl⟩
def Hq:V->Bool
 | .bB=>true
 | .bl _=>true
 | .int _=>true
 | .str _=>true
 |_=>false
def jw:V->V->Bool
 | .bB,.bB=>true
 | .bl a,.bl b=>a==b
 | .bl a,.int b=>(if a then 1 else 0)==b
 | .int a,.bl b=>a==(if b then 1 else 0)
 | .int a,.int b=>a==b
 | .str a,.str b=>a==b
 |_,_=>false
theorem ur(h:B2 y u)(e:B2 x v)(i:Hq y=true)(g:Hq x=true):SeqAt.EqAt A s u v (jw y x):=by
 cases y with
 |bB=>
  cases h;cases x with
  |bB=>cases e;exact SeqAt.EqAt.same _
  |bl b=>cases e;exact SeqAt.EqAt.none_bool b
  |int b=>obtain⟨t,rfl⟩:=e;exact SeqAt.EqAt.none_int b t
  |str b=>obtain⟨t,rfl⟩:=e;exact SeqAt.EqAt.none_str b t
  |_=>exact absurd (show false=true from g) fx
 |bl a=>
  cases h;cases x with
  |bB=>cases e;exact SeqAt.EqAt.bool_none a
  |bl b=>cases e;exact SeqAt.EqAt.bool_bool a b
  |int b=>obtain⟨t,rfl⟩:=e;exact SeqAt.EqAt.bool_int a b t
  |str b=>obtain⟨t,rfl⟩:=e;exact SeqAt.EqAt.bool_str a b t
  |_=>exact absurd (show false=true from g) fx
 |int a=>
  obtain⟨f,rfl⟩:=h;cases x with
  |bB=>cases e;exact SeqAt.EqAt.int_none a f
  |bl b=>cases e;exact SeqAt.EqAt.int_bool a f b
  |int b=>obtain⟨t,rfl⟩:=e;exact SeqAt.EqAt.int_int a f b t
  |str b=>obtain⟨t,rfl⟩:=e;exact SeqAt.EqAt.int_str a f b t
  |_=>exact absurd (show false=true from g) fx
 |str a=>
  obtain⟨f,rfl⟩:=h;cases x with
  |bB=>cases e;exact SeqAt.EqAt.str_none a f
  |bl b=>cases e;exact SeqAt.EqAt.str_bool a f b
  |int b=>obtain⟨t,rfl⟩:=e;exact SeqAt.EqAt.str_int a f b t
  |str b=>obtain⟨t,rfl⟩:=e;exact SeqAt.EqAt.str_str a f b t
  |_=>exact absurd (show false=true from g) fx
 |_=>exact absurd (show false=true from i) fx
def Vb(x:V)(u:nL):Bool:=match u with
 | .none=>jw .bB x
 | .bool b=>jw (.bl b) x
 | .int i _=>jw (.int i) x
 | .str z _=>jw (.str z) x
 |_=>false
theorem c9(r:B2 y u)(f:Hq y=true):Vb x u=jw y x:=by
 cases y with
 |bB=>cases r;rfl
 |bl b=>cases r;rfl
 |int i=>obtain⟨t,rfl⟩:=r;rfl
 |str z=>obtain⟨t,rfl⟩:=r;rfl
 |_=>exact absurd (show false=true from f) fx
theorem Mv(h:B0 xs us)(f:xs.all Hq=true):us.any (Vb x)=xs.any λy=>jw y x:=by
 induction h with
 |nil=>rfl
 |cons r t e=>
  rw[List.all_cons,Bool.and_eq_true]at f;rw[List.any_cons,List.any_cons,c9 r f.1,e f.2]
theorem K0(j:B2 x v)(g:Hq x=true)(h:B0 xs us)(f:xs.all Hq=true):∀u∈us,SeqAt.EqAt A s u v (Vb x u):=by
 induction h with
 |nil=>
  intro u e;cases e
 |cons r t i=>
  intro m e;rw[List.all_cons,Bool.and_eq_true]at f;rcases eH.mp e with rfl|e
  ·rw[c9 r f.1];exact ur r j f.1 g
  ·exact i f.2 m e
def Pd(x:V)(xs:List V):Bool:=xs.any λy=>jw y x
inductive FX(K:W.Frag)(neg:Bool)(x:V)(y:V)(H:Hp)(Q:VK):Prop
 |mk (p:_) (xs:_) (bW:y=.ref p) (bO:(Ar K H p xs\/Ax K H p xs)) (cB:Hq x=true) (dM:xs.all Hq=true) (iK:Q (.bl (if neg then !Pd x xs else Pd x xs)) H):FX K neg x y H Q
theorem Zv:Ht X (compareOp .In) (FX X.K false):=by
 intro m s B H x y v u Q I n z h;obtain⟨p,A,rfl,f,j,fs,q⟩:=h;cases z;rcases f with f|f
 ·obtain⟨e,r,i,o⟩:=I.list f;refine SeqAt.in_listAt (Vb x) i.isList (λw g=>K0 n j r fs w (by simpa using g)) ⟨.bl _,H,I,rfl,?_⟩;rw[show e.toArray.any (Vb x)=e.any (Vb x)by simp,Mv r fs];exact q
 ·obtain⟨e,r,i,o⟩:=I.tuple f;refine SeqAt.in_tupleAt (Vb x) i (λw g=>K0 n j r fs w (by simpa using g)) ⟨.bl _,H,I,rfl,?_⟩;rw[show e.toArray.any (Vb x)=e.any (Vb x)by simp,Mv r fs];exact q
theorem S5:Ht X (compareOp .NotIn) (FX X.K true):=by
 intro m s B H x y v u Q I n z h;obtain⟨p,A,rfl,f,j,fs,q⟩:=h;cases z;rcases f with f|f
 ·obtain⟨e,r,i,o⟩:=I.list f;refine SeqAt.notIn_listAt (Vb x) i.isList (λw g=>K0 n j r fs w (by simpa using g)) ⟨.bl _,H,I,rfl,?_⟩;rw[show e.toArray.any (Vb x)=e.any (Vb x)by simp,Mv r fs];exact q
 ·obtain⟨e,r,i,o⟩:=I.tuple f;refine SeqAt.notIn_tupleAt (Vb x) i (λw g=>K0 n j r fs w (by simpa using g)) ⟨.bl _,H,I,rfl,?_⟩;rw[show e.toArray.any (Vb x)=e.any (Vb x)by simp,Mv r fs];exact q
theorem Rf:Cp X (.builtin "len") (λxs H Q=>∃p ys,xs=[.ref p]/\(Ar X.K H p ys\/Ax X.K H p ys)/\Q (.int ys.length) H):=by
 intro j s y H xs x Q I r h;obtain⟨p,ys,rfl,f,q⟩:=h;obtain⟨u,rfl,o⟩:=Dj r;cases o;have v:=Ib;rcases f with f|f
 ·obtain⟨m,i,g,n⟩:=I.list f;have e:=i.length;exact Calls.call_len_list g.isList (by simp only[List.size_toArray]<;>omega) ⟨.int ys.length,H,I.tok _,⟨s.toks+1,by rw[List.size_toArray,e]⟩,q⟩
 ·obtain⟨m,i,g,n⟩:=I.tuple f;have e:=i.length;exact len_tuple g (by simp only[List.size_toArray]<;>omega) ⟨.int ys.length,H,I.tok _,⟨s.toks+1,by rw[List.size_toArray,e]⟩,q⟩
theorem Fs:Cp X (.type "tuple") (λxs H Q=>∃p ys,xs=[.ref p]/\((Ar X.K H p ys/\∀l,H l=none->Q (.ref l) (upd H l (.tup ys)))\/(Ax X.K H p ys/\Q (.ref p) H))):=by
 intro f s z H xs D Q I r h;obtain⟨p,ys,rfl,h⟩:=h;obtain⟨u,rfl,C⟩:=Dj r;cases C;rcases h with⟨j,q⟩|⟨j,q⟩
 ·obtain⟨i,n,m,y⟩:=I.list j;have x:=n.length;refine call_tuple_list m.isList (λg B=>?_) (by simp only[List.size_toArray]<;>omega);have v:Ak X f z H {s with heap:=g}:=I.kept (t':=s.toks) B
  have A:Ak X f z (upd H g.objs.size (.tup ys)) {s with heap:=g.push {cls:=.type "tuple",data:=.seq i.toArray} }:=
   v.laid (t':=s.toks) (λb o e=>cb _ e) (de _) (show Bi X.prog X.w _ _ _ (.tup ys)from⟨⟨y,⟨_,cX _ rfl,rfl⟩⟩,i,n,IsTup.new _ _⟩)
  exact⟨.ref g.objs.size,_,A,rfl,q _ (v.aJ.fresh (de _))⟩
 ·obtain⟨i,n,m,y⟩:=I.tuple j;exact call_tuple_same m ⟨.ref p,H,I,rfl,q⟩
def RX(K:W.Frag)(T:String)(x:V)(H:Hp):Prop:=match x with
 | .str _=>T="str"
 | .int _=>T="int"
 | .ref p => (T = "list" /\ ∃ f, Ar K H p f) \/ (T = "tuple" /\ ((∃ o, K.lookup p = some o /\ o.cls = .type "tuple" /\ o.dict = none) \/ ∃ f, H p = some (.tup f))) \/
   (T="dict"/\((∃e,H p=some (.dK e))\/∃e,H p=some (.dT e)))\/(T="set"/\∃S n,H p=some (.set S n))
 |_=>False
theorem jr(I:Ak X j L H s)(r:B2 x v)(ty:RX X.K T x H):
  s.TypeIs v T/\∀a,v=.ref a->∃u,s.heap.get? a=some u/\u.dict=none:=by
 cases x with
 |str z=>
  obtain⟨t,rfl⟩:=r;cases(show T="str" from ty);exact⟨typeIs_str s z t,λ_ e=>nomatch e⟩
 |int i=>
  obtain⟨t,rfl⟩:=r;cases(show T="int" from ty);exact⟨typeIs_int s i t,λ_ e=>nomatch e⟩
 |ref p=>
  cases r;rcases ty with⟨rfl,N,F⟩|⟨rfl,⟨o,f,E,m⟩|⟨K,f⟩⟩|⟨rfl,f⟩|⟨rfl,S,n,f⟩
  ·obtain⟨M,_,y,_⟩:=I.list F;refine⟨y.isList.typeIs,λa e=>?_⟩;cases e;obtain⟨o,n,e,c,m,_⟩:=y;exact⟨o,e,m⟩
  ·refine⟨⟨o,I.fI p o f,E⟩,λa e=>?_⟩;cases e;exact⟨o,I.fI _ o f,m⟩
  ·obtain⟨⟨_,J,h,B⟩,_,_,⟨G,C,A,_⟩⟩:=(show Bi X.prog X.w H s.heap p (.tup K)from I.aJ p _ f);refine⟨⟨G,C,A⟩,λa D=>?_⟩;cases D;exact⟨J,h,B⟩
  ·have z:∃o,s.heap.get? p=some o/\o.ExactDict:=by
    rcases f with⟨q,f⟩|⟨q,f⟩
    ·obtain⟨_,_,_,_,o,_,_,e,g,_⟩:=I.aJ p _ f;exact⟨o,e,g⟩
    ·obtain⟨_,_,_,_,o,_,_,e,g,_⟩:=I.aJ p _ f;exact⟨o,e,g⟩
   obtain⟨o,e,g⟩:=z;refine⟨⟨o,e,g.1⟩,λa h=>?_⟩;cases h;exact⟨o,e,g.2.1⟩
  ·obtain⟨o,_,_,_,e,g,_⟩:=I.aJ p _ f;refine⟨⟨o,e,g.1⟩,λa h=>?_⟩;cases h;exact⟨o,e,g.2.1⟩
 |_=>exact False.elim ty
def A5g(K:W.Frag)(T:String)(r:V->List V->Hp->VK->Prop)(f:TE):TE:=λg H Q=>f g H λx e=>RX K T x e/\r x [] e Q
def tBM(K:W.Frag)(T:String)(r:V->List V->Hp->VK->Prop)(h:TE)(t:TA):TE:=λf H Q=>h f H λx e=>RX K T x e/\t f e λi g=>r x i g Q
variable {o e:Expr}{es:List Expr}{to:TE}{t:TA}{name:Str}{apos bX:Pos}{T id:String}{r:V->List V->Hp->VK->Prop}
theorem yx(D:PlainAttrs T)(g:Slot T name id)(p:typeOf (.builtin id)=pure (.type "method_descriptor"))(z:uc X id r)(A:PE X o to)
  (B:attributeBase o name X.env (eval o X.env)=eval o X.env:=by rfl)(C:(apos.endLine==bX.line)=true:=by rfl):PE X (.Call (.Attribute o name apos) [] [] bX) (A5g X.K T r to):=by
 intro f s m H Q I h;refine wpAny_Call_method0_late B C (Bq (A f s m H _ I h) λv F q=>?_);obtain⟨x,n,i,j,ty,E⟩:=q;obtain⟨u,y⟩:=jr i j ty;exact⟨T,id,D,g,p,u,y,Calls.callWith_builtin rfl (PySem.evalArgs_none (z f F m n x [] v [] Q i j .nil E))⟩
theorem D9(M:PlainAttrs T)(g:Slot T name id)(z:typeOf (.builtin id)=pure (.type "method_descriptor"))(F:uc X id r)(G:PE X o to)(E:PA X (e::es) t)
  (K:attributeBase o name X.env (eval o X.env)=eval o X.env:=by rfl)
  (A:((backTo bX (starEach (e::es) X.env)).all (λx=>!x.1)&&(backToKw bX (keywordEach [] X.env)).all (λx=>x.1.isSome)
   &&decide ((e::es).length+([]:List Keyword).length+(if([]:List Keyword).isEmpty then 0 else 1)<30))=true:=by rfl)
  (L:(apos.endLine==bX.line)=true:=by rfl)(J:starEach (e::es) X.env=(false,eval e X.env)::starEach es X.env:=by rfl)(hplain:(backTo bX (starEach es X.env)).any (·.1)=false:=by rfl):
  PE X (.Call (.Attribute o name apos) (e::es) [] bX) (tBM X.K T r to t):=by
 intro f s i H Q I h;refine wpAny_Call_method_late K A L rfl (Bq (G f s i H _ I h) λv R B=>?_);obtain⟨x,q,j,p,ty,N⟩:=B;obtain⟨C,D⟩:=jr j p ty;refine⟨T,id,M,g,z,C,D,?_⟩;have n:=E bX f R i q _ j N;rw[J]at n⊢;refine Calls.callWith_builtin (by show(false||(backTo bX (starEach es X.env)).any (·.1))=false;rw[hplain]<;>rfl) (Calls.evalArgs_plain ?_);exact Bq n λU S ⟨Y,u,y,P,O⟩=>F f S i u x Y v U Q y p P O
/-xs.append(e),list.index on a FY tuple .. are uc facts of 06m-/
end
def SA(X:Cx)(id:String)(r:V->List V->Hp->VK->Prop):Prop:=
 ∀(b:List (Addr×Obj)) (s:nB) (g:St) (H:Hp) (x:V) (f:List V) (v:nL) (e:List nL) (Q:VK),Ak X b g H s->B2 x v->B0 f e->r x f H Q->
  wpAny (model X.prog X.w) X.A (call (.builtin id) (v::e)) (EP X b g Q) X.xe s
theorem B0.one(h:B0 [x] us):∃u,us=[u]/\B2 x u:=by
 cases h with
 |cons r t=>
  cases t;exact⟨_,rfl,r⟩
theorem B0.two(h:B0 [x,y] us):∃u v,us=[u,v]/\B2 x u/\B2 y v:=by
 cases h with
 |cons r t=>
  obtain⟨v,rfl,q⟩:=B0.one t;exact⟨_,v,rfl,r,q⟩
section
variable {X:Cx}{pins:List (Addr×Obj)}{σ:St}{H:Hp}{s:nB}{l b:Addr}{xs ys zs:List V}
theorem Ak.FZ{g its':List nL}{n:Nat}{f:Array nL->Array nL}{t':Nat}(I:Ak X pins σ H s)(h:H l=some (.lst xs))
  (e:s.heap.get? l=some {cls:=.type "list",data:=.seq g.toArray n})(j:f g.toArray=its'.toArray)(o:B0 ys its')(hz:ys.length<=sizeLine):
  Ak X pins σ (upd H l (.lst ys)) {s with heap:=s.heap.update l (Obj.mapSeq f),toks:=t'}:=by
 have q:=PySem.IsL.update e f;rw[j]at q;refine I.write (x:=l) (e:=l) (by rw[h];exact trivial) (.inl rfl) (λp u i m=>(eI s.heap (Obj.mapSeq f) (Ne.symm i)).trans m) ⟨_,q⟩ ?_;exact⟨hz,its',_,o,q⟩
theorem Ak.GA{t':Nat}(I:Ak X pins σ H s)(f:B0 ys e)(hz:ys.length<=sizeLine):
  Ak X pins σ (upd H s.heap.objs.size (.lst ys)) {s with heap:=s.heap.push {cls:=.type "list",data:=.seq e.toArray},toks:=t'}:=
 I.laid (λ_ _ q=>cb _ q) (de _) ⟨hz,e,0,f,cX _ rfl⟩
theorem Ak.fresh(I:Ak X pins σ H s):H s.heap.objs.size=none:=I.aJ.fresh (de _)
theorem Ak.qO(I:Ak X pins σ H s)(g:H l=some (.lst xs)):xs.length<=sizeLine/\∃(f:List nL) (n:Nat),B0 xs f/\xs.length=f.length/\s.heap.get? l=some {cls:=.type "list",data:=.seq f.toArray n}:=by
 obtain⟨z,f,n,r,e⟩:=I.aJ l _ g;exact⟨z,f,n,r,r.length,e⟩
theorem fg(h:n<=sizeLine):Builtin.List.listTooLong n=false:=by
 unfold Builtin.List.listTooLong;exact jJ (by omega)
end
section
variable {X:Cx}
inductive Xr(x:V)(vs:List V)(H:Hp)(Q:VK):Prop
 |mk (l:_) (xs:_) (y:_) (bW:x=.ref l) (bO:vs=[y]) (cB:H l=some (.lst xs)) (dM:xs.length<sizeLine) (iK:Q .bB (upd H l (.lst (xs++[y])))):Xr x vs H Q
theorem Br:SA X "list.append" Xr:=by
 intro g s D H x B v A Q I m j h;obtain⟨l,C,y,rfl,rfl,f,p,q⟩:=h;cases m;obtain⟨u,rfl,i⟩:=j.one;obtain⟨z,b,n,r,o,e⟩:=I.qO f;refine call_meets F.slot_list_append ⟨_,e,rfl⟩ F.entry_list_append (F.args_list_append_2 _ _) (PySem.list_append l b.toArray n u (by rw[List.size_toArray];omega)) ⟨e,?_⟩;refine⟨.bB,_,I.FZ (its':=b++[u]) f e (by simp) (r.append (.cons i .nil)) ?_,rfl,q⟩;rw[List.length_append,List.length_singleton];omega
inductive Xs(x:V)(vs:List V)(H:Hp)(Q:VK):Prop
 |mk (l:_) (b:_) (xs:_) (zs:_) (bW:x=.ref l) (bO:vs=[.ref b]) (cB:H l=some (.lst xs)) (dM:H b=some (.lst zs)) (iK:xs.length+zs.length<=sizeLine) (qC:Q .bB (upd H l (.lst (xs++zs)))):Xs x vs H Q
theorem Ql:SA X "list.extend" Xs:=by
 intro m s R H x M v L Q I E D h;obtain⟨l,b,N,P,rfl,rfl,j,y,J,q⟩:=h;cases E;obtain⟨u,rfl,C⟩:=D.one;cases C;obtain⟨z,f,n,r,G,e⟩:=I.qO j;obtain⟨O,g,A,B,K,p⟩:=I.qO y;have i:f.toArray.size+g.toArray.size<=sizeLine:=by rw[List.size_toArray,List.size_toArray];omega
 have o:¬(!f.toArray.isEmpty&&Builtin.List.listTooLong (f.toArray.size+g.toArray.size))=true:=by
  rw[fg i,Bool.and_false];exact fx
 refine call_meets F.slot_list_extend ⟨_,e,rfl⟩ F.entry_list_extend (F.args_list_extend_2 _ _)
  (AutoSeq1.list_extend_list_list_0 l f.toArray n b g.toArray A o (by rw[List.size_toArray];omega) (by omega)) ⟨e,p,?_⟩
 refine⟨.bB,_,I.FZ (its':=f++g) j e (by simp) (r.append B) ?_,rfl,q⟩;rw[List.length_append];omega
inductive A3o(x:V)(y:V)(H:Hp)(Q:VK):Prop
 |mk (l:_) (b:_) (xs:_) (zs:_) (bW:x=.ref l) (bO:y=.ref b) (cB:H l=some (.lst xs)) (dM:H b=some (.lst zs)) (iK:xs.length+zs.length<=sizeLine) (qC:∀p,H p=none->Q (.ref p) (upd H p (.lst (xs++zs)))):A3o x y H Q
theorem Vx:Ht X (binaryOp .Add) A3o:=by
 intro i s M H x y v u Q I B C h;obtain⟨l,b,J,L,rfl,rfl,p,o,E,q⟩:=h;cases B;cases C;obtain⟨z,f,n,r,D,e⟩:=I.qO p;obtain⟨K,g,F,A,G,j⟩:=I.qO o;refine PySem.P.add_list e j ?_ (by rw[List.size_toArray,List.size_toArray];omega);have m:f.toArray++g.toArray=(f++g).toArray:=by simp
 rw[m];exact⟨.ref _,_,I.GA (t':=s.toks) (r.append A) (by rw[List.length_append];omega),rfl,q _ I.fresh⟩
end
end L2
namespace Att
local macro_rules | `(tactic| omega) => `(tactic| lia)
open PySem PySem.W PySem.Calls PyProof.Rows
theorem Mp:∀(ns:List Int) (vs:List Value),WellAll P h vs (ns.map WData.int)->IntsAre vs ns:=by
 intro ns
 induction ns with
 |nil=>
  intro vs w;rw[List.map_nil]at w;cases w;exact .nil
 |cons n ns e=>
  intro vs w;rw[List.map_cons]at w;cases w with
  |cons a b=>
   cases a;exact .cons _ _ (e _ b)
theorem oX{l:OpenLaw}{n:Nat}(x:l.most=some n){P:Params}{h:Heap}{args:List WData}{b:List Value}
  (o:l.row.toRowW.claim.pre args=true)(z:WellAll P h b args):
  ∃a vs ns,b=[Value.ref a]/\args=[WData.list (ns.map WData.int)]/\h.get? a=some {cls:=.type "list",data:=.seq vs.toArray}/\IntsAre vs ns/\ns.length<=n:=by
 have j:WShape.hasAll [] args [.list .int]=true:=(pre_splitW o).1;have m:l.pre.holds [] {args:=args}=true:=(pre_splitW o).2;obtain⟨d,r,rfl,p,u⟩:=hasAllW_cons j;obtain rfl:=hasAllW_nil u;obtain⟨D,rfl,v⟩:=hasW_list p;obtain⟨ns,rfl⟩:=items_int v
 have f:ns.length<=n:=by
  unfold OpenLaw.pre at m
  have g:(WTm.not (.lt (.lit (.int (n:Int))) (.len (.arg 0)))).holds [] {args:=[.list (ns.map .int)] }=true:=by
   have g:=(holds_andW m).1;rw[x]at g;exact g
  have i:=condW_of g (w_not (w_lt w_lit (w_len_list (w_arg rfl))));rw[List.length_map]at i;refine Nat.le_of_not_lt λq=>?_;have A:(n:Int)<((ns.length:Nat):Int):=by omega
  first
   |(rw[decide_eq_true A]at i;exact absurd i (by decide))
   |(simp at i;omega)
 cases z with
 |cons B C=>
  cases C;cases B with
  |list y e=>exact⟨_,_,ns,rfl,rfl,y,Mp ns _ e,f⟩
theorem oY(l:OpenLaw)(args:List WData):l.row.toRowW.claim.post args (.bool true) args=true:=
 postW_of (r:=l.row.toRowW) (X:=(true==true))
  (show WShape.has [] (.bool true) .bool=true by first|rfl|decide|simp[WShape.has,WShape.arms,WShape.armsAll])
  (show(WTm.eq .res (.lit (.bool true))).value [] {args:=args,res:=some (.bool true),after:=args}=some (.bool (true==true))from w_eq_bool (w_res rfl) w_lit) rfl
end Att
namespace L2
local macro_rules | `(tactic| omega) => `(tactic| lia)
open PySem PySem.Spec PyProof.Rows
set_option hygiene false
local macro_rules (kind:=«term{_}») | `({$a:term,$b:term,$c,*})=>`(⟨$a,$b,$c,*⟩) | `({$a:term,$b:term})=>`(⟨$a,$b⟩)
local macro_rules | `(#[0])=>`(model prog w)
local macro_rules | `(#[1])=>`(by omega)
local macro_rules | `(#[2])=>`(.ref s.heap.objs.size)
local macro_rules | `(#[3])=>`(Gc (CX1 P w) P w K mg base N qual scope f cd A outer s₀ H₀ E)
local macro_rules | `(#[4])=>`((∀b o,s.heap.get? b=some o->h'.get? b=some o))
local macro_rules | `(#[5])=>`(seqObj "list" vs.toArray 0)
local macro_rules | `(#[6])=>`(Cu X (Bc X.N dY fr) scope H.objs.size A F D)
local macro_rules | `(#[7])=>`((∀b o,b∉wr->b≠S->s.heap.get? b=some o->h'.get? b=some o))
local macro_rules | `(#[8])=>`(model X.prog X.w)
local macro_rules | `(#[9])=>`(model P w)
local macro_rules | `(#[10])=>`(tryCatch (pyNext (.ref I)) _>>=_)
local macro_rules | `(#[11])=>`(s.heap.push {cls:=.type "list_iterator",data:=.fields #[.ref p,.int 0 0] })
local macro_rules | `(#[12])=>`(.ListComp elt [⟨tg,iter,ifs,0⟩] scope pos)
local macro_rules | `(#[13])=>`(by decide+kernel)
local macro_rules | `(#[14])=>`(k==NameKind.free&&env.scope.kind== .function&&env.kindOf n==some .cell)
local macro_rules | `(#[15])=>`(ns.map V.int)
local macro_rules | `(#[16])=>`(f.heap.push {cls:=.type "dict_items",data:=.fields #[.ref d] })
local macro_rules | `(#[17])=>`(by decide)
local macro_rules | `(#[18])=>`(Addr×Obj)
local macro_rules | `(#[19])=>`((∀b o,b∉wr->b≠S->h.get? b=some o->h'.get? b=some o))
local macro_rules | `(#[20])=>`(Builtin.Str.occurrences x y 0 x.length (x.length+1))
local macro_rules | `(#[21])=>`(SetTable.grown es.size)
theorem J0:∀{vs:List nL}{ns:mY},IntsAre vs ns->B0 #[15] vs
 |_,_,.nil=>.nil
 |_,_,.cons n t h=>.cons ⟨t,rfl⟩ (J0 h)
def Dx(s:Stmt)(j:Nat):Stmt:=match s with
 | .ClassDef _ _ _ b _ _ _ _ _ _ _=>b.getD j (.Pass ⟨0,0,0,0⟩)
 |_=>.Pass ⟨0,0,0,0⟩
def Dc(s:Stmt):Arguments:=match s with
 | .FunctionDef _ a _ _ _ _ _ _ _ _=>a
 |_=>{posonlyargs:=[],args:=[],vararg:=none,kwonlyargs:=[],kw_defaults:=[],kwarg:=none,defaults:=[] }
def C7(s:Stmt):List Stmt:=match s with
 | .FunctionDef _ _ b _ _ _ _ _ _ _=>b
 |_=>[]
def A8(s:Stmt):Scope:=match s with
 | .FunctionDef _ _ _ _ _ _ b _ _ _=>b
 |_=>{kind:=.function,names:=[],isGenerator:=false,isCoroutine:=false}
abbrev E0:XK:=λ_ _ _=>False
structure Uw(K:W.Frag)(x qual:Str)(st:Stmt)(f:Addr)(fd:nZ):Prop where
 ex:∃(oc:nL) (od:Option Addr) (kV doc pm:nL) (an:Option Addr) (aS ct:nL) (gD:Array (Option nL)),
  fd=W.fnOf x qual (Dc st) (C7 st) (A8 st) .none kV doc pm an aS ct/\K.lookup f=some ⟨oc,od,.func fd,gD⟩/\W.codeIn K aS qual=true
 kp:W.keepIn K (.ref f)=true
section
variable {P:nP}{w:n4}{K:W.Frag}{mg:Str->Option nL}{base:Heap}
theorem Uw.binds{x b:Str}{g:Stmt}{f:Addr}{o:nZ}{n:List Str}(F:Uw K x b g f o)
  (h:∀(kV e m:nL) (j:Option Addr) (i ct:nL) (us:List nL),us.length=n.length->bindArgs (W.fnOf x b (Dc g) (C7 g) (A8 g) .none kV e m j i ct) ⟨us,[]⟩=pure (n.zip us)):Ep K o n []:=by
 obtain⟨v,y,kV,e,m,j,i,ct,p,rfl,q,u⟩:=F.ex;exact .all (h kV e m j i ct)
theorem fun_mk{x b:Str}{g:Stmt}{f:Addr}{n:nL}{o i:Option Addr}{m:Array (Option nL)}{kV e j h ct:nL}(l:K.lookup f=some ⟨n,o,.func (W.fnOf x b (Dc g) (C7 g) (A8 g) .none kV e j i h ct),m⟩)
  (c:W.codeIn K h b=true)(k:W.keepIn K (.ref f)=true):Uw K x b g f (W.fnOf x b (Dc g) (C7 g) (A8 g) .none kV e j i h ct):={{n,o,kV,e,j,i,h,ct,m,rfl,l,c},k}
end
theorem Aj(h:n<=1000):n<sizeLine:=me h #[17]
section
variable {X:Cx}
theorem pv(i:Nat){pos:Pos}(b:X.N[i]?=some x:=by rfl)(e:FF X.env.scope x:=by first|exact Or.inl rfl|exact Or.inr (Or.inl rfl)|exact Or.inr (Or.inr rfl))(hd:(x==("__debug__":Str))=false:=by decide)
  (f:(x==("__classdict__":Str))=false:=by decide):PE X (.Name x pos) (RP i):=yz b e hd f
end
theorem Di{c A B:Prop}[Decidable c](h1:c->A)(b:¬c->B):if c then A else B:=by
 by_cases h:c
 ·rw[if_pos h];exact h1 h
 ·rw[if_neg h];exact b h
def A6(H e:Hp):Prop:=∀b o,H b=some o->e b=some o
theorem A6.refl(H:Hp):A6 H H:=λ_ _ h=>h
theorem A6.trans(a:A6 H e)(b:A6 e f):A6 H f:=λc o h=>b c o (a c o h)
theorem A6.free(e:A6 H b)(h:b l=Option.none):H l=Option.none:=by
 cases q:H l with
 |none=>rfl
 |some o=>
  rw[e l o q]at h;cases h
theorem A6.seq{K:W.Frag}{H b:Hp}{a:Addr}{xs:List V}(e:A6 H b)(h:Ar K H a xs):Ar K b a xs:=by
 rcases h with(h|⟨o,h⟩)|h
 ·exact .inl (.inl (e _ _ h))
 ·exact .inl (.inr ⟨o,e _ _ h⟩)
 ·exact .inr h
def Fl(cells:List (Str×Addr)):List (Str×NameKind)->List (Str×Addr)->List (Str×Addr)
 |[],cs=>cs
 |(n,k)::r,cs=>if k==NameKind.free then Fl cells r ((n,(cells.lookup n).getD 0)::cs)else Fl cells r cs
theorem Kq{cells:List (Str×Addr)}:∀{names:List (Str×NameKind)}{cs:List (Str×Addr)},(Fl cells names cs).lookup x=some c->
  cs.lookup x=some c\/((x,NameKind.free)∈names/\c=(cells.lookup x).getD 0)
 |[],cs,h=>.inl h
 |(n,k)::r,cs,h=>by
  unfold Fl at h;by_cases g:(k==NameKind.free)=true
  ·rw[if_pos g]at h;rcases Kq h with b|⟨b,f⟩
   ·rw[List.lookup_cons]at b;by_cases i:(x==n)=true
    ·rw[i]at b;have e:x=n:=eq_of_beq i;have j:k=NameKind.free:=eq_of_beq g;subst e j;exact .inr ⟨c4,(en b).symm⟩
    ·have m:(x==n)=false:=by simpa using i
     rw[m]at b;exact .inl b
   ·exact .inr ⟨d0 _ b,f⟩
  ·rw[if_neg g]at h;rcases Kq h with b|⟨b,f⟩
   ·exact .inl b
   ·exact .inr ⟨d0 _ b,f⟩
theorem Jh{cells:List (Str×Addr)}:∀{names:List (Str×NameKind)}{cs:List (Str×Addr)},(∃c,cs.lookup x=some c)->∃c,(Fl cells names cs).lookup x=some c
 |[],cs,h=>h
 |(n,k)::r,cs,h=>by
  unfold Fl;by_cases b:(k==NameKind.free)=true
  ·rw[if_pos b];refine Jh ?_;rw[List.lookup_cons];cases e:x==n with
   |true=>exact{_,rfl}
   |false=>exact h
  ·rw[if_neg b];exact Jh h
theorem Gb{cells:List (Str×Addr)}:∀{names:List (Str×NameKind)}{cs:List (Str×Addr)},(x,NameKind.free)∈names->∃c,(Fl cells names cs).lookup x=some c
 |[],cs,h=>by cases h
 |(n,k)::r,cs,h=>by
  unfold Fl;rcases eH.mp h with e|h
  ·have f:x=n:=congrArg Prod.fst e;have g:NameKind.free=k:=congrArg Prod.snd e;subst f g;rw[if_pos #[17]];refine Jh ⟨(cells.lookup x).getD 0,?_⟩;rw[List.lookup_cons,beq_self_eq_true]
  ·by_cases b:(k==NameKind.free)=true
   ·rw[if_pos b];exact Gb h
   ·rw[if_neg b];exact Gb h
theorem Gz{env:Env}:∀{names:List (Str×NameKind)}{x:Str}{f:NameKind},(∀y∈names,y.2≠NameKind.cell)->f≠ .local->(f=.cell\/f=.free)->
  (names.map λ(n,k)=>if #[14]then(n,NameKind.cell)else(n,k)).lookup x=some f->(x,NameKind.free)∈names
 |[],_,_,_,_,_,h=>by simp at h
 |(n,k)::r,x,f,j,v,o,h=>by
  have m:=@Gz env r x f (λy A=>j y (d0 _ A)) v o;have b:List.lookup x ((if #[14]=true then(n,NameKind.cell)else(n,k))::(r.map λ(n,k)=>if #[14]then(n,NameKind.cell)else(n,k)))=some f:=h;by_cases i:#[14]=true
  ·rw[if_pos i,List.lookup_cons]at b
   have p:k=NameKind.free:=by
    have q:=(Bool.and_eq_true_iff.mp (Bool.and_eq_true_iff.mp i).1).1;exact eq_of_beq q
   cases g:x==n with
   |true=>
    have e:x=n:=eq_of_beq g;subst e p;exact c4
   |false=>
    rw[g]at b;exact d0 _ (m b)
  ·rw[if_neg i,List.lookup_cons]at b;cases g:x==n with
   |true=>
    rw[g]at b;have e:x=n:=eq_of_beq g;have u:k=f:=en b;subst e u;rcases o with z|z
    ·exact absurd z (j _ c4)
    ·subst z;exact c4
   |false=>
    rw[g]at b;exact d0 _ (m b)
structure Bn(sc scope:Scope)(N dY:List Str)(fr:List Nat):Prop where
 kind:scope.kind=.function
 mV:∀y∈scope.names,y.2≠NameKind.cell
 loc:∀y∈scope.names,y.2=NameKind.local->scope.names.lookup y.1=some NameKind.local
 free:∀y∈scope.names,y.2=NameKind.free->sc.names.lookup y.1=some NameKind.cell
 gF:∀j∈fr,(N[j]?.bind λx=>scope.names.lookup x)=some NameKind.free
def Bc(N b:List Str)(e:List Nat):List Str:=b++e.map λj=>(N[j]?).getD ⟨#[]⟩
def Cv(b:List Nat)(e:St):St:=b.map λj=>(e[j]?).getD none
def Ft(n:Nat)(b:List Nat)(e:St):St:=List.replicate n none++Cv b e
def Cu(X:Cx)(f:List Str)(b:Scope)(C:Addr)(h:nB)(e:Hp)(g:List Addr):Cx:=
 {X with N:=f,s₀:=h,H₀:=e,env:=compEnvC b (Fl X.env.cells b.names []) C X.env,outer:=X.stack,ex:=g,fn:=λ_=>false,pn:=[],xe:=λ_ _=>False}
def GC(X:Cx)(e:List Expr)(t:TT):Prop:=
 ∀(b:List #[18]) (s:nB) (f:St) (H:Hp) (Q:Bool->Hp->Prop),Ak X b f H s->t f H Q->
  wpAny #[8] X.A (forIn e true λc r=>if r=true then do let ok <- isTrue c X.env (eval c X.env);pure (ForInStep.yield ok)else pure (ForInStep.yield r)) (TP X b f Q) X.xe s
def Pp:TT:=λ_ H Q=>Q true H
theorem Bu:GC X [] Pp:=λ_ _ _ H _ I h=>wpAny_tests_nil ⟨H,I,h⟩
theorem K8{t:TT}(h:PT X c t):GC X [c] t:=λb s f H Q I e=>wpAny_tests_one (h b s f H Q I e)
section
variable {prog:nP}{w:n4}{A:nU}{R:Result->nB->Prop}{s:nB}
theorem Rh{pos:Pos}{env:Env}(I:Nat->nB->Prop)
  (J:∀n s,I n s->wpAny #[0] A (pyNext it) (λr g=>match r with
   |none=>R (.ok .next) g
   | some v => wpAny #[0] A (letOwnedTupleGo b it v) (fun _ i => wpAny #[0] A (assign b env v) (fun _ u =>
     wpAny #[0] A (forIn E true λc r=>if r=true then do let ok <- isTrue c env (eval c env);pure (ForInStep.yield ok)else pure (ForInStep.yield r)) (λok j=>
      if ok=true then wpAny #[0] A (eval C env) (λx y=>
       wpAny #[0] A (call (.builtin "list.append") [B,x]) (λ_ z=>∃m,m<n/\I m z) (λ_ _=>False) y) (λ_ _=>False) j
      else∃m,m<n/\I m j) (λ_ _=>False) u) (λ_ _=>False) i) (λ_ _=>False) g) (λ_ _=>False) s)
  (n:Nat)(h:I n s):
  codeAny #[0] A (.compLoop (.ListComp C [⟨b,q,E,0⟩] f pos) 0 it B env) R s:=by
 refine codeAny_loop rfl I (λn s K=>?_) n h;show wpAny _ A ((compTurn (.ListComp C [⟨b,q,E,0⟩] f pos) 0 it B env).onRaise (λx=>do noteFrame x env;theTreesLotGoes x)) _ _ s;refine wpAny_noted ?_;rw[compTurn_list];refine ag (wpAny_standAt (ag (iv (J n s K) (λr g o=>?_) λ_ _ e=>e.elim)));cases r with
 |none=>exact aN o
 |some v=>
  refine ag (iv o (λ_ i D=>?_) λ_ _ e=>e.elim);refine ag (iv D (λ_ u F=>ag (iv F (λok j p=>?_) λ_ _ e=>e.elim)) λ_ _ e=>e.elim);cases ok with
  |false=>exact aN ⟨rfl,p⟩
  |true=>
   exact ag (ag (iv p (λx y G=>ag (iv G (λ_ z H=>aN (aN ⟨rfl,H⟩)) λ_ _ e=>e.elim)) λ_ _ e=>e.elim))
end
def Dk(n:Nat)(u:List Nat)(J:It)(g:TG)(E:TT)(C:TE)(z:St)(D:Addr)(A:Hp)(Q:Hp->Prop):Prop:=
 ∃W:Nat->Nat->List V->Hp->Prop,(∃m,W 0 m [] (upd A D (.lst [])))/\∀i m f h,W i m f h->
  (J.stop i h/\Q h)\/(J.go i h/\∀x o,J.uQ i h x o->g x (Ft n u z) o λe B=>(∃v:St,v.length=n/\e=v++Cv u z)/\E e B λb p=>
   if b=true then C e p λy q=>q D=some (.lst f)/\f.length<sizeLine/\∃j,j<m/\W (i+1) j (f++[y]) (upd q D (.lst (f++[y])))
   else∃j,j<m/\W (i+1) j f p)
def A4q(n:Nat)(f:List Nat)(j:TI)(g:TG)(i:TT)(h:TE):TE:=λe H Q=>j e H λJ b=>∀D,b D=none->Dk n f J g i h e D b (Q (.ref D))
def jg(n:Nat)(f:List Nat)(m:TI)(g:TG)(j:TT)(h:TE)(i:Nat):TS:=λD b H=>m b H λJ e=>∀l,e l=none->Dk n f J g j h b l e (D.nx (b.set i (some (.ref l))))
section
variable {X:Cx}{tg iter elt:Expr}{ifs:List Expr}{scope sc:Scope}{dY:List Str}{fr:List Nat}{wi:TI}{g:TG}{tt:TT}{te:TE}{pos:Pos}
theorem Q7{M:List #[18]}{Z:St}{F:Hp}{A:nB}{it:Addr}{D:List Addr}{tn:Nat->Heap->Prop}{J:It}{RR:nL->Addr->Result->nB->Prop}{E:mD}{Qf:Hp->Prop}
  (oZ:X.env.scope=sc)(S:Bn sc scope X.N dY fr)(hc:X.calm=true)
  (hg:∀C A F D,PG (Cu X (Bc X.N dY fr) scope C A F D) tg g)(ht:∀C A F D,GC (Cu X (Bc X.N dY fr) scope C A F D) ifs tt)(he:∀C A F D,PE (Cu X (Bc X.N dY fr) scope C A F D) elt te)
  (G:Ak X M Z F A)(T:R8 X.prog X.w X.K tg J D it tn)(cS:tn 0 A.heap)(f2:∀b∈D,Md X M F b)
  (run:Dk dY.length fr J g tt te Z A.heap.objs.size F Qf)
  (hRR:∀(C:Addr) (N:Hp) (s4:nB),Ak X M Z N s4->Md X M N C->(∃m,s4.heap.Ns C m)->Qf N->RR (.ref A.heap.objs.size) C (.ok .next) s4):
  wpAny #[8] X.A (newList []) (λacc L=>wpAny #[8] X.A (newFunctionEnv scope X.env.globals (Fl X.env.cells scope.names []) [] X.env.qual none .none (some X.env)) (λGD s₄=>
   codeAny #[8] X.A (.compStart #[12] 0 (.ref it) acc {GD with scope:=relabel scope X.env}) (RR acc GD.locals) s₄) E L) E A:=by
 refine gW (wpAny_newFunctionEnv S.mV (by intro y hy;simp at hy) (λK AW uU=>?_) S.kind);dsimp only at AW uU⊢;generalize SD:A.heap.push {cls:=.type "list",dict:=none,data:=.seq ([]:List nL).toArray}=H at AW uU⊢;have hC:H.objs.size=A.heap.objs.size+1:=by rw[<- SD,Heap.size_push]
 have DT:A.heap.objs.size≠H.objs.size:=by rw[hC];exact fe (Nat.lt_succ_self _)
 have hle:A.heap.objs.size<=H.objs.size:=by rw[hC];exact Nat.le_succ _
 have I:∀b,b<A.heap.objs.size->b≠H.objs.size/\b≠A.heap.objs.size:=λb B=>⟨fe (fy B hle),fe B⟩;have U:∀b o,A.heap.get? b=some o->K.get? b=some o:=λb o e=>uU.extBut b o (I b (dr e)).1 (cb _ (SD▸cb _ e));have SE:K.get? A.heap.objs.size=some {cls:=.type "list",data:=.seq ([]:List nL).toArray 0}:=uU.extBut _ _ DT (cb _ (SD▸cX _ rfl));have AX:∀y∈scope.names,y.2=NameKind.free->∃c,X.env.cells.lookup y.1=some c:=λy hy e=>G.ok.has y.1 (.inl (by show X.env.scope.names.lookup y.1=_;rw[oZ];exact S.free y hy e))
 have mW:∀x c,(Fl X.env.cells scope.names []).lookup x=some c->X.env.cells.lookup x=some c:=λx c e=>by
  rcases Kq e with z|⟨z1,z2⟩
  ·simp at z
  ·obtain⟨c',e'⟩:=AX _ z1 rfl;rw[z2,e'];rfl
 have AY:∀x c,X.env.cells.lookup x=some c->c<A.heap.objs.size:=λx c e=>by
  obtain⟨v,q⟩:=G.cell x c e;exact q.lt
 have AZ:∀b∈D,b<A.heap.objs.size:=λb B=>by
  obtain⟨o,e,_⟩:=T.obj 0 _ cS b B;exact dr e
 have SF:#[6].Ok:=by
  refine{G.ok.mod,S.kind,G.ok.glob,G.ok.blt,hle,λx y c e1 e2=>G.ok.inj x y c (mW x c e1) (mW y c e2),λx P=>?_,λx c z _=>absurd z fx,G.ok.hd,G.ok.frames,.inl rfl,
   λb B=>{(I b (AZ b B)).1,λx c e=>(f2 b B).2.2.2.2.1 x c (mW x c e)},G.bs,ea G.ok.qA G.sz,λb o e B=>?_,λb B z=>?_,G.stack,G.eZ}
  ·rcases P with P|P
   ·exact Gb (Gz (env:=X.env) S.mV #[17] (.inl rfl) P)
   ·exact Gb (Gz (env:=X.env) S.mV #[17] (.inr rfl) P)
  ·rcases(f2 b B).2.2.2.1 with z|z
   ·exact G.ok.mQ b o e z
   ·exact absurd (fy (dr e) (ea G.ok.qA z)) (Nat.lt_irrefl _)
  ·rcases eH.mp (G.mS b z)with z|z
   ·exact(f2 b B).2.1 z
   ·exact(f2 b B).2.2.1 z
 have I3:Ak #[6] [] (Ft dY.length fr Z) (upd F A.heap.objs.size (.lst [])) {A with heap:=K,toks:=A.toks+([]:List (Str×nL)).length}:=by
  refine{SF,rfl,G.bare,Un.laid U (de _) G.fresh,{_,AW,λi x v e1 e2 e3=>?_},λx c e=>?_,?_,λx c e=>?_,λp hp=>absurd (show p∈([]:List #[18])from hp) (by simp),G.aJ.laid U (de _) {jN _,[],0,.nil,SE},?_}
  ·--a name of the comprehension that has a value at the start is one of the def's cells
   have hi:dY.length<=i:=by
    refine Nat.le_of_not_lt λaZ=>?_;unfold Ft at e2;rw[List.getElem?_append_left (by simpa using aZ),List.getElem?_replicate,if_pos aZ]at e2;cases e2
   have OK:(Cv fr Z)[i-dY.length]?=some (some v):=by
    unfold Ft at e2;rw[List.getElem?_append_right (by simpa using hi)]at e2;simpa using e2
   have iG:(fr.map λj=>(X.N[j]?).getD ⟨#[]⟩)[i-dY.length]?=some x:=by
    have e1:(Bc X.N dY fr)[i]?=some x:=e1;unfold Bc at e1;rw[List.getElem?_append_right hi]at e1;exact e1
   unfold Cv at OK;rw[List.getElem?_map]at iG OK;cases ej:fr[i-dY.length]? with
   |none=>rw[ej]at iG;cases iG
   |some j=>
    rw[ej]at iG OK;have e1j:(X.N[j]?).getD ⟨#[]⟩=x:=en iG;have OL:(Z[j]?).getD none=some v:=en OK;have lC:=S.gF j (cI ej);cases eN:X.N[j]? with
    |none=>rw[eN]at lC;cases lC
    |some Q=>
     rw[eN]at lC e1j;have ex:Q=x:=e1j;subst ex;have hfx:scope.names.lookup Q=some NameKind.free:=lC
     have hσ:Z[j]?=some (some v):=by
      cases eσ:Z[j]? with
      |none=>rw[eσ]at OL;cases OL
      |some o=>rw[eσ]at OL;exact congrArg some OL
     have fB:=PySem.mem_of_lookup hfx;have hkc:X.env.scope.names.lookup Q=some NameKind.cell:=by rw[oZ];exact S.free _ fB rfl
     obtain⟨m,hn,hl⟩:=G.loc;obtain⟨u,ru,lk⟩:=hl j Q v eN hσ (.inr (.inl hkc));refine{u,ru,.inr {?_,?_}}
     ·have e3:(relabel scope X.env).names.lookup Q=some NameKind.local\/(relabel scope X.env).names.lookup Q=some NameKind.cell\/(relabel scope X.env).names.lookup Q=some NameKind.free:=e3;rcases e3 with z|z|z
      ·exfalso
       have key:∀(names:List (Str×NameKind)),names.lookup Q=some NameKind.free->(names.map λ(n,k)=>if(k==NameKind.free&&X.env.scope.kind== .function&&X.env.kindOf n==some .cell)then(n,NameKind.cell)else(n,k)).lookup Q≠some NameKind.local:=by
        intro names
        induction names with
        |nil=>intro h;simp at h
        |cons p r ih=>
         obtain⟨n,k⟩:=p;intro h O;have O:List.lookup Q ((if(k==NameKind.free&&X.env.scope.kind== .function&&X.env.kindOf n==some .cell)=true then(n,NameKind.cell)else(n,k))::(r.map λ(n,k)=>if(k==NameKind.free&&X.env.scope.kind== .function&&X.env.kindOf n==some .cell)then(n,NameKind.cell)else(n,k)))=some NameKind.local:=O;rw[List.lookup_cons]at h;cases P:Q==n with
         |true=>
          rw[P]at h;have ek:k=NameKind.free:=en h;subst ek;split at O
          ·rw[List.lookup_cons,P]at O;cases O
          ·rw[List.lookup_cons,P]at O;cases O
         |false=>
          rw[P]at h;split at O
          ·rw[List.lookup_cons,P]at O;exact ih h O
          ·rw[List.lookup_cons,P]at O;exact ih h O
       exact key scope.names hfx z
      ·exact .inl z
      ·exact .inr z
     ·obtain⟨c,ec⟩:=Gb (cells:=X.env.cells) (cs:=[]) fB;rcases lk with⟨k1,_⟩|⟨_,c',ec',ic⟩
      ·have k1:X.env.scope.names.lookup Q=some NameKind.local:=k1;rw[hkc]at k1;cases k1
      ·have q:=mW _ _ ec;rw[ec']at q;have q':c'=c:=en q;subst q';exact{_,ec,ic.keeps U}
  ·obtain⟨v,q⟩:=G.cell x c (mW x c e);exact{v,q.keeps U}
  ·show upd F A.heap.objs.size (.lst []) H.objs.size=none;rw[A9 DT.symm];exact G.aJ.fresh hle
  ·rw[A9 (Nat.ne_of_lt (AY x c (mW x c e)))];exact G.cH x c (mW x c e)
  ·unfold Ft Cv;show _=(Bc X.N dY fr).length;unfold Bc;simp
 obtain⟨W,⟨m0,w0⟩,turn⟩:=run
 have Y:∀{H':Hp},(∀b∈D,H' b=none)->∀b∈D,Md #[6] [] H' b:=λhn b B=>
  ⟨hn b B,(I b (AZ b B)).1,SF.mR b B,.inl B,(SF.FG b B).2,λp hp=>absurd (show p∈([]:List #[18])from hp) (by simp)⟩
 have OH:∀b∈D,upd F A.heap.objs.size (.lst []) b=none:=λb B=>by rw[A9 (I b (AZ b B)).2];exact(f2 b B).1
 have FK:tn 0 K:=T.keep 0 _ _ cS λb _ o e=>U b o e
 have fin:∀{N:Hp}{s4:nB},Ak #[6] [] (Ft dY.length fr Z) N s4->Qf N->RR (.ref A.heap.objs.size) H.objs.size (.ok .next) s4:=λ{N s4} I4 q=>by
  obtain⟨m,hn,_⟩:=id I4.loc;have ub:Un (gF X.stack) D F N A.heap s4.heap:=I4.base;refine hRR H.objs.size N s4 (G.wL (ch:=D) (s':=s4) I4.os ub I4.aJ I4.bare λb B=>⟨(f2 b B).2.2.2.1,(f2 b B).2.1,(f2 b B).2.2.2.2.1,(f2 b B).2.2.2.2.2⟩) (G.lJ hle I4.free) ⟨m,hn⟩ q
 have loop:∀L:nB,L={A with heap:=K,toks:=A.toks+([]:List (Str×nL)).length}->
   codeAny #[8] X.A (.compLoop #[12] 0 (.ref it) (.ref A.heap.objs.size) (compEnvC scope (Fl X.env.cells scope.names []) H.objs.size X.env)) (RR (.ref A.heap.objs.size) H.objs.size) L:=by
  rintro L rfl;refine Rh (λn s'=>∃i ys H',Ak #[6] [] (Ft dY.length fr Z) H' s'/\tn i s'.heap/\(∀b∈D,H' b=none)/\W i n ys H') ?_ m0 ⟨0,[],_,I3,FK,OH,w0⟩;rintro n s5 ⟨i,ys,N,J3,sti,fri,w3⟩;rcases turn i n ys N w3 with⟨stop,q⟩|⟨go,step⟩
  ·refine iv (T.done #[6] rfl rfl rfl hc i [] s5 _ N (λ_ _=>False) J3 (Y fri) sti stop) (λr s6 ⟨hr,J4⟩=>?_) (λ_ _ f=>f);subst hr;exact fin J4 q
  ·refine iv (T.item #[6] rfl rfl rfl hc i [] s5 _ N (λ_ _=>False) J3 (Y fri) sti go) (λr s6 ⟨u,hr,h6⟩=>?_) (λ_ _ f=>f);subst hr;refine iv h6 (λ_ s7 ⟨x,H7,J7,r7,y7,SG,fr7⟩=>?_) (λ_ _ f=>f);have J7':=J7.pinned (Y fr7) (T.obj _ _ SG);refine iv (hg H.objs.size A F D _ s7 _ H7 x u _ J7' r7 (step x H7 y7)) (λ_ s8 ⟨σ8,H8,J8,⟨zs,hz,e8⟩,q8⟩=>?_) (λ_ _ f=>f)
   have R:∀{H9:Hp}{s9:nB}{wM:List V},Ak #[6] ([]++Ow D s7.heap) σ8 H9 s9->(∃m',m'<n/\W (i+1) m' wM H9)->
     ∃m,m<n/\∃i ys H',Ak #[6] [] (Ft dY.length fr Z) H' s9/\tn i s9.heap/\(∀b∈D,H' b=none)/\W i m ys H':=λ{H9 s9 wM} J9 ⟨m',hm,w9⟩=>by
    refine{m',hm,i+1,wM,H9,J9.fS.weak ?_ ?_,T.keep _ _ _ SG λb B o e=>(J9.pin (b,o) (gv _ (gv _ (Gw B e)))).1,λb B=>?_,w9}
    ·rw[e8];unfold Ft;simp[hz]
    ·intro k v ek;rw[e8];unfold Ft at ek;by_cases hk:k<dY.length
     ·rw[List.getElem?_append_left (by simpa using hk),List.getElem?_replicate,if_pos hk]at ek;cases ek
     ·rw[List.getElem?_append_right (by simpa using hk)]at ek;rw[List.getElem?_append_right #[1],hz];simpa using ek
    ·obtain⟨o,e,d⟩:=T.obj _ _ SG b B;exact(J9.pin (b,o) (gv _ (gv _ (Gw B e)))).2.1
   refine iv (ht H.objs.size A F D _ s8 σ8 H8 _ J8 q8) (λok s9 ⟨H9,J9,q9⟩=>?_) (λ_ _ f=>f);cases ok with
   |false=>
    rw[if_neg Bool.false_ne_true]at q9⊢;exact R J9 q9
   |true=>
    rw[if_pos rfl]at q9⊢;refine iv (he H.objs.size A F D _ s9 σ8 H9 _ J9 q9) (λy qP ⟨v10,BA,J10,r10,hD,hlen,SH⟩=>?_) (λ_ _ f=>f);refine iv (Br (X:=Cu X (Bc X.N dY fr) scope H.objs.size A F D) _ qP σ8 BA (.ref A.heap.objs.size) [v10] (.ref A.heap.objs.size) [y] (λ_ SI=>SI=upd BA A.heap.objs.size (.lst (ys++[v10]))) J10 rfl (.cons r10 .nil) ⟨_,ys,v10,rfl,rfl,hD,hlen,rfl⟩) (λ_ BB ⟨_,SI,J11,_,OM⟩=>?_) (λ_ _ f=>f);subst OM;exact R J11 SH
 exact codeAny_compStart_list (loop _ rfl) (T.self _ 0 _ _ _ FK (loop _ rfl))
theorem C8(R:PI X tg iter wi)(sc:Scope)(oZ:X.env.scope=sc)(S:Bn sc scope X.N dY fr)(O:X.calm=true)(qQ:closureFor scope X.env=pure (Fl X.env.cells scope.names []))
  (P:∀C i j n,PG (Cu X (Bc X.N dY fr) scope C i j n) tg g)(Z:∀C i j n,GC (Cu X (Bc X.N dY fr) scope C i j n) ifs tt)(he:∀C i j n,PE (Cu X (Bc X.N dY fr) scope C i j n) elt te)
  (Y:∀x,foldedSetIterable iter X.env x=pure x:=by intro _;rfl):PE X #[12] (A4q dY.length fr wi g tt te):=by
 intro f s z H Q I h;rw[eval_ListComp];refine wpAny_comprehension_free (use:=none) rfl Y qQ S.kind S.loc (iv (R f s z H _ I h) (λv s1 L=>iv L (λOG i M=>?_) λ_ _ e=>e) λ_ _ e=>e);obtain⟨it,n,tn,J,j,e,y,T,F,G,R2⟩:=M;subst e;refine Q7 (RR:=λu C=>compPost #[8] X.A X.xe none (EP X f z Q) u C) oZ S O P Z he y T F G (R2 _ y.fresh) ?_;intro C B s4 D p ⟨m,U⟩ q;refine{m,U,λK A=>{.ref i.heap.objs.size,B,?_,rfl,q}};obtain⟨hh,gg,dd,E,oo⟩:=s4;exact D.turned (h':=K) (t':=E) (it:=C) (λb o N e=>A.extBut b o N e) p.1 p.2.1 p.2.2.2.1 p.2.2.2.2.1 p.2.2.2.2.2
theorem E7(hN:X.N.Nodup)(G:X.N[i]?=some y)(hi:PI X tg iter wi)(sc:Scope)(oZ:X.env.scope=sc)(S:Bn sc scope X.N dY fr)(hc:X.calm=true)
  (qQ:closureFor scope X.env=pure (Fl X.env.cells scope.names []))
  (hg:∀C n p u,PG (Cu X (Bc X.N dY fr) scope C n p u) tg g)(ht:∀C n p u,GC (Cu X (Bc X.N dY fr) scope C n p u) ifs tt)(he:∀C n p u,PE (Cu X (Bc X.N dY fr) scope C n p u) elt te)
  (N:X.env.scope.names.lookup y=some NameKind.local)
  (K:swapsWith #[12] (some (.Name y A)) L.line X.env=pure true)
  (hs:∀x,foldedSetIterable iter X.env x=pure x:=by intro _;rfl):
  PS X (.Assign [.Name y A] #[12] L) (jg dY.length fr wi g tt te i):=by
 intro f s σ H D I h;rw[exec_Assign_Name_used _ _ _ _ K];refine ag (wpAny_standAt (ag ?_));show wpAny _ X.A (do let _ <- comprehension #[12] scope X.env _ (newList []) false (eval iter X.env) (some (assign (.Name y A) X.env))) _ _ s
 refine ag (iv (wpAny_comprehension_free (use:=some (assign (.Name y A) X.env)) (Q:=λ_ B=>SP X f D .next B) rfl hs qQ S.kind S.loc
  (iv (hi f s σ H _ I h) (λv s1 h1=>iv h1 (λOG n h2=>?_) λ_ _ e=>e) λ_ _ e=>e)) (λ_ B hq=>aN (aN hq)) λ_ _ e=>e)
 obtain⟨it,u,tn,J,p,e,M,T,Z,f2,R2⟩:=h2;subst e;refine Q7 (RR:=λE C=>compPost #[8] X.A X.xe (some (assign (.Name y A) X.env)) (λ_ B=>SP X f D .next B) E C) oZ S hc hg ht he M T Z f2 (R2 _ M.fresh) ?_;intro C P s4 Q j ⟨m,hn⟩ q;refine wpAny_assign_Name (Qx (v:=.ref n.heap.objs.size) Q hN G (.inl N) rfl (λs5 R ⟨a,Y,ha⟩=>?_) (.inr N))
 have F:C≠a:=by
  rcases ha with z|z
  ·rw[z];exact j.2.1
  ·exact λz2=>j.2.2.2.2.1 y a z z2.symm
 refine{m,hn.sameBut Y F,λh' O=>{_,P,?_,q}};obtain⟨hh,gg,dd,U,oo⟩:=s5;exact R.turned (h':=h') (t':=U) (it:=C) (λb o hb e=>O.extBut b o hb e) j.1 j.2.1 j.2.2.2.1 j.2.2.2.2.1 j.2.2.2.2.2
end
open PySem.Builtin.Int (intBits)
section
variable {X:Cx}
theorem Fp:Ht X (binaryOp .Mult) (rI IntMulOk λi j=>.int (i*j)):=FN λ_ _ _ _ _ _ _ b q=>mul_int q b
end
theorem Xk(e:intBits a<=m)(f:intBits b<=n)(h:m+n<=134217728):IntMulOk a b:=PyProof.Rows.mulOk_of_bits e f h
theorem N3(h1:-(2^64)<a)(e:a<2^64):IntMulOk a b:=IntMulOk.of_left (intBits_le_64 h1 e)
def vq(T C:String):Option Bool:=if(Value.type T==Value.type C)=true then some true else if W.kitMeta C=true then(fastBuiltinMro T).map (·.contains (Value.type C))else none
theorem dv(K:W.Frag)(T C:String):W.kitOne K (.type T) (.type C)=vq T C:=rfl
section
variable {X:Cx}
inductive zh(K:W.Frag)(xs:List V)(H:Hp)(Q:VK):Prop
 |mk (x:_) (T:_) (C:_) (b:_) (bW:xs=[x,.ty C]) (bO:Km K H x (.type T)) (cB:vq T C=some b) (dM:Q (.bl b) H):zh K xs H Q
theorem bf:Cp X (.builtin "isinstance") (zh X.K):=by
 intro f s p H o n Q I r h;obtain⟨x,T,C,b,rfl,ty,e,q⟩:=h;obtain⟨u,j,rfl,i,g⟩:=Ya r;obtain rfl:j=Value.type C:=g;exact Zh I i ty ((dv X.K T C).trans e) λm=>⟨.bl b,H,I.tok _,rfl,q⟩
theorem g8{pos:Pos}(b:Gl X x)(e:X.mg x=none)(g:bootBuiltins x=some (.type T))(f:x≠"__name__":=by decide)(hd:(x==("__debug__":Str))=false:=by decide):PE X (.Name x pos) (tC (.ty T)):=
 lv b e g rfl f hd
end
mutual
def Rp(H:Hp):oa->V->Prop
 | .none,v=>v=.bB
 | .bool b,v=>v=.bl b
 | .int i,v=>v=.int i
 | .tuple f,v=>∃a e,v=.ref a/\H a=some (.tup e)/\aO H f e
 | .list f,v=>∃a e,v=.ref a/\H a=some (.lst e)/\aO H f e
 | .str x,v=>v=.str x/\PyData.strOk x=true
 | .dict _,_=>False
def aO(H:Hp):List oa->List V->Prop
 |[],vs=>vs=[]
 |d::e,vs=>∃x b,vs=x::b/\Rp H d x/\aO H e b
end
mutual
theorem Dh:∀(d:oa) (v:V),Rp H d v->d.canLay0=true
 | .none,_,_=>rfl
 | .bool _,_,_=>rfl
 | .int _,_,_=>rfl
 | .tuple b,_,h=>by
  unfold Rp at h;obtain⟨a,e,_,_,h⟩:=h;exact gG b e h
 | .list b,_,h=>by
  unfold Rp at h;obtain⟨a,e,_,_,h⟩:=h;exact gG b e h
 | .str x,v,h=>by
  unfold Rp at h;exact h.2
 | .dict _,_,h=>by unfold Rp at h;exact h.elim
theorem gG:∀(b:List oa) (vs:List V),aO H b vs->PyData.canLayAll0 b=true
 |[],_,_=>rfl
 |d::b,vs,h=>by
  unfold aO at h;obtain⟨x,g,_,e,f⟩:=h;show(d.canLay0&&PyData.canLayAll0 b)=true;rw[Dh d x e,gG b g f];rfl
end
section
variable {X:Cx}{pins:List #[18]}{σ:St}{H:Hp}{s:nB}
mutual
theorem D1(I:Ak X pins σ H s):∀(d:oa) (v:V) (u:nL),Rp H d v->B2 v u->∃f,Reads s.heap u d f
 | .none,v,u,h,r=>by
  unfold Rp at h;subst h;cases r;exact{_,.none}
 | .bool b,v,u,h,r=>by
  unfold Rp at h;subst h;cases r;exact{_,.bool b}
 | .int i,v,u,h,r=>by
  unfold Rp at h;subst h;obtain⟨t,rfl⟩:=r;exact{_,.int i t}
 | .tuple g,v,u,h,r=>by
  unfold Rp at h;obtain⟨a,y,rfl,j,h⟩:=h;cases r;obtain⟨_,e,m,p⟩:=I.aJ a _ j;obtain⟨o,z,A,n,B⟩:=p;obtain⟨f,q⟩:=eP I g y e h m;exact{_,.tuple z A B (by simpa using q)}
 | .list g,v,u,h,r=>by
  unfold Rp at h;obtain⟨a,y,rfl,j,h⟩:=h;cases r;obtain⟨_,e,n,m,p⟩:=I.aJ a _ j;obtain⟨f,q⟩:=eP I g y e h m;exact{_,.list p rfl rfl (by simpa using q)}
 | .str x,v,u,h,r=>by
  unfold Rp at h;obtain⟨rfl,_⟩:=h;obtain⟨t,rfl⟩:=r;exact{_,.str x t}
 | .dict _,_,_,h,_=>by unfold Rp at h;exact h.elim
theorem eP(I:Ak X pins σ H s):∀(b:List oa) (vs:List V) (us:List nL),aO H b vs->B0 vs us->∃e,ReadsAll s.heap us b e
 |[],vs,us,h,r=>by
  unfold aO at h;subst h;cases r;exact{_,.nil}
 |d::b,vs,us,h,r=>by
  unfold aO at h;obtain⟨x,o,rfl,f,g⟩:=h;cases r with
  |cons m n=>
   obtain⟨e,i⟩:=D1 I d x _ f m;obtain⟨bs,j⟩:=eP I b o _ g n;exact{_,.cons i j}
end
end
section
variable {X:Cx}{k:Nat}
inductive zg(neg:Bool)(x:V)(y:V)(H:Hp)(Q:VK):Prop
 |mk (d e:oa) (bW:Rp H d x) (bO:Rp H e y) (cB:d.depth<=60) (dM:Q (.bl (if neg then !PyData.eqv d e else PyData.eqv d e)) H):zg neg x y H Q
theorem Ie(i:Ca k X.A):Ht X (compareOp .Eq) (zg false):=by
 intro g s B H x y v u Q I n o h;obtain⟨d,e,b,f,z,q⟩:=h;obtain⟨p,j⟩:=D1 I d x v b n;obtain⟨bs,m⟩:=D1 I e y u f o;have A:=i.units;exact PySem.SeqAt.compareEq_reads j m (Dh d x b) (Dh e y f) #[1] ⟨.bl (PyData.eqv d e),H,I,rfl,q⟩
theorem Vy(i:Ca k X.A):Ht X (compareOp .NotEq) (zg true):=by
 intro g s B H x y v u Q I n o h;obtain⟨d,e,b,f,z,q⟩:=h;obtain⟨p,j⟩:=D1 I d x v b n;obtain⟨bs,m⟩:=D1 I e y u f o;have A:=i.units;exact PySem.SeqAt.compareNe_reads j m (Dh d x b) (Dh e y f) #[1] ⟨.bl (!PyData.eqv d e),H,I,rfl,q⟩
end
theorem Xv:∀ns:mY,aO H (ns.map PyData.int) #[15]
 |[]=>by unfold aO;rfl
 |n::ns=>by
  show aO H (PyData.int n::ns.map PyData.int) (V.int n::ns.map V.int);unfold aO;exact{_,_,rfl,by unfold Rp;rfl,Xv ns}
theorem A6.new(e:A6 H f)(h:H p=none):A6 H (upd f p o):=λb u q=>by
 rw[A9 (Ag q h)];exact e b u q
theorem A6.upd(h:H p=none):A6 H (upd H p o):=(A6.refl H).new h
section
variable {X:Cx}{tg:Expr}
inductive zi(K:W.Frag)(x:V)(y:V)(H:Hp)(Q:VK):Prop
 |mk (p:_) (xs:_) (i:_) (v:_) (bW:x=.ref p) (bO:y=.int i) (cB:(Ar K H p xs\/Ax K H p xs)) (dM:Ls xs i=some v) (iK:Q v H):zi K x y H Q
theorem A37(K:W.Frag)(D:X.K=K:=by rfl):FW X (zi K):=by
 subst D;intro e b f s C H x y v u Q I o A h n;obtain⟨p,B,i,z,g,j,h|h,m,q⟩:=h
 ·exact ky e b f s C H x y v u Q I o A ⟨p,B,i,z,g,j,h,m,q⟩ n
 ·exact vh e b f s C H x y v u Q I o A ⟨p,B,i,z,g,j,h,m,q⟩ n
inductive zj(K:W.Frag)(xs:List V)(H:Hp)(Q:VK):Prop
 |mk (p:_) (ys:_) (bW:xs=[.ref p]) (bO:(Ar K H p ys\/Ax K H p ys)) (cB:Q (.int ys.length) H):zj K xs H Q
theorem Yo(K:W.Frag)(f:X.K=K:=by rfl):Cp X (.builtin "len") (zj K):=by
 subst f;exact λe s m H i g Q I r h=>Rf e s m H i g Q I r (let⟨p,j,a,b,c⟩:=h;⟨p,j,a,b,c⟩)
theorem Q5(K:W.Frag)(b:X.K=K:=by rfl):Cp X (.builtin "isinstance") (zh K):=by
 subst b;exact bf
theorem S4(K:W.Frag)(b:X.K=K:=by rfl):Ht X (compareOp .In) (FX K false):=by
 subst b;exact Zv
theorem Qp(K:W.Frag)(b:X.K=K:=by rfl):Ht X (compareOp .NotIn) (FX K true):=by
 subst b;exact S5
theorem Ei(K:W.Frag)(b:X.K=K:=by rfl):FV X (zk K):=by
 subst b;exact mz
theorem Cm(K:W.Frag){t:k8}{pos:Pos}(f:X.calm=true)(h:DN X es t)(e:X.K=K:=by rfl)
  (g:(assignEach es X.env).length=n:=by rfl)(b:(assignEach es X.env).findIdx? (·.1)=none:=by rfl):PG X (.Tuple es i pos) (kj K n t):=by
 subst e;exact z9 f h g b
inductive A34(K:W.Frag)(tl:TE)(R:It->Hp->Prop)(x:V)(H1:Hp):Prop
 |mk (a:_) (bW:x=.ref a) (bO:(((∃xs,Ar K H1 a xs)/\R (tw K a) H1)\/((∃xs,Ax K H1 a xs)/\R (DP K a) H1))):A34 K tl R x H1
def iSq(K:W.Frag)(b:TE):TI:=λe H R=>b e H (A34 K b R)
theorem Cl(B:PE X l z):PI X tg l (iSq X.K z):=by
 intro i s G H R I h;refine Bq (B i s G H _ I h) λv f A=>?_;obtain⟨x,u,g,D,n⟩:=A;obtain⟨a,e,n⟩:=n;subst e;cases D;rcases n with⟨⟨F,m⟩,q⟩|⟨⟨F,m⟩,q⟩
 ·obtain⟨y,E,p,C⟩:=g.list m;refine wpAny_pyIter_list p.isList ?_;refine{f.heap.objs.size,[f.heap.objs.size],_,_,u,rfl,g.kept (t':=f.toks) λb o e=>cb _ e,ah a _,{_,cX _ rfl,rfl,rfl},λb j=>?_,q};have e:b=f.heap.objs.size:=by simpa using j
  subst e;exact g.lJ (de _) (g.aJ.fresh (de _))
 ·obtain⟨y,E,p,C⟩:=g.tuple m;refine wpAny_pyIter_tuple (show f.heap.IsTuple a y.toArray from p) ?_;refine{f.heap.objs.size,[f.heap.objs.size],_,_,u,rfl,g.kept (t':=f.toks) λb o e=>cb _ e,Wr a _,{_,cX _ rfl,rfl,rfl},λb j=>?_,q};have e:b=f.heap.objs.size:=by simpa using j
  subst e;exact g.lJ (de _) (g.aJ.fresh (de _))
end
theorem Gr{o:List Nat}{q:TE}{u:St}{D:Addr}{j:Hp}{Q:Hp->Prop}{h:Int}{cnt:Nat}(b:Nat->List V->Hp->Prop)(z:b 0 [] (upd j D (.lst [])))
  (B:∀i ys H,i<cnt->b i ys H->∀n:VK,(∀y f,f D=some (.lst ys)->ys.length<sizeLine->b (i+1) (ys++[y]) (upd f D (.lst (ys++[y])))->n y f)->q (some (.int (h+i))::Cv o u) H n)
  (hd:∀ys H,b cnt ys H->Q H):Dk 1 o (jz h cnt) (Hr 0) Pp q u D j Q:=by
 refine{λi m ys H=>m=cnt-i/\i<=cnt/\b i ys H,{cnt,by simp,jN _,z},?_};rintro i m ys v ⟨rfl,F,p⟩;by_cases g:i<cnt
 ·refine .inr ⟨g,λx E y=>?_⟩;obtain⟨e,y⟩:=y;subst e y;refine{{[some (.int (h+i))],rfl,rfl},?_};simp only[Pp,↓reduceIte];exact B i ys _ g p _ λy f A C pv=>⟨A,C,cnt-(i+1),by omega,rfl,g,pv⟩
 ·have e:i=cnt:=by omega
  subst e;exact .inl ⟨de _,hd ys v p⟩
theorem Cg{K:W.Frag}{a:Addr}{xs:List V}{o:List Nat}{u:TE}{v:St}{D:Addr}{h:Hp}{Q:Hp->Prop}(b:Nat->List V->Hp->Prop)(z:b 0 [] (upd h D (.lst [])))
  (C:∀i ys H,i<=xs.length->b i ys H->Ar K H a xs)
  (E:∀i x ys H,xs[i]?=some x->b i ys H->∀j:VK,(∀y f,f D=some (.lst ys)->ys.length<sizeLine->b (i+1) (ys++[y]) (upd f D (.lst (ys++[y])))->j y f)->u (some x::Cv o v) H j)
  (hd:∀ys H,b xs.length ys H->Q H):Dk 1 o (tw K a) (Hr 0) Pp u v D h Q:=by
 refine{λi m ys H=>m=xs.length-i/\i<=xs.length/\b i ys H,{xs.length,by simp,jN _,z},?_};rintro i m ys g ⟨rfl,B,p⟩;have q:=C i ys g B p;by_cases n:i<xs.length
 ·refine .inr ⟨⟨xs,xs[i],q,by simp[n]⟩,λx G y=>?_⟩;obtain⟨e,y⟩:=y;subst e;refine{{[some x],rfl,rfl},?_};simp only[Pp,↓reduceIte];exact E i x ys _ (y xs q) p _ λy f A F pv=>⟨A,F,xs.length-(i+1),by omega,rfl,n,pv⟩
 ·have e:i=xs.length:=by omega
  subst e;exact .inl ⟨⟨xs,q,de _⟩,hd ys g p⟩
theorem Nh{K:W.Frag}{a:Addr}{xs:List V}{o:List Nat}{u:TE}{v:St}{D:Addr}{h:Hp}{Q:Hp->Prop}(b:Nat->List V->Hp->Prop)(z:b 0 [] (upd h D (.lst [])))
  (C:∀i ys H,i<=xs.length->b i ys H->Ax K H a xs)
  (E:∀i x ys H,xs[i]?=some x->b i ys H->∀j:VK,(∀y f,f D=some (.lst ys)->ys.length<sizeLine->b (i+1) (ys++[y]) (upd f D (.lst (ys++[y])))->j y f)->u (some x::Cv o v) H j)
  (hd:∀ys H,b xs.length ys H->Q H):Dk 1 o (DP K a) (Hr 0) Pp u v D h Q:=by
 refine{λi m ys H=>m=xs.length-i/\i<=xs.length/\b i ys H,{xs.length,by simp,jN _,z},?_};rintro i m ys g ⟨rfl,B,p⟩;have q:=C i ys g B p;by_cases n:i<xs.length
 ·refine .inr ⟨⟨xs,xs[i],q,by simp[n]⟩,λx G y=>?_⟩;obtain⟨e,y⟩:=y;subst e;refine{{[some x],rfl,rfl},?_};simp only[Pp,↓reduceIte];exact E i x ys _ (y xs q) p _ λy f A F pv=>⟨A,F,xs.length-(i+1),by omega,rfl,n,pv⟩
 ·have e:i=xs.length:=by omega
  subst e;exact .inl ⟨⟨xs,q,de _⟩,hd ys g p⟩
def Lu(ns:mY)(k:Int):Int:=(ns[k.toNat]?).getD 0
theorem k9{ns:mY}{k:Int}(e:0<=k)(h:k<ns.length):Ls #[15] k=some (.int (Lu ns k)):=by
 obtain⟨j,rfl⟩:∃j:Nat,k=j:={k.toNat,by omega};have b:j<ns.length:=by omega
 refine Et ?_;unfold Lu;rw[List.getElem?_map,Int.toNat_natCast,List.getElem?_eq_getElem b];rfl
theorem Yy{k:Int}(b:0<=k)(h:¬k<ns.length):Lu ns k=0:=by
 unfold Lu;rw[List.getElem?_eq_none #[1]];rfl
theorem V2{k:Int}(b:∀z∈ns,intBits z<=2^20):intBits (Lu ns k)<=2^20:=by
 unfold Lu;cases e:ns[k.toNat]? with
 |none=>show intBits 0<=2^20;decide
 |some n=>exact b n (cI e)
theorem Cz{c:Bool}{A B:Prop}(b:c=true)(h:A):if c=true then A else B:=by rw[if_pos b];exact h
theorem As{c:Bool}{A B:Prop}(b:c=false)(h:B):if c=true then A else B:=by rw[if_neg (by rw[b];exact Bool.false_ne_true)];exact h
theorem Af{xs:List V}(h:xs.length<=1000:=by simp):xs.length<=sizeLine:=l7 (Aj h)
theorem E4(h:n<=1000):n<=sizeLine:=l7 (Aj h)
def dT(ws:mY):oa:=.tuple (ws.map PyData.int)
def dP(d e:oa):oa:=.tuple [d,e]
def vO:nf->V
 |none=>.bB
 |some i=>.int i
theorem Wb{H:Hp}(i:Int):Rp H (.int i) (.int i):=by unfold Rp;rfl
theorem gn{H:Hp}:Rp H .none .bB:=by unfold Rp;rfl
theorem A3u{H:Hp}{t:Addr}{ws:mY}(h:H t=some (.tup (ws.map V.int))):Rp H (dT ws) (.ref t):=by
 unfold dT Rp;exact{t,_,rfl,h,Xv ws}
theorem om{H:Hp}{p:Addr}{d e:oa}{x y:V}(h:H p=some (.tup [x,y]))(hd:Rp H d x)(he:Rp H e y):Rp H (dP d e) (.ref p):=by
 unfold dP Rp;refine{p,_,rfl,h,?_};unfold aO;refine{x,_,rfl,hd,?_};unfold aO;refine{y,_,rfl,he,?_};unfold aO;rfl
theorem br(d e:oa):(dP d e).depth=max d.depth e.depth+1:=by
 show max d.depth (max e.depth 0)+1=_;rw[Nat.max_zero]
theorem Ia:∀xs ys:mY,PyData.eqvAll (xs.map PyData.int) (ys.map PyData.int)=decide (xs=ys)
 |[],[]=>rfl
 |x::xs,y::ys=>by
  show(PyData.eqv (.int x) (.int y)&&PyData.eqvAll (xs.map PyData.int) (ys.map PyData.int))=_;rw[Ia xs ys];show((x==y)&&decide (xs=ys))=_;by_cases b:x=y<;>by_cases e:xs=ys<;>simp[b,e]
 |[],_::_=>rfl
 |_::_,[]=>rfl
theorem uv(xs ys:mY):PyData.eqv (dT xs) (dT ys)=decide (xs=ys):=Ia xs ys
theorem uu(a b c d:oa):PyData.eqv (dP a b) (dP c d)=(PyData.eqv a c&&PyData.eqv b d):=by
 show(PyData.eqv a c&&(PyData.eqv b d&&true))=_;rw[Bool.and_true]
section
variable {X:Cx}{pins:List #[18]}{σ:St}{H:Hp}{s:nB}{h':Heap}
theorem Ak.iM{ch:List Addr}{T:Addr}{o:HO}{t':Nat}(I:Ak X pins σ H s)(j:∀b∈ch,Md X pins H b)(k:∀b f,b∉ch->s.heap.get? b=some f->h'.get? b=some f)
  (m:s.heap.objs.size<=T)(new:Bi X.prog X.w (upd H T o) h' T o):Ak X pins σ (upd H T o) {s with heap:=h',toks:=t'}:=by
 have i:H T=none:=I.aJ.fresh m
 have off:∀b u,H b=some u->b∉ch:=λb u e h=>by
  have z:=(j b h).1;rw[e]at z;cases z
 refine I.call (g':=s.gens) (d':=s.drawn) (t':=t') (ch:=ch) ⟨λb f e _ _ g=>k b f g e,λb f e _ _ g=>⟨f.slots,k b f g e⟩,λb f e n g=>?_,λb f e g=>⟨f,k b f g e⟩,λb p e=>?_,λb f u e=>?_,λb x e=>⟨#[],?_⟩⟩ (λb u e=>?_) I.bare
  (λb h=>⟨(j b h).2.2.2.1,(j b h).2.1,(j b h).2.2.2.2.1,(j b h).2.2.2.2.2⟩)
 ·rw[A9 (Nat.ne_of_lt (Nat.lt_of_lt_of_le (Heap.lt_size e) m))];exact n
 ·rw[A9 (Ag e i)];exact e
 ·rw[A9 (Ag e i)];exact e
 ·rw[A9 (Ag e i),e];simp
 ·by_cases h:b=T
  ·subst h;rw[A2]at e;cases e;exact new
  ·rw[A9 h]at e;refine(I.aJ b u e).fH (λc v g q=>k c v ?_ q) (λc q=>?_) λc p q=>?_
   ·rcases g with rfl|g
    ·exact off _ _ e
    ·exact off _ _ g
   ·rw[A9 (Ag q i)];exact q
   ·rw[A9 (Ag q i)];exact q
theorem Ak.iP{ch:List Addr}{t':Nat}(I:Ak X pins σ H s)(i:∀b∈ch,Md X pins H b)(k:∀b f,b∉ch->s.heap.get? b=some f->h'.get? b=some f):Ak X pins σ H {s with heap:=h',toks:=t'}:=by
 have off:∀b u,H b=some u->b∉ch:=λb u e h=>by
  have z:=(i b h).1;rw[e]at z;cases z
 refine I.call (g':=s.gens) (d':=s.drawn) (t':=t') (ch:=ch) ⟨λb f e _ _ g=>k b f g e,λb f e _ _ g=>⟨f.slots,k b f g e⟩,λb f e n g=>n,λb f e g=>⟨f,k b f g e⟩,λb j e=>e,λb f u e=>e,λb m e=>⟨#[],by rw[e];simp⟩⟩ (λb u e=>?_) I.bare
  (λb h=>⟨(i b h).2.2.2.1,(i b h).2.1,(i b h).2.2.2.2.1,(i b h).2.2.2.2.2⟩)
 refine(I.aJ b u e).fH (λc v g q=>k c v ?_ q) (λc q=>q) λc j q=>q;rcases g with rfl|g
 ·exact off _ _ e
 ·exact off _ _ g
end
section
variable {X:Cx}
theorem Yv(B:X.calm=true):Cp X (.builtin "min") (λxs H Q=>∃(p:Addr) (ns:mY),xs=[.ref p]/\Ar X.K H p #[15]/\0<ns.length/\∀m:Int,m∈ns->(∀a∈ns,m<=a)->Q (.int m) H):=by
 intro y s T H S R Q I r q;obtain⟨p,ns,rfl,E,g,q⟩:=q;obtain⟨u,rfl,K⟩:=Dj r;cases K;obtain⟨L,J,G,O⟩:=I.list E;have o:=Dq J;obtain⟨b,i⟩:=o.allInts.items
 have e:ns=b.toList.map (·.1):=by
  have A:=o.numsOf;have h:=nums_intItems b;rw[<- i]at h;exact A.symm.trans h
 have f:0<b.size:=by
  rw[e,List.length_map,Array.length_toList]at g;exact g
 have x:=G.isList;rw[i]at x;refine min_intList (I.ok.hd B) x f λv N P F D=>?_;obtain⟨t,rfl⟩:=intItems_at F;obtain⟨M,z⟩:=argBest_lt (numAt b) (b.size-1);refine{.int _,H,I.kept D,{t,rfl},q _ ?_ λa n=>?_}
 ·rw[e,numAt_eq];exact getD_mem (by rw[List.length_map,Array.length_toList];omega)
 ·rw[e]at n;obtain⟨j,C,rfl⟩:=mem_getD n;rw[List.length_map,Array.length_toList]at C;rw[<- numAt_eq];exact z j #[1]
theorem Yr(B:X.calm=true):Cp X (.builtin "max") (λxs H Q=>∃(p:Addr) (ns:mY),xs=[.ref p]/\Ar X.K H p #[15]/\0<ns.length/\∀m:Int,m∈ns->(∀a∈ns,a<=m)->Q (.int m) H):=by
 intro y s T H S R Q I r q;obtain⟨p,ns,rfl,E,g,q⟩:=q;obtain⟨u,rfl,K⟩:=Dj r;cases K;obtain⟨L,J,G,O⟩:=I.list E;have o:=Dq J;obtain⟨b,i⟩:=o.allInts.items
 have e:ns=b.toList.map (·.1):=by
  have A:=o.numsOf;have h:=nums_intItems b;rw[<- i]at h;exact A.symm.trans h
 have f:0<b.size:=by
  rw[e,List.length_map,Array.length_toList]at g;exact g
 have x:=G.isList;rw[i]at x;refine max_intList (I.ok.hd B) x f λv N P F D=>?_;obtain⟨t,rfl⟩:=intItems_at F;obtain⟨M,z⟩:=argBest_gt (numAt b) (b.size-1);refine{.int _,H,I.kept D,{t,rfl},q _ ?_ λa n=>?_}
 ·rw[e,numAt_eq];exact getD_mem (by rw[List.length_map,Array.length_toList];omega)
 ·rw[e]at n;obtain⟨j,C,rfl⟩:=mem_getD n;rw[List.length_map,Array.length_toList]at C;rw[<- numAt_eq];exact z j #[1]
end
structure t9(K:W.Frag)(x qual:Str)(st:Stmt)(f:Addr)(fd:nZ):Prop where
 ex:∃(oc:nL) (od:Option Addr) (dV kV doc pm:nL) (an:Option Addr) (aS ct:nL) (gD:Array (Option nL)),
  fd=W.fnOf x qual (Dc st) (C7 st) (A8 st) dV kV doc pm an aS ct/\K.lookup f=some ⟨oc,od,.func fd,gD⟩/\W.codeIn K aS qual=true
section
variable {X:Cx}{a b c:Expr}{rest:List Expr}{ta tb:TE}{tA uA:TT}{t u:TS}{pos:Pos}
inductive jd(tb:TE)(σ:St)(Q:VK)(x:V)(H1:Hp):Prop
 |mk (c d:Bool) (bW:x=.bl c) (bO:(c=true->∀Q':VK,Q' (.bl d) H1->tb σ H1 Q')) (cB:Q (.bl (c&&d)) H1):jd tb σ Q x H1
def A4n(ta tb:TE):TE:=λe H Q=>ta e H (jd tb e Q)
inductive sj(tb:TE)(σ:St)(Q:VK)(x:V)(H1:Hp):Prop
 |mk (c d:Bool) (bW:x=.bl c) (bO:(c=false->∀Q':VK,Q' (.bl d) H1->tb σ H1 Q')) (cB:Q (.bl (c||d)) H1):sj tb σ Q x H1
def A5q(ta tb:TE):TE:=λe H Q=>ta e H (sj tb e Q)
theorem K6(n:PE X a ta)(o:PE X (.BoolOp .And (b::rest) pos) tb):PE X (.BoolOp .And (a::b::rest) pos) (A4n ta tb):=by
 intro e s j H Q I h;refine BoolOp_and (Bq (n e s j H _ I h) λv y m=>?_);obtain⟨x,g,i,q,f⟩:=m;obtain⟨c,d,rfl,p,f⟩:=f;cases q;refine iC ?_;cases c with
 |true=>exact o e y j g Q i (p rfl Q f)
 |false=>exact{.bl false,g,i,rfl,f}
theorem g7(n:PE X a ta)(o:PE X (.BoolOp .Or (b::rest) pos) tb):PE X (.BoolOp .Or (a::b::rest) pos) (A5q ta tb):=by
 intro e s j H Q I h;refine BoolOp_or (Bq (n e s j H _ I h) λv y m=>?_);obtain⟨x,g,i,q,f⟩:=m;obtain⟨c,d,rfl,p,f⟩:=f;cases q;refine iC ?_;cases c with
 |false=>exact o e y j g Q i (p rfl Q f)
 |true=>exact{.bl true,g,i,rfl,f}
inductive jb(t u:TT)(σ:St)(Q:Bool->Hp->Prop)(c:Bool)(H1:Hp):Prop
 |mk (d:Bool) (bW:(c=true->∀Q':Bool->Hp->Prop,Q' d H1->u σ H1 Q')) (bO:Q (c&&d) H1):jb t u σ Q c H1
def A4l(t u:TT):TT:=λe H Q=>t e H (jb t u e Q)
inductive sh(u:TT)(σ:St)(Q:Bool->Hp->Prop)(c:Bool)(H1:Hp):Prop
 |mk (d:Bool) (bW:(c=false->∀Q':Bool->Hp->Prop,Q' d H1->u σ H1 Q')) (bO:Q (c||d) H1):sh u σ Q c H1
def A5o(t u:TT):TT:=λe H Q=>t e H (sh u e Q)
theorem Ev(n:PT X a tA)(o:PW X (.BoolOp .And (b::rest) pos) uA):PW X (.BoolOp .And (a::b::rest) pos) (A4l tA uA):=by
 intro v e s j H Q I h;refine isTrue_and (Bq (n e s j H _ I h) λc q m=>?_);obtain⟨f,g,d,p,i⟩:=m;cases c with
 |true=>exact o v e q j f Q g (p rfl Q i)
 |false=>exact{f,g,i}
theorem El(n:PT X a tA)(o:PW X (.BoolOp .Or (b::rest) pos) uA):PW X (.BoolOp .Or (a::b::rest) pos) (A5o tA uA):=by
 intro v e s j H Q I h;refine isTrue_or (Bq (n e s j H _ I h) λc q m=>?_);obtain⟨f,g,d,p,i⟩:=m;cases c with
 |true=>exact{f,g,i}
 |false=>exact o v e q j f Q g (p rfl Q i)
theorem SP.mono(h:SP X g D f s')(p:∀i H,D.nx i H->m.nx i H)(y:∀v H,D.rt v H->m.rt v H)(n:∀i H,D.bk i H->m.bk i H)(o:∀i H,D.ct i H->m.ct i H):SP X g m f s':=by
 cases f with
 |next=>obtain⟨e,j,I,q⟩:=h;exact{e,j,I,p _ _ q}
 |brk=>obtain⟨e,j,I,q⟩:=h;exact{e,j,I,n _ _ q}
 |cont=>obtain⟨e,j,I,q⟩:=h;exact{e,j,I,o _ _ q}
 |ret v=>obtain⟨x,e,j,I,r,q⟩:=h;exact{x,e,j,I,r,y _ _ q}
inductive se(t u:TS)(D:Hy)(σ:St)(b:Bool)(H1:Hp):Prop
 |mk (N:St->Hp->Prop) (bW:(b=true->t {D with nx:=N} σ H1)) (bO:(b=false->u {D with nx:=N} σ H1)) (cB:∀σ' H',N σ' H'->D.nx σ' H'):se t u D σ b H1
def A5k(c:TT)(t u:TS):TS:=λD e H=>c e H (se t u D e)
theorem Cc{c:Expr}{a b:List Stmt}{o:TT}(y:PT X c o)(v:Pc X a t)(x:Pc X b u):PS X (.If c a b pos) (A5k o t u):=by
 intro e s g H D I h;refine wpAny_If (Bq (y e s g H _ I h) λd n p=>?_);obtain⟨i,j,N,A,B,m⟩:=p;cases d with
 |true=>exact Bq (v e n g i _ j (A rfl)) λf C q=>q.mono m (λ_ _ z=>z) (λ_ _ z=>z) λ_ _ z=>z
 |false=>exact Bq (x e n g i _ j (B rfl)) λf C q=>q.mono m (λ_ _ z=>z) (λ_ _ z=>z) λ_ _ z=>z
end
section
variable {P:nP}{w:n4}{A:nU}{E:mD}{s:nB}
theorem Vs{k:Nat}(f:s.heap.IsTupleIter I T k)(j:s.heap.IsTuple T vs)(m:vs[k]?=some v)
  (q:∀h',h'.IsTupleIter I T (k+1)->Heap.SameBut I s.heap h'->Q v {s with heap:=h'}):wpAny #[9] A (Builtin.SmallTypes.nextOf (.ref I)) Q E s:=by
 obtain⟨o,e,h,b⟩:=id f;obtain⟨p,i,_,n,g⟩:=j;unfold Builtin.SmallTypes.nextOf;refine ag (mr (name:=Str.ofString "__next__") f.typeIs F.slot_tuple_iterator_next (g6 F.slot_tuple_iterator_next f.typeIs F.entry_tuple_iterator_next ?_ (F.args_tuple_iterator_next_1 _)));show wpAny _ _ (field (.ref I) 0>>=_) _ _ s;refine ag (wpAny_field e b (x:=.ref T) rfl ?_);show wpAny _ _ (if(Value.ref T==Value.none)=true then _ else _) _ _ s;rw[if_neg (show¬((Value.ref T==Value.none)=true)from Bool.false_ne_true)];show wpAny _ _ (field (.ref I) 1>>=_) _ _ s;refine ag (wpAny_field e b (x:=.int k 0) rfl ?_);show wpAny _ _ (seqItems? (.ref T)>>=_) _ _ s;refine ag (gd i g ?_);simp only[Int.toNat_natCast,m];refine ag (wpAny_setField e b (by simp) (aN ⟨v,rfl,aN (q _ ⟨_,gU _ e (Obj.isFreed_of_fields (Obj.data_mapFields b _)),(Obj.cls_mapFields ..).trans h,?_⟩ (il ..))⟩));rw[Obj.data_mapFields b];simp[rawInt]
theorem Zs{k:Nat}(h:A.handled=none)(g:s.heap.IsTupleIter I T k)(m:s.heap.IsTuple T vs)(n:vs[k]?=none)
  (q:∀h' e,Heap.ExtBut I s.heap h'->(∃o,h'.get? e=some o/\o.cls=.type "StopIteration")->E (.ref e) {s with heap:=h'}):wpAny #[9] A (Builtin.SmallTypes.nextOf (.ref I)) Q E s:=by
 obtain⟨v,f,p,b⟩:=id g;obtain⟨x,j,_,u,i⟩:=m;unfold Builtin.SmallTypes.nextOf;refine ag (mr (name:=Str.ofString "__next__") g.typeIs F.slot_tuple_iterator_next (g6 F.slot_tuple_iterator_next g.typeIs F.entry_tuple_iterator_next ?_ (F.args_tuple_iterator_next_1 _)));show wpAny _ _ (field (.ref I) 0>>=_) _ _ s;refine ag (wpAny_field f b (x:=.ref T) rfl ?_);show wpAny _ _ (if(Value.ref T==Value.none)=true then _ else _) _ _ s;rw[if_neg (show¬((Value.ref T==Value.none)=true)from Bool.false_ne_true)];show wpAny _ _ (field (.ref I) 1>>=_) _ _ s;refine ag (wpAny_field f b (x:=.int k 0) rfl ?_);show wpAny _ _ (seqItems? (.ref T)>>=_) _ _ s;refine ag (gd j i ?_);simp only[Int.toNat_natCast,n];refine ag (la (ag (wpAny_setField f b (by simp) ?_)));show wpAny _ _ (newExc (.type "StopIteration") []>>=λ_=>_) _ _ _;refine ag ?_;simp only[newExc,newTuple];refine ag (gW (ag (m:=firstArgMember _ _) (wpAny_of_eq (a:=Value.none) (by first|rfl|(simp only[firstArgMember];rfl)) (gW ?_ (by size_fits)))) (by size_fits));simp only[raiseNew];refine ag (wpAny_handled ?_)
 first|rw[show A.in1.handled=none from h]|rw[h]
 refine ag (aN (wpAny_throw (q _ _ (((il ..).extBut.push _).push _) ⟨_,cX _ rfl,rfl⟩)))
end
theorem uq(n:A.handled=none)(I T:Addr)(ne:T≠I)(vs:Array nL):Draws P w A I [I,T] vs.size (λi v=>vs[i]?=some v) (λi h=>h.IsTupleIter I T i/\h.IsTuple T vs)where
 live:=λ_ _ b=>let⟨o,e,_⟩:=b.1;⟨o,e⟩
 frame:=λ_ _ _ b k=>⟨b.1.at λo e=>k I (by simp) o e,let⟨o,e,r⟩:=b.2;⟨o,k T (by simp) o e,r⟩⟩
 item:=λi s Q E f b q=>Vs b.1 b.2 (v:=vs[i]) (by simp[f]) λm j g=>q _ m s.toks (by simp[f]) ⟨j,b.2.extBut g.extBut ne⟩ g
 done:=λs Q E b q=>Zs n b.1 b.2 (by simp) q
def Dg:Bool->Heap->Addr->Addr->Nat->Prop
 |true,h,I,T,i=>h.IsTupleIter I T i
 |false,h,I,T,i=>h.IsListIter I T i
def Ek:Bool->Heap->Addr->Array nL->Prop
 |true,h,T,b=>h.IsTuple T b
 |false,h,T,b=>h.IsList T b
def Vh:Bool->String
 |true=>"tuple_iterator"
 |false=>"list_iterator"
def Sq:Bool->W.Frag->Hp->Addr->List V->Prop
 |true,K,H,a,b=>Ax K H a b
 |false,K,H,a,b=>Ar K H a b
theorem F9(e:A.handled=none)(b:Bool)(I T:Addr)(ne:T≠I)(vs:Array nL):Draws P w A I [I,T] vs.size (λi v=>vs[i]?=some v) (λi h=>Dg b h I T i/\Ek b h T vs):=by
 cases b
 ·exact Draws.list e I T ne vs
 ·exact uq e I T ne vs
theorem Dg.data(x:Dg b h I T i):∃o,h.get? I=some o/\o.cls=.type (Vh b)/\o.data=.fields #[.ref T,.int i 0]:=by cases b<;>exact x
theorem Dg.of(x:∃o,h.get? I=some o/\o.cls=.type (Vh b)/\o.data=.fields #[.ref T,.int i 0]):Dg b h I T i:=by cases b<;>exact x
theorem Dg.at'(x:Dg b h I T i)(k:∀o,h.get? I=some o->h'.get? I=some o):Dg b h' I T i:=by
 obtain⟨o,e,r⟩:=x.data;exact .of ⟨o,k _ e,r⟩
theorem Ek.at'(x:Ek b h T vs)(k:∀o,h.get? T=some o->h'.get? T=some o):Ek b h' T vs:=by
 cases b<;>exact let⟨o,e,r⟩:=x;⟨o,k _ e,r⟩
theorem Ek.lt(x:Ek b h T vs):T<h.objs.size:=by
 cases b<;>exact let⟨_,e,_⟩:=x;dr e
theorem Dg.lt(x:Dg b h I T i):I<h.objs.size:=by
 obtain⟨_,e,_⟩:=x.data;exact dr e
theorem Dg.ne(x:Dg b h I T i)(y:Ek c h T vs):T≠I:=by
 rintro rfl;obtain⟨o,e,k,_⟩:=x.data;cases c<;>(obtain⟨j,f,g,_⟩:=y;rw[e]at f;cases f;rw[k]at g;cases b<;>simp[Vh]at g)
theorem dk(x:Ek b s.heap T vs)
  (q:Q #[2] {s with heap:=s.heap.push {cls:=.type (Vh b),data:=.fields #[.ref T,.int 0 0] } }):wpAny #[9] A (pyIter (.ref T)) Q E s:=by
 cases b
 ·exact wpAny_pyIter_list x q
 ·exact wpAny_pyIter_tuple x q
section
variable {X:Cx}{pins:List #[18]}{σ:St}{H:Hp}{s:nB}
theorem Ak.sq(I:Ak X pins σ H s)(q:Sq b X.K H a xs):∃us,B0 xs us/\Ek b s.heap a us.toArray:=by
 cases b
 ·obtain⟨us,r,p,_⟩:=I.list q;exact{us,r,p.isList}
 ·obtain⟨us,r,p,_⟩:=I.tuple q;exact{us,r,p}
theorem Ak.mX(I:Ak X pins σ H s)(q:Sq b X.K H a xs)(r:Sq b X.K H a ys):xs=ys:=by
 cases b
 ·exact I.lI q r
 ·exact I.jL q r
end
open AutoSeq1 (wpAny_loadPart')
structure DU(z TI TO i1 i2 l1 l2:Nat):Prop where
 a:TI≠z
 b:TO≠z
 c:i1≠z
 d:i2≠z
 e:TI≠TO
 f:TI≠i1
 g:TI≠i2
 h:TO≠i1
 i:TO≠i2
 j:i1≠i2
 k1:l1≠z/\l1≠TO/\l1≠i1/\l1≠i2
 k2:l2≠z/\l2≠TO/\l2≠i1/\l2≠i2
section
variable {P:nP}{w:n4}{A:nU}{E:mD}{s:nB}
theorem ap{z TI TO g h m n:Addr}{b1 b2:Bool}{k:Nat}{xs ys:Array nL}{x y a b:nL}{Q:mD}(no:A.handled=none)(D:DU z TI TO g h m n)
  (hz:IsZip s.heap z TI TO .none)(lN:IsPair s.heap TI (.ref g) (.ref h))(mH:IsPair s.heap TO a b)(h1:Dg b1 s.heap g m k)(h2:Dg b2 s.heap h n k)(q1:Ek b1 s.heap m xs)(q2:Ek b2 s.heap n ys)(Z:xs[k]?=some x)(hy:ys[k]?=some y)
  (hQ:∀h' tk,IsZip h' z TI TO (rawInt s.heap.objs.size)->IsPair h' TO x y->Dg b1 h' g m (k+1)->Dg b2 h' h n (k+1)->IsPair h' s.heap.objs.size x y->
   (∀c o,c≠z->c≠TO->c≠g->c≠h->s.heap.get? c=some o->h'.get? c=some o)->Q #[2] {s with heap:=h',toks:=tk}):
  wpAny #[9] A (Builtin.«zip.__next__» ⟨[.ref z],[]⟩) (λR s'=>∃v,R=.done (.ret v)/\Q v s') E s:=by
 have GH:k<xs.size:=(jA.mp Z).1;have uV:k<ys.size:=(jA.mp hy).1;show wpAny _ _ (field (.ref z) 2>>=λ_=>_) _ _ _;refine ag (wpAny_field hz rfl (x:=.bool false) rfl ?_);show wpAny _ _ (field (.ref z) 3>>=λ_=>_) _ _ _;refine ag (wpAny_field hz rfl (x:=.ref TI) rfl (ag (gd lN rfl ?_)));show wpAny _ _ (Builtin.SmallTypes.ownedTupleIsFree (.ref z)>>=λ_=>_) _ _ _;refine ag ?_;unfold Builtin.SmallTypes.ownedTupleIsFree;refine ag (wpAny_field hz rfl (x:=.none) rfl (aN ?_));simp only[if_true];refine ag (la (ag (wpAny_field hz rfl (x:=.ref TO) rfl (ag (wpAny_setField_rec hz (by simp) λm1 X j=>?_)))))
 replace X:IsZip m1 z TI TO .ellipsis:=X;refine ag ?_;simp only[List.zipIdx_cons,List.zipIdx_nil,List.forIn_cons,List.forIn_nil];refine ag (ag (wpAny_onRaise ?_));show wpAny _ _ (Builtin.SmallTypes.nextOf (.ref g)>>=λ_=>_) _ _ _;refine ag ((F9 no b1 g m D.k1.2.2.1 xs).item k _ _ _ GH ⟨h1.at' λo e=>j.extBut _ _ D.c e,q1.at' λo e=>j.extBut _ _ D.k1.1 e⟩ λu m2 iQ RJ ⟨g1,_⟩ p=>aN ?_)
 have N:u=x:=by
  have z:=RJ.symm.trans Z;exact en z
 subst N;have w2:IsPair m2 TO a b:=p.extBut _ _ D.h (j.extBut _ _ D.b mH);refine ag (gd w2 rfl (ag (wpAny_updateSeq_pair w2 λm3 U q=>?_)))
 replace U:IsPair m3 TO u b:=U;refine ag (wpAny_letGo (aN (ag (ag (wpAny_onRaise ?_)))));show wpAny _ _ (Builtin.SmallTypes.nextOf (.ref h)>>=λ_=>_) _ _ _;refine ag ((F9 no b2 h n D.k2.2.2.2 ys).item k _ _ _ uV ⟨h2.at' λo e=>q.extBut _ _ D.i.symm (p.extBut _ _ D.j.symm (j.extBut _ _ D.d e)),q2.at' λo e=>q.extBut _ _ D.k2.2.1 (p.extBut _ _ D.k2.2.2.1 (j.extBut _ _ D.k2.1 e))⟩ λJ m4 tk4 GI ⟨g2,_⟩ B=>aN ?_)
 have O:J=y:=by
  have z:=GI.symm.trans hy;exact en z
 subst O;have w4:IsPair m4 TO u b:=B.extBut _ _ D.i U;refine ag (gd w4 rfl (ag (wpAny_updateSeq_pair w4 λf I C=>?_)))
 replace I:IsPair f TO u J:=I;refine ag (wpAny_letGo (aN (aN (ag (gd I rfl (ag (wpAny_newTuple ?_)))))));have sz:f.objs.size=s.heap.objs.size:=by rw[C.1,B.1,q.1,p.1,j.1]
 have z5:IsZip f z TI TO .ellipsis:=C.extBut _ _ D.b.symm (B.extBut _ _ D.d.symm (q.extBut _ _ D.b.symm (p.extBut _ _ D.c.symm X)));have kp:∀c o,c≠z->c≠TO->c≠g->c≠h->s.heap.get? c=some o->f.get? c=some o:=λc o i G L M e=>C.extBut _ _ G (B.extBut _ _ M (q.extBut _ _ G (p.extBut _ _ L (j.extBut _ _ i e))));have S:Dg b1 f g m (k+1):=g1.at' λo e=>C.extBut _ _ D.h.symm (B.extBut _ _ D.j (q.extBut _ _ D.h.symm e));have T:Dg b2 f h n (k+1):=g2.at' λo e=>C.extBut _ _ D.i.symm e;have F:z<f.objs.size:=dr z5;show wpAny _ _ (Builtin.SmallTypes.ownedTupleHandOut (.ref z) (.ref f.objs.size)>>=λ_=>_) _ _ _;refine ag ?_;unfold Builtin.SmallTypes.ownedTupleHandOut;have z6:IsZip (f.push {cls:=.type "tuple",data:=.seq #[u,J] }) z TI TO .ellipsis:=cb _ z5;refine ag (wpAny_setField_rec z6 (by simp) λm7 Y t7=>?_)
 replace Y:IsZip m7 z TI TO (rawInt f.objs.size):=Y;refine wpAny_setField_rec Y (by simp) λH K t8=>?_
 replace K:IsZip H z TI TO (rawInt f.objs.size):=K;have up:∀c o,c≠z->f.get? c=some o->H.get? c=some o:=λc o i e=>t8.extBut _ _ i (t7.extBut _ _ i (cb _ e));have p8:IsPair H f.objs.size u J:=t8.extBut _ _ (Nat.ne_of_gt F) (t7.extBut _ _ (Nat.ne_of_gt F) (cX _ rfl));rw[sz]at K p8;refine aN ⟨_,rfl,?_⟩;show Q (.ref f.objs.size) _;rw[sz];exact hQ H _ K (up _ _ D.b I) (S.at' λo e=>up _ o D.c e) (T.at' λo e=>up _ o D.d e) p8 λc o i G L M e=>up c o i (kp c o i G L M e)
theorem jv{z TI TO f n i u:Addr}{b1 b2:Bool}{k:Nat}{xs ys:Array nL}{a b:nL}{Q:Fin->nB->Prop}(G:A.handled=none)(D:DU z TI TO f n i u)
  (hz:IsZip s.heap z TI TO .none)(Y:IsPair s.heap TI (.ref f) (.ref n))(mH:IsPair s.heap TO a b)(h1:Dg b1 s.heap f i k)(X:Dg b2 s.heap n u k)(q1:Ek b1 s.heap i xs)(q2:Ek b2 s.heap u ys)(R:k=xs.size\/(k<xs.size/\k=ys.size))
  (I:∀h' tk e,(∀c o,c≠z->c≠TO->c≠f->c≠n->s.heap.get? c=some o->h'.get? c=some o)->(∃o,h'.get? e=some o/\o.cls=.type "StopIteration")->E (.ref e) {s with heap:=h',toks:=tk}):
  wpAny #[9] A (Builtin.«zip.__next__» ⟨[.ref z],[]⟩) Q E s:=by
 show wpAny _ _ (field (.ref z) 2>>=λ_=>_) _ _ _;refine ag (wpAny_field hz rfl (x:=.bool false) rfl ?_);show wpAny _ _ (field (.ref z) 3>>=λ_=>_) _ _ _;refine ag (wpAny_field hz rfl (x:=.ref TI) rfl (ag (gd Y rfl ?_)));show wpAny _ _ (Builtin.SmallTypes.ownedTupleIsFree (.ref z)>>=λ_=>_) _ _ _;refine ag ?_;unfold Builtin.SmallTypes.ownedTupleIsFree;refine ag (wpAny_field hz rfl (x:=.none) rfl (aN ?_));simp only[if_true];refine ag (la (ag (wpAny_field hz rfl (x:=.ref TO) rfl (ag (wpAny_setField_rec hz (by simp) λm1 v j=>?_)))))
 replace v:IsZip m1 z TI TO .ellipsis:=v;refine ag ?_;simp only[List.zipIdx_cons,List.zipIdx_nil,List.forIn_cons,List.forIn_nil];refine ag (ag (wpAny_onRaise ?_));show wpAny _ _ (Builtin.SmallTypes.nextOf (.ref f)>>=λ_=>_) _ _ _;have C:Dg b1 m1 f i k:=h1.at' λo e=>j.extBut _ _ D.c e;have J:Ek b1 m1 i xs:=q1.at' λo e=>j.extBut _ _ D.k1.1 e;rcases R with rfl|⟨S,rfl⟩
 ·refine ag ((F9 G b1 f i D.k1.2.2.1 xs).done _ _ _ ⟨C,J⟩ λm2 e g F=>?_);obtain⟨H,h,p⟩:=F;have N:IsZip m2 z TI TO .ellipsis:=g _ _ D.c.symm v;have y:e≠z:=λx=>by subst x;rw[N]at h;cases h;simp at p
  exact wpAny_setField_rec N (by simp) λm3 _ m=>I m3 _ e (λc o q _ B _ x=>m.extBut _ _ q (g _ _ B (j.extBut _ _ q x))) ⟨H,m.extBut _ _ y h,p⟩
 ·refine ag ((F9 G b1 f i D.k1.2.2.1 xs).item _ _ _ _ S ⟨C,J⟩ λx' m2 iQ RJ ⟨C,_⟩ g=>aN ?_);have M:IsPair m2 TO a b:=g.extBut _ _ D.h (j.extBut _ _ D.b mH);refine ag (gd M rfl (ag (wpAny_updateSeq_pair M λm3 w3 m=>?_)));refine ag (wpAny_letGo (aN (ag (ag (wpAny_onRaise ?_)))));show wpAny _ _ (Builtin.SmallTypes.nextOf (.ref n)>>=λ_=>_) _ _ _;refine ag ((F9 G b2 n u D.k2.2.2.2 ys).done _ _ _ ⟨X.at' λo e=>m.extBut _ _ D.i.symm (g.extBut _ _ D.j.symm (j.extBut _ _ D.d e)),q2.at' λo e=>m.extBut _ _ D.k2.2.1 (g.extBut _ _ D.k2.2.2.1 (j.extBut _ _ D.k2.1 e))⟩ λZ e K F=>?_);obtain⟨H,h,p⟩:=F;have O:IsZip Z z TI TO .ellipsis:=K _ _ D.d.symm (m.extBut _ _ D.b.symm (g.extBut _ _ D.c.symm v));have y:e≠z:=λx=>by subst x;rw[O]at h;cases h;simp at p
  exact wpAny_setField_rec O (by simp) λm5 _ L=>I m5 _ e (λc o q T B U x=>L.extBut _ _ q (K _ _ U (m.extBut _ _ T (g.extBut _ _ B (j.extBut _ _ q x))))) ⟨H,L.extBut _ _ y h,p⟩
abbrev sw(b1:Bool)(h:Heap)(b:Addr):Heap:=h.push {cls:=.type (Vh b1),data:=.fields #[.ref b,.int 0 0] }
abbrev ON(b1 b2:Bool)(h:Heap)(b e:Addr):Heap:=(sw b1 h b).push {cls:=.type (Vh b2),data:=.fields #[.ref e,.int 0 0] }
abbrev OO(b1 b2:Bool)(h:Heap)(b e:Addr):Heap:=(ON b1 b2 h b e).push {cls:=.type "tuple",data:=.seq #[.ref h.objs.size,.ref (sw b1 h b).objs.size] }
abbrev OP(b1 b2:Bool)(h:Heap)(b e:Addr):Heap:=(OO b1 b2 h b e).push {cls:=.type "tuple",data:=.seq #[.none,.none] }
abbrev DV(b1 b2:Bool)(h:Heap)(b e:Addr):Heap:=(OP b1 b2 h b e).push {cls:=.type "zip",data:=.fields #[.none,.bool false,.bool false,.ref (ON b1 b2 h b e).objs.size,.ref (OO b1 b2 h b e).objs.size] }
theorem Wt(b1 b2:Bool)(b f:Addr)(xs ys:Array nL):Meets (Builtin.«zip.__new__» ⟨[.type "zip",.ref b,.ref f],[]⟩) (λ_ R s=>Ek b1 s.heap b xs/\Ek b2 s.heap f ys/\R (.ok (.ret (.ref (OP b1 b2 s.heap b f).objs.size))) {s with heap:=DV b1 b2 s.heap b f}):=
 .of_wp λm w A R s h=>by
  obtain⟨i,g,d,n,j⟩:=s;obtain⟨p,q,h⟩:=h;have x:=sub_zip;have u:Ek b1 (Shared.heap ⟨i,g,d,n,j⟩) b xs:=p;have v:Ek b2 (Shared.heap ⟨i.push {cls:=.type (Vh b1),data:=.fields #[.ref b,.int 0 0] },g,d,n,j⟩) f ys:=Ek.at' q λo e=>cb _ e
  wp_walk using dk u,dk v
  exact{_,rfl,h}
theorem ao(y:Ek b1 s.heap b xs)(z:Ek b2 s.heap e ys)
  (h:∀h',IsZip h' (s.heap.objs.size+4) (s.heap.objs.size+2) (s.heap.objs.size+3) .none->IsPair h' (s.heap.objs.size+2) #[2] (.ref (s.heap.objs.size+1))->
   IsPair h' (s.heap.objs.size+3) .none .none->Dg b1 h' s.heap.objs.size b 0->Dg b2 h' (s.heap.objs.size+1) e 0->(∀c o,s.heap.get? c=some o->h'.get? c=some o)->Q (.ref (s.heap.objs.size+4)) {s with heap:=h'}):
  wpAny #[9] A (call (.type "zip") [.ref b,.ref e]) Q E s:=by
 refine callType_new F.called_zip #[17] (F.typeCall_zip_2 _ _) (F.newCall_zip_2 _ _) (λm=>F.args_object_init_3 m _ _) F.entry_zip_new (Wt b1 b2 b e xs ys) ⟨y,z,?_⟩;have g:(sw b1 s.heap b).objs.size=s.heap.objs.size+1:=Heap.size_push ..;have i:(ON b1 b2 s.heap b e).objs.size=s.heap.objs.size+2:=by rw[Heap.size_push,g]
 have j:(OO b1 b2 s.heap b e).objs.size=s.heap.objs.size+3:=by rw[Heap.size_push,i]
 have u:(OP b1 b2 s.heap b e).objs.size=s.heap.objs.size+4:=by rw[Heap.size_push,j]
 have f:(DV b1 b2 s.heap b e).get? (OP b1 b2 s.heap b e).objs.size=some _:=cX _ rfl;have q:(DV b1 b2 s.heap b e).get? (OO b1 b2 s.heap b e).objs.size=some _:=cb _ (cX _ rfl);have p:(DV b1 b2 s.heap b e).get? (ON b1 b2 s.heap b e).objs.size=some _:=cb _ (cb _ (cX _ rfl));have n:(DV b1 b2 s.heap b e).get? (sw b1 s.heap b).objs.size=some _:=cb _ (cb _ (cb _ (cX _ rfl)));have v:(DV b1 b2 s.heap b e).get? s.heap.objs.size=some _:=cb _ (cb _ (cb _ (cb _ (cX _ rfl))));show _/\_;rw[i,j,u]at f;rw[g,i]at p;rw[j]at q;rw[g]at n;rw[u];exact{{_,f,rfl},h _ f p q (.of {_,v,rfl,rfl}) (.of {_,n,rfl,rfl}) λc o x=>cb _ (cb _ (cb _ (cb _ (cb _ x))))}
end
open AutoSeq1 (wpAny_loadPart')
section
variable {P:nP}{w:n4}{A:nU}{E:mD}{s:nB}
theorem Wv{z TI TO e f g h:Addr}{b1 b2:Bool}{k:Nat}{xs ys:Array nL}{x y a b:nL}{Q:Option nL->nB->Prop}(J:A.in1.handled=none)(D:DU z TI TO e f g h)
  (hz:IsZip s.heap z TI TO .none)(H:IsPair s.heap TI (.ref e) (.ref f))(I:IsPair s.heap TO a b)(h1:Dg b1 s.heap e g k)(v:Dg b2 s.heap f h k)(K:Ek b1 s.heap g xs)(L:Ek b2 s.heap h ys)(C:xs[k]?=some x)(G:ys[k]?=some y)
  (B:∀h' i,IsZip h' z TI TO (rawInt s.heap.objs.size)->IsPair h' TO x y->Dg b1 h' e g (k+1)->Dg b2 h' f h (k+1)->IsPair h' s.heap.objs.size x y->
   (∀c o,c≠z->c≠TO->c≠e->c≠f->s.heap.get? c=some o->h'.get? c=some o)->Q (some #[2]) {s with heap:=h',toks:=i}):
  wpAny #[9] A (pyNext (.ref z)) Q E s:=by
 have ty:s.TypeIs (.ref z) "zip":={_,hz,rfl};unfold pyNext
 exact ag (mu (mr (name:=Str.ofString "__next__") ty F.slot_zip_next (g6 F.slot_zip_next ty F.entry_zip_next
   (ap J D hz H I h1 v K L C G λh' i j m n p q u=>aN (B h' i j m n p q u)) (F.args_zip_next_1 _))))
theorem Wu{z TI TO f g h i:Addr}{b1 b2:Bool}{k:Nat}{xs ys:Array nL}{a b:nL}{Q:Option nL->nB->Prop}(B:A.in1.handled=none)(D:DU z TI TO f g h i)
  (hz:IsZip s.heap z TI TO .none)(x:IsPair s.heap TI (.ref f) (.ref g))(y:IsPair s.heap TO a b)(h1:Dg b1 s.heap f h k)(n:Dg b2 s.heap g i k)(C:Ek b1 s.heap h xs)(G:Ek b2 s.heap i ys)(m:k=xs.size\/(k<xs.size/\k=ys.size))
  (p:∀h' j,(∀c o,c≠z->c≠TO->c≠f->c≠g->s.heap.get? c=some o->h'.get? c=some o)->Q none {s with heap:=h',toks:=j}):wpAny #[9] A (pyNext (.ref z)) Q E s:=by
 have ty:s.TypeIs (.ref z) "zip":={_,hz,rfl};unfold pyNext
 refine ag (mu (mr (name:=Str.ofString "__next__") ty F.slot_zip_next (g6 F.slot_zip_next ty F.entry_zip_next
   (jv B D hz x y h1 n C G m λh' j e k u=>?_) (F.args_zip_next_1 _))))
 obtain⟨o,v,q⟩:=u;exact ag (jT (T:="StopIteration") (b:=true) ⟨o,v,q⟩ isSubtype_stop (aN (p _ _ k)))
end
def Yg(K:W.Frag)(b1 b2:Bool)(f g:Addr):It:=
 ⟨λi H=>∃b e x y,Sq b1 K H f b/\Sq b2 K H g e/\b[i]?=some x/\e[i]?=some y,
  λi H v h=>∃T x y,v=.ref T/\H T=none/\h=upd H T (.tup [x,y])/\(∀b,Sq b1 K H f b->b[i]?=some x)/\∀e,Sq b2 K H g e->e[i]?=some y,
  λi H=>∃b e,Sq b1 K H f b/\Sq b2 K H g e/\(b.length=i\/(i<b.length/\e.length=i))⟩
theorem ai{P:nP}{w:n4}{K:W.Frag}{J:List Expr}{kk:Nat}{pos:Pos}{b1 b2:Bool}{z TI TO B C l1 l2:Addr}(D:DU z TI TO B C l1 l2):
  R8 P w K (.Tuple J kk pos) (Yg K b1 b2 l1 l2) [z,TI,TO,B,C] z (λi h=>IsZip h z TI TO .none/\IsPair h TI (.ref B) (.ref C)/\(∃a b,IsPair h TO a b)/\Dg b1 h B l1 i/\Dg b2 h C l2 i)where
 mem:=c4
 obj:=λi h ⟨j,m,⟨a,b,u⟩,n,p⟩ c f=>by
  obtain⟨o1,e1,G,d1⟩:=n.data;obtain⟨o2,e2,c2,d2⟩:=p.data;simp only[List.mem_cons,List.not_mem_nil,or_false]at f;rcases f with rfl|rfl|rfl|rfl|rfl
  ·exact{_,j,λv q=>by cases q}
  ·exact{_,m,λv q=>by cases q}
  ·exact{_,u,λv q=>by cases q}
  ·exact{_,e1,λv q=>by rw[d1]at q;cases q}
  ·exact{_,e2,λv q=>by rw[d2]at q;cases q}
 keep:=λi h h' ⟨j,m,⟨a,b,u⟩,n,p⟩ g=>
  ⟨g z (by simp) _ j,g TI (by simp) _ m,⟨a,b,g TO (by simp) _ u⟩,n.at' λo e=>g B (by simp) o e,p.at' λo e=>g C (by simp) o e⟩
 item:=by
  intro X Z hw Y f i L s σ H E I M ⟨j,m,⟨a,b,u⟩,n,p⟩ ⟨xs,ys,x,y,N,O,ex,ey⟩;subst Z hw Y;obtain⟨kL,r1,p1⟩:=I.sq N;obtain⟨fJ,r2,p2⟩:=I.sq O;obtain⟨u1,OQ,uW⟩:=r1.get ex;obtain⟨u2,U,GK⟩:=r2.get ey;refine Wv (I.ok.hd f) D j m u n p p1 p2 (by simpa using OQ) (by simpa using U) λh' tk a1 a2 a3 a4 a5 g=>⟨_,rfl,?_⟩;refine wpAny_letOwnedTupleGo_zip a1 λGL BE F=>?_;have qR:z<s.heap.objs.size:=dr j;have wN:IsPair GL s.heap.objs.size u1 u2:=F.extBut _ _ (Nat.ne_of_gt qR) a5;refine{.ref s.heap.objs.size,upd H s.heap.objs.size (.tup [x,y]),I.iM (t':=tk) (ch:=[z,TI,TO,B,C]) M (λc o f e=>?_) (de _) ?_,rfl,{_,x,y,rfl,I.fresh,rfl,λSO q=>?_,λwM q=>?_},{BE,?_,{u1,u2,?_},?_,?_},λc f=>?_}
  ·simp only[List.mem_cons,List.not_mem_nil,or_false,not_or]at f;obtain⟨G,c2,R,S,T⟩:=f;exact F.extBut _ _ G (g c o G R S T e)
  ·exact{{ea (by decide:2<=1000) (E4 (de _)),_,wN,rfl},[u1,u2],.cons uW (.cons GK .nil),{_,wN,rfl,0,rfl}}
  ·rw[I.mX q N];exact ex
  ·rw[I.mX q O];exact ey
  ·exact F.extBut _ _ D.a (g TI _ D.a D.e D.f D.g m)
  ·exact F.extBut _ _ D.b a2
  ·exact a3.at' λo e=>F.extBut _ _ D.c e
  ·exact a4.at' λo e=>F.extBut _ _ D.d e
  ·rw[A9]
   ·exact(M c f).1
   ·have lt:c<s.heap.objs.size:=by
     simp only[List.mem_cons,List.not_mem_nil,or_false]at f;rcases f with rfl|rfl|rfl|rfl|rfl
     ·exact qR
     ·exact dr m
     ·exact dr u
     ·exact n.lt
     ·exact p.lt
    exact fe lt
 done:=by
  intro X Z hw Y f i L s σ H E I M ⟨j,m,⟨a,b,u⟩,n,p⟩ ⟨xs,ys,N,O,he⟩;subst Z hw Y;obtain⟨kL,r1,p1⟩:=I.sq N;obtain⟨fJ,r2,p2⟩:=I.sq O;have n1:=r1.length;have n2:=r2.length;refine Wu (I.ok.hd f) D j m u n p p1 p2 ?_ λh' tk g=>⟨rfl,I.iP (t':=tk) (ch:=[z,TI,TO,B,C]) M λc o f e=>?_⟩
  ·simp only[List.size_toArray];omega
  ·simp only[List.mem_cons,List.not_mem_nil,or_false,not_or]at f;obtain⟨G,c2,R,S,T⟩:=f;exact g c o G R S T e
 self:=λA i s Q E ⟨j,_⟩ hQ=>wpAny_pyIter_zip j hQ
theorem uw(h1:b<n)(f:e<n):DU (n+4) (n+2) (n+3) n (n+1) b e:=
 ⟨by omega,by omega,by omega,by omega,by omega,by omega,by omega,by omega,by omega,by omega,⟨by omega,by omega,by omega,by omega⟩,⟨by omega,by omega,by omega,by omega⟩⟩
section
variable {X:Cx}
inductive dc(K:W.Frag)(R:It->Hp->Prop)(vs:List V)(H1:Hp):Prop
 |mk (b1 b2:Bool) (a b:Addr) (bW:vs=[.ref a,.ref b]) (bO:(∃xs,Sq b1 K H1 a xs)) (cB:(∃ys,Sq b2 K H1 b ys)) (dM:R (Yg K b1 b2 a b) H1):dc K R vs H1
def A35(K:W.Frag)(b:TA):TI:=λe H R=>b e H (dc K R)
theorem S9{j:List Expr}{U:Nat}{Y:Pos}{a b:Expr}{A:TA}{p pos:Pos}(N:Gl X "zip")(P:X.mg "zip"=none)(M:PA X [a,b] A)(Q:starEach [a,b] X.env=[(false,eval a X.env),(false,eval b X.env)]:=by rfl)(x:starEach [b] X.env=[(false,eval b X.env)]:=by rfl):
  PI X (.Tuple j U Y) (.Call (.Name "zip" p) [a,b] [] pos) (A35 X.K A):=by
 intro g s B H R I h;refine Call_ (Fb I N P boot_zip (PyProof.Rows.callWith_type1 (Bq (M pos g s B H _ I h) λus f ⟨vs,o,i,r1,Z⟩=>?_) (by rw[Q,x]) (by rw[x];rfl)));obtain⟨b1,b2,l1,l2,e,⟨xs,S⟩,⟨ys,T⟩,q⟩:=Z;subst e;obtain⟨u1,u2,rfl,uW,C⟩:=Ya r1;cases uW;cases C;obtain⟨kL,rr1,y⟩:=i.sq S;obtain⟨fJ,rr2,z⟩:=i.sq T;have D:=y.lt;have n:=z.lt;refine ao y z λL u F G J K O=>?_;refine wpAny_pyIter_zip u ?_;have E:Ak X g B o {f with heap:=L}:=i.kept (t':=f.toks) O;refine{f.heap.objs.size+4,[f.heap.objs.size+4,f.heap.objs.size+2,f.heap.objs.size+3,f.heap.objs.size,f.heap.objs.size+1],_,_,o,rfl,E,ai (uw D n),{u,F,{_,_,G},J,K},λc v=>?_,q}
 have m:f.heap.objs.size<=c:=by
  simp only[List.mem_cons,List.not_mem_nil,or_false]at v;rcases v with rfl|rfl|rfl|rfl|rfl<;>omega
 exact i.lJ m (i.aJ.fresh m)
end
def Yf(K:W.Frag)(b:Bool)(l:Addr):It:=
 ⟨λi H=>∃e x,Sq b K H l e/\e[i]?=some x,
  λi H v f=>∃T x,v=.ref T/\H T=none/\f=upd H T (.tup [.int i,x])/\∀e,Sq b K H l e->e[i]?=some x,
  λi H=>∃e,Sq b K H l e/\e.length=i⟩
theorem Wo{P:nP}{w:n4}{K:W.Frag}{p:List Expr}{kk:Nat}{pos:Pos}{b:Bool}{e it l:Addr}(G:e≠it)(SQ:e≠l):
  R8 P w K (.Tuple p kk pos) (Yf K b l) [e,it] e (λi h=>(∃g,IsEnum h e it i g)/\Dg b h it l i)where
 mem:=c4
 obj:=λi h ⟨⟨g,m⟩,j⟩ c f=>by
  obtain⟨o1,e1,c1,d1⟩:=j.data;simp only[List.mem_cons,List.not_mem_nil,or_false]at f;rcases f with rfl|rfl
  ·exact{_,m,λv q=>by cases q}
  ·exact{_,e1,λv q=>by rw[d1]at q;cases q}
 keep:=λi h Y ⟨⟨g,m⟩,j⟩ n=>⟨⟨g,n e (by simp) _ m⟩,j.at' λo q=>n it (by simp) o q⟩
 item:=by
  intro X M N L f i C s σ H E I D ⟨⟨g,m⟩,j⟩ ⟨xs,x,F,U⟩;subst M N L;obtain⟨y,R,B⟩:=I.sq F;obtain⟨u1,T,uW⟩:=R.get U
  have GN:i<y.toArray.size:=by
   have:=(b0.mp T).1;simpa using this
  refine wpAny_pyNext_enum_itemD (F9 (A:=X.A.in1) (I.ok.hd f) b it l (j.ne B) y.toArray) m ⟨j,B⟩ GN G (by simp[G,SQ]) λu Y S eu a1 a2 a3 a4 n=>⟨_,rfl,?_⟩;have e2:u=u1:=en (eu.symm.trans (by simpa using T));subst e2;refine wpAny_letOwnedTupleGo_enum a1 λGL BE O=>?_;have Z:e<s.heap.objs.size:=dr m;have wN:GL.get? s.heap.objs.size=some {cls:=.type "tuple",data:=.seq #[.int i S,u] }:=O.extBut _ _ (Nat.ne_of_gt Z) a3;refine{.ref s.heap.objs.size,upd H s.heap.objs.size (.tup [.int i,x]),I.iM (t':=S+1) (ch:=[e,it]) D (λc o f J=>?_) (de _) ?_,rfl,{_,x,rfl,I.fresh,rfl,λSO q=>?_},{{u,?_},?_},λc f=>?_}
  ·simp only[List.mem_cons,List.not_mem_nil,or_false,not_or]at f;exact O.extBut _ _ f.1 (n c o f.1 f.2 J)
  ·exact{{ea (by decide:2<=1000) (E4 (de _)),_,wN,rfl},[.int i S,u],.cons {_,rfl} (.cons uW .nil),{_,wN,rfl,0,rfl}}
  ·rw[I.mX q F];exact U
  ·have z:=BE;rw[show((i:Int)+1)=((i+1:Nat):Int)by omega]at z;exact z
  ·exact a2.1.at' λo eo=>O.extBut _ _ (Ne.symm G) eo
  ·rw[A9]
   ·exact(D c f).1
   ·simp only[List.mem_cons,List.not_mem_nil,or_false]at f;rcases f with rfl|rfl
    ·exact fe Z
    ·exact fe j.lt
 done:=by
  intro X M N L f i C s σ H E I D ⟨⟨g,m⟩,j⟩ ⟨xs,F,hl⟩;subst M N L;obtain⟨y,R,B⟩:=I.sq F;have n1:=R.length;have n2:i=y.toArray.size:=by simp only[List.size_toArray];omega
  subst n2;refine wpAny_pyNext_enum_endD (F9 (A:=X.A.in1) (I.ok.hd f) b it l (j.ne B) y.toArray) m ⟨j,B⟩ λY n=>⟨rfl,I.iP (t':=s.toks) (ch:=[e,it]) D λc o f J=>?_⟩;simp only[List.mem_cons,List.not_mem_nil,or_false,not_or]at f;exact n c o f.2 J
 self:=λA i s Q E ⟨⟨g,m⟩,_⟩ hQ=>wpAny_pyIter_enum m hQ
theorem Tk(l:Addr)(b:Array nL)(n:Nat)(j:Option Addr)(p:Array (Option nL)):
  Meets (Builtin.«enumerate.__new__» ⟨[.type "enumerate",.ref l],[]⟩) (λ_ R s=>s.heap.get? l=some {cls:=.type "tuple",dict:=j,data:=.seq b n,slots:=p}/\
   R (.ok (.ret (.ref (sw true s.heap l).objs.size))) {s with heap:=(sw true s.heap l).push {cls:=.type "enumerate",data:=.fields #[.none,.bool false,.ref s.heap.objs.size,rawInt 0,.none,.none] } }):=
 .of_wp λi w A R s h=>by
  obtain⟨m,g,d,q,o⟩:=s;obtain⟨e,h⟩:=h;have u:=sub_enumerate;have f:Heap.IsTuple (Shared.heap ⟨m,g,d,q,o⟩) l b:={_,e,rfl,n,rfl}
  wp_walk using wpAny_loadPart' e
  refine wpAny_stack_any λv=>aN ?_;split
  ·rename_i c _ _ _ _ _;cases(c==Value.type "enumerate")
   ·wp_walk using wpAny_loadPart' e,wpAny_pyIter_tuple f
    exact{_,rfl,h}
   ·wp_walk using wpAny_loadPart' e,wpAny_pyIter_tuple f
    exact{_,rfl,h}
  ·wp_walk using wpAny_loadPart' e,wpAny_pyIter_tuple f
   exact{_,rfl,h}
theorem Va(u:s.heap.IsTuple l e)
  (h:∀h',IsEnum h' (s.heap.objs.size+1) s.heap.objs.size 0 .none->h'.IsTupleIter s.heap.objs.size l 0->#[4]->Q (.ref (s.heap.objs.size+1)) {s with heap:=h'}):
  wpAny #[9] A (call (.type "enumerate") [.ref l]) Q E s:=by
 obtain⟨⟨c,j,m,B⟩,z,v,n,y⟩:=u;have p:c=.type "tuple":=v;have q:m=.seq e n:=y;subst p q;refine callType_new F.called_enumerate #[17] (F.typeCall_enumerate_1 _) (F.newCall_enumerate_1 _) (λg=>F.args_object_init_2 g _) F.entry_enumerate_new (Tk l e n j B) ⟨z,?_⟩;have i:(sw true s.heap l).objs.size=s.heap.objs.size+1:=Heap.size_push ..;show _/\_;rw[i];have f:=cX (sw true s.heap l) (o:={cls:=.type "enumerate",data:=.fields #[.none,.bool false,.ref s.heap.objs.size,rawInt 0,.none,.none] }) rfl;rw[i]at f;exact{{_,f,rfl},h _ f {_,cb _ (cX _ rfl),rfl,rfl} λb o x=>cb _ (cb _ x)}
section
variable {X:Cx}
inductive Xd(K:W.Frag)(R:It->Hp->Prop)(vs:List V)(H1:Hp):Prop
 |mk (b:Bool) (a:Addr) (bW:vs=[.ref a]) (bO:(∃xs,Sq b K H1 a xs)) (cB:R (Yf K b a) H1):Xd K R vs H1
def va(K:W.Frag)(b:TA):TI:=λe H R=>b e H (Xd K R)
theorem U6{j:List Expr}{D:Nat}{E:Pos}{a:Expr}{F:TA}{p pos:Pos}(L:Gl X "enumerate")(M:X.mg "enumerate"=none)(K:PA X [a] F)(N:starEach [a] X.env=[(false,eval a X.env)]:=by rfl):
  PI X (.Tuple j D E) (.Call (.Name "enumerate" p) [a] [] pos) (va X.K F):=by
 intro g s A H R I h;refine Call_ (Fb I L M boot_enumerate (PyProof.Rows.callWith_type1 (Bq (K pos g s A H _ I h) λus f ⟨vs,B,y,S,Q⟩=>?_) N rfl));obtain⟨b,P,e,⟨xs,O⟩,q⟩:=Q;subst e;obtain⟨u1,rfl,U⟩:=Dj S;cases U;obtain⟨Z,T,z⟩:=y.sq O;have G:=z.lt
 have u:∀i,IsEnum i (f.heap.objs.size+1) f.heap.objs.size 0 .none->Dg b i f.heap.objs.size P 0->(∀b o,f.heap.get? b=some o->i.get? b=some o)->
   wpAny #[8] X.A (pyIter (.ref (f.heap.objs.size+1))) (RS X g A (.Tuple j D E) R) X.xe {f with heap:=i}:=λi m n v=>by
  refine wpAny_pyIter_enum m ?_;have J:Ak X g A B {f with heap:=i}:=y.kept (t':=f.toks) v;refine{f.heap.objs.size+1,[f.heap.objs.size+1,f.heap.objs.size],_,_,B,rfl,J,Wo (Nat.ne_of_gt (Nat.lt_succ_self _)) (Nat.ne_of_gt (Nat.lt_succ_of_lt G)),{{_,m},n},λc C=>?_,q}
  have x:f.heap.objs.size<=c:=by
   simp only[List.mem_cons,List.not_mem_nil,or_false]at C;rcases C with rfl|rfl<;>omega
  exact y.lJ x (y.aJ.fresh x)
 cases b with
 |false=>exact call_enumerate_list z λi m n Y v=>u i m n v
 |true=>exact Va z λi m n v=>u i m n v
end
theorem Tm{K:PySem.W.Frag}{b1 b2:Bool}{c d:Addr}{xs ys:List V}{g:TG}{E:TS}{D:Hy}{b:St}{H:Hp}(B:xs.length=ys.length)(f:Nat->St->Hp->Prop)(J:f 0 b H)(O:∀i b H,i<=xs.length->f i b H->Sq b1 K H c xs/\Sq b2 K H d ys)
  (P:∀i x y T b H,xs[i]?=some x->ys[i]?=some y->f i b H->H T=none->g (.ref T) b (upd H T (.tup [x,y])) λn o=>E {D with nx:=f (i+1),ct:=f (i+1),bk:=D.nx} n o)(hd:∀b H,f xs.length b H->D.nx b H):
  ∃W:Nat->Nat->St->Hp->Prop,(∃m,W 0 m b H)/\∀i m b H,W i m b H->
   ((Yg K b1 b2 c d).stop i H/\D.nx b H)\/((Yg K b1 b2 c d).go i H/\∃N:St->Hp->Prop,(∀j h,N j h->∃C,C<m/\W (i+1) C j h)/\∀x h,(Yg K b1 b2 c d).uQ i H x h->g x b h λn o=>E {D with nx:=N,ct:=N,bk:=D.nx} n o):=by
 refine{λi m b H=>m=xs.length-i/\i<=xs.length/\f i b H,{xs.length,by simp,jN _,J},?_};rintro i m b H ⟨rfl,M,p⟩;obtain⟨q,u⟩:=O i b H M p;by_cases A:i<xs.length
 ·have F:i<ys.length:=by omega
  refine .inr ⟨⟨xs,ys,xs[i],ys[i],q,u,by simp[A],by simp[F]⟩,f (i+1),λj h Q=>⟨xs.length-(i+1),by omega,rfl,A,Q⟩,λv h y=>?_⟩;obtain⟨T,x,z,rfl,L,rfl,G,I⟩:=y;exact P i x z T b H (G xs q) (I ys u) p L
 ·have e:i=xs.length:=by omega
  subst e;exact .inl ⟨⟨xs,ys,q,u,.inl rfl⟩,hd b H p⟩
theorem Zd{K:PySem.W.Frag}{b:Bool}{c:Addr}{xs:List V}{g:TG}{B:TS}{D:Hy}{f:St}{H:Hp}(h:Nat->St->Hp->Prop)(E:h 0 f H)(I:∀i f H,i<=xs.length->h i f H->Sq b K H c xs)
  (J:∀i x T f H,xs[i]?=some x->h i f H->H T=none->g (.ref T) f (upd H T (.tup [.int i,x])) λo q=>B {D with nx:=h (i+1),ct:=h (i+1),bk:=D.nx} o q)(hd:∀f H,h xs.length f H->D.nx f H):
  ∃W:Nat->Nat->St->Hp->Prop,(∃m,W 0 m f H)/\∀i m f H,W i m f H->
   ((Yf K b c).stop i H/\D.nx f H)\/((Yf K b c).go i H/\∃N:St->Hp->Prop,(∀n j,N n j->∃A,A<m/\W (i+1) A n j)/\∀x j,(Yf K b c).uQ i H x j->g x f j λo q=>B {D with nx:=N,ct:=N,bk:=D.nx} o q):=by
 refine{λi m f H=>m=xs.length-i/\i<=xs.length/\h i f H,{xs.length,by simp,jN _,E},?_};rintro i m f H ⟨rfl,G,p⟩;have u:=I i f H G p;by_cases z:i<xs.length
 ·refine .inr ⟨⟨xs,xs[i],u,by simp[z]⟩,h (i+1),λn j L=>⟨xs.length-(i+1),by omega,rfl,z,L⟩,λv j y=>?_⟩;obtain⟨T,x,rfl,F,rfl,C⟩:=y;exact J i x T f H (C xs u) p F
 ·have e:i=xs.length:=by omega
  subst e;exact .inl ⟨⟨xs,u,rfl⟩,hd f H p⟩
abbrev uy(K:W.Frag):TG:=kj K 2 (Xa (Hr 0) (Xa (Hr 1) A31))
theorem Z0{K:W.Frag}{b1 b2:Bool}{c d:Addr}{xs ys:List V}{E:List Nat}{u:TT}{o:TE}{h:St}{D:Addr}{I:Hp}{Q:Hp->Prop}(J:ys.length=xs.length\/ys.length<xs.length)(j:Nat->List V->Hp->Prop)(O:j 0 [] (upd I D (.lst [])))
  (S:∀i f H,i<=ys.length->j i f H->Sq b1 K H c xs/\Sq b2 K H d ys)
  (U:∀i x y T f H,xs[i]?=some x->ys[i]?=some y->j i f H->H T=none->u (some x::some y::Cv E h) (upd H T (.tup [x,y])) λb A=>
   if b=true then o (some x::some y::Cv E h) A λv B=>B D=some (.lst f)/\f.length<sizeLine/\j (i+1) (f++[v]) (upd B D (.lst (f++[v])))else j (i+1) f A)
  (Y:∀h H Q n,(∀b g,Q b g->n b g)->u h H Q->u h H n)(X:∀h H Q n,(∀v g,Q v g->n v g)->o h H Q->o h H n)
  (hd:∀f H,j ys.length f H->Q H):Dk 2 E (Yg K b1 b2 c d) (uy K) u o h D I Q:=by
 refine{λi m f H=>m=ys.length-i/\i<=ys.length/\j i f H,{ys.length,by simp,jN _,O},?_};rintro i m f g ⟨rfl,R,p⟩;obtain⟨F,G⟩:=S i f g R p;by_cases C:i<ys.length
 ·have L:i<xs.length:=by omega
  refine .inr ⟨⟨xs,ys,xs[i],ys[i],F,G,by simp[L],by simp[C]⟩,λv H2 y=>?_⟩;obtain⟨T,x,z,rfl,P,rfl,M,N⟩:=y;refine{T,_,rfl,Ax.of A2,rfl,x,_,rfl,z,_,rfl,rfl,{[some x,some z],rfl,rfl},?_};refine Y _ _ _ _ ?_ (U i x z T f g (M xs F) (N ys G) p P);intro b A q;cases b with
  |false=>exact{ys.length-(i+1),by omega,rfl,C,q}
  |true=>exact X _ _ _ _ (λv B ⟨Z,r2,r3⟩=>⟨Z,r2,ys.length-(i+1),by omega,rfl,C,r3⟩) q
 ·have e:i=ys.length:=by omega
  subst e;refine .inl ⟨⟨xs,ys,F,G,?_⟩,hd f g p⟩;omega
theorem V3{K:W.Frag}{b1:Bool}{c:Addr}{xs:List V}{C:List Nat}{u:TT}{o:TE}{h:St}{D:Addr}{F:Hp}{Q:Hp->Prop}(j:Nat->List V->Hp->Prop)(I:j 0 [] (upd F D (.lst [])))
  (M:∀i f H,i<=xs.length->j i f H->Sq b1 K H c xs)
  (N:∀i x T f H,xs[i]?=some x->j i f H->H T=none->u (some (.int i)::some x::Cv C h) (upd H T (.tup [.int i,x])) λb z=>
   if b=true then o (some (.int i)::some x::Cv C h) z λv A=>A D=some (.lst f)/\f.length<sizeLine/\j (i+1) (f++[v]) (upd A D (.lst (f++[v])))else j (i+1) f z)
  (P:∀h H Q n,(∀b g,Q b g->n b g)->u h H Q->u h H n)(O:∀h H Q n,(∀v g,Q v g->n v g)->o h H Q->o h H n)
  (hd:∀f H,j xs.length f H->Q H):Dk 2 C (Yf K b1 c) (uy K) u o h D F Q:=by
 refine{λi m f H=>m=xs.length-i/\i<=xs.length/\j i f H,{xs.length,by simp,jN _,I},?_};rintro i m f g ⟨rfl,L,p⟩;have E:=M i f g L p;by_cases B:i<xs.length
 ·refine .inr ⟨⟨xs,xs[i],E,by simp[B]⟩,λv X y=>?_⟩;obtain⟨T,x,rfl,J,rfl,G⟩:=y;refine{T,_,rfl,Ax.of A2,rfl,_,_,rfl,x,_,rfl,rfl,{[some (.int i),some x],rfl,rfl},?_};refine P _ _ _ _ ?_ (N i x T f g (G xs E) p J);intro b z q;cases b with
  |false=>exact{xs.length-(i+1),by omega,rfl,B,q}
  |true=>exact O _ _ _ _ (λv A ⟨R,S,U⟩=>⟨R,S,xs.length-(i+1),by omega,rfl,B,U⟩) q
 ·have e:i=xs.length:=by omega
  subst e;exact .inl ⟨⟨xs,E,rfl⟩,hd f g p⟩
section
variable {X:Cx}{a b:Expr}{rest:List Expr}{ta tb:TE}{tA uA:TT}{pos:Pos}
inductive je(tb:TE)(σ:St)(Q:VK)(x:V)(H1:Hp):Prop
 |mk (c:Bool) (N:Bool->Hp->Prop) (bW:x=.bl c) (bO:(c=false->N false H1)) (cB:(c=true->tb σ H1 λy H2=>∃d:Bool,y=.bl d/\N d H2)) (dM:∀d H2,N d H2->Q (.bl d) H2):je tb σ Q x H1
def A4o(ta tb:TE):TE:=λe H Q=>ta e H (je tb e Q)
theorem S7(z:PE X a ta)(A:PE X (.BoolOp .And (b::rest) pos) tb):PE X (.BoolOp .And (a::b::rest) pos) (A4o ta tb):=by
 intro f s p H Q I h;refine BoolOp_and (Bq (z f s p H _ I h) λv E u=>?_);obtain⟨x,i,m,C,g⟩:=u;obtain⟨c,N,rfl,B,g,o⟩:=g;cases C;refine iC ?_;cases c with
 |true=>exact Bq (A f E p i _ m (g rfl)) λv F ⟨y,j,q,D,d,e,n⟩=>⟨y,j,q,D,by rw[e];exact o d j n⟩
 |false=>exact{.bl false,i,m,rfl,o _ _ (B rfl)}
inductive jc(t u:TT)(σ:St)(Q:Bool->Hp->Prop)(c:Bool)(H1:Hp):Prop
 |mk (N:Bool->Hp->Prop) (bW:(c=false->N false H1)) (bO:(c=true->u σ H1 N)) (cB:∀d H2,N d H2->Q d H2):jc t u σ Q c H1
def A4m(t u:TT):TT:=λe H Q=>t e H (jc t u e Q)
inductive si(t u:TT)(σ:St)(Q:Bool->Hp->Prop)(c:Bool)(H1:Hp):Prop
 |mk (N:Bool->Hp->Prop) (bW:(c=true->N true H1)) (bO:(c=false->u σ H1 N)) (cB:∀d H2,N d H2->Q d H2):si t u σ Q c H1
def A5p(t u:TT):TT:=λe H Q=>t e H (si t u e Q)
theorem Sc(q:PT X a tA)(u:PW X (.BoolOp .And (b::rest) pos) uA):PW X (.BoolOp .And (a::b::rest) pos) (A4m tA uA):=by
 intro z e s m H Q I h;refine isTrue_and (Bq (q e s m H _ I h) λc y p=>?_);obtain⟨f,i,N,v,x,j⟩:=p;cases c with
 |true=>exact Bq (u z e y m f _ i (x rfl)) λd A ⟨g,o,n⟩=>⟨g,o,j d g n⟩
 |false=>exact{f,i,j _ _ (v rfl)}
theorem Oz(q:PT X a tA)(u:PW X (.BoolOp .Or (b::rest) pos) uA):PW X (.BoolOp .Or (a::b::rest) pos) (A5p tA uA):=by
 intro z e s m H Q I h;refine isTrue_or (Bq (q e s m H _ I h) λc y p=>?_);obtain⟨f,i,N,v,x,j⟩:=p;cases c with
 |true=>exact{f,i,j _ _ (v rfl)}
 |false=>exact Bq (u z e y m f _ i (x rfl)) λd A ⟨g,o,n⟩=>⟨g,o,j d g n⟩
end
section
variable {X:Cx}
theorem Yx(n:X.calm=true):Cp X (.builtin "sum") (λxs H Q=>∃(p:Addr) (ns:mY),xs=[.ref p]/\Ar X.K H p #[15]/\Q (.int ns.sum) H):=by
 intro h s J H G F Q I r q;obtain⟨p,ns,rfl,v,q⟩:=q;obtain⟨u,rfl,z⟩:=Dj r;cases z;obtain⟨B,y,x,D⟩:=I.list v;have f:=Dq y;obtain⟨i,e⟩:=f.allInts.items
 have m:ns=i.toList.map (·.1):=by
  have j:=f.numsOf;have b:=nums_intItems i;rw[<- e]at b;exact j.symm.trans b
 have g:=x.isList;rw[e]at g;refine sum_intListG (I.ok.hd n) g λC E A o=>⟨.int _,H,I.kept o,⟨A,rfl⟩,?_⟩;rw[preSum_eq,List.take_of_length_le (by simp)];rw[m]at q;exact q
end
theorem Bi.here(x:Bi P w H h a o):∃g,h.get? a=some g:=by
 cases o with
 |lst j=>obtain⟨_,_,_,_,e⟩:=x;exact{_,e}
 |tup j=>obtain⟨_,_,_,o,e,_⟩:=x;exact{_,e}
 |dK b=>obtain⟨_,_,_,_,o,_,_,e,_⟩:=x;exact{_,e}
 |dT b=>obtain⟨_,_,_,_,o,_,_,e,_⟩:=x;exact{_,e}
 |set S n=>obtain⟨o,_,_,_,e,_⟩:=x;exact{_,e}
 |ins C m fs=>obtain⟨_,_,_,e,_⟩:=x;exact{_,e}
 |own y=>exact x
 |xd fs=>obtain⟨D,⟨E,z,p,e,c⟩,r⟩:=x;exact{_,e}
 |pZ B A=>obtain⟨t,u,v,e⟩:=x;exact{_,e}
 |dG g u=>exact{_,x.1}
 |tY F=>exact{_,(show h.get? a=some _ from x)}
 |tab q i=>
  rcases x with e|⟨_,_,_,e,_⟩
  ·exact{_,e}
  ·exact{_,e}
 |met f y=>exact{_,(show h.get? a=some _ from x)}
 |ext G=>exact x.2.1
theorem Hv.off(ok:Hv P w H h)(e:h.get? a=none):H a=none:=by
 cases q:H a with
 |none=>rfl
 |some u=>
  obtain⟨b,z⟩:=(ok a u q).here;rw[e]at z;cases z
def Fm(a:Addr)(cls:nL)(h:Heap):Prop:=∃o b,h.get? a=some o/\o.cls=cls/\o.data=.fields b
def A36(a:Addr)(h:Heap):Prop:=∃o b,h.get? a=some o/\o.data=.fields b
theorem X9{cls:nL}(x:Fm a cls h):Bi P w H h a (.ext (Fm a cls)):=by
 refine{x,?_,?_}
 ·obtain⟨o,_,e,_⟩:=x;exact{o,e}
 ·rintro f g ⟨o,b,e,c⟩ k;exact{o,b,k o e,c}
def A56(h:Heap)(a T:Addr):Prop:=∃f b e g i,h.get? a=some f/\f.data=.fields b/\b[0]?=some i/\b[1]?=some (.ref T)/\T≠a/\h.get? T=some e/\e.data=.fields g/\g[3]?=some .none
structure Wz(P:nP)(w:n4)(fr:List Addr)(H:Hp)(h:Heap)(H':Hp)(h':Heap)(a T:Addr)(cls:nL):Prop where
 un:Un fr [] H H' h h'
 ok:Hv P w H' h'
 exc:H' a=some (.ext (Fm a cls))
 off:H' T=none
 new:h.get? T=none
 tr:A56 h' a T
def CX1(P:nP)(w:n4):ar:=λb H s E e f=>∃(a T:Addr) (cls:nL) (g:Hp),e=.ref a/\f.os=s.os/\AllBare f.gens/\Wz P w (gF b) H s.heap g f.heap a T cls/\E cls none g
theorem A3a{cls:nL}(u:Un j [] H f h h')(ok:Hv P w f h')(Z:∀b∈j,f b=none)
  (uE:∀b∈j,∃o,h'.get? b=some o/\∀vs,o.data≠ .fields vs)(G:f a=some (.ext (Fm a cls)))(g:∀b∈m,f b=none/\h.get? b=none)
  (M:(W.hideAll h' (j++a::m)).StaysIn p)(K:h'.UpToSlots p)(Q:Fm a cls p)(xT:A36 T p)(nT:(W.hideAll h' (j++a::m)).get? T=none)(na:T≠a):
  Un j [] H f h p/\Hv P w f p/\f T=none/\h.get? T=none:=by
 have X:f T=none/\h.get? T=none:=by
  cases q:h'.get? T with
  |none=>
   refine{ok.off q,?_};cases z:h.get? T with
   |none=>rfl
   |some o=>
    obtain⟨y,e⟩:=u.there T o z (by simp);rw[q]at e;cases e
  |some o=>
   by_cases C:T∈j++a::m
   ·rcases fC.mp C with z|z
    ·obtain⟨I,B,D⟩:=uE T z;obtain⟨R,i⟩:=K T I B D;obtain⟨o3,vs,F,U⟩:=xT;rw[i]at F;cases F;exact absurd U (D vs)
    ·rcases eH.mp z with z|z
     ·exact absurd z na
     ·exact g T z
   ·have:=W.hideAll_get _ q C;rw[nT]at this;cases this
 have J:∀b o N,h'.get? b=some o->f b=some N->b≠a->p.get? b=some o:=λb o N e q A=>by
  refine M b o (W.hideAll_get _ e λC=>?_);rcases fC.mp C with z|z
  ·rw[Z b z]at q;cases q
  ·rcases eH.mp z with z|z
   ·exact A z
   ·rw[(g b z).1]at q;cases q
 have O:∀b o y,h.get? b=some o->h'.get? b=some y->f b=none->b∉j->p.get? b=some y:=λb o y e E q n=>by
  refine M b y (W.hideAll_get _ E λC=>?_);rcases fC.mp C with z|z
  ·exact n z
  ·rcases eH.mp z with z|z
   ·rw[z,G]at q;cases q
   ·rw[(g b z).2]at e;cases e
 refine{{λb o e q n _=>O b o o e (u.keep b o e q n (by simp)) (u.free b o e q (by simp)) n,λb o e q n _=>?_,λb o e q _=>u.free b o e q (by simp),λb o e _=>?_,u.fP,u.fA,u.fQ},λb v q=>?_,X}
 ·obtain⟨sl1,B⟩:=u.slot b o e q n (by simp);obtain⟨o2,i,S⟩:=uE b n;rw[B]at i;cases i;obtain⟨L,F⟩:=K b _ B S;exact{L,F}
 ·obtain⟨y,E⟩:=u.there b o e (by simp);cases q:f b with
  |none=>
   by_cases n:b∈j
   ·obtain⟨I,B,D⟩:=uE b n;obtain⟨R,i⟩:=K b I B D;exact{_,i}
   ·exact{_,O b o y e E q n}
  |some v=>
   by_cases A:b=a
   ·obtain⟨o2,_,i,_⟩:=Q;rw[A];exact{_,i}
   ·exact{_,J b y v E q A}
 ·by_cases A:b=a
  ·subst A;rw[G]at q;cases q;exact X9 Q
  ·refine(ok b v q).fH (λc x Y e=>?_) (λc e=>e) λc xs e=>e;rcases Y with z|z
   ·subst z;exact J c x v e q A
   ·refine J c x _ e z λi=>?_;rw[i,G]at z;cases z
section
variable {X:Cx}{pins:List #[18]}{σ:St}{H:Hp}{s:nB}
theorem Ak.uE(I:Ak X pins σ H s):∀b∈gF X.stack,∃o,s.heap.get? b=some o/\∀vs,o.data≠ .fields vs:=λb e=>(I.stack.mem e).2
theorem Ak.uX{cls:nL}{t':Nat}(I:Ak X pins σ H s)(m:Heap.MadeExcOf s.heap h' e cls vs):
  A6 H (upd H e (.ext (Fm e cls)))/\Ak X pins σ (upd H e (.ext (Fm e cls))) {s with heap:=h',toks:=t'}:=by
 have i:=I.aJ.off m.new
 have same:A6 H (upd H e (.ext (Fm e cls))):=λb o q=>by
  rw[A9 (Ag q i)];exact q
 obtain⟨t,g,_,_⟩:=m.there;refine{same,I.un {λb o q _ _ _=>m.keeps b o q,λb o q _ _ _=>{o.slots,m.keeps b o q},λb o q z _=>?_,λb o q _=>{o,m.keeps b o q},λb j q=>same _ _ q,λb o u q=>same _ _ q,λb n q=>{#[],by rw[same _ _ q];simp}} λb u q=>?_}
 ·rw[A9 (λh=>?_)]
  ·exact z
  ·rw[h,m.new]at q;cases q
 ·by_cases f:b=e
  ·subst f;rw[A2]at q;cases q;exact X9 ⟨_,_,g,rfl,rfl⟩
  ·rw[A9 f]at q;exact(I.aJ b u q).fH (λc v _ z=>m.keeps c v z) (λc z=>same _ _ z) λc j z=>same _ _ z
theorem Ak.lO{cls:nL}(I:Ak X pins σ H s)(g:s'.os=s.os)(e:AllBare s'.gens)(F:Wz X.prog X.w (gF X.stack) H s.heap f s'.heap a T cls):Ak X pins σ f s':=
 I.wL g F.un F.ok e λb z=>absurd z (by simp)
theorem Xc(I:Ak X pins σ H s):s.heap.FunFrames (W.hideAll s.heap (gF X.stack++a::f)) X.stack:=
 W.funFrames_hide I.stack λe h b g=>fC.mpr (.inl (List.mem_filterMap.mpr ⟨e,h,g⟩))
theorem Ju:(W.hideAll h (e++a::b)).get? a=none:=W.hideAll_none _ (fC.mpr (.inr (.head _)))
theorem O7(g:b∈e):(W.hideAll h (f++a::e)).get? b=none:=W.hideAll_none _ (fC.mpr (.inr (.tail _ g)))
theorem Wz.cls{P:nP}{w:n4}{e:List Addr}{H b:Hp}{h h':Heap}{a T:Addr}{cls:nL}(F:Wz P w e H h b h' a T cls):Fm a cls h':=(F.ok a _ F.exc).1
theorem Wz.mZ{P:nP}{w:n4}{m:List Addr}{H f:Hp}{h h' B:Heap}{a T:Addr}{cls:nL}(F:Wz P w m H h f h' a T cls)(v:B.get? T=none):∃b,h'.TracedW B a cls b:=by
 obtain⟨z,C,y,A,b,e,g,n,p,x,j,i,u⟩:=F.tr;obtain⟨o,D,q,c,_⟩:=F.cls;rw[e]at q;cases q;exact{b,z,C,T,y,A,e,{c,n},g,p,v,x,j,i,u}
theorem Wz.on{P:nP}{w:n4}{g e:List Addr}{H f:Hp}{h h' m:Heap}{a:Addr}{cls n:nL}(un:Un g [] H f h h')(ok:Hv P w f h')(i:f a=some (.ext (Fm a cls)))(D:∀b∈g,f b=none)
  (uE:∀b∈g,∃o,h'.get? b=some o/\∀vs,o.data≠ .fields vs)(j:∀b∈e,f b=none/\h.get? b=none)
  (M:(W.hideAll h' (g++a::e)).StaysIn m)(L:h'.UpToSlots m)(N:m.TracedW (W.hideAll h' (g++a::e)) a cls n):∃T,Wz P w g H h f m a T cls:=by
 obtain⟨q,vs,T,p,B,v,⟨G,I⟩,x,J,K,y,z,A,C⟩:=N;obtain⟨u,k,E,F⟩:=A3a (T:=T) un ok D uE i j M L ⟨q,vs,v,G,x⟩ ⟨p,B,z,A⟩ K y;exact{T,u,k,i,E,F,q,vs,p,B,n,v,x,I,J,y,z,A,C}
end
section
variable {P:nP}{w:n4}{K:W.Frag}{mg:Str->Option nL}{base:Heap}{N:List Str}{qual:Str}{scope:Scope}{f:Addr}{cd:nL}{A:nU}{outer:List Env}{s₀:nB}{H₀:Hp}{E:XK}
theorem fj{g:List #[18]}{n:St}{H i:Hp}{s:nB}{s':nB}{a T:Addr}{cls:nL}(I:Ak #[3] g n H s)
  (m:s'.os=s.os)(b:AllBare s'.gens)(F:Wz P w (gF #[3].stack) H s.heap i s'.heap a T cls)(j:E cls none i):CX1 P w outer H₀ s₀ E (.ref a) s':=by
 have h:=I.lO m b F;refine{a,T,cls,i,rfl,h.os,h.bare,{h.base,h.aJ,F.exc,F.off,?_,F.tr},j};cases q:s₀.heap.get? T with
 |none=>rfl
 |some o=>
  obtain⟨p,e⟩:=I.base.there T o q (by intro z;cases z);rw[F.new]at e;cases e
def Na(X:Cx)(R:St->XK->Prop):Prop:=∀(b:List #[18]) (h:St) (H:Hp) (s:nB) (e:nL) (g:nB) (E:XK),R h E->Ak X b h H s->CX1 X.prog X.w X.stack H s E e g->X.xe e g
def RD(E:XK):St->XK->Prop:=λ_ b=>∀c d H,b c d H->E c d H
theorem D8:Na #[3] (RD E):=by
 rintro j Q H s e m G x I ⟨a,T,cls,J,rfl,i,g,F,u⟩;have h:=I.lO i g F;obtain⟨M,D⟩:=F.mZ (B:=W.hideAll m.heap (gF #[3].stack++a::[T])) (O7 (by simp));refine wpAny_leaving_nextW (L:=s₀.heap.objs.size) (outer:=outer) I.ok.frames (Xc h) rfl D (λb o q=>W.of_hideAll _ q) Ju λp v=>?_;obtain⟨z,O,B,C⟩:=v;obtain⟨L,n⟩:=Wz.on F.un F.ok F.exc h.eZ h.uE (λb y=>by rw[List.mem_singleton.mp y];exact{F.off,F.new}) z C B;exact fj (s':={m with heap:=p}) I i g n (x _ _ _ u)
def ay(X:Cx)(E:XK):Prop:=∀(b:List #[18]) (j:St) (H:Hp) (s:nB) (h:Heap) (e:Addr) (cls:nL) (i:List nL),Ak X b j H s->Heap.MadeExcOf s.heap h e cls i->
 (∀g,A6 H g->E cls none g)->X.xe (.ref e) {s with heap:=h}
theorem Ij:ay #[3] E:=by
 intro i Q H s h e cls M I m x;obtain⟨same,g⟩:=I.uX (t':=s.toks) m;obtain⟨t,n,_,_⟩:=m.there
 have un:Un (gF #[3].stack) [] H (upd H e (.ext (Fm e cls))) s.heap h:=
  ⟨λb o q _ _ _=>m.keeps b o q,λb o q _ _ _=>⟨o.slots,m.keeps b o q⟩,λb o q z _=>by
   rw[A9 (λp=>by rw[p,m.new]at q;cases q)];exact z,λb o q _=>⟨o,m.keeps b o q⟩,λb O q=>same _ _ q,λb o u q=>same _ _ q,λb L q=>⟨#[],by rw[same _ _ q];simp⟩⟩
 refine wpAny_leaving_firstW (base:=W.hideAll h (gF #[3].stack++e::[])) (L:=s₀.heap.objs.size) (outer:=outer) I.ok.frames (Xc g) rfl n (λb o q=>W.of_hideAll _ q) Ju rfl rfl rfl λv y=>?_;obtain⟨C,J,D,F⟩:=y;obtain⟨G,j⟩:=Wz.on un g.aJ A2 g.eZ g.uE (λb B=>absurd B (by simp)) C F D;exact fj (s':={s with heap:=v}) I rfl I.bare j (x _ same)
end
def ExcC(K:W.Frag)(C:Addr):Prop:=W.excIn K C [.type "ValueError",.type "Exception",.type "BaseException",.type "object"] "ValueError.__new__"=true
theorem X8{K:W.Frag}{h:Heap}{C:Addr}{e:List nL}{b:String}(X:K.In h)(q:W.excIn K C e b=true):
  ∃(bm:List nL) (N:Addr) (nm g:Str) (bs:List nL) (hd:Bool) (sn:List Str) (sub:List nL) (ab:Bool) (col:Option Bool) (dd:Option Addr) (k0 k1 k2 k3 k5:Option nL) (mN:Str->Option nL),
   h.get? C=some (excClassObj nm g C N bs bm hd sn sub ab col dd k0 k1 k2 k3 k5 b)/\h.Ns N mN/\mN "__init__"=none/\OwnTail h e bm:=by
 unfold W.excIn at q;split at q
 case h_2=>exact absurd q fx
 case h_1 dd cd sl ho=>
  split at q
  case h_2=>exact absurd q fx
  case h_1 C' bm k0 k1 k2 k3 n k5 hm hs=>
   simp only[beq_iff_eq,Bool.and_eq_true,Bool.not_eq_true']at q;obtain⟨⟨⟨⟨⟨o,p⟩,i⟩,u⟩,f⟩,j⟩:=q;subst o p;obtain⟨nm,bs,x,y,g,hd,sn,sub,ab,col,m⟩:=cd;dsimp only at hm i f j;subst hm i;obtain⟨l⟩:=sl;have v:l=[k0,k1,k2,k3,some (.builtin n),k5]:=hs;subst v;exact{bm,y,nm,g,bs,hd,sn,sub,ab,col,dd,k0,k1,k2,k3,k5,_,X _ _ ho,.of_isNs (W.isNs_of_in X f),W.nsMap_none_of_in X f j,W.tail_of_in X u}
section
variable {X:Cx}{x:Str}{C:Addr}{p np bX pos:Pos}{e:Expr}{es:List Expr}{t:TA}{E:XK}
def A2d(C:Addr)(t:TA)(E:XK):TS:=λ_ h H=>t h H λg f=>g.length<=sizeLine/\∀b,A6 f b->E (.ref C) none b
theorem Eh(J:ay X E)(L:X.calm=true)(O:Gl X x)(Q:X.mg x=some (.ref C))(S:ExcC X.K C)(K:PA X (e::es) t)(A:(x==("__debug__":Str))=false:=by decide)
  (he:starEach (e::es) X.env=(false,eval e X.env)::starEach es X.env:=by rfl)(U:(backTo bX (starEach es X.env)).any (·.1)=false:=by rfl):
  PS X (.Raise (some (.Call (.Name x np) (e::es) [] bX)) none pos) (A2d C t E):=by
 intro b s n H D I h;obtain⟨v,N,nm,qn,bs,M,sn,j,u,g,y,Y,Z,k2,k3,k5,mN,F,G,i,T⟩:=X8 I.ok.mod.dH S
 have q:(backTo bX (starEach (e::es) X.env)).any (·.1)=false:=by
  rw[he];show(false||(backTo bX (starEach es X.env)).any (·.1))=false;rw[U];rfl
 refine wpAny_Raise_call_subT (bm:=v) (N:=N) (nm:=nm) (q:=qn) (bs:=bs) (hdct:=M) (sn:=sn) (sub:=j) (ab:=u) (col:=g) (dd:=y) (k0:=Y) (k1:=Z) (k2:=k2) (k3:=k3) (k5:=k5) (mN:=mN) (C:=C)
  PySem.F.excBase_ValueError (T.hasType rfl) (I.ok.hd L) q i (Jx I O Q ⟨rfl,?_⟩ A)
 have w:=K bX b s n H _ I h;rw[he]at w⊢;refine Calls.evalArgs_plain (Bq w λus s2 z=>?_);obtain⟨vs,o,f,r,P,R⟩:=z;exact{rfl,by rw[<- r.length];exact P,f.bk _ _ F,G.keeps f.bk,T.keeps f.bk,λB a m=>J b n o s2 B a _ us f m R}
variable {k:Nat}{f:Addr}{fd:nZ}{ps:List Str}{sp:Sp}{cT:List V}{ds:List nL}{R:St->XK->Prop}
inductive Y6(sp:Sp)(cT:List V)(R:St->XK->Prop)(σ:St)(Q:VK)(vs:List V)(H1:Hp):Prop
 |mk (E:_) (bW:R σ E) (bO:sp (vs++cT) H1 Q E):Y6 sp cT R σ Q vs H1
def Wm(sp:Sp)(cT:List V)(R:St->XK->Prop)(t:TA):TE:=λb H Q=>t b H (Y6 sp cT R b Q)
theorem Xx(F:Ee X.prog X.w X.K X.mg X.base (CX1 X.prog X.w) k f fd ps sp)(y:Ca k X.A)(q:Ep X.K fd ps ds)(hd:B0 cT ds)(z:Na X R)
  (I:Ak X g i H s)(r:B0 vs us)(o:R i E)(h:sp (vs++cT) H Q E):wpAny #[8] X.A (call (.ref f) us) (EP X g i Q) X.xe s:=by
 have n:=r.append hd;have v:(us++ds).length=ps.length:=n.length.symm.trans (F.len _ _ _ _ h);have m:=F.run X.A X.stack s H ⟨us,[]⟩ (us++ds) (vs++cT) Q E y I.AQ (q s us I.fI v) n h;refine wpAny_call (codeAny_mono m λj A b=>?_)
 match j,b with
 | .error e,b=>exact z g i H s e A E o I b
 | .ok (.ret u),b=>exact I.after b
 | .ok .next,b=>exact b.elim
 | .ok .brk,b=>exact b.elim
 | .ok .cont,b=>exact b.elim
theorem U4(F:Ee X.prog X.w X.K X.mg X.base (CX1 X.prog X.w) k f fd ps sp)(y:Ca k X.A)(o:Gl X x)(v:X.mg x=some (.ref f))(u:W.keepIn X.K (.ref f)=true)(n:Ep X.K fd ps ds)(hd:B0 cT ds)(A:Na X R)(m:PA X (e::es) t)
  (i:(x==("__debug__":Str))=false:=by decide)(he:starEach (e::es) X.env=(false,eval e X.env)::starEach es X.env:=by rfl)(B:(backTo pos (starEach es X.env)).any (·.1)=false:=by rfl):
  PE X (.Call (.Name x p) (e::es) [] pos) (Wm sp cT R t):=by
 intro b s D H Q I h;have w:=m pos b s D H _ I h;refine wpAny_Call_Name_kw (Jx I o v ?_ i);refine W.callWith_K (h₀:=X.base) I.ok.mod.dH u (Bq w λK J z=>?_) he B;obtain⟨L,G,g,r,E,j,q⟩:=z;exact{g.fI,Xx F y n hd A g r j q}
theorem K5:Jf (CX1 P w) X E0:=λ_ _ _ _ _ _ _ ⟨_,_,_,_,_,_,_,_,z⟩=>z.elim
end
section
variable {P:nP}{w:n4}{K:W.Frag}{mg:Str->Option nL}{base:Heap}{x qual:Str}{st:Stmt}{f:Addr}{fd:nZ}{N ps:List Str}{k:Nat}{sp:Sp}
theorem Uw.jH(F:Uw K x qual st f fd)(S:Ae N ps (A8 st))(e:∀vs H Q E,sp vs H Q E->vs.length=ps.length)
  (i:∀(b:nL) (A:nU) (outer:List Env) (s:nB) (H:Hp) (vs:List V) (Q:VK) (E:XK),Ca k (A.deeper (envOfC qual (A8 st) s.heap.objs.size f b))->sp vs H Q E->
   ∃t,Pc (Gc (CX1 P w) P w K mg base N qual (A8 st) f b A outer s H E) (C7 st) t/\t {nx:=λ_ g=>Q .bB g,rt:=Q} (start N vs) H):Ee P w K mg base (CX1 P w) (k+1) f fd ps sp:=by
 obtain⟨q,u,kV,h,v,n,b,o,p,rfl,j,m⟩:=F.ex;exact cp j m S e (i b)
theorem t9.jH(F:t9 K x qual st f fd)(S:Ae N ps (A8 st))(e:∀vs H Q E,sp vs H Q E->vs.length=ps.length)
  (i:∀(b:nL) (A:nU) (outer:List Env) (s:nB) (H:Hp) (vs:List V) (Q:VK) (E:XK),Ca k (A.deeper (envOfC qual (A8 st) s.heap.objs.size f b))->sp vs H Q E->
   ∃t,Pc (Gc (CX1 P w) P w K mg base N qual (A8 st) f b A outer s H E) (C7 st) t/\t {nx:=λ_ g=>Q .bB g,rt:=Q} (start N vs) H):Ee P w K mg base (CX1 P w) (k+1) f fd ps sp:=by
 obtain⟨u,v,p,kV,h,y,n,b,o,q,rfl,j,m⟩:=F.ex;exact cp j m S e (i b)
theorem Uw.okN(F:Uw K x qual st f fd)(S:Ae N ps (A8 st))(e:∀vs H Q E,sp vs H Q E->vs.length=ps.length)
  (i:∀(b:nL) (A:nU) (outer:List Env) (s:nB) (H:Hp) (vs:List V) (Q:VK) (E:XK),Ca k (A.deeper (envOfC qual (A8 st) s.heap.objs.size f b))->sp vs H Q E->
   ∃t,Pc (Gc (CX1 P w) P w K mg base N qual (A8 st) f b A outer s H E).DM (C7 st) t/\t {nx:=λ_ g=>Q .bB g,rt:=Q} (start N vs) H):Ee P w K mg base (CX1 P w) (k+1) f fd ps sp:=
 F.jH S e λb A outer s H vs Q E j m=>let⟨t,h,q⟩:=i b A outer s H vs Q E j m;⟨t,h.DM,q⟩
theorem fk{qual:Str}{outer:List Env}:
  PassesOwn #[9] (Gc (CX1 P w) P w K mg base N qual b f e A outer s H E).A (Gc (CX1 P w) P w K mg base N qual b f e A outer s H E).env (Gc (CX1 P w) P w K mg base N qual b f e A outer s H E).xe:=PassesOwn.leaving
end
open PySem.W (Looks)
section
variable {X:Cx}{pins:List #[18]}{σ:St}{H:Hp}{s:nB}{C:Addr}
theorem dh{M:Model}{K:W.Frag}{h:Heap}{c:Addr}{b:nL}{r:Bool}(f:K.In h)(e:W.subIn K (.ref c) b=some r):Looks M h (isType (.ref c)) true:=by
 obtain⟨n,a,_⟩:=Option.bind_eq_some_iff.mp (show W.mroIn K c b=some r from e);unfold W.clsIn at a;split at a
 ·rename_i g;intro i m j o k q;unfold isType loadHead;refine ag (wpAny_loadPart (k _ _ (f _ _ g)) ?_);exact aN q
 ·cases a
theorem vf{M:Model}{K:W.Frag}{h:Heap}{c:Addr}(b:K.In h)(e:W.subIn K (.ref c) (.type "BaseException")=some true):Looks M h (isExcClass (.ref c)) true:=by
 unfold isExcClass;refine(dh b e).andThen ?_;rw[if_pos rfl];exact W.looks_subIn b e
theorem kx{prog:nP}{w:n4}{A:nU}{E:mD}{K:W.Frag}{v t c:nL}{Q:mD}(i:K.In s.heap)(f:∀M,Looks M s.heap (typeOf v) t)(e:W.kitOne K t c=some true)
  (n:v≠ .builtin "__main__.__loader__#opaque")(h:Q (.bool true) s):wpAny #[0] A (call (.builtin "isinstance") [v,c]) Q E s:=by
 refine call_isinstance (S:=λ_ R s=>(K.In s.heap/\∀M,Looks M s.heap (typeOf v) t)/\R (.ok (.ret (.bool true))) s) (λprog w A R s m=>isinstance_outer ?_ n) ⟨⟨i,f⟩,h⟩;obtain⟨⟨i,f⟩,b⟩:=m;obtain⟨j,g,d,z,y⟩:=s;unfold Builtin.«isinstance.nested»;refine ag ((f _).at ?_);unfold W.kitOne at e;by_cases q:(t==c)=true
 ·rw[if_pos q]
  first
   |exact ag (la b)
   |exact ag (la (aN b))
 ·rw[if_neg q]at e⊢;obtain⟨o,p,u⟩:=W.kit_cls (M:=model prog w) i e;have x:Looks #[0] j (isInstance v c) true:=(f _).andThen u;refine ag (o.at ?_);rw[if_pos #[17]]
  k_delta "plainIsInstance";refine ag (ag (p.at ?_));simp only[Bool.not_true,if_false,Bool.false_eq_true];refine ag (x.at ?_)
  first
   |exact aN (aN b)
   |(simp only[if_true];exact aN (aN b))
   |(simp only[if_true];exact aN b)
   |trace_state
theorem kh{pos:Pos}(I:Ak X pins σ H s)(Z:X.N.Nodup)(hi:X.N[i]?=some n)(hl:X.env.scope.names.lookup n=some .local)
  (h:∀s',Ak X pins (σ.set i none) H s'->Q () s'):wpAny M A (do bindName X.env n .none;unbindBehindTheSuite X.env n pos) Q E s:=by
 obtain⟨m,hn,hm⟩:=id I.loc;refine wpAny_nameGoes_keeps hl hn (by rw[I.ok.kind];rfl) λY v T hs=>h _ ?_;have f:∀b o,b≠X.env.locals->s.heap.get? b=some o->Y.get? b=some o:=λb o hb e=>(hs.2 b hb).trans e;have L:∀b o,X.s₀.heap.get? b=some o->b≠X.env.locals:=λb o e=>fe (fy (dr e) I.ok.above)
 have J:∀b u,H b=some u->b≠X.env.locals:=λb u e z=>by
  rw[z,I.free]at e;cases e
 refine{I.ok,I.os,I.bare,{λb o e N O K=>f b o (L b o e) (I.base.keep b o e N O K),λb o e N O K=>?_,I.base.free,λb o e K=>?_,I.base.fP,I.base.fA,I.base.fQ},{_,T,λj x w R g U=>?_},λx c e=>?_,I.free,I.cH,λp hp=>?_,λb u e=>?_,?_}
 ·obtain⟨sl,z⟩:=I.base.slot b o e N O K;exact{sl,f b _ (L b o e) z}
 ·obtain⟨o',z⟩:=I.base.there b o e K;exact{o',f b _ (L b o e) z}
 ·have D:i≠j:=λz=>by
   subst z;rw[List.getElem?_set]at g;rw[if_pos rfl]at g;split at g<;>cases g
  rw[List.getElem?_set_ne D]at g;obtain⟨u,ru,lu⟩:=hm j x w R g U;have S:x≠n:=λz=>D (Oq Z hi (by rw[<- z];exact R));refine{u,ru,?_};rcases lu with⟨F,q⟩|⟨F,c,q,o,y,G⟩
  ·exact .inl ⟨F,by show(if x=n then v else m x)=some u;rw[if_neg S];exact q⟩
  ·exact .inr ⟨F,c,q,o,f c o (I.uP x c q) y,G⟩
 ·obtain⟨P,o,y,G⟩:=I.cell x c e;exact{P,o,f c o (I.uP x c e) y,G}
 ·obtain⟨F,q,y,G,k5⟩:=I.pin p hp;exact{f _ _ y F,q,y,G,k5}
 ·refine(I.aJ b u e).fH (λc P B z=>f c P ?_ z) (λ_ z=>z) λ_ _ z=>z;rcases B with B|B
  ·rw[B];exact J b u e
  ·exact J c _ B
 ·rw[List.length_set];exact I.len
end
abbrev Cx.at(X:Cx)(A:nU):Cx:={X with A:=A,calm:=false,xe:=λ_ _=>False}
abbrev Cx.BG(X:Cx)(pn:List #[18])(W:mD):Cx:={X with pn:=pn,xe:=W}
section
variable {X:Cx}{pins:List #[18]}{σ:St}{H:Hp}{s:nB}
theorem Ak.at(I:Ak X pins σ H s)(b:A.frames=X.A.frames):Ak (X.at A) pins σ H s:=
 ⟨⟨I.ok.mod,I.ok.kind,I.ok.glob,I.ok.blt,I.ok.above,I.ok.inj,I.ok.has,I.ok.AN,λz=>(nomatch z),b.trans I.ok.frames,I.ok.DK,I.ok.FG,I.ok.bs,I.ok.qA,I.ok.mQ,I.ok.mR,I.ok.fR,I.ok.uO⟩,I.os,I.bare,I.base,I.loc,I.cell,I.free,I.cH,I.pin,I.aJ,I.len⟩
theorem Ak.back(ok:X.Ok)(I:Ak (X.at A) pins σ H s):Ak X pins σ H s:={ok,I.os,I.bare,I.base,I.loc,I.cell,I.free,I.cH,I.pin,I.aJ,I.len}
theorem Ak.BG(I:Ak X pins σ H s):Ak (X.BG (X.pn++pins) W) [] σ H s:=
 ⟨⟨I.ok.mod,I.ok.kind,I.ok.glob,I.ok.blt,I.ok.above,I.ok.inj,I.ok.has,I.ok.AN,I.ok.hd,I.ok.frames,I.ok.DK,I.ok.FG,I.ok.bs,I.ok.qA,I.ok.mQ,I.ok.mR,I.ok.fR,I.ok.uO⟩,I.os,I.bare,I.base,I.loc,I.cell,I.free,I.cH,
  λp b=>I.pin p (by rwa[List.append_nil]at b),I.aJ,I.len⟩
theorem Ak.out(ok:X.Ok)(I:Ak (X.BG (X.pn++pins) W) e σ H s):Ak X pins σ H s:=
 ⟨ok,I.os,I.bare,I.base,I.loc,I.cell,I.free,I.cH,λp b=>I.pin p (gy _ b),I.aJ,I.len⟩
theorem SP.out(ok:X.Ok)(h:SP (X.BG (X.pn++pins) W) [] D f s'):SP X pins D f s':=by
 cases f with
 |next=>obtain⟨b,e,I,q⟩:=h;exact{b,e,I.out ok,q}
 |brk=>obtain⟨b,e,I,q⟩:=h;exact{b,e,I.out ok,q}
 |cont=>obtain⟨b,e,I,q⟩:=h;exact{b,e,I.out ok,q}
 |ret u=>obtain⟨v,b,e,I,r,q⟩:=h;exact{v,b,e,I.out ok,r,q}
end
theorem Z6(a v:nL):argsOk "max" ⟨[a],[(Str.ofString "default",v)]⟩:=by
 unfold argsOk
 kernel_rfl
def Ja(val:Nat->Int)(j:Nat)(m:Int):Prop:=(∃i,i<=j/\m=val i)/\∀i,i<=j->val i<=m
theorem Ja.up{val:Nat->Int}(h:Ja val j m)(b:m<val (j+1)):Ja val (j+1) (val (j+1)):=by
 refine{{j+1,de _,rfl},λi f=>?_};rcases iE j i with z|z
 ·have e:i=j+1:=by omega
  rw[e];omega
 ·have:=h.2 i z;omega
theorem Ja.same{val:Nat->Int}(h:Ja val j m)(b:¬m<val (j+1)):Ja val (j+1) m:=by
 obtain⟨⟨n,p,f⟩,g⟩:=h;refine{{n,by omega,f},λi o=>?_};rcases iE j i with z|z
 ·have e:i=j+1:=by omega
  rw[e];omega
 ·exact g i z
section
variable {prog:nP}{w:n4}{A:nU}{R:Result->nB->Prop}{I S:Addr}{fp wr:List Addr}{n:Nat}{P:Nat->nL->Prop}{St:Nat->Heap->Prop}{val:Nat->Int}
theorem Ro(h:wpAny #[0] A.in1 (Builtin.«max.loop» a) (λb s'=>match b with
   | .done f=>R (.ok f) s'
   | .again g=>g.quiet=true/\codeAny #[0] A g R s') (λe s'=>R (.error e) s') s):codeAny #[0] A (.builtin "max.loop" a) R s:=by
 refine codeAny_builtin F.entry_max_loop ?_;rw[Around.under_plainId F.plain_max_loop _];exact h
theorem kf(W:Walks prog w A.in1 I fp wr n P St)(M:∀i v,P i v->∃t,v=.int (val i) t)(O:S∉fp)(kw:List (Str×nL)):
  ∀(k j:Nat) (s:nB) (m:Int) (t:Tok) (c:Nat),n=j+1+k->St (j+1) s.heap->Ja val j m->
  s.heap.get? S=some {cls:=.type "list",dict:=none,data:=.seq #[.int m t,.int m t] c,slots:=#[] }->
  (∀U t' L tk,Ja val (n-1) U->(∀b o,b∉wr->b≠S->s.heap.get? b=some o->L.get? b=some o)->R (.ok (.ret (.int U t'))) {s with heap:=L,toks:=tk})->
  codeAny #[0] A (.builtin "max.loop" ⟨[.ref I,.none,.ref S],kw⟩) R s:=by
 have X:S∉wr:=λz=>O (W.sub _ z);have Y:(toString "max"++toString ".loop":String)="max.loop":=by decide
 have GO:CmpOf prog w A.in1 .Gt P (λi j=>decide (val i>val j)):=CmpOf.ints_gt val M;intro k
 induction k with
 |zero=>
  intro j s m t c hk D C u x;refine Ro ?_;refine ag ( gd u rfl ?_);show wpAny #[0] A.in1 #[10] _ _ s;have ej:j+1=n:=by omega
  refine ag (wpAny_tryCatch (W.done s _ _ (ej▸D) λh1 T h=>?_));have q:=h S _ X u;show wpAny #[0] A.in1 (updateSeq S (λ_=>#[])>>=_) _ _ _;refine ag ?_;refine wpAny_updateSeq q rfl (ag (wpAny_letGo (aN ?_)));have Z:n-1=j:=by omega
  exact x m t _ T (Z▸C) λb o g p e=>(eI _ _ (Ne.symm p)).trans (h b o g e)
 |succ k N=>
  intro j s m t c hk D C u x;refine Ro ?_;refine ag ( gd u rfl ?_);show wpAny #[0] A.in1 #[10] _ _ s;refine ag (wpAny_tryCatch (W.item (j+1) s _ _ #[1] D λv h1 T hP Q h=>?_));have q:=h S _ X u;obtain⟨t1,rfl⟩:=M _ _ hP;refine ag (aN ?_);refine ag (wpAny_tryCatch (fD (ag ?_)));refine richCompare_gives (op:=.Gt) (typeIs_int _ _ _) (typeIs_int _ _ _) F.slot_int_gt F.entry_int_gt (F.args_int_gt_2 _ _) (gives_int_gt _ _ _ _) (λz=>nomatch z) ?_;refine ag (fD (iC ?_));refine ag (wpAny_letGo (aN ?_));by_cases B:m<val (j+1)
  ·have E:decide (val (j+1)>m)=true:=decide_eq_true B;simp only[E,if_true];refine ag ?_;refine wpAny_updateSeq q rfl (ag (wpAny_letGo ?_));rw[Y];refine aN ⟨ll F.plain_max_loop _,N (j+1) _ (val (j+1)) _ _ #[1] (W.frame _ _ _ Q λb z o e=>?_) (C.up B) (gU _ q rfl) λm2 K G H f J=>?_⟩
   ·exact(eI _ _ (λy:S=b=>O (by rw[y];exact z))).trans e
   ·exact x m2 K G H f λb o g p e=>J b o g p ((eI _ _ (Ne.symm p)).trans (h b o g e))
  ·have E:decide (val (j+1)>m)=false:=jJ B;simp only[E,Bool.false_eq_true,if_false];refine ag (wpAny_letGo ?_);rw[Y];refine aN ⟨ll F.plain_max_loop _,N (j+1) _ m t c #[1] Q (C.same B) q λm2 K G H f J=>?_⟩;exact x m2 K G H f λb o g p e=>J b o g p (h b o g e)
theorem V9(W:Walks prog w A.in1 I fp wr n P St)(B:∀i v,P i v->∃t,v=.int (val i) t)(j:S∉fp){H:Str}{d:nL}{s:nB}{c:Nat}(p:St 0 s.heap)
  (x:s.heap.get? S=some {cls:=.type "list",dict:=none,data:=.seq #[] c,slots:=#[] })
  (J:n=0->∀h' m,#[7]->R (.ok (.ret d)) {s with heap:=h',toks:=m})
  (M:0<n->∀D t' h' m,Ja val (n-1) D->#[7]->R (.ok (.ret (.int D t'))) {s with heap:=h',toks:=m}):
  codeAny #[0] A (.builtin "max.loop" ⟨[.ref I,.none,.ref S],[(H,d)]⟩) R s:=by
 have T:S∉wr:=λz=>j (W.sub _ z);have U:(toString "max"++toString ".loop":String)="max.loop":=by decide
 refine Ro ?_;refine ag ( gd x rfl ?_);show wpAny #[0] A.in1 #[10] _ _ s;rcases Nat.eq_zero_or_pos n with z|z
 ·subst z;refine ag (wpAny_tryCatch (W.done s _ _ p λu C g=>?_));refine ag (la (aN ?_));exact J rfl u C λb o h _ e=>g b o h e
 ·refine ag (wpAny_tryCatch (W.item 0 s _ _ z p λv u C L O g=>?_));have q:=g S _ T x;obtain⟨E,rfl⟩:=B _ _ L;show wpAny #[0] A.in1 (updateSeq S (λ_=>#[.int (val 0) E,.int (val 0) E])>>=_) _ _ _;refine ag ?_;refine wpAny_updateSeq q rfl ?_;rw[U];refine aN ⟨ll F.plain_max_loop _,kf W B j _ (n-1) 0 _ (val 0) _ _ #[1] (W.frame _ _ _ O λb z o e=>?_) ⟨⟨0,de _,rfl⟩,λi Y=>?_⟩ (gU _ q rfl) λm2 X K N f Q=>?_⟩
  ·exact(eI _ _ (λy:S=b=>j (by rw[y];exact z))).trans e
  ·have e:i=0:=by omega
   rw[e];exact Int.le_refl _
  ·exact M z m2 X K N f λb o h G e=>Q b o h G ((eI _ _ (Ne.symm G)).trans (g b o h e))
end
section
variable {prog:nP}{w:n4}{A:nU}{E:mD}{s:nB}{l:Addr}
theorem L4{id:String}{b:Builtin}{args:Args}{Q:mD}(p:builtinKind id=none)(q:plainId id=true)(o:entryFor table id=some b)(n:argsOk id args)
  (i:wpAny #[0] A.in1 (b args) (λg s'=>match g with
   | .done f=>(match(Except.ok f:Result)with| .ok (.ret v)=>Q v s'| .ok _=>False| .error e=>E e s')
   | .again h=>h.quiet=true/\codeAny #[0] A h (λr s'=>match r with| .ok (.ret v)=>Q v s'| .ok _=>False| .error e=>E e s') s') E s):
  wpAny #[0] A (call (.builtin id) args.pos args.kw) Q E s:=by
 refine wpAny_call (codeAny_call_builtin q o ?_);simp only[checkBuiltinCall,p];cases u:Manifest.signature? id with
 |none=>exact aN i
 |some x=>
  have j:Bind.checkArgs id x args=pure ():=by simpa only[argsOk,u]using n
  have m:(⟨args.pos,args.kw⟩:Args)=args:=rfl;simp only[m,j];exact aN i
theorem Z7(n:A.handled=none)(p:s.heap.IsList l (intItems xs))
  (j:xs.size=0->∀h' f,#[4]->Q d {s with heap:=h',toks:=f})
  (h1:0<xs.size->∀m t h' f,Ja (numAt xs) (xs.size-1) m->#[4]->Q (.int m t) {s with heap:=h',toks:=f}):
  wpAny #[0] A (call (.builtin "max") [.ref l] [(Str.ofString "default",d)]) Q E s:=by
 have v:(toString "max"++toString ".loop":String)="max.loop":=by decide
 refine L4 (args:={[.ref l],[(Str.ofString "default",d)]}) F.kind_max F.plain_max F.entry_max (Z6 _ _) ?_;show wpAny #[0] A.in1 (Builtin.Builtins.bindParams "max" ["key","default"] 0 ⟨[],[(Str.ofString "default",d)]⟩>>=_) _ _ s;refine ag (wpAny_of_eq (show Builtin.Builtins.bindParams "max" ["key","default"] 0 ⟨[],[(Str.ofString "default",d)]⟩=pure [none,some d]from ?_) ?_)
 ·kernel_rfl
 refine ag (aN ?_);refine ag (iter_intList p λy e x u i=>?_);subst e;refine ag (gW ?_);rw[v];have g:(intItems xs).size=xs.size:=by simp[intItems]
 refine aN ⟨ll F.plain_max_loop _,?_⟩;have W:=Walks.list (prog:=prog) (w:=w) (A:=A.in1) n _ l i (intItems xs);refine V9 (val:=numAt xs) W (λ_ _=>intItems_at) (λq=>Nat.lt_irrefl _ (u _ q)) (W.frame _ _ _ x λb _ o e=>cb _ e) (cX _ rfl) (λz h' f k=>?_) λz m t h' f top k=>?_
 ·exact j (g▸z) h' f (old_kept λb o h e=>k b o h (fe (dr e)) (cb _ e))
 ·exact h1 (g▸z) m t h' f (g▸top) (old_kept λb o h e=>k b o h (fe (dr e)) (cb _ e))
end
open PySem PySem.Spec PyProof.Rows PySem.SeqAt
def u9(A:nU)(s:nB)(x y:nL)(b:Bool):Prop:=∀(e:nP) (w:n4) (E:mD) (Q:mD),Q (.bool b) s->wpAny (model e w) A (richCompare .Lt x y) Q E s
theorem A2h(l b:Addr)(xs ys:Array nL)(n S:Nat)(dd F:Option Addr)(X G:Array (Option nL))(e:Nat->Bool)(r:Bool):
  Meets (Builtin.«tuple.__lt__» ⟨[.ref l,.ref b],[]⟩)
   (λA R s=>s.heap.get? l=some {cls:=.type "tuple",dict:=dd,data:=.seq xs n,slots:=X}/\s.heap.get? b=some {cls:=.type "tuple",dict:=F,data:=.seq ys S,slots:=G}/\
    (∀j (p:j<xs.size) (q:j<ys.size),EqAt A.in1 s xs[j] ys[j] (e j))/\(∀j (p:j<xs.size) (q:j<ys.size),(∀i,i<j->e i=true)->e j=false->u9 A.in1 s xs[j] ys[j] r)/\
    ((∀j,j<min xs.size ys.size->e j=true)->r=decide (xs.size<ys.size))/\R (.ok (.ret (.bool r))) s):=
 .of_wp λf w A R s h=>by
  obtain⟨N,g,d,Y,T⟩:=s;obtain⟨M,I,J,K,Q,h⟩:=h;have f2:=AutoSeq1.sub_tuple_tuple;have hZ:(xs.toList.zip ys.toList).length=min xs.size ys.size:=by simp
  wp_walk using wpAny_loadPart' M,wpAny_loadPart' I,wpAny_forIn_list _ (λm b D=>b.1=none/\D=⟨N,g,d,Y,T⟩/\∃i,m=(xs.toList.zip ys.toList).drop i/\∀k,k<i->k<min xs.size ys.size->e k=true) _
  case turn=>
   rintro⟨y,x⟩ m b D ⟨C,rfl,i,o,u⟩
   have H:i<(xs.toList.zip ys.toList).length:=by
    apply Classical.byContradiction;intro z;rw[List.drop_of_length_le #[1]]at o;cases o
   have p:i<xs.size:=by omega
   have q:i<ys.size:=by omega
   rw[List.drop_eq_getElem_cons H]at o;injection o with E U;have B:y=xs[i]:=by simpa using congrArg Prod.fst E
   have P:x=ys[i]:=by simpa using congrArg Prod.snd E
   subst B P;refine ag (J i p q f w _ _ ?_);cases B:e i with
   |true=>
    wp_walk
    refine{rfl,rfl,i+1,U,λk v uV=>?_};by_cases z:k=i
    ·rw[z];exact B
    ·exact u k #[1] uV
   |false=>
    have Z:=K i p q (λk v=>u k v #[1]) B f w
    wp_walk using Z _ _
    exact{_,rfl,h}
  case fin=>
   rintro⟨b1,b2⟩ D ⟨C,rfl,i,o,u⟩;simp only at C;subst C
   have GR:min xs.size ys.size<=i:=by
    apply Classical.byContradiction;intro z;rw[List.drop_eq_getElem_cons #[1]]at o;cases o
   have O:=Q λj L=>u j #[1] L
   wp_walk
   refine{_,rfl,?_};rw[O]at h;simpa[Builtin.Tuple.tupleCompareSizes]using h
  case h=>
   exact{rfl,rfl,0,rfl,λk v=>absurd v (l0 k)}
mutual
def Uu:oa->oa->Bool
 | .int a,.int b=>decide (a<b)
 | .tuple e,.tuple f=>bA e f
 |_,_=>false
def bA:List oa->List oa->Bool
 |[],[]=>false
 |[],_::_=>true
 |_::_,[]=>false
 |x::b,y::e=>if PyData.eqv x y then bA b e else Uu x y
end
mutual
def Mc:oa->oa->Prop
 | .int _,.int _=>True
 | .tuple b,.tuple e=>fU b e
 |_,_=>False
def fU:List oa->List oa->Prop
 |x::b,y::e=>Mc x y/\fU b e
 |_,_=>True
end
theorem Qk:∀(xs ys:List oa),(∀j,j<min xs.length ys.length->pairEq xs ys j=true)->bA xs ys=decide (xs.length<ys.length)
 |[],[],_=>rfl
 |[],y::ys,_=>by simp[bA]
 |x::xs,[],_=>by simp[bA]
 |x::xs,y::ys,h=>by
  have b:PyData.eqv x y=true:=h 0 (by simp only[List.length_cons];omega);have e:=Qk xs ys λj f=>h (j+1) (by simp only[List.length_cons];omega);rw[bA,if_pos b,e];simp
mutual
theorem Od:∀(p g:oa) (A:nU) (s:nB) (a b:nL) (as bs:List Addr),Reads s.heap a p as->Reads s.heap b g bs->p.canLay0=true->g.canLay0=true->Mc p g->
  A.units+min p.depth g.depth<cLine->u9 A s a b (Uu p g)
 | .int x,g,A,s,_,_,_,_,L,M,_,_,e,v=>by
  cases g with
  |int y=>
   cases L with
   |int _ t=>
    cases M with
    |int _ u=>
     intro q w E Q h;exact richCompare_gives (op:=.Lt) (typeIs_int s _ t) (typeIs_int s _ u) F.slot_int_lt F.entry_int_lt (F.args_int_lt_2 _ _) (gives_int_lt _ _ t u) (λz=>nomatch z) h
  |none=>exact e.elim
  |bool _=>exact e.elim
  |str _=>exact e.elim
  |list _=>exact e.elim
  |tuple _=>exact e.elim
  |dict _=>exact e.elim
 | .tuple i,g,A,s,_,_,_,_,L,M,R,S,e,v=>by
  cases g with
  |tuple m=>
   cases L with
   |@tuple l o C n _ D N O P H=>
    cases M with
    |@tuple l' o' B n' _ G T U X K=>
     obtain⟨oc,od,SU,gD⟩:=o;obtain⟨oc',Z,SX,Y⟩:=o';simp only at O P U X;subst O P U X;have n1:C.size=i.length:=by simpa using ReadsAll.length _ _ _ H
     have n2:B.size=m.length:=by simpa using ReadsAll.length _ _ _ K
     intro q w E Q h;refine richCompare_meets_room (op:=.Lt) ⟨_,N,rfl⟩ ⟨_,T,rfl⟩ F.slot_tuple_lt F.entry_tuple_lt (F.args_tuple_lt_2 _ _) (A2h l l' C B n n' od Z gD Y (pairEq i m) (bA i m)) ⟨N,T,λj I J=>?_,λj I J f1 f2=>?_,λf=>?_,(λz=>nomatch z),h⟩ (room_here v)
     ·have:=eqAt_readsAll i m A.in1 s C.toList B.toList _ _ H K R S (room_in v) j (by simpa using I) (by simpa using J);simpa using this
     ·have:=gQ i m A.in1 s C.toList B.toList _ _ H K R S e (room_in v) j (by simpa using I) (by simpa using J) f1 f2;simpa using this
     ·rw[n1,n2]at f⊢;exact Qk i m f
  |none=>exact e.elim
  |bool _=>exact e.elim
  |str _=>exact e.elim
  |list _=>exact e.elim
  |int _=>exact e.elim
  |dict _=>exact e.elim
 | .none,_,_,_,_,_,_,_,_,_,_,_,e,_=>e.elim
 | .bool _,_,_,_,_,_,_,_,_,_,_,_,e,_=>e.elim
 | .str _,_,_,_,_,_,_,_,_,_,_,_,e,_=>e.elim
 | .list _,_,_,_,_,_,_,_,_,_,_,_,e,_=>e.elim
 | .dict _,_,_,_,_,_,_,_,_,_,_,_,e,_=>e.elim
theorem gQ:∀(xs ys:List oa) (A:nU) (s:nB) (vs ws:List nL) (v bs:List Addr),ReadsAll s.heap vs xs v->ReadsAll s.heap ws ys bs->PyData.canLayAll0 xs=true->PyData.canLayAll0 ys=true->fU xs ys->
  A.units+min (PyData.depthAll xs) (PyData.depthAll ys)<cLine->∀j (h1:j<vs.length) (b:j<ws.length),(∀i,i<j->pairEq xs ys i=true)->pairEq xs ys j=false->u9 A s vs[j] ws[j] (bA xs ys)
 |[],_,_,_,_,_,_,_,g,_,_,_,_,_,j,h1,_,_,_=>by cases g;exact absurd h1 (l0 _)
 |_::_,[],_,_,_,_,_,_,_,h,_,_,_,_,j,_,b,_,_=>by cases h;exact absurd b (l0 _)
 |x::xs,y::ys,A,s,_,_,_,_,g,h,z,B,q,D,j,h1,b,o,p=>by
  cases g with
  |cons G H=>
   cases h with
   |cons E F=>
    have m:x.canLay0=true/\PyData.canLayAll0 xs=true:=by simpa[PyData.canLayAll0]using z
    have n:y.canLay0=true/\PyData.canLayAll0 ys=true:=by simpa[PyData.canLayAll0]using B
    have u:A.units+min x.depth y.depth<cLine/\A.units+min (PyData.depthAll xs) (PyData.depthAll ys)<cLine:=by
     simp only[PyData.depthAll]at D;omega
    cases j with
    |zero=>
     have e:bA (x::xs) (y::ys)=Uu x y:=by
      have f:PyData.eqv x y=false:=p;rw[bA,f];rfl
     rw[e];exact Od x y A s _ _ _ _ G E m.1 n.1 q.1 u.1
    |succ j=>
     have e:bA (x::xs) (y::ys)=bA xs ys:=by
      have f:PyData.eqv x y=true:=o 0 (Nat.succ_pos _);rw[bA,f];rfl
     rw[e];exact gQ xs ys A s _ _ _ _ H F m.2 n.2 q.2 u.2 j (Nat.lt_of_succ_lt_succ h1) (Nat.lt_of_succ_lt_succ b) (λi C=>o (i+1) (Nat.succ_lt_succ C)) p
end
section
variable {X:Cx}{k:Nat}
inductive A3t(x:V)(y:V)(H:Hp)(Q:VK):Prop
 |mk (d e:oa) (bW:Rp H d x) (bO:Rp H e y) (cB:Mc d e) (dM:d.depth<=60) (iK:Q (.bl (Uu d e)) H):A3t x y H Q
theorem yw(m:Ca k X.A):Ht X (compareOp .Lt) A3t:=by
 intro g s C H x y v u Q I p z h;obtain⟨d,e,b,f,j,A,q⟩:=h;obtain⟨i,n⟩:=D1 I d x v b p;obtain⟨bs,o⟩:=D1 I e y u f z;have B:=m.units;exact Od d e X.A s v u i bs n o (Dh d x b) (Dh e y f) j #[1] _ _ _ _ ⟨.bl (Uu d e),H,I,rfl,q⟩
end
section
variable {X:Cx}
inductive o7(K:W.Frag)(x:V)(y:V)(H:Hp)(Q:VK):Prop
 |mk (a:_) (b:_) (xs:_) (ys:_) (bW:x=.ref a) (bO:y=.ref b) (cB:Ax K H a xs) (dM:H b=some (.tup ys)) (iK:ys≠[]) (qC:xs.length+ys.length<=sizeLine) (DS:∀p H',A6 H H'->H' p=some (.tup (xs++ys))->Q (.ref p) H'):o7 K x y H Q
theorem K3(K:W.Frag)(L:X.K=K:=by rfl):Ht X (binaryOp .Add) (o7 K):=by
 subst L;intro g s σ H x y v u Q I C D h;obtain⟨a,b,F,Z,rfl,rfl,j,i,N,O,q⟩:=h;by_cases A:F=[]
 ·subst A;cases C;cases D;obtain⟨aK,Y,T,_⟩:=I.tuple j;obtain⟨fJ,r2,U,_⟩:=I.tuple (Ax.of i);cases Y;obtain⟨⟨c1,G,t1,P⟩,z,m,n,o⟩:=T;obtain⟨⟨c2,J,t2,R⟩,E,B,S,f⟩:=U;simp only at m o B f;subst m o B f;exact concat_meets ⟨_,z,rfl⟩ ⟨_,E,rfl⟩ noFill_tuple_add seq_tuple_add PySem.F.slot_tuple_add PySem.F.entry_tuple_add (PySem.F.args_tuple_add_2 _ _) (tuple_addW0 a b _ _ n S G J P R rfl) ⟨z,E,.ref b,H,I,rfl,q b H (A6.refl H) i⟩
 ·exact Xn g s σ H _ _ v u Q I C D ⟨a,b,F,Z,rfl,rfl,j,Ax.of i,A,O,λe=>absurd e N,λ_ p M=>q p _ (A6.upd M) A2⟩
end
theorem Nf:∀{bs:List Bool}{us:List nL},B0 (bs.map V.bl) us->LSm.BoolsAre us bs
 |[],_,.nil=>.nil
 |b::bs,_,.cons r e=>by
  cases r;exact .cons b (Nf e)
section
variable {X:Cx}
theorem Q0(x:X.calm=true):Cp X (.builtin "any") (λxs H Q=>∃(p:Addr) (bs:List Bool),xs=[.ref p]/\Ar X.K H p (bs.map V.bl)/\Q (.bl (bs.any id)) H):=by
 intro m s N H M L Q I r q;obtain⟨p,bs,rfl,z,q⟩:=q;obtain⟨u,rfl,C⟩:=Dj r;cases C;obtain⟨g,B,A,G⟩:=I.list z;have j:=Nf B;have f:=A.isList
 have n:p<s.heap.objs.size:=by
  obtain⟨_,e,_⟩:=f;exact dr e
 refine call_any_walk (wpAny_pyIter_list f ⟨s.heap.objs.size,[s.heap.objs.size,p],[s.heap.objs.size],g.toArray.size,_,_,λi=>(bs[i]?).getD false,rfl,Walks.list (prog:=X.prog) (w:=X.w) (A:=X.A.in1) (I.ok.hd x) _ p (fe n) g.toArray,⟨⟨_,cX _ rfl,rfl,rfl⟩,f.push _⟩,λi v J E D o h=>?_,λF K y=>?_⟩)
 ·obtain⟨b,e,rfl⟩:=j.get i v (by simpa using o);simp only[e,Option.getD_some]at h;exact iC h
 ·refine{.bl _,H,I.kept (LSm.kept_iter y),?_,q};rw[<- LSm.range_any bs,<- j.length];simp;rfl
theorem Kn(x:X.calm=true):Cp X (.builtin "all") (λxs H Q=>∃(p:Addr) (bs:List Bool),xs=[.ref p]/\Ar X.K H p (bs.map V.bl)/\Q (.bl (bs.all id)) H):=by
 intro m s N H M L Q I r q;obtain⟨p,bs,rfl,z,q⟩:=q;obtain⟨u,rfl,C⟩:=Dj r;cases C;obtain⟨g,B,A,G⟩:=I.list z;have j:=Nf B;have f:=A.isList
 have n:p<s.heap.objs.size:=by
  obtain⟨_,e,_⟩:=f;exact dr e
 refine call_all_walk (wpAny_pyIter_list f ⟨s.heap.objs.size,[s.heap.objs.size,p],[s.heap.objs.size],g.toArray.size,_,_,λi=>(bs[i]?).getD true,rfl,Walks.list (prog:=X.prog) (w:=X.w) (A:=X.A.in1) (I.ok.hd x) _ p (fe n) g.toArray,⟨⟨_,cX _ rfl,rfl,rfl⟩,f.push _⟩,λi v J E D o h=>?_,λF K y=>?_⟩)
 ·obtain⟨b,e,rfl⟩:=j.get i v (by simpa using o);simp only[e,Option.getD_some]at h;exact iC h
 ·refine{.bl _,H,I.kept (LSm.kept_iter y),?_,q};rw[<- LSm.range_all bs,<- j.length];simp;rfl
end
section
variable {prog:nP}{w:n4}{A:nU}{E:mD}{I:Addr}{fp wr:List Addr}{St:Nat->Heap->Prop}{items:Array nL}
theorem Q9(W:Walks prog w A I fp wr items.size (λi v=>items[i]?=some v) St):∀(n i:Nat) (s:nB) (Q:List nL->nB->Prop),St i s.heap->i+n=items.size->
  (∀h' F,St (i+n) h'->(∀b o,b∉wr->s.heap.get? b=some o->h'.get? b=some o)->Q (items.toList.drop i) {s with heap:=h',toks:=F})->wpAny #[0] A (draw (.ref I) n) Q E s
 |0,i,s,Q,g,x,f=>by
  have e:items.toList.drop i=[]:=List.drop_eq_nil_of_le (by simp;omega);have q:=f s.heap s.toks g λ_ _ _ z=>z;rw[e]at q;exact aN q
 |n+1,i,s,Q,g,x,f=>by
  have h:i<items.size:=by omega
  show wpAny _ _ (pyNext (.ref I)>>=_) Q E s;refine ag (W.item i s _ _ h g λv G H u B C=>?_);refine ag (fD (Q9 W n (i+1) _ _ B #[1] λp y j D=>aN ?_))
  have e:items.toList.drop i=v::items.toList.drop (i+1):=by
   have m:items.toList[i]?=some v:=by simpa using u
   rw[List.drop_eq_getElem_cons (by simpa using h)];congr 1;exact en ((d3 _).symm.trans m)
  have q:=f p y (by rw[show i+(n+1)=i+1+n by omega];exact j) λb o z e=>D b o z (C b o z e);rw[e]at q;exact q
end
section
variable {X:Cx}{pos:Pos}
inductive A30(K:W.Frag)(n:Nat)(t:k8)(v:V)(σ:St)(H:Hp)(Q:St->Hp->Prop):Prop
 |mk (a:_) (xs:_) (bW:v=.ref a) (bO:Ar K H a xs) (cB:xs.length=n) (dM:t xs σ H Q):A30 K n t v σ H Q
theorem Ir(K:PySem.W.Frag){es:List Expr}{k:Nat}{t:k8}{n:Nat}(F:X.calm=true)(h:DN X es t)(E:X.K=K:=by rfl)
  (J:(assignEach es X.env).length=n:=by rfl)(B:(assignEach es X.env).findIdx? (·.1)=none:=by rfl):PG X (.Tuple es k pos) (A30 K n t):=by
 subst E;intro f s q H v u Q I r m;obtain⟨a,S,C,L,G,m⟩:=m;subst C;cases r;obtain⟨j,p,R,U⟩:=I.list L;have i:=R.isList
 have A:a<s.heap.objs.size:=by
  obtain⟨_,e,_⟩:=i;exact dr e
 have g:j.toArray.size=n:=by
  rw[List.size_toArray,<- G,p.length]
 have y:j.length=n:=by simpa using g
 rw[assign_Tuple];refine ag (wpAny_standAt ?_);unfold unpack;rw[J,B];refine ag (fD ?_);unfold unpackItems notIterableAtAll;refine ag (ag (wpAny_specialOf i.typeIs slot_list_iter.lookup (aN ?_)));simp only[Bool.false_eq_true,if_false];refine ag (fD (wpAny_pyIter_list i ?_));have W:=Walks.list (prog:=X.prog) (w:=X.w) (A:=X.A) (I.ok.hd F) s.heap.objs.size a (fe A) j.toArray;refine ag (fD (Q9 W n 0 _ _ ⟨⟨_,cX _ rfl,rfl,rfl⟩,i.push _⟩ #[1] λT Y N O=>?_));rw[if_neg (by rw[List.drop_zero,List.toList_toArray,y];exact Nat.lt_irrefl _)];refine ag (fD (W.done _ _ _ (by rw[g];simpa using N) λD M P=>?_));simp only[Option.isSome_none,Bool.false_eq_true,if_false];refine aN ?_
 have x:Ak X f q H {s with heap:=D,toks:=M}:=I.kept λb o e=>P b o (by
   intro z;rw[List.mem_singleton.mp z]at e;exact Nat.lt_irrefl _ (dr e)) (LSm.kept_iter O b o e)
 exact h f _ q H S _ Q x (by simpa using p) m
end
open PySem.W (Looks)
theorem Ps:Looks M h (isSubtype (.type "type") (.type "tuple")) false:=by
 have e:isSubtype (.type "type") (.type "tuple")=pure false:=by first|exact tc_notTuple|rfl|decide
 rw[e];exact W.Looks.now
theorem am{M:Model}{K:W.Frag}{h:Heap}{a C Y:Addr}{f:Obj}(b:K.In h)(he:h.get? a=some f)(n:f.cls=.ref C)(j:ExcC K Y)
  (m:W.subIn K (.ref Y) (.type "BaseException")=some true)(o:W.subIn K (.ref C) (.ref Y)=some true):Looks M h (excMatches (.ref a) (.ref Y)) true:=by
 obtain⟨y,N,E,F,g,B,G,u,x,i,A,H,I,J,L,O,D,e,_,_,_⟩:=X8 b j;have v:Looks M h (typeOf (.ref Y)) (.type "type"):=(W.Looks.ld e).andThen .now;have p:Looks M h (isInstance (.ref Y) (.type "tuple")) false:=v.andThen Ps
 have q:Looks M h (typeOf (.ref a)) (.ref C):=by
  have z:Looks M h (typeOf (.ref a)) f.cls:=(W.Looks.ld he).andThen .now;rw[n]at z;exact z
 unfold excMatches;refine p.andThen ?_;rw[if_neg Bool.false_ne_true];refine W.Looks.now.andThen ?_;simp only[List.forIn_cons,List.forIn_nil];refine Looks.andThen (a:=PUnit.unit) (Looks.andThen (a:=ForInStep.yield PUnit.unit) ((vf b m).andThen ?_) .now) (q.andThen (Looks.andThen (a:=(some true,())) (Looks.andThen (a:=ForInStep.done (some true,())) ((W.looks_subIn b o).andThen ?_) .now) .now))
 ·rw[if_neg #[17]];exact .now
 ·rw[if_pos rfl];exact .now
section
variable {prog:nP}{w:n4}{A:nU}{E:mD}{K:W.Frag}{x C:Addr}{h:Heap}{g:Array GenState}{d:Drawn}{t:Nat}{os:OsState}
structure Sw(K:W.Frag)(C:Addr):Prop where
 ga:W.findIn K (.ref C) "__getattribute__"=some (some (.builtin "BaseException.__getattribute__"))
 gt:W.findIn K (.ref C) "__getattr__"=some none
 cl:W.findIn K (.ref C) "__class__"=some (some (.builtin "object.__class__"))
 gs:W.specialIn K (.builtin "object.__class__") "__get__"=some (some (.builtin "getset_descriptor.__get__"))
 tk:W.takesIn K (.builtin "object.__class__")=some true
 ob:W.mroIn K C (.type "object")=some true
 be:W.subIn K (.ref C) (.type "BaseException")=some true
theorem ci{M:Model}(b:K.In h)(F:Sw K C):Looks M h (Builtin.ObjectAttr.find (.ref x) (.ref C) "__class__") (.bind (.builtin "getset_descriptor.__get__") (.builtin "object.__class__")):=by
 unfold Builtin.ObjectAttr.find;refine(W.looks_findIn b F.cl).andThen ((W.looks_specialIn b F.gs).andThen ?_);refine Looks.andThen (a:=some (.builtin "getset_descriptor.__get__",.builtin "object.__class__")) ?_ (W.Looks.tag .now);show Looks M h (Builtin.ObjectAttr.takesStores _>>=_) _;refine(W.looks_takesIn b F.tk).andThen ?_;rw[if_pos rfl];exact .now
theorem cg{R:Result->nB->Prop}{f:nL}(b:K.In h)(e:∀M,Looks M h (typeOf (.ref x)) (.ref C))(F:Sw K C)(q:R (.ok (.ret (.ref C))) ⟨h,g,d,t,os⟩):
  codeAny #[0] A (.call (.builtin "getset_descriptor.__get__") ⟨[.builtin "object.__class__",.ref x,f],[]⟩) R ⟨h,g,d,t,os⟩:=by
 have i:=e #[0];have j:=W.looks_mroIn (M:=model prog w) b F.ob;refine codeAny_call_builtin W.KF.slot_gs.plain W.KF.entry_gs (W.KF.slot_gs.check _ _ _ _ _ _ _ _ W.KF.type_class (W.KF.args_gs _ _ _) ?_);unfold Builtin.«getset_descriptor.__get__» Builtin.Getset_descriptor.descrGet;rw[W.dga_obj];refine ag (aN ?_);unfold Builtin.Getset_descriptor.descrGetter Builtin.Getset_descriptor.descrCheckInstance Builtin.Getset_descriptor.descrNameAndClass isInstance;simp only[W.KF.owner_class];repeat lk
 refine{Code.quiet_builtin _ #[13],codeAny_builtin W.KF.entry_class ?_};unfold Builtin.«object.__class__» shownTypeOf;repeat lk
 exact q
theorem Zb{Q:Fin->nB->Prop}{f:Tok}(b:K.In h)(e:∀M,Looks M h (typeOf (.ref x)) (.ref C))(F:Sw K C)(q:Q (.done (.ret (.ref C))) ⟨h,g,d,t,os⟩):
  wpAny #[0] A (Builtin.«object.__getattribute__» ⟨[.ref x,.str "__class__" f],[]⟩) Q E ⟨h,g,d,t,os⟩:=by
 have i:=e #[0];have j:=ci (M:=model prog w) (x:=x) b F
 repeat (any_goals (first|assumption|with_reducible refine Looks.at (by assumption) ?_|wp_step))
 refine cg b e F ?_
 repeat (any_goals (first|assumption|wp_step))
theorem Za{R:Result->nB->Prop}{f:Tok}(b:K.In h)(e:∀M,Looks M h (typeOf (.ref x)) (.ref C))(F:Sw K C)(q:R (.ok (.ret (.ref C))) ⟨h,g,d,t,os⟩):
  codeAny #[0] A (.call (.builtin "BaseException.__getattribute__") ⟨[.ref x,.str "__class__" f],[]⟩) R ⟨h,g,d,t,os⟩:=by
 have m:=e #[0];have n:=W.looks_subIn (M:=model prog w) b F.be;have i:builtinKind "BaseException.__getattribute__"=some .slot:=by decide+kernel
 have j:splitId "BaseException.__getattribute__"=some ("BaseException","__getattribute__"):=by decide+kernel
 have o:=PySem.F.args_bexc_ga (.ref x) (.str "__class__" f);refine codeAny_call_builtin PySem.F.attr_ValueError.ga.plain PySem.F.entry_bexc_ga ?_;simp only[checkBuiltinCall,i,j];unfold isInstance
 repeat (any_goals (first|assumption|with_reducible refine Zb b e F ?_|with_reducible refine Looks.at (by assumption) ?_|wp_step))
theorem cf{Q:Option nL->nB->Prop}(b:K.In h)(e:∀M,Looks M h (typeOf (.ref x)) (.ref C))(F:Sw K C)(q:Q (some (.ref C)) ⟨h,g,d,t+1,os⟩):
  wpAny #[0] A (getAttr? (.ref x) "__class__") Q E ⟨h,g,d,t,os⟩:=by
 have i:=e #[0];have j:=W.looks_findIn (M:=model prog w) b F.ga;have m:=W.looks_findIn (M:=model prog w) b F.gt;have n:=PySem.F.attr_ValueError.ga.bind (.ref x);have f:(Value.builtin "BaseException.__getattribute__"==Value.builtin "object.__getattribute__")=false:=by decide+kernel
 have o:(onTheHeap (Value.ref C)&&Value.builtin "BaseException.__getattribute__"==Value.builtin "object.__getattribute__")=false:=by rw[f];rfl
 unfold getAttr? getAttrBy?
 repeat (any_goals (first|assumption|with_reducible refine Looks.at (by assumption) ?_|wp_step))
 refine Za b e F ?_
 repeat (any_goals (first|assumption|wp_step))
theorem di{s:nB}{c:nL}{b:Bool}{Q:mD}(f:K.In s.heap)(i:∀M,Looks M s.heap (typeOf (.ref x)) (.ref C))(F:Sw K C)(e:W.kitOne K (.ref C) c=some b)
  (q:∀j,Q (.bool b) {s with toks:=j}):wpAny #[0] A (call (.builtin "isinstance") [.ref x,c]) Q E s:=by
 cases b with
 |true=>exact kx f i e (λz=>nomatch z) (q s.toks)
 |false=>
  refine call_isinstance (S:=λ_ R s=>(K.In s.heap/\∀M,Looks M s.heap (typeOf (.ref x)) (.ref C))/\∀j,R (.ok (.ret (.bool false))) {s with toks:=j}) (λprog w A R s p=>isinstance_outer ?_ (λz=>nomatch z)) ⟨⟨f,i⟩,q⟩;obtain⟨⟨f,i⟩,m⟩:=p;obtain⟨o,g,d,D,os⟩:=s;unfold Builtin.«isinstance.nested»;refine ag ((i _).at ?_);unfold W.kitOne at e;by_cases z:(Value.ref C==c)=true
  ·rw[if_pos z]at e;cases e
  rw[if_neg z]at e⊢;obtain⟨u,v,n⟩:=W.kit_cls (M:=model prog w) f e;have y:Looks #[0] o (isInstance (.ref x) c) false:=(i _).andThen n;have B:=dh (M:=model prog w) f F.be;refine ag (u.at ?_);rw[if_pos #[17]]
  k_delta "plainIsInstance";refine ag (ag (v.at ?_));simp only[Bool.not_true,if_false,Bool.false_eq_true];refine ag (y.at ?_);simp only[if_false,Bool.false_eq_true];refine ag (cf f i F ?_);refine ag (B.at ?_);simp only[if_false,Bool.false_eq_true,Bool.not_true];refine ag (la (n.at ?_))
  first
   |exact aN (m _)
   |exact aN (aN (m _))
end
section
variable {X:Cx}
inductive o9(K:W.Frag)(xs:List V)(H:Hp)(Q:VK):Prop
 |mk (a C:Addr) (c:nL) (v:V) (b:Bool) (bW:xs=[.ref a,v]) (bO:H a=some (.ext (Fm a (.ref C)))) (cB:(∀u,B2 v u->u=c)) (dM:Sw K C) (iK:W.kitOne K (.ref C) c=some b) (qC:Q (.bl b) H):o9 K xs H Q
theorem Cf(K:W.Frag)(j:X.K=K:=by rfl):Cp X (.builtin "isinstance") (o9 K):=by
 subst j;intro f s G H E B Q I r h;obtain⟨a,C,c,v,b,rfl,m,n,F,e,q⟩:=h;obtain⟨A,x,rfl,p,u⟩:=B0.two r;cases p;rw[n x u];obtain⟨o,D,g,i,_⟩:=(I.aJ a _ m).1;refine di (s:=s) I.fI (λM=>?_) F e λy=>⟨.bl b,H,I.kept λ_ _ z=>z,rfl,q⟩;have z:Looks M s.heap (typeOf (.ref a)) o.cls:=(W.Looks.ld g).andThen .now;rw[i]at z;exact z
end
open PySem.W (Looks)
section
variable {X:Cx}
def RT1(K:W.Frag)(h:TS)(Y:Addr)(i:Nat)(D:Hy):St->XK->Prop:=λf E=>∀cls b,E cls none b->∃C,cls=.ref C/\W.subIn K (.ref C) (.ref Y)=some true/\∀a,b a=some (.ext (Fm a (.ref C)))->
 h {nx:=λe g=>D.nx (e.set i none) g,rt:=λ_ _=>False} (f.set i (some (.ref a))) b
def A4z(K:W.Frag)(b:(St->XK->Prop)->TS)(e:TS)(Y:Addr)(i:Nat):TS:=λD f H=>b (RT1 K e Y i D) D f H
theorem mi(K:PySem.W.Frag){p2 pos np:Pos}
  (lC:X.stack=X.env::X.outer)(hf:X.env.frame=some X.env.locals)
  (L:∀(W:mD) (pn:List #[18]) (R:St->XK->Prop),Na (X.BG pn W) R->Pc (X.BG pn W) p (tb R))
  (hg:Gl X x)(hm:X.mg x=some (.ref Y))(hY:ExcC K Y)(hB:PySem.W.subIn K (.ref Y) (.type "BaseException")=some true)(hN:X.N.Nodup)(hi:X.N[i]?=some n)(hl:X.env.scope.names.lookup n=some .local)
  (hu:∀A:nU,Pc (X.at A) (v::ss) tu)(hK:X.K=K:=by rfl)(fO:(x==("__debug__":Str))=false:=by decide):
  PS X (.Try p [.ExceptHandler (some (.Name x np)) (some n) (v::ss) p2] [] [] pos) (A4z K tb tu Y i):=by
 subst hK;intro g s σ H D I h;refine wpAny_Try_except ?_;have ok:=I.ok;refine iv (L _ (X.pn++g) _ ?_ [] s σ H D I.BG h) (λf P q=>?_) λe P z=>z
 ·rintro lH y H1 P e G E hR I1 ⟨a,T,cls,N,rfl,os,j,F,hE⟩;obtain⟨C,rfl,pA,hs⟩:=hR _ _ hE;have Q:Ak X g y H1 P:=I1.out ok;have F:Wz X.prog X.w (gF X.stack) H1 P.heap N G.heap a T (.ref C):=F;have S:=Q.lO os j F;obtain⟨a0,tr⟩:=F.mZ (B:=PySem.W.hideAll G.heap (gF X.stack++a::[T])) (O7 (iT.mpr rfl));have hA:X.A.frames=some (X.env::X.outer):=by rw[<- lC];exact ok.frames
  have hF:G.heap.FunFrames (PySem.W.hideAll G.heap (gF X.stack++a::[T])) (X.env::X.outer):=by rw[<- lC];exact Xc S
  refine wpAny_looks_onW hA hf ⟨λb o q=>PySem.W.of_hideAll _ q,Ju,hF,tr⟩ λh3 M sm3=>?_;refine wpAny_landsW M λJ U sm4=>?_;obtain⟨k1,_,_,k4⟩:=U;obtain⟨T2,m⟩:=Wz.on F.un F.ok F.exc S.eZ S.uE (λb L=>by rw[List.mem_singleton.mp L];exact{F.off,F.new}) k1 (sm3.trans sm4) k4;have B:Ak X g y N {G with heap:=J}:=Q.lO os j m;obtain⟨o5,vs5,e5,c5,d5⟩:=m.cls;refine wpAny_handleBy_cons (codeAny_handlers_test (Calls.Name_function_global ok.kind hg (Calls.loadGlobal_global (by rw[ok.glob];exact B.mod.glob.keeps B.bk) hm ?_) fO)) (by intro q;cases q);refine(am B.fI e5 c5 hY hB pA).at ?_;show codeAny _ _ (.handlers _ [_] _) _ _;refine codeAny_handlers_suite_as ?_;obtain⟨a5,tr5⟩:=m.mZ (B:=PySem.W.hideAll J (gF X.stack++a::[T2])) (O7 (iT.mpr rfl));have Z:J.FunFrames (PySem.W.hideAll J (gF X.stack++a::[T2])) (X.env::X.outer):=by rw[<- lC];exact Xc B
  refine lands_againW (show Heap.FlyingW _ (X.env::X.outer) a (.ref C) a5 J from⟨λb o q=>PySem.W.of_hideAll _ q,Ju,Z,tr5⟩) λh6 SY sm6=>?_;obtain⟨k6,_,_,k7⟩:=SY;obtain⟨T3,F6⟩:=Wz.on m.un m.ok m.exc B.eZ B.uE (λb L=>by rw[List.mem_singleton.mp L];exact{m.off,m.new}) k6 sm6 k7;have I6:Ak X g y N {G with heap:=h6}:=Q.lO os j F6;refine Ke (v:=.ref a) I6 hN hi (.inl hl) rfl (λs7 I7=>?_) (.inr hl);refine iv (hu _ g s7 _ N _ (I7.at rfl) (hs a F.exc)) (λf s8 O=>?_) λ_ _ z=>z.elim;cases f with
  |next=>
   obtain⟨σ',H4,I8,q9⟩:=O;exact kh (I8.back ok) hN hi hl λs9 I9=>⟨_,_,I9,q9⟩
  |brk=>
   obtain⟨_,_,_,z⟩:=O;exact z.elim
  |cont=>
   obtain⟨_,_,_,z⟩:=O;exact z.elim
  |ret u=>
   obtain⟨_,_,_,_,_,z⟩:=O;exact z.elim
 ·cases f with
  |next=>exact wpAny_execs_nil (SP.out ok q)
  |brk=>exact SP.out ok q
  |cont=>exact SP.out ok q
  |ret u=>exact SP.out ok q
end
section
variable {X:Cx}
theorem Zq:uc X "int.bit_length" (λx xs H Q=>∃i:Int,x=.int i/\xs=[]/\Q (.int ((intBits i:Nat):Int)) H):=by
 intro b s j H x xs v g Q I f e h;obtain⟨i,rfl,rfl,q⟩:=h;obtain⟨t,rfl⟩:=f;cases e;exact call_gives PySem.F.slot_int_bit_length (typeIs_int _ _ _) PySem.F.entry_int_bit_length (PySem.F.args_int_bit_length_1 _) (PySem.AutoIntG2.int_bit_length_int_0 i t) ⟨.int _,H,I.tok _,⟨_,rfl⟩,q⟩
def A54(i j:Int):Prop:=0<=j/\((intBits i:Nat):Int)+j<=2^27
theorem lr:Ht X (binaryOp .LShift) (rI A54 λi j=>.int (i*2^j.toNat)):=FN λ_ _ _ _ _ _ _ b q=>lshift_int b.1 b.2 q
end
theorem V5{K:W.Frag}{a:Addr}{xs:List V}{B:List Nat}{o:TT}{n:TE}{f:St}{D:Addr}{E:Hp}{Q:Hp->Prop}(h:Nat->List V->Hp->Prop)(F:h 0 [] (upd E D (.lst [])))
  (I:∀i ys H,i<=xs.length->h i ys H->Ar K H a xs)
  (J:∀i x ys H,xs[i]?=some x->h i ys H->o (some x::Cv B f) H λb u=>
   if b=true then n (some x::Cv B f) u λv z=>z D=some (.lst ys)/\ys.length<sizeLine/\h (i+1) (ys++[v]) (upd z D (.lst (ys++[v])))else h (i+1) ys u)
  (M:∀f H Q j,(∀b g,Q b g->j b g)->o f H Q->o f H j)(L:∀f H Q j,(∀v g,Q v g->j v g)->n f H Q->n f H j)
  (hd:∀ys H,h xs.length ys H->Q H):Dk 1 B (tw K a) (Hr 0) o n f D E Q:=by
 refine{λi m ys H=>m=xs.length-i/\i<=xs.length/\h i ys H,{xs.length,by simp,jN _,F},?_};rintro i m ys g ⟨rfl,G,p⟩;have C:=I i ys g G p;by_cases A:i<xs.length
 ·refine .inr ⟨⟨xs,xs[i],C,by simp[A]⟩,λx R y=>?_⟩;obtain⟨e,y⟩:=y;subst e;refine{{[some x],rfl,rfl},?_};refine M _ _ _ _ ?_ (J i x ys _ (y xs C) p);intro b u q;cases b with
  |false=>exact{xs.length-(i+1),by omega,rfl,A,q}
  |true=>exact L _ _ _ _ (λv z ⟨N,O,P⟩=>⟨N,O,xs.length-(i+1),by omega,rfl,A,P⟩) q
 ·have e:i=xs.length:=by omega
  subst e;exact .inl ⟨⟨xs,C,de _⟩,hd ys g p⟩
section
variable {prog:nP}{w:n4}{A:nU}{E:mD}{s:nB}{l:Addr}{xs:Array (Int×Tok)}
theorem Ly{Q:mD}(i:s.heap.IsTuple l (intItems xs))
  (h:∀f:nB,f={s with heap:=s.heap.push {cls:=.type "tuple_iterator",data:=.fields #[.ref l,.int 0 0] } }->
   (f.heap.IsTupleIter s.heap.objs.size l 0/\f.heap.IsTuple l (intItems xs))->(∀b∈[s.heap.objs.size,l],b<f.heap.objs.size)->l≠s.heap.objs.size->Q #[2] f):
  wpAny #[0] A (pyIter (.ref l)) Q E s:=by
 have j:l<s.heap.objs.size:=by obtain⟨_,e,_⟩:=i;exact dr e
 refine wpAny_pyIter_tuple i (h _ rfl ⟨⟨_,cX _ rfl,rfl,rfl⟩,?_⟩ (λb g=>?_) (fe j))
 ·exact i.at λo e=>cb _ e
 show b<(s.heap.push _).objs.size;rw[Heap.size_push];rcases eH.mp g with rfl|g
 ·exact Nat.lt_succ_self _
 ·rcases eH.mp g with rfl|g
  ·exact Nat.lt_succ_of_lt j
  ·cases g
theorem Qo{h':Heap}(h:∀b o,b∉[s.heap.objs.size]->(s.heap.push {cls:=.type "tuple_iterator",data:=.fields #[.ref l,.int 0 0] }).get? b=some o->h'.get? b=some o):
  ∀b o,s.heap.get? b=some o->h'.get? b=some o:=λb o e=>by
 refine h b o (λf=>?_) (cb _ e);rcases eH.mp f with g|f
 ·exact absurd (g▸dr e) (Nat.lt_irrefl _)
 ·cases f
theorem Vr{Q:mD}(q:A.handled=none)(x:s.heap.IsTuple l (intItems xs))(n:0<xs.size)
  (h:∀v h' f,(intItems xs)[argBest (λi j=>decide (numAt xs i<numAt xs j)) (xs.size-1)]?=some v->#[4]->Q v {s with heap:=h',toks:=f}):
  wpAny #[0] A (call (.builtin "min") [.ref l]) Q E s:=by
 refine call_min_walk (Ly x λg e z y m=>?_);subst e;refine{_,_,_,_,_,_,_,rfl,Walks.tuple (A:=A.in1) q _ l m (intItems xs),z,y,by simpa[intItems]using n,CmpOf.ints_lt (numAt xs) (λ_ _=>intItems_at),λv h' f p u=>?_};exact h v h' f (by simpa[intItems]using p) (Qo u)
end
section
variable {X:Cx}
theorem Yw(C:X.calm=true):Cp X (.builtin "min") (λxs H Q=>∃(p:Addr) (ns:mY),xs=[.ref p]/\Ax X.K H p #[15]/\0<ns.length/\∀m:Int,m∈ns->(∀a∈ns,m<=a)->Q (.int m) H):=by
 intro y s T H S R Q I r q;obtain⟨p,ns,rfl,F,g,q⟩:=q;obtain⟨u,rfl,L⟩:=Dj r;cases L;obtain⟨z,K,J,O⟩:=I.tuple F;have o:=Dq K;obtain⟨b,i⟩:=o.allInts.items
 have e:ns=b.toList.map (·.1):=by
  have B:=o.numsOf;have h:=nums_intItems b;rw[<- i]at h;exact B.symm.trans h
 have f:0<b.size:=by
  rw[e,List.length_map,Array.length_toList]at g;exact g
 have x:s.heap.IsTuple p z.toArray:=J;rw[i]at x;refine Vr (I.ok.hd C) x f λv N P G E=>?_;obtain⟨t,rfl⟩:=intItems_at G;obtain⟨M,A⟩:=argBest_lt (numAt b) (b.size-1);refine{.int _,H,I.kept E,{t,rfl},q _ ?_ λa n=>?_}
 ·rw[e,numAt_eq];exact getD_mem (by rw[List.length_map,Array.length_toList];omega)
 ·rw[e]at n;obtain⟨j,D,rfl⟩:=mem_getD n;rw[List.length_map,Array.length_toList]at D;rw[<- numAt_eq];exact A j #[1]
theorem Ga(K:W.Frag)(g:X.calm=true)(j:X.K=K:=by rfl):Cp X (.builtin "min") (λxs H Q=>∃(p:Addr) (ns:mY),xs=[.ref p]/\(Ar K H p #[15]\/Ax K H p #[15])/\0<ns.length/\∀m:Int,m∈ns->(∀a∈ns,m<=a)->Q (.int m) H):=by
 subst j;intro b s i H n h Q I r q;obtain⟨p,ns,rfl,e|e,f,q⟩:=q
 ·exact Yv g b s i H _ h Q I r ⟨p,ns,rfl,e,f,q⟩
 ·exact Yw g b s i H _ h Q I r ⟨p,ns,rfl,e,f,q⟩
end
section
variable {X:Cx}
theorem Iz(K:W.Frag)(b:X.K=K:=by rfl):FV X (zl K):=by
 subst b;exact A0d
inductive o6(K:W.Frag)(x:V)(y:V)(H:Hp)(Q:VK):Prop
 |mk (a:_) (b:_) (xs:_) (ys:_) (bW:x=.ref a) (bO:y=.ref b) (cB:H a=some (.tup xs)) (dM:H b=some (.tup ys)) (iK:xs.length+ys.length<=sizeLine) (qC:∀p H',A6 H H'->H' p=some (.tup (xs++ys))->Q (.ref p) H'):o6 K x y H Q
theorem S3(K:W.Frag)(L:X.K=K:=by rfl):Ht X (binaryOp .Add) (o6 K):=by
 subst L;intro g s Z H x y v u Q I C D h;obtain⟨a,b,F,Y,rfl,rfl,i,j,N,q⟩:=h;by_cases A:F=[]
 ·subst A;cases C;cases D;obtain⟨aK,U,S,_⟩:=I.tuple (Ax.of i);obtain⟨fJ,r2,T,_⟩:=I.tuple (Ax.of j);cases U;obtain⟨⟨c1,G,t1,O⟩,z,m,n,o⟩:=S;obtain⟨⟨c2,J,t2,P⟩,E,B,R,f⟩:=T;simp only at m o B f;subst m o B f;exact concat_meets ⟨_,z,rfl⟩ ⟨_,E,rfl⟩ noFill_tuple_add seq_tuple_add PySem.F.slot_tuple_add PySem.F.entry_tuple_add (PySem.F.args_tuple_add_2 _ _) (tuple_addW0 a b _ _ n R G J O P rfl) ⟨z,E,.ref b,H,I,rfl,q b H (A6.refl H) j⟩
 ·refine Xn g s Z H _ _ v u Q I C D ⟨a,b,F,Y,rfl,rfl,Ax.of i,Ax.of j,A,N,λe=>?_,λ_ p M=>q p _ (A6.upd M) A2⟩;subst e;exact q a H (A6.refl H) (by rw[List.append_nil];exact i)
end
theorem Lv{C:List Nat}{z:TT}{u:TE}{f:St}{D:Addr}{E:Hp}{Q:Hp->Prop}{o:Int}{cnt:Nat}(h:Nat->List V->Hp->Prop)(F:h 0 [] (upd E D (.lst [])))
  (G:∀i ys H,i<cnt->h i ys H->z (some (.int (o+i))::Cv C f) H λb A=>
   if b=true then u (some (.int (o+i))::Cv C f) A λv B=>B D=some (.lst ys)/\ys.length<sizeLine/\h (i+1) (ys++[v]) (upd B D (.lst (ys++[v])))else h (i+1) ys A)
  (J:∀f H Q j,(∀b g,Q b g->j b g)->z f H Q->z f H j)(I:∀f H Q j,(∀v g,Q v g->j v g)->u f H Q->u f H j)
  (hd:∀ys H,h cnt ys H->Q H):Dk 1 C (jz o cnt) (Hr 0) z u f D E Q:=by
 refine{λi m ys H=>m=cnt-i/\i<=cnt/\h i ys H,{cnt,by simp,jN _,F},?_};rintro i m ys g ⟨rfl,O,p⟩;by_cases n:i<cnt
 ·refine .inr ⟨n,λx N y=>?_⟩;obtain⟨e,y⟩:=y;subst e y;refine{{[some (.int (o+i))],rfl,rfl},?_};refine J _ _ _ _ ?_ (G i ys _ n p);intro b A q;cases b with
  |false=>exact{cnt-(i+1),by omega,rfl,n,q}
  |true=>exact I _ _ _ _ (λv B ⟨K,L,M⟩=>⟨K,L,cnt-(i+1),by omega,rfl,n,M⟩) q
 ·have e:i=cnt:=by omega
  subst e;exact .inl ⟨de _,hd ys g p⟩
section
variable {κ:Type} [DecidableEq κ]
def Am(kvs:List (κ×V))(k:κ):Option V:=(kvs.find? λb=>decide (b.1=k)).map (·.2)
def Cq(kvs:List (κ×V))(k:κ)(v:V):List (κ×V):=
 if(kvs.any λb=>decide (b.1=k))=true then kvs.map (λb=>if b.1=k then(b.1,v)else b)else kvs++[(k,v)]
def Bv(kvs:List (κ×V))(k:κ):List (κ×V):=kvs.filter λb=>decide (b.1≠k)
theorem C6{p:κ×V}{r:List (κ×V)}{k:κ}(e:p.1=k):Am (p::r) k=some p.2:=by simp[Am,List.find?_cons,e]
theorem C0{p:κ×V}{r:List (κ×V)}{k:κ}(e:¬p.1=k):Am (p::r) k=Am r k:=by simp[Am,List.find?_cons,e]
theorem Ff(k:κ):∀kvs:List (κ×V),(kvs.any λb=>decide (b.1=k))=(Am kvs k).isSome
 |[]=>rfl
 |p::r=>by
  rw[List.any_cons];by_cases e:p.1=k
  ·simp only[C6 e,decide_eq_true e,Bool.true_or,Option.isSome_some]
  ·rw[C0 e,decide_eq_false e,Bool.false_or];exact Ff k r
theorem Up(k j:κ)(y:V):∀kvs:List (κ×V),Am (kvs.map λb=>if b.1=k then(b.1,y)else b) j=(Am kvs j).map λx=>if j=k then y else x
 |[]=>rfl
 |p::r=>by
  have f:=Up k j y r;rw[List.map_cons];by_cases h:p.1=k
  ·rw[if_pos h];by_cases e:p.1=j
   ·rw[C6 (p:=(p.1,y)) e,C6 e,Option.map_some,if_pos (e.symm.trans h)]
   ·rw[C0 (p:=(p.1,y)) e,C0 e,f]
  ·rw[if_neg h];by_cases e:p.1=j
   ·rw[C6 (p:=p) e,C6 e,Option.map_some,if_neg (λz=>h (e.trans z))]
   ·rw[C0 (p:=p) e,C0 e,f]
theorem R1(k j:κ)(y:V):∀kvs:List (κ×V),Am kvs k=none->Am (kvs++[(k,y)]) j=if j=k then some y else Am kvs j
 |[],_=>by
  by_cases e:k=j
  ·rw[if_pos e.symm];exact C6 (p:=(k,y)) e
  ·rw[if_neg (λz=>e z.symm)];exact C0 (p:=(k,y)) e
 |p::r,b=>by
  rw[List.cons_append];have f:¬p.1=k:=λz=>by rw[C6 z]at b;cases b
  rw[C0 f]at b;have g:=R1 k j y r b;by_cases e:p.1=j
  ·rw[C6 e,C6 e,if_neg (λz=>f (e.trans z))]
  ·rw[C0 e,C0 e,g]
theorem Kh(kvs:List (κ×V))(k j:κ)(y:V):Am (Cq kvs k y) j=if j=k then some y else Am kvs j:=by
 unfold Cq;by_cases a:(kvs.any λf=>decide (f.1=k))=true
 ·rw[if_pos a,Up];rw[Ff]at a;by_cases e:j=k
  ·obtain⟨x,b⟩:=Option.isSome_iff_exists.mp a;rw[if_pos e,e,b,Option.map_some,if_pos rfl]
  ·rw[if_neg e];cases Am kvs j with
   |none=>rfl
   |some x=>rw[Option.map_some,if_neg e]
 ·rw[if_neg a];refine R1 k j y kvs ?_;rw[Ff]at a;cases q:Am kvs k with
  |none=>rfl
  |some x=>rw[q]at a;exact(a rfl).elim
theorem Eg(kvs:List (κ×V))(k:κ)(v:V):(Cq kvs k v).length<=kvs.length+1:=by
 unfold Cq;split
 ·rw[List.length_map];omega
 ·rw[List.length_append,List.length_cons,List.length_nil];omega
theorem K9{kvs:List (κ×V)}{k:κ}(v:V)(h:Am kvs k=none):Cq kvs k v=kvs++[(k,v)]:=by
 unfold Cq;rw[Ff,h];exact if_neg #[17]
theorem Gq.gH(r:Gq o u):o.isSome=u.isSome:=by
 cases o with
 |none=>cases u with
  |none=>rfl
  |some _=>exact(show False from r).elim
 |some _=>cases u with
  |none=>exact(show False from r).elim
  |some _=>rfl
theorem Gq.getD(r:Gq o u)(b:B2 d d'):B2 (o.getD d) (u.getD d'):=by
 cases o with
 |none=>cases u with
  |none=>exact b
  |some _=>exact(show False from r).elim
 |some _=>cases u with
  |none=>exact(show False from r).elim
  |some _=>exact r
theorem KV.val{kvs:List (κ×V)}{vs:List (κ×nL)}(r:KV kvs vs)(k:κ):Gq (Am kvs k) (valueAt vs k):=by
 unfold KV at r
 induction r with
 |nil=>exact True.intro
 |@cons p q n g h t m=>
  obtain⟨i,j⟩:=h;by_cases e:p.1=k
  ·have f:q.1=k:=i.symm.trans e;have b:valueAt (q::g) k=some q.2:=by simp[valueAt,List.find?_cons,f]
   rw[C6 e,b];exact j
  ·have f:¬q.1=k:=λz=>e (i.trans z);have b:valueAt (q::g) k=valueAt g k:=by simp[valueAt,List.find?_cons,f]
   rw[C0 e,b];exact m
theorem KV.any(r:KV kvs vs)(k:κ):(kvs.any λb=>decide (b.1=k))=vs.any λb=>decide (b.1=k):=by
 unfold KV at r
 induction r with
 |nil=>rfl
 |cons h t e=>rw[List.any_cons,List.any_cons,e,h.1]
theorem KV.BI(r:KV kvs vs)(k:κ)(j:B2 y u):
  KV (kvs.map λb=>if b.1=k then(b.1,y)else b) (vs.map λb=>if b.1=k then(b.1,u)else b):=by
 unfold KV at r⊢
 induction r with
 |nil=>exact .nil
 |@cons p q m n h t i=>
  rw[List.map_cons,List.map_cons];refine .cons ?_ i;obtain⟨f,g⟩:=h;by_cases e:p.1=k
  ·rw[if_pos e,if_pos (f.symm.trans e)];exact{f,j}
  ·rw[if_neg e,if_neg (λz=>e (f.trans z))];exact{f,g}
theorem KV.put(r:KV kvs vs)(k:κ)(b:B2 y u):KV (Cq kvs k y) (stored vs k u):=by
 unfold Cq stored;rw[r.any k];by_cases e:(vs.any λf=>decide (f.1=k))=true
 ·rw[if_pos e,if_pos e];exact r.BI k b
 ·rw[if_neg e,if_neg e];exact Paired.snoc r ⟨rfl,b⟩
theorem KV.drop(r:KV kvs vs)(k:κ):KV (Bv kvs k) (without vs k):=by
 unfold KV at r⊢;unfold Bv without
 induction r with
 |nil=>exact .nil
 |@cons p q m n h t g=>
  obtain⟨f,j⟩:=h;rw[List.filter_cons,List.filter_cons];by_cases e:p.1=k
  ·have a:¬decide (p.1≠k)=true:=by simp[e]
   have b:¬decide (q.1≠k)=true:=by simp[f.symm.trans e]
   rw[if_neg a,if_neg b];exact g
  ·have i:¬q.1=k:=λz=>e (f.trans z);have a:decide (p.1≠k)=true:=by simp[e]
   have b:decide (q.1≠k)=true:=by simp[i]
   rw[if_pos a,if_pos b];exact .cons ⟨f,j⟩ g
theorem KV.length(r:KV kvs vs):kvs.length=vs.length:=Paired.length r
theorem Ti(kvs:List (κ×V))(k:κ):(Bv kvs k).length<=kvs.length:=List.length_filter_le _ _
end
theorem Ts{k:Ex}(r:B2 (kV k) u):(E2 P w).is k u=true:=by
 cases k with
 |inl i=>obtain⟨t,e⟩:=(show∃t,u=Value.int i t from r);subst e;exact Ty P w i t
 |inr x=>obtain⟨t,e⟩:=(show∃t,u=Value.str x t from r);subst e;exact Tz P w x t
abbrev KT(H:Hp):mF->List ((mY×Int)×Addr×nL)->Prop:=Paired λp q=>p.1=q.1/\Im H q.2.1 p.1/\B2 p.2 q.2.2
theorem KT.val{H:Hp}{kvs:mF}{xs:List ((mY×Int)×Addr×nL)}(r:KT H kvs xs)(k:(mY×Int)):Gq (Am kvs k) ((atKey xs k).map (·.2)):=by
 induction r with
 |nil=>exact True.intro
 |@cons p q n g h t m=>
  obtain⟨i,_,j⟩:=h;by_cases e:p.1=k
  ·have f:q.1=k:=i.symm.trans e;have b:atKey (q::g) k=some q.2:=by simp[atKey,List.find?_cons,f]
   rw[C6 e,b];exact j
  ·have f:¬q.1=k:=λz=>e (i.trans z);have b:atKey (q::g) k=atKey g k:=by simp[atKey,List.find?_cons,f]
   rw[C0 e,b];exact m
theorem KT.BI(r:KT H kvs xs)(k:(mY×Int))(m:B2 y u):
  KT H (kvs.map λf=>if f.1=k then(f.1,y)else f) (xs.map (putAt k u)):=by
 induction r with
 |nil=>exact .nil
 |@cons p q n o h t j=>
  rw[List.map_cons,List.map_cons];refine .cons ?_ j;obtain⟨b,g,i⟩:=h;unfold putAt;by_cases e:p.1=k
  ·rw[if_pos e,if_pos (b.symm.trans e)];exact{b,g,m}
  ·rw[if_neg e,if_neg (λz=>e (b.trans z))];exact{b,g,i}
theorem KT.put(r:KT H kvs xs)(k:(mY×Int))(g:Im H b k)(f:B2 y u):
  KT H (Cq kvs k y) (storedH xs k b u):=by
 have e:(kvs.any λh=>decide (h.1=k))=(atKey xs k).isSome:=by
  rw[Ff,(r.val k).gH,Option.isSome_map]
 unfold Cq storedH;rw[e];by_cases q:(atKey xs k).isSome=true
 ·rw[if_pos q,if_pos q];exact r.BI k f
 ·rw[if_neg q,if_neg q];exact Paired.snoc r ⟨rfl,g,f⟩
theorem KT.keeps(r:KT H kvs xs)(f:∀b ys,H b=some (.tup ys)->e b=some (.tup ys)):KT e kvs xs:=
 Paired.FA r λ_ _ z=>⟨z.1,z.2.1.up f,z.2.2⟩
section
variable {P:nP}{w:n4}{H:Hp}{h:Heap}{a:Addr}
theorem ol(ok:Hv P w H h)(e:Rd H a u):Bi P w H h a u:=e.ok ok
theorem O1(ok:Hv P w H h)(e:Rd H a (.dK kvs)):kvs.length<=sizeLine/\(a==sysModules)=false/\∃vs,KV kvs vs/\h.DictOf (E2 P w) a vs:=
 show Bi P w H h a (.dK kvs)from ol ok e
theorem nq(ok:Hv P w H h)(e:H a=some (.dK kvs)):kvs.length<=sizeLine/\(a==sysModules)=false/\∃vs,KV kvs vs/\h.DictOf (E2 P w) a vs:=O1 ok (.inl e)
theorem Tr:∀{b:mY}{us:List nL},B0 (b.map V.int) us->ItemsAre (intKind P w) b us
 |[],us,r=>by
  cases r;exact .nil
 |k::b,us,r=>by
  cases r with
  |cons h t=>
   obtain⟨e,rfl⟩:=h;exact .cons (by simp[intKind,Value.isInt]) (Tr t)
theorem Fe{P:nP}{w:n4}{A:nU}(b:A.units+20<cLine):(De P w).room A.in1:=by
 first|(show A.units+1+8<cLine;omega)|(show A.units+8<cLine;omega)
theorem L7(ok:Hv P w H h)(e:Im H a b):(De P w).is h b a:=by
 obtain⟨u,g,i⟩:=e;obtain⟨_,E,r,o,x,y,n,z⟩:=(show Bi P w H h a (.tup [.ref u,.int b.2])from ok a _ g);obtain⟨_,j,C,A,p,q,m,v⟩:=(show Bi P w H h u (.tup (b.1.map V.int))from ok u _ i);cases r with
 |cons B f=>
  cases f with
  |cons D f=>
   cases f;cases(show _=Value.ref u from B);obtain⟨t,rfl⟩:=D;exact{o,n,u,t,x,y,z,A,j.toArray,m,p,q,v,by simpa using Tr C}
theorem Qa(ok:Hv P w H h)(e:Rd H a (.dT kvs)):kvs.length<=sizeLine/\(a==sysModules)=false/\
  ∃xs,KT H kvs xs/\h.DictOfH (De P w) a xs:=by
 obtain⟨z,y,xs,r,o,i,g,j,n,u,v,A⟩:=(show Bi P w H h a (.dT kvs)from ol ok e);refine{z,y,xs,r,o,i,g,j,n,u,v,λx b=>?_,A}
 have all:∀{l:mF}{m:List ((mY×Int)×Addr×nL)},KT H l m->∀x∈m,(De P w).is h x.1 x.2.1:=by
  intro l m q
  induction q with
  |nil=>intro x b;exact nomatch b
  |@cons p q C D f t B=>
   intro x b;rcases eH.mp b with e|b
   ·subst e;exact L7 ok (by rw[<- f.1];exact f.2.1)
   ·exact B x b
 exact all r x b
theorem nr(ok:Hv P w H h)(e:H a=some (.dT kvs)):kvs.length<=sizeLine/\(a==sysModules)=false/\
  ∃xs,KT H kvs xs/\h.DictOfH (De P w) a xs:=Qa ok (.inl e)
end
def E6(H:Hp)(a:Addr)(y:V)(r:Option V):Prop:=
 (∃e k,Rd H a (.dK e)/\y=kV k/\r=Am e k)\/∃e k b,Rd H a (.dT e)/\y=.ref b/\Im H b k/\r=Am e k
def Yc(H:Hp)(a:Addr)(y v:V)(f:Hp):Prop:=
 (∃e k,H a=some (.dK e)/\y=kV k/\e.length<sizeLine/\f=upd H a (.dK (Cq e k v)))\/
 ∃e k b,H a=some (.dT e)/\y=.ref b/\Im H b k/\e.length<sizeLine/\f=upd H a (.dT (Cq e k v))
theorem E6.k{H:Hp}{a:Addr}{kvs:List (Ex×V)}{k:Ex}(e:H a=some (.dK kvs)):E6 H a (kV k) (Am kvs k):=.inl ⟨kvs,k,.inl e,rfl,rfl⟩
theorem E6.t{H:Hp}{a b:Addr}{kvs:mF}{k:(mY×Int)}(e:H a=some (.dT kvs))(f:Im H b k):E6 H a (.ref b) (Am kvs k):=.inr ⟨kvs,k,b,.inl e,rfl,f,rfl⟩
theorem Yc.t{H:Hp}{a b:Addr}{kvs:mF}{k:(mY×Int)}{v:V}(e:H a=some (.dT kvs))(f:Im H b k)(g:kvs.length<sizeLine):
  Yc H a (.ref b) v (upd H a (.dT (Cq kvs k v))):=.inr ⟨kvs,k,b,e,rfl,f,g,rfl⟩
section
variable {X:Cx}{pins:List #[18]}{σ:St}{H:Hp}{s:nB}{a:Addr}{y v:V}{u r:nL}{o:Option V}{A:nU}{E:mD}
theorem Ak.big(I:Ak X pins σ H s):sysModules<s.heap.objs.size:=by
 have h:mainGlobals<s.heap.objs.size:=(I.mod.glob.keeps I.bk).lt;exact Nat.lt_trans #[17] h
theorem Z2(J:A.units+20<cLine)(I:Ak X pins σ H s)(g:E6 H a y (some v))(B:B2 y u)(h:∀i s',Ak X pins σ H s'->B2 v i->Q i s'):
  wpAny #[8] A (getItem (.ref a) u) Q E s:=by
 rcases g with⟨x,k,e,m,l⟩|⟨x,k,b,e,m,C,l⟩
 ·subst m;obtain⟨z,F,K,f,j⟩:=O1 I.aJ e;obtain⟨i,n,q⟩:=Gq.some_of (v:=v) (o:=valueAt K k) (by rw[l];exact f.val k);exact wpAny_getItem_of (Ts B) j.mapOf n (h i _ (I.tok _) q)
 ·subst m;cases(show u=Value.ref b from B);obtain⟨z,F,L,f,j⟩:=Qa I.aJ e;obtain⟨i,n,q⟩:=Gq.some_of (v:=v) (o:=(atKey L k).map (·.2)) (by rw[l];exact f.val k);obtain⟨p,G,D⟩:=dI.mp n;refine wpAny_getItem_heap (Fe J) (L7 I.aJ C) j G ?_;rw[D];exact h i _ (I.tok _) q
theorem A5a(B:A.units+20<cLine)(I:Ak X pins σ H s)(g:E6 H a y o)(p:B2 y u)(h:∀s',Ak X pins σ H s'->Q (.bool o.isSome) s'):
  wpAny #[8] A (compareOp .In u (.ref a)) Q E s:=by
 rcases g with⟨n,k,e,j,l⟩|⟨n,k,b,e,j,x,l⟩
 ·subst j;obtain⟨z,m,C,f,i⟩:=O1 I.aJ e;refine wpAny_in_of (Ts p) m i.mapOf ?_;rw[<- (f.val k).gH,<- l];exact h _ (I.tok _)
 ·subst j;cases(show u=Value.ref b from p);obtain⟨z,m,D,f,i⟩:=Qa I.aJ e;refine wpAny_in_heap (Fe B) (L7 I.aJ x) m i ?_;have q:=(f.val k).gH;rw[Option.isSome_map]at q;rw[<- q,<- l];exact h _ (I.tok _)
theorem Mx{t':Nat}(I:Ak X pins σ H s)(h:FC (H a))(g:Heap.SameBut a s.heap h')(he:∃q,h'.get? a=some q)(new:Bi X.prog X.w (upd H a e) h' a e):
  Ak X pins σ (upd H a e) {s with heap:=h',toks:=t'}:=
 I.write (x:=a) (e:=a) h (.inl rfl) (λb q f z=>(g.2 b f).trans z) he new
theorem bz(z:kvs.length<=sizeLine)(hd:(a==sysModules)=false)(b:KV kvs vs)(dd:h'.DictOf (E2 P w) a vs):
  Bi P w e h' a (.dK kvs):={z,hd,vs,b,dd}
theorem Z3(Z:A.units+20<cLine)(I:Ak X pins σ H s)(g:Yc H a y v G)(N:B2 y u)(M:B2 v r)(h:∀s',Ak X pins σ G s'->Q () s'):
  wpAny #[8] A (setItem (.ref a) u r) Q E s:=by
 rcases g with⟨f,k,e,x,l,p⟩|⟨f,k,b,e,x,J,l,p⟩
 ·subst x p;obtain⟨z,B,vs,i,n⟩:=nq I.aJ e;have F:vs.length<=sizeLine:=by rw[<- i.length];exact z
  have C:(Cq f k v).length<=sizeLine:=by have:=Eg f k v;omega
  refine wpAny_setItem_pairs (hsz:=F) (Ts N) n λL m D=>h _ ?_;have Y:∃q,L.get? a=some q:=let⟨q,_,_,j,_⟩:=m;⟨q,j⟩;exact Mx I (by rw[e];exact True.intro) D Y (bz C B (i.put k M) m)
 ·subst x p;cases(show u=Value.ref b from N);obtain⟨z,B,xs,i,n⟩:=nr I.aJ e;have F:xs.length<=sizeLine:=by rw[<- Paired.length i];exact z
  have C:(Cq f k v).length<=sizeLine:=by have:=Eg f k v;omega
  refine wpAny_setItem_heap (hsz:=F) (Fe Z) (L7 I.aJ J) n λL m D=>h _ ?_;obtain⟨q,P,O,j,R,S,T,_,U⟩:=m;refine Mx I (by rw[e];exact True.intro) D ⟨q,j⟩ ⟨C,B,_,(i.put k J M).keeps λc ys K=>?_,q,P,O,j,R,S,T,U⟩;rw[A9 (Bj K e (λz=>nomatch z))];exact K
end
section
variable {X:Cx}{pins:List #[18]}{σ:St}{H:Hp}{s:nB}{a:Addr}{kvs:List (Ex×V)}{k:Ex}{u:nL}{A:nU}{E:mD}
theorem A2y{more:List nL}(I:Ak X pins σ H s)(e:H a=some (.dK kvs))(g:B2 (kV k) u)(l:Am kvs k=some v)(m:more=[]\/∃x,more=[x])
  (h:∀f s',Ak X pins σ (upd H a (.dK (Bv kvs k))) s'->B2 v f->Q f s'):wpAny #[8] A (call (.builtin "dict.pop") (.ref a::u::more)) Q E s:=by
 obtain⟨z,B,o,b,j⟩:=nq I.aJ e;obtain⟨f,J,K⟩:=Gq.some_of (v:=v) (o:=valueAt o k) (by rw[<- l];exact b.val k)
 have D:(keyPart u).isSome=true:=by
  cases k with
  |inl i=>obtain⟨t,q⟩:=(show∃t,u=Value.int i t from g);subst q;rfl
  |inr x=>obtain⟨t,q⟩:=(show∃t,u=Value.str x t from g);subst q;rfl
 have y:argsOk "dict.pop" ⟨.ref a::u::more,[]⟩:=by
  rcases m with q|⟨x,q⟩
  ·subst q;exact PySem.F.args_dict_pop_2 _ _
  ·subst q;exact PySem.F.args_dict_pop_3 _ _ _
 refine call_meetsIn PySem.F.slot_dict_pop j.typeIs PySem.F.entry_dict_pop y (meets_dict_pop_there (E2 X.prog X.w) a (Ts g) more m D)
  ⟨o,f,j,by rw[<- b.length];exact z,J,λp n G=>h f _ ?_ K⟩
 have C:∃q,p.get? a=some q:=let⟨q,_,_,F,_⟩:=n;⟨q,F⟩;exact Mx I (by rw[e];exact True.intro) G C (bz (ea (Ti kvs k) z) B (b.drop k) n)
end
def A2p(i:Expr):Prop:=∀e b,subscripted i false e b=operate [e,b] (getItem e b)
theorem n8{prog:nP}{w:n4}{A:nU}{E:mD}{s:nB}{env:Env}{e b:Expr}{pos:Pos}{T id:String}{Q:mD}
  (v:typeLookup (.type T) "__getitem__"=pure (some (.builtin id)))(y:A2p b)
  (h:wpAny #[0] A (eval e env) (λo j=>wpAny #[0] A (eval b env) (λi f=>f.TypeIs o T/\wpAny #[0] A (getItem o i) Q E f) E j) E s):
  wpAny #[0] A (eval (.Subscript e b pos) env) Q E s:=by
 refine Subscript_ (iv h (λo j p=>iv p (λi f g=>?_) λ_ _ x=>x) λ_ _ x=>x);obtain⟨u,g⟩:=g;unfold subscriptTail;refine ag ?_;rw[getitemInPython_of_ne u.not_modules];refine ag (wpAny_specialOf u v ?_)
 have n:wpAny #[0] A (subscripted b false o i) (λr m=>wpAny #[0] A (letTemporaryGo e o r>>=λ_=>pure r) Q E m) E f:=by
  rw[y o i];exact wpAny_operating (iv g (λr m q=>ag (wpAny_letTemporaryGo (aN q))) λ_ _ x=>x)
 first
  |exact aN (ag n)
  |exact ag (aN (ag n))
  |exact ag n
theorem Tg(I:Ak X f j H s)(g:E6 H a y o):s.TypeIs (.ref a) "dict":=by
 rcases g with⟨i,k,e,_,_⟩|⟨i,k,b,e,_,_,_⟩
 ·obtain⟨_,_,m,_,h⟩:=O1 I.aJ e;exact h.typeIs
 ·obtain⟨_,_,n,_,h⟩:=Qa I.aJ e;exact h.typeIs
inductive jh(Q:VK)(x:V)(y:V)(H2:Hp):Prop
 |mk (a:_) (v:_) (bW:x=.ref a) (bO:E6 H2 a y (some v)) (cB:Q v H2):jh Q x y H2
def A4r(f ty:TE):TE:=λb H Q=>f b H λx e=>ty b e (jh Q x)
inductive rn(Q:VK)(y:V)(x:V)(H2:Hp):Prop
 |mk (a:_) (o:_) (bW:x=.ref a) (bO:E6 H2 a y o) (cB:Q (.bl o.isSome) H2):rn Q y x H2
def A5h(ty f:TE):TE:=λb H Q=>ty b H λy e=>f b e (rn Q y)
def A3v(i ty j:TE):TS:=λD b H=>j b H λv f=>i b f λx g=>ty b g λy h=>∃a e,x=.ref a/\Yc h a y v e/\D.nx b e
section
variable {X:Cx}{o i e value:Expr}{pos pos' lK:Pos}{td ty tv:TE}
theorem Iq(E:X.A.units+20<cLine)(C:PE X o td)(B:PE X i ty)(D:A2p i):PE X (.Subscript o i pos) (A4r td ty):=by
 intro b s j H Q I h;refine n8 PySem.F.slot_dict_getitem.lookup D (Bq (C b s j H _ I h) λu M ⟨x,m,p,K,G⟩=>Bq (B b M j m _ p G) λN O z=>?_);obtain⟨y,n,f,L,a,v,A,g,J⟩:=z;subst A;obtain rfl:u=Value.ref a:=K;exact{Tg f g,Z2 E f g L λR P q F=>{v,n,q,F,J}}
theorem Ig(C:X.A.units+20<cLine)(A:PE X i ty)(B:PE X o td):PC X .In i o (A5h ty td):=by
 intro b s f H Q I h;refine Bq (A b s f H _ I h) λL K ⟨y,j,n,J,E⟩=>Bq (B b K f j _ n E) λu M v=>?_;obtain⟨x,m,p,G,a,D,z,g,F⟩:=v;subst z;obtain rfl:u=Value.ref a:=G;exact A5a C p g J λN q=>⟨.bl D.isSome,m,q,rfl,F⟩
theorem Sa(G:X.A.units+20<cLine)(E:PE X o td)(C:PE X i ty)(J:PE X value tv)(F:swapsWith value (some (.Subscript o i pos')) pos.line X.env=pure false):
  PS X (.Assign [.Subscript o i pos'] value pos) (A3v td ty tv):=by
 intro b s f H D I h;refine wpAny_Assign_Subscript (Bq (J b s f H _ I h) λr Q ⟨v,j,p,N,K⟩=>Bq (E b Q f j _ p K) λu R ⟨x,m,q,O,L⟩=>Bq (C b R f m _ q L) λT U ⟨y,S,z,P,a,n,B,g,M⟩=>?_) F;subst B;obtain rfl:u=Value.ref a:=O;exact Z3 G z g P N λY A=>⟨f,n,A,M⟩
end
theorem bw(h:Heap)(b:sysModules<h.objs.size):Bi P w H (h.push {cls:=.type "dict",data:=.dict #[] }) h.objs.size (.dK []):=
 ⟨jN _,beq_eq_false_iff_ne.mpr (Ne.symm (fe b)),[],.nil,Heap.DictOf.new h⟩
theorem c6(h:Heap)(b:sysModules<h.objs.size):Bi P w H (h.push {cls:=.type "dict",data:=.dict #[] }) h.objs.size (.dT []):=
 ⟨jN _,beq_eq_false_iff_ne.mpr (Ne.symm (fe b)),[],.nil,_,#[],0,cX _ rfl,⟨rfl,rfl,rfl⟩,rfl,rfl,List.nodup_nil⟩
def A28:TE:=λ_ H Q=>∀p,H p=none->Q (.ref p) (upd H p (.dK []))
def A29:TE:=λ_ H Q=>∀p,H p=none->Q (.ref p) (upd H p (.dT []))
section
variable {X:Cx}{pos:Pos}
theorem fu:PE X (.Dict [] [] pos) A28:=λb s e H Q I h=>
 wpAny_Dict_empty ⟨.ref s.heap.objs.size,_,I.laid (a:=s.heap.objs.size) (o:=.dK []) (t':=s.toks) (λ_ _ q=>cb _ q) (de _) (bw s.heap I.big),rfl,h _ (I.aJ.fresh (de _))⟩
theorem Ot:PE X (.Dict [] [] pos) A29:=λb s e H Q I h=>
 wpAny_Dict_empty ⟨.ref s.heap.objs.size,_,I.laid (a:=s.heap.objs.size) (o:=.dT []) (t':=s.toks) (λ_ _ q=>cb _ q) (de _) (c6 s.heap I.big),rfl,h _ (I.aJ.fresh (de _))⟩
end
structure M1(X:Cx)(o:Expr)(m:Str)(apos:Pos)(e:Expr)(bX:Pos):Prop where
 base:attributeBase o m X.env (eval o X.env)=eval o X.env
 lQ:((backTo bX (starEach [e] X.env)).all (λx=>!x.1)&&(backToKw bX (keywordEach [] X.env)).all (λx=>x.1.isSome)
  &&decide (([e]:List Expr).length+([]:List Keyword).length+(if([]:List Keyword).isEmpty then 0 else 1)<30))=true
 line:(apos.endLine==bX.line)=true
 trees:backTo bX (starEach [e] X.env)=[(false,eval e X.env)]
structure M2(X:Cx)(o:Expr)(m:Str)(apos:Pos)(e f:Expr)(bX:Pos):Prop where
 base:attributeBase o m X.env (eval o X.env)=eval o X.env
 lQ:((backTo bX (starEach [e,f] X.env)).all (λx=>!x.1)&&(backToKw bX (keywordEach [] X.env)).all (λx=>x.1.isSome)
  &&decide (([e,f]:List Expr).length+([]:List Keyword).length+(if([]:List Keyword).isEmpty then 0 else 1)<30))=true
 line:(apos.endLine==bX.line)=true
 trees:backTo bX (starEach [e,f] X.env)=[(false,eval e X.env),(false,eval f X.env)]
def OU(H:Hp)(a:Addr):Prop:=(∃b,Rd H a (.dK b))\/∃b,Rd H a (.dT b)
theorem Ve(I:Ak X h o H s)(d:OU H a):
  s.TypeIs (.ref a) "dict"/\(∀b,Value.ref a=.ref b->∃f,s.heap.get? b=some f/\f.dict=none)/\(a==sysModules)=false:=by
 rcases d with⟨n,e⟩|⟨n,e⟩
 ·obtain⟨_,m,p,_,g⟩:=O1 I.aJ e;refine{g.typeIs,λb q=>?_,m};cases q;obtain⟨f,_,_,i,j,_⟩:=g;exact{f,i,j.2.1}
 ·obtain⟨_,m,u,_,g⟩:=Qa I.aJ e;refine{g.typeIs,λb q=>?_,m};cases q;obtain⟨f,_,_,i,j,_⟩:=g;exact{f,i,j.2.1}
section
variable {X:Cx}{pins:List #[18]}{σ:St}{H:Hp}{s:nB}{a:Addr}{y d:V}{u r:nL}{o:Option V}{A:nU}{E:mD}
theorem um(B:A.units+20<cLine)(I:Ak X pins σ H s)(g:E6 H a y o)(q:B2 y u)(p:B2 d r)(h:∀v s',Ak X pins σ H s'->B2 (o.getD d) v->Q v s'):
  wpAny #[8] A (call (.builtin "dict.get") [.ref a,u,r]) Q E s:=by
 rcases g with⟨n,k,e,j,l⟩|⟨n,k,b,e,j,x,l⟩
 ·subst j;obtain⟨z,m,D,f,i⟩:=O1 I.aJ e;refine call_meetsIn PySem.F.slot_dict_get i.typeIs PySem.F.entry_dict_get (PySem.F.args_dict_get_3 _ _ _) (meets_dict_get_default (E2 X.prog X.w) a (Ts q) m r) ⟨_,i.mapOf,h _ _ (I.tok _) ?_⟩;rw[l];exact(f.val k).getD p
 ·subst j;cases(show u=Value.ref b from q);obtain⟨z,m,C,f,i⟩:=Qa I.aJ e;refine call_meetsIn PySem.F.slot_dict_get i.typeIs PySem.F.entry_dict_get (PySem.F.args_dict_get_3 _ _ _) (meetsH_dict_get_default (De X.prog X.w) a b m r) ⟨Fe B,k,C,L7 I.aJ x,i,h _ _ (I.tok _) ?_⟩;rw[l];exact(f.val k).getD p
end
inductive Y7(ty tx:TE)(σ:St)(Q:VK)(x:V)(H1:Hp):Prop
 |mk (a:_) (bW:x=.ref a) (bO:OU H1 a) (cB:ty σ H1 λy H2=>tx σ H2 λz H3=>∃o,E6 H3 a y o/\Q (o.getD z) H3):Y7 ty tx σ Q x H1
def A27(e ty f:TE):TE:=λb H Q=>e b H (Y7 ty f b Q)
inductive Y8(ty:TE)(σ:St)(Q:VK)(x:V)(H1:Hp):Prop
 |mk (a:_) (bW:x=.ref a) (bO:OU H1 a) (cB:ty σ H1 λy H2=>∃kvs k v,H2 a=some (.dK kvs)/\y=kV k/\Am kvs k=some v/\Q v (upd H2 a (.dK (Bv kvs k)))):Y8 ty σ Q x H1
def A2a(e ty:TE):TE:=λb H Q=>e b H (Y8 ty b Q)
section
variable {X:Cx}{o e f:Expr}{apos bX:Pos}{td ty tx:TE}
theorem fq(G:X.A.units+20<cLine)(F:PE X o td)(he:PE X e ty)(E:PE X f tx)(m:M2 X o "get" apos e f bX):PE X (.Call (.Attribute o "get" apos) [e,f] [] bX) (A27 td ty tx):=by
 intro b s i H Q I h;refine wpAny_Call_method m.base m.lQ m.line PySem.F.plainAttrs_dict PySem.F.slot_dict_get PySem.F.type_dict_get (Bq (F b s i H _ I h) λu R C=>?_);obtain⟨x,n,j,N,a,D,d,K⟩:=C;subst D;obtain rfl:u=Value.ref a:=N;obtain⟨T,U,_⟩:=Ve j d;refine{T,U,?_};rw[m.trees]
 refine Calls.callWith_builtin rfl (Calls.evalArgs_plain (Calls.spliced_cons (Bq (he b R i n _ j K) λZ S ⟨y,p,v,O,L⟩=>
  Calls.spliced_cons (Bq (E b S i p _ v L) λY s3 ⟨z,q,A,P,ov,g,M⟩=>Calls.spliced_nil ?_))))
 exact um G A g O P λw' s4 B J=>⟨_,q,B,J,M⟩
theorem fw(C:PE X o td)(he:PE X e ty)(m:M1 X o "pop" apos e bX):PE X (.Call (.Attribute o "pop" apos) [e] [] bX) (A2a td ty):=by
 intro b s i H Q I h;refine wpAny_Call_method m.base m.lQ m.line PySem.F.plainAttrs_dict PySem.F.slot_dict_pop PySem.F.type_dict_pop (Bq (C b s i H _ I h) λu L q=>?_);obtain⟨x,j,g,J,a,A,d,F⟩:=q;subst A;obtain rfl:u=Value.ref a:=J;obtain⟨M,N,_⟩:=Ve g d;refine{M,N,?_};rw[m.trees];refine Calls.callWith_builtin rfl (Calls.evalArgs_plain (Calls.spliced_cons (Bq (he b L i j _ g F) λP R ⟨y,O,n,K,E,k,v,z,B,l,G⟩=>Calls.spliced_nil ?_)));subst B;exact A2y n z K l (.inl rfl) λT S p D=>⟨v,_,p,D,G⟩
end
section
variable {κ:Type} [DecidableEq κ]
theorem Uq{kvs:List (κ×V)}{k:κ}(h:Am kvs k=none):¬k∈kvs.map (·.1):=by
 intro m;obtain⟨p,b,e⟩:=ft.mp m;have q:(kvs.any λf=>decide (f.1=k))=true:=List.any_eq_true.mpr ⟨p,b,decide_eq_true e⟩;rw[Ff,h]at q;exact absurd q (by simp)
theorem Z9{p:κ×V}{r:List (κ×V)}{k:κ}(e:p.1=k):Bv (p::r) k=Bv r k:=by
 unfold Bv;rw[List.filter_cons,if_neg (by simp[e])]
end
section
variable {P:nP}{w:n4}{A:nU}{E:mD}{s:nB}
theorem fm{ok j e val:nL}(h:IsItemIter s.heap it d i n ep ok j)
  (O:∀h',IsItemIterOut h' it d i n ep e val s.heap.objs.size->h'.get? s.heap.objs.size=some {cls:=.type "tuple",data:=.seq #[e,val] }->(∀b o,b≠it->s.heap.get? b=some o->h'.get? b=some o)->Q #[2] {s with heap:=h'}):
  wpAny #[9] A (Builtin.Dict_items.pairFromOwner (.ref it) 6 e val) Q E s:=by
 unfold Builtin.Dict_items.pairFromOwner;refine ag (wpAny_newTuple ?_);have y:it<s.heap.objs.size:=dr h;have g:IsItemIter (s.heap.push {cls:=.type "tuple",data:=.seq #[e,val] }) it d i n ep ok j:=cb _ h;have u:(s.heap.push {cls:=.type "tuple",data:=.seq #[e,val] }).get? s.heap.objs.size=some {cls:=.type "tuple",data:=.seq #[e,val] }:=cX _ rfl;have v:∀b o,s.heap.get? b=some o->(s.heap.push {cls:=.type "tuple",data:=.seq #[e,val] }).get? b=some o:=λb o z=>cb _ z;show wpAny #[9] A (Builtin.Dict_items.ownedTupleIsFree (.ref it)>>=_) Q E {s with heap:=s.heap.push {cls:=.type "tuple",data:=.seq #[e,val] } };generalize s.heap.push {cls:=.type "tuple",data:=.seq #[e,val] }=K at g u v⊢;unfold Builtin.Dict_items.ownedTupleIsFree;refine ag (ag (wpAny_field g rfl (x:=.none) rfl (aN ?_)));simp only[if_true];refine ag (wpAny_field g rfl (x:=ok) rfl (ag (wpAny_field g rfl (x:=j) rfl ?_)));refine ag (wpAny_setField_rec g (by simp) λL B G=>ag ?_);have m:IsItemIter L it d i n ep e j:=B;refine wpAny_setField_rec m (by simp) λM C H=>ag ?_;have p:IsItemIter M it d i n ep e val:=C;refine wpAny_setField_rec p (by simp) λN D I=>ag ?_;have q:IsItemIterOut N it d i n ep e val s.heap.objs.size:=D;refine wpAny_setField_rec q (by simp) λx F J=>ag (wpAny_letGo (aN ?_));have up:∀b o,b≠it->K.get? b=some o->x.get? b=some o:=λb o f z=>J.extBut b o f (I.extBut b o f (H.extBut b o f (G.extBut b o f z)));exact O x F (up _ _ (Nat.ne_of_gt y) u) λb o f z=>up b o f (v b o z)
theorem bv{ok y:nL}(f:IsItemIter s.heap it d i es.size ep ok y)(p:s.heap.get? d=some o)(B:o.data=.dict es ep)
  (he:es[i]?=some h)
  (I:∀h',IsItemIterOut h' it d (i+1) es.size ep h.key h.val s.heap.objs.size->h'.get? s.heap.objs.size=some {cls:=.type "tuple",data:=.seq #[h.key,h.val] }->(∀b o,b≠it->s.heap.get? b=some o->h'.get? b=some o)->Q (some #[2]) {s with heap:=h'}):
  wpAny #[9] A (pyNext (.ref it)) Q E s:=by
 have m:s.TypeIs (.ref it) "dict_itemiterator":={_,f,rfl};have n:Builtin.Dict_items.ownsTuple "dict_itemiterator"=true:=by decide
 unfold pyNext;refine ag (mu (mr (name:=Str.ofString "__next__") m F.slot_dict_itemiterator_next (g6 F.slot_dict_itemiterator_next m F.entry_dict_itemiterator_next ?_ (F.args_dict_itemiterator_next_1 _))));refine ag (aN (ag (ag (ag (wpAny_typeNameOfWhole_itemiter m (aN (ag (wpAny_fieldsOf f rfl ?_))))))));simp only[n,if_true];show wpAny _ _ (if(Value.ref d==Value.none)=true then _ else _) _ _ s;rw[if_neg (show¬(Value.ref d==Value.none)=true from Bool.false_ne_true)];refine ag (aN (ag (wpAny_dictEntries p B ?_)));rw[if_neg (show¬((es.size:Int) != (es.size:Int))=true by simp)];refine ag (aN (ag (wpAny_dictEpoch p B ?_)));rw[if_neg (show¬((ep:Int) != (ep:Int))=true by simp)];refine aN ?_;simp only[show¬((i:Int)<0)by omega,if_false,Int.toNat_natCast,he];refine ag (ag (wpAny_typeNameOfWhole_itemiter m (aN (ag (wpAny_isOneOf_itemiter m ?_)))));show wpAny _ _ (setField (.ref it) 3 (rawInt ((i:Int)+1))>>=_) _ _ s;refine ag (wpAny_setField_rec f (by simp) λj D q=>?_)
 have g:IsItemIter j it d (i+1) es.size ep ok y:=by
  have e:((i+1:Nat):Int)=(i:Int)+1:=by omega
  unfold IsItemIter;rw[e];simpa[rawInt]using D
 have C:Shared.TypeIs {s with heap:=j} (.ref it) "dict_itemiterator":={_,g,rfl};refine ag (fD (ag (wpAny_isOneOf_itemiter C (ag (wpAny_isOneOf_itemiter C ?_)))));have J:j.objs.size=s.heap.objs.size:=q.1;refine fm (s:={s with heap:=j}) g λH u v G=>?_;rw[show(Shared.heap {s with heap:=j}).objs.size=s.heap.objs.size from J]at u v⊢;exact aN ⟨_,rfl,aN (I H u v λb o x z=>G b o x (q.extBut b o x z))⟩
end
theorem Oa:vq "str" "str"=some true:=by decide+kernel
theorem n0{b:List Str}{us:List nL}(h:B0 (b.map V.str) us):∃l:List (Str×Tok),l.map (·.1)=b/\strValues l=us:=by
 induction b generalizing us with
 |nil=>
  cases h;exact{[],rfl,rfl}
 |cons z b g=>
  cases h with
  |cons r t=>
   obtain⟨i,rfl⟩:=r;obtain⟨l,e,f⟩:=g t;exact{(z,i)::l,by simp[e],by simp[strValues,<- f]}
theorem l6{b:Str}{e:List Str}(g:e.length<=500)(hz:∀z∈e,z.length<=30000)(h:b.length<=500):JoinOk b e=true:=by
 refine joinOk_of ?_;have f:=sumLen_le_of_bound (λz:Str=>z) 30000 e hz;have i:e.length*b.length<=500*500:=Nat.mul_le_mul g h;rw[List.map_id']at f;omega
section
variable {X:Cx}
inductive og(K:W.Frag)(x:V)(xs:List V)(H:Hp)(Q:VK):Prop
 |mk (sep:Str) (a:Addr) (zs:List Str) (bW:x=.str sep) (bO:xs=[.ref a]) (cB:Ar K H a (zs.map V.str)) (dM:zs.length<=500) (iK:(∀z∈zs,z.length<=30000)) (qC:sep.length<=500) (DS:Q (.str (Txt.join sep zs)) H):og K x xs H Q
theorem N0(K:W.Frag)(n:X.K=K:=by rfl):uc X "str.join" (og K):=by
 subst n;intro i s N H x L v J Q I D C h;obtain⟨e,a,M,rfl,rfl,p,o,z,y,q⟩:=h;obtain⟨t,rfl⟩:=D;obtain⟨u,rfl,B⟩:=C.one;cases B;obtain⟨E,r,A,_⟩:=I.list p;obtain⟨l,j,m⟩:=n0 r;have f:=l6 o z y;rw[<- j]at f q;have b:=f;unfold JoinOk at b;rw[Bool.not_eq_true']at b;have g:=A.isList;rw[<- m]at g;exact call_meets F.slot_str_join (typeIs_str _ _ _) F.entry_str_join (F.args_str_join_2 _ _) (meets_str_join_list e t a l b) ⟨g,post_join l ⟨joinFit_length b,λG k=>⟨.str _,H,I.tok _,⟨_,rfl⟩,q⟩⟩⟩
end
section
variable {X:Cx}{pins:List #[18]}{σ:St}{H:Hp}{s:nB}{k:Nat}
theorem Iy(I:Ak X pins σ H s){d:oa}{v:V}{u:nL}(h:Rp H d v)(r:B2 v u):∃b,Reads s.heap u d b:=D1 I d v u h r
noncomputable def Jy(h:Heap)(d:oa)(w:nL):Bool:=open Classical in if z:∃e b,Reads h w e b/\e.canLay0=true then PyData.eqv z.choose d else false
theorem Oc{h:Heap}{d e:oa}{w:nL}{b:List Addr}(r:Reads h w e b)(f:e.canLay0=true):Jy h d w=PyData.eqv e d:=by
 have z:∃e b,Reads h w e b/\e.canLay0=true:={e,b,r,f};unfold Jy;rw[dif_pos z];obtain⟨bs,g,i⟩:=z.choose_spec;rw[(PySem.SeqAt.Reads.unique e _ w b bs f r g)]
theorem Sz(I:Ak X pins σ H s){d:oa}:∀{b:List oa}{vs:List V}{us:List nL},aO H b vs->B0 vs us->us.any (Jy s.heap d)=b.any λe=>PyData.eqv e d
 |[],vs,us,h,r=>by
  unfold aO at h;subst h;cases r;rfl
 |e::b,vs,us,h,r=>by
  unfold aO at h;obtain⟨x,n,rfl,f,g⟩:=h;cases r with
  |cons i j=>
   obtain⟨m,q⟩:=Iy I f i;rw[List.any_cons,List.any_cons,Oc q (Dh e x f),Sz I g j]
theorem Oe(I:Ak X pins σ H s){A:nU}{d:oa}{x:V}{v:nL}(g:Rp H d x)(j:B2 x v)(n:A.units+d.depth<cLine):∀{i:List oa}{vs:List V}{us:List nL},aO H i vs->B0 vs us->∀w∈us,SeqAt.EqAt A s w v (Jy s.heap d w)
 |[],vs,us,h,r,w,f=>by
  unfold aO at h;subst h;cases r;cases f
 |e::i,vs,us,h,r,w,f=>by
  unfold aO at h;obtain⟨y,C,rfl,b,m⟩:=h;cases r with
  |cons p u=>
   rcases eH.mp f with z|z
   ·subst z;obtain⟨B,q⟩:=Iy I b p;obtain⟨bs,o⟩:=Iy I g j;rw[Oc q (Dh e y b)];exact PySem.SeqAt.eqAt_reads e d A s _ _ _ _ q o (Dh e y b) (Dh d x g) #[1]
   ·exact Oe I g j n m u w z
end
section
variable {X:Cx}{k:Nat}
inductive A3p(K:W.Frag)(neg:Bool)(x:V)(y:V)(H:Hp)(Q:VK):Prop
 |mk (p:Addr) (us:List V) (d:oa) (ds:List oa) (bW:y=.ref p) (bO:Ar K H p us) (cB:Rp H d x) (dM:aO H ds us) (iK:d.depth<=50) (qC:Q (.bl (if neg then !(ds.any λe=>PyData.eqv e d)else ds.any λe=>PyData.eqv e d)) H):A3p K neg x y H Q
theorem Zx(K:W.Frag)(j:Ca k X.A)(g:X.K=K:=by rfl):Ht X (compareOp .NotIn) (A3p K true):=by
 subst g;intro f s G H x y v u Q I z A h;obtain⟨p,F,d,B,rfl,i,n,b,C,q⟩:=h;cases A;obtain⟨e,r,o,E⟩:=I.list i;have D:=j.units;refine SeqAt.notIn_listAt (Jy s.heap d) o.isList (λw m=>Oe I n z (by show X.A.units+1+d.depth<cLine;omega) b r w (by simpa using m)) ⟨.bl _,H,I,rfl,?_⟩;rw[show e.toArray.any (Jy s.heap d)=e.any (Jy s.heap d)by simp,Sz I b r];exact q
end
theorem Gv{k:Nat}{A:nU}(b:Ca k A):A.units+20<cLine:=by have:=b.units;omega
section
variable {X:Cx}
theorem W1{e:Expr}{t:TE}(h:PE X e t):PE X e (λf H Q=>∃N:VK,t f H N/\∀v g,N v g->Q v g):=by
 intro b s f H Q I z;obtain⟨N,z,m⟩:=z;refine Bq (h b s f H N I z) λv q p=>?_;obtain⟨x,i,j,o,n⟩:=p;exact{x,i,j,o,m _ _ n}
end
def Qh:HO->Prop
 | .dK _=>True
 | .dT _=>True
 |_=>False
section
variable {X:Cx}{pins:List #[18]}{σ:St}{H:Hp}{s:nB}{d:Addr}
theorem Ak.swap(I:Ak X pins σ H s)(e:H d=some v)(B:∀xs,v≠ .tup xs)(C:∀h,v≠ .tY h)(D:∀y,v≠ .own y)(E:∀o u,X.H₀ d≠some (.dG o u))(ok:Bi X.prog X.w (upd H d u) s.heap d u):Ak X pins σ (upd H d u) s:=by
 have i:∀b xs,H b=some (.tup xs)->(upd H d u) b=some (.tup xs):=λb xs z=>by
  rw[A9 (λy=>by rw[y,e]at z;exact B _ (Option.some.inj z))];exact z
 have g:∀b,H b=none->(upd H d u) b=none:=λb z=>by
  rw[A9 (λy=>by rw[y,e]at z;cases z)];exact z
 refine{I.ok,I.os,I.bare,{I.base.keep,I.base.slot,λb o q n A=>g b (I.base.free b o q n A),I.base.there,λb xs q=>i b xs (I.base.fP b xs q),λb o x q=>?_,λb h q=>?_},I.loc,I.cell,g _ I.free,λx c z=>g c (I.cH x c z),λp j=>?_,λb o q=>?_,I.len}
 ·have f:b≠d:=λy=>by
   rw[y]at q;exact E o x q
  rw[A9 f];exact I.base.fA b o x q
 ·obtain⟨m,z⟩:=I.base.fQ b h q;refine{m,?_};rw[A9 (λy=>by rw[y,e]at z;exact C _ (Option.some.inj z))];exact z
 ·obtain⟨a,b,c⟩:=I.pin p j;exact{a,g _ b,c}
 ·by_cases f:b=d
  ·subst f;rw[A2]at q;cases q;exact ok
  ·rw[A9 f]at q;refine(I.aJ b o q).fH (λ_ _ _ z=>z) (λc z=>?_) i;rw[A9 (λy=>by rw[y,e]at z;exact D _ (Option.some.inj z))];exact z
theorem Ak.GW(I:Ak X pins σ H s)(e:H d=some v)(b:Qh v):∀o u,X.H₀ d≠some (.dG o u):=λo u z=>by
 have y:=I.base.fA d o u z;rw[e]at y;cases y;exact b
theorem Ak.dG(I:Ak X pins σ H s)(e:H d=some v)(f:Qh v):∃o,s.heap.get? d=some o/\Ak X pins σ (upd H d (.dG o v)) s:=by
 have g:=I.aJ d v e
 obtain⟨o,j⟩:∃o,s.heap.get? d=some o:=by
  cases v with
  |dK h=>obtain⟨_,_,_,_,o,_,_,z,_⟩:=g;exact{o,z}
  |dT h=>obtain⟨_,_,_,_,o,_,_,z,_⟩:=g;exact{o,z}
  |_=>exact f.elim
 have m:∀i,v≠ .tup i:=λi z=>by rw[z]at f;exact f
 have q:∀p,v≠ .tY p:=λp z=>by rw[z]at f;exact f
 have n:∀y,v≠ .own y:=λy z=>by rw[z]at f;exact f
 refine{o,j,I.swap e m q n (I.GW e f) {j,g.fH (λ_ _ _ z=>z) (λc z=>?_) (λb i z=>?_)}}
 ·rw[A9 (λy=>by rw[y,e]at z;exact n _ (Option.some.inj z))];exact z
 ·rw[A9 (λy=>by rw[y,e]at z;exact m _ (Option.some.inj z))];exact z
theorem Ak.TC(I:Ak X pins σ H s)(e:H d=some (.dG o v))(f:∀o u,X.H₀ d≠some (.dG o u)):Ak X pins σ (upd H d v) s:=by
 refine I.swap e (λ_ z=>nomatch z) (λ_ z=>nomatch z) (λ_ z=>nomatch z) f ((I.aJ d _ e).2.fH (λ_ _ _ z=>z) (λc z=>?_) (λb g z=>?_))
 ·rw[A9 (λy=>by rw[y,e]at z;cases z)];exact z
 ·rw[A9 (λy=>by rw[y,e]at z;cases z)];exact z
end
def A3w(t:TS):TS:=λD f H=>∃d u,Qh u/\H d=some u/\t {D with nx:=λb e=>∃o,e d=some (.dG o u)/\D.nx b (upd e d u) } f H
section
variable {X:Cx}
theorem Sb{i:Stmt}{t:TS}(h:PS X i t):PS X i (A3w t):=by
 intro b s y H D I z;obtain⟨d,u,n,e,z⟩:=z;have p:=I.GW e n;refine Bq (h b s y H _ I z) λf B q=>?_;cases f with
 |next=>
  obtain⟨g,A,j,o,m,x⟩:=q;exact{g,_,j.TC m p,x}
 |brk=>exact q
 |cont=>exact q
 |ret v=>exact q
end
section
variable {P:nP}{w:n4}{A:nU}{E:mD}{s:nB}
theorem bu(f:(d==sysModules)=false)(e:s.heap.get? d=some o)(g:o.ExactDict)
  (h:Q #[2] {s with heap:=s.heap.push {cls:=.type "dict_items",data:=.fields #[.ref d] } }):wpAny #[9] A (call (.builtin "dict.items") [.ref d]) Q E s:=by
 have b:s.TypeIs (.ref d) "dict":={o,e,g.1};refine g6 F.slot_dict_items b F.entry_dict_items ?_ (F.args_dict_items_1 _);unfold Builtin.«dict.items» Builtin.Dict.noArgs;refine ag (ag (wpAny_notOrdered_dict b ?_));refine ag (wpAny_of_eq (a:=()) rfl ?_);refine ag (wpAny_of_eq (a:=Value.ref d) rfl ?_);refine wpAny_of_eq (a:=d) rfl ?_;refine ag ?_;unfold Builtin.Dict.showsAll;rw[f,if_neg Bool.false_ne_true];refine aN ?_;refine ag ?_;unfold newFields;exact gW (aN ⟨_,rfl,h⟩)
theorem ke(m:s.heap.IsItemsView v d)(f:s.heap.get? d=some o)(g:o.data=.dict es ep)
  (h:Q #[2] {s with heap:=s.heap.push {cls:=.type "dict_itemiterator",data:=.fields #[.none,.bool false,.ref d,.int 0 0,.int es.size 0,.int ep 0,.none,.none] } }):wpAny #[9] A (pyIter (.ref v)) Q E s:=by
 obtain⟨n,b,i,j⟩:=m;have e:s.TypeIs (.ref v) "dict_items":={n,b,i};refine wpAny_pyIter_slot e F.slot_dict_items_iter (g6 F.slot_dict_items_iter e F.entry_dict_items_iter ?_ (F.args_dict_items_iter_1 _));unfold Builtin.«dict_items.__iter__» Builtin.Dict_items.slot0 Builtin.Dict_items.dictOf Builtin.Dict_items.newIterator;refine ag (ag (wpAny_of_eq (a:=(Value.ref v,[])) rfl (aN ?_)));refine ag (ag (wpAny_field b j (x:=.ref d) rfl (wpAny_of_eq (a:=d) rfl ?_)));refine ag (ag (wpAny_dictEntries f g (ag (wpAny_dictEpoch f g ?_))));show wpAny #[9] _ (newObj (.type "dict_itemiterator") (.fields #[.none,.bool false,.ref d,.int 0 0,.int es.size 0,.int ep 0,.none,.none]) none) _ _ _;refine gW (aN ⟨_,rfl,"dict_itemiterator",_,⟨_,cX _ rfl,rfl⟩,F.slot_dict_itemiterator_next.lookup,h⟩)
theorem uo{ok y:nL}(n:A.handled=none)(f:IsItemIter s.heap it d i es.size ep ok y)(j:s.heap.get? d=some o)(p:o.data=.dict es ep)
  (he:es[i]?=none)(u:∀h',Heap.ExtBut it s.heap h'->Q none {s with heap:=h'}):wpAny #[9] A (pyNext (.ref it)) Q E s:=by
 have g:s.TypeIs (.ref it) "dict_itemiterator":={_,f,rfl};have h:Builtin.Dict_items.ownsTuple "dict_itemiterator"=true:=by decide
 unfold pyNext;refine ag (mu (mr (name:=Str.ofString "__next__") g F.slot_dict_itemiterator_next (g6 F.slot_dict_itemiterator_next g F.entry_dict_itemiterator_next ?_ (F.args_dict_itemiterator_next_1 _))));refine ag (aN (ag (ag (ag (wpAny_typeNameOfWhole_itemiter g (aN (ag (wpAny_fieldsOf f rfl ?_))))))));simp only[h,if_true];show wpAny _ _ (if(Value.ref d==Value.none)=true then _ else _) _ _ s;rw[if_neg (show¬(Value.ref d==Value.none)=true from Bool.false_ne_true)];refine ag (aN (ag (wpAny_dictEntries j p ?_)));rw[if_neg (show¬((es.size:Int) != (es.size:Int))=true by simp)];refine ag (aN (ag (wpAny_dictEpoch j p ?_)));rw[if_neg (show¬((ep:Int) != (ep:Int))=true by simp)];refine aN ?_;simp only[show¬((i:Int)<0)by omega,if_false,Int.toNat_natCast,he];refine ag (ag (wpAny_typeNameOfWhole_itemiter g (aN ?_)));show wpAny _ _ (setField (.ref it) 2 Value.none>>=_) _ _ s;refine ag (wpAny_setField f rfl (by simp) ?_);generalize x:Heap.update s.heap it (Obj.mapFields (·.setIfInBounds 2 Value.none))=m
 have q:Heap.ExtBut it s.heap m:=by
  rw[<- x];exact λb z v e=>(eI _ _ (Ne.symm v)).trans e
 show wpAny #[9] _ (newExc (.type "StopIteration") []>>=_) _ _ {s with heap:=m};refine ag ?_;simp only[newExc,newTuple];refine ag (gW (T:="tuple") ?_ (by size_fits));refine ag (m:=firstArgMember _ _) (wpAny_of_eq (a:=Value.none) (by first|rfl|simp only[firstArgMember]) ?_);refine gW (T:="StopIteration") ?_ (by size_fits);simp only[raiseNew];refine ag (wpAny_handled ?_)
 first|rw[show A.in1.handled=Option.none from n]|rw[n]
 refine ag (aN (wpAny_throw ?_));refine ag (jT (T:="StopIteration") (b:=true) ⟨_,cX _ rfl,rfl⟩ isSubtype_stop ?_);exact aN (u _ ((q.push _).push _))
end
theorem Z4:entryFor table "dict_itemiterator.__iter__"=some Builtin.«dict_keyiterator.__iter__»:=
 entryFor_alias (id':="dict_keyiterator.__iter__") (by kernel_rfl) (by first|rfl|decide+kernel|(unfold String.splitOn;simp+decide [String.splitOnAux])) #[13] (by kernel_rfl)
def OW:HO->Hp->Nat->V->V->Prop
 | .dT e,H,i,x,y=>∃k b,e[i]?=some (k,y)/\x=.ref b/\Im H b k
 | .dK e,_,i,x,y=>∃k,e[i]?=some (k,y)/\x=kV k
 |_,_,_,_,_=>False
def Dz:HO->Nat
 | .dT b=>b.length
 | .dK b=>b.length
 |_=>0
def tm(d:Addr)(o:Obj)(u:HO):It:=
 ⟨λi H=>H d=some (.dG o u)/\i<Dz u,λi H v b=>∃T x y,v=.ref T/\H T=none/\b=upd H T (.tup [x,y])/\OW u H i x y,λi H=>H d=some (.dG o u)/\Dz u<=i⟩
theorem lj{k:Ex}(h:(E2 P w).is k u=true):B2 (kV k) u:=by
 have b:Jw k u=true:=h;cases k with
 |inl i=>
  cases u<;>simp[Jw,Value.isInt]at b
  subst b;exact{_,rfl}
 |inr x=>
  cases u<;>simp[Jw,Value.isStrOf]at b
  subst b;exact{_,rfl}
theorem Jm:∀{xs:List b}{ys:List e}{i:Nat},Paired F xs ys->i<xs.length->∃x y,xs[i]?=some x/\ys[i]?=some y/\F x y
 |_,_,i,.nil,h=>absurd h (by simp)
 |_,_,0,.cons r _,_=>⟨_,_,rfl,rfl,r⟩
 |_,_,i+1,.cons _ t,h=>by
  obtain⟨x,y,f,g,j⟩:=Jm (i:=i) t (by simpa using h);exact{x,y,by simpa using f,by simpa using g,j}
theorem W0(h:Paired F xs ys):xs.length=ys.length:=by
 induction h with
 |nil=>rfl
 |cons r t f=>rw[List.length_cons,List.length_cons,f]
theorem Qq{P:nP}{w:n4}{K:Type}[DecidableEq K]{knd:PySem.KeyKind P w K}:∀{es:List DictEntry}{vs:List (K×nL)}{i:Nat}{b:K×nL},Pairs knd es vs->vs[i]?=some b->∃e,es[i]?=some e/\knd.is b.1 e.key=true/\e.val=b.2
 |_,_,i,b,.nil,h=>by simp at h
 |_,_,0,b,.cons j m _,h=>by
  cases(show some _=some _ from h);exact{_,rfl,j,m}
 |_,_,i+1,b,.cons _ _ t,h=>by
  obtain⟨e,f,g⟩:=Qq t (i:=i) (by simpa using h);exact{e,by simpa using f,g}
theorem Zy{P:nP}{w:n4}{K:Type}[DecidableEq K]{knd:PySem.KeyKind P w K}{es:List DictEntry}{vs:List (K×nL)}(h:Pairs knd es vs):es.length=vs.length:=by
 induction h with
 |nil=>rfl
 |cons r q t b=>rw[List.length_cons,List.length_cons,b]
theorem c8(ok:Bi P w H h d u)(K:Qh u)(C:h.get? d=some o)(hd:o.data=.dict es ep):
  es.size=Dz u/\∀i,i<Dz u->∃e x y,es[i]?=some e/\B2 x e.key/\B2 y e.val/\OW u H i x y:=by
 cases u with
 |dT b=>
  obtain⟨_,_,R,r,L,N,M,f,J,g,v,z⟩:=ok;rw[C]at f;cases f;rw[hd]at g;cases g;have B:=W0 r;refine{?_,λi A=>?_}
  ·show es.size=b.length;rw[<- Array.length_toList,v,List.length_map,B]
  ·obtain⟨p,q,j,m,n,D,E⟩:=Jm r A;refine{entryOfKey (De P w) q,.ref q.2.1,p.2,?_,rfl,E,p.1,q.2.1,j,rfl,D};rw[<- Array.getElem?_toList,v,List.getElem?_map,m];rfl
 |dK b=>
  obtain⟨_,_,O,r,L,N,M,f,J,g,v,z,Q⟩:=ok;rw[C]at f;cases f;rw[hd]at g;cases g;have B:b.length=O.length:=r.length;refine{?_,λi A=>?_}
  ·show es.size=b.length;rw[<- Array.length_toList,Zy z,B]
  ·obtain⟨p,q,j,m,n⟩:=Jm r A;obtain⟨e,F,G,I⟩:=Qq z m;refine{e,kV p.1,p.2,by rw[<- Array.getElem?_toList];exact F,?_,?_,p.1,j,rfl}
   ·rw[n.1];exact lj G
   ·rw[I];exact n.2
 |_=>exact K.elim
theorem Wp{P:nP}{w:n4}{K:W.Frag}{n:List Expr}{kk:Nat}{pos:Pos}{it d:Addr}{o:Obj}{u:HO}{es:Array DictEntry}{ep:Nat}(Z:Qh u)(hd:o.data=.dict es ep)(bZ:d≠it):
  R8 P w K (.Tuple n kk pos) (tm d o u) [it] it (λi h=>∃ok j,IsItemIter h it d i es.size ep ok j)where
 mem:=by simp
 obj:=λi h ⟨ok,j,f⟩ b hb=>by
  have e:b=it:=by simpa using hb
  subst e;exact{_,f,λv z=>by cases z}
 keep:=λi h D ⟨ok,j,f⟩ k=>⟨ok,j,k it (by simp) _ f⟩
 item:=by
  intro X J N G g i q s σ H E I B ⟨ok,j,f⟩ ⟨O,S⟩;subst J N G;obtain⟨p,C⟩:=I.aJ d _ O;obtain⟨M,Y⟩:=c8 C Z p hd;obtain⟨e,x,y,e1,rx,ry,hi⟩:=Y i S;have T:it<s.heap.objs.size:=dr f;refine bv f p hd e1 λD a1 a2 a3=>⟨_,rfl,?_⟩;refine wpAny_letOwnedTupleGo_items (s:={s with heap:=D}) a1 λGL b1 U=>?_;have wN:GL.get? s.heap.objs.size=some {cls:=.type "tuple",data:=.seq #[e.key,e.val] }:=U.extBut _ _ (Nat.ne_of_gt T) a2;refine{.ref s.heap.objs.size,upd H s.heap.objs.size (.tup [x,y]),I.iM (t':=s.toks) (ch:=[it]) B (λc R g e=>?_) (de _) ?_,rfl,{_,x,y,rfl,I.fresh,rfl,hi},{_,_,b1},λc g=>?_}
  ·have m:c≠it:=by simpa using g
   exact U.extBut _ _ m (a3 c R m e)
  ·exact{{ea (by decide:2<=1000) (E4 (de _)),_,wN,rfl},[e.key,e.val],.cons rx (.cons ry .nil),{_,wN,rfl,0,rfl}}
  ·have m:c=it:=by simpa using g
   subst m;rw[A9 (Nat.ne_of_lt T)];exact(B c g).1
 done:=by
  intro X J N G g i q s σ H E I B ⟨ok,j,f⟩ ⟨O,S⟩;subst J N G;obtain⟨p,C⟩:=I.aJ d _ O;obtain⟨M,Y⟩:=c8 C Z p hd;refine uo (I.ok.hd g) f p hd (Array.getElem?_eq_none #[1]) λD eb=>⟨rfl,I.iP (t':=s.toks) (ch:=[it]) B λc R g e=>?_⟩;have m:c≠it:=by simpa using g
  exact eb c R m e
 self:=λA i s Q E ⟨ok,j,f⟩ hQ=>by
  have L:s.TypeIs (.ref it) "dict_itemiterator":={_,f,rfl};refine wpAny_pyIter_slot L F.slot_dict_itemiterator_iter (g6 F.slot_dict_itemiterator_iter L Z4 ?_ (F.args_dict_itemiterator_iter_1 _));exact aN ⟨_,rfl,"dict_itemiterator",_,L,F.slot_dict_itemiterator_next.lookup,hQ⟩
section
variable {X:Cx}
inductive Xe(R:It->Hp->Prop)(x:V)(H1:Hp):Prop
 |mk (d:_) (u:_) (bW:x=.ref d) (bO:Qh u) (cB:H1 d=some u) (dM:∀o,R (tm d o u) (upd H1 d (.dG o u))):Xe R x H1
def vc(b:TE):TI:=λe H R=>b e H (Xe R)
theorem Ov{j:List Expr}{kk:Nat}{lK g pos:Pos}{e:Expr}{U:TE}(he:PE X e U)(lL:attributeBase e "items" X.env (eval e X.env)=eval e X.env:=by rfl)(lM:(g.endLine==pos.line)=true:=by rfl):
  PI X (.Tuple j kk lK) (.Call (.Attribute e "items" g) [] [] pos) (vc U):=by
 intro A s σ H R I h;refine wpAny_Call_method0_late lL lM (Bq (he A s σ H _ I h) λv f bN=>?_);obtain⟨x,Y,P,r1,d,u,ex,J,S,q⟩:=bN;subst ex;obtain rfl:v=Value.ref d:=r1;obtain⟨o,i,D⟩:=P.dG S J
 obtain⟨C,B,K,T,TF⟩:∃C B,o.ExactDict/\o.data=.dict C B/\(d==sysModules)=false:=by
  have Q:=P.aJ d u S;cases u with
  |dT L=>
   obtain⟨_,y,xs,r,o',O,M,m,E,F,_⟩:=Q;rw[i]at m;cases m;exact{O,M,E,F,y}
  |dK L=>
   obtain⟨_,y,vs,r,o',O,M,m,E,F,_⟩:=Q;rw[i]at m;cases m;exact{O,M,E,F,y}
  |_=>exact J.elim
 have hT:f.TypeIs (.ref d) "dict":={o,i,K.1};refine{"dict","dict.items",PySem.F.plainAttrs_dict,PySem.F.slot_dict_items,PySem.F.type_dict_items,hT,?_,Calls.callWith_builtin rfl (PySem.evalArgs_none (bu TF i K ?_))}
 ·intro a z;cases z;exact{o,i,K.2.1}
 have Z:#[16].get? d=some o:=cb _ i;refine ke (s:={f with heap:=f.heap.push {cls:=.type "dict_items",data:=.fields #[.ref d] } }) ⟨_,cX _ rfl,rfl,rfl⟩ Z T ?_;have hk:∀b N,f.heap.get? b=some N->(#[16].push {cls:=.type "dict_itemiterator",data:=.fields #[.none,.bool false,.ref d,.int 0 0,.int C.size 0,.int B 0,.none,.none] }).get? b=some N:=λb N z=>cb _ (cb _ z);have p:#[16].objs.size=f.heap.objs.size+1:=by simp[Heap.push]
 have G:d<f.heap.objs.size:=dr i;refine{_,[_],_,tm d o u,upd Y d (.dG o u),rfl,D.kept (t':=f.toks) hk,Wp (es:=C) (ep:=B) J T ?_,{.none,.none,cX _ rfl},λc hc=>?_,q o}
 ·rw[p];exact fe (Nat.lt_succ_of_lt G)
 ·have n:f.heap.objs.size<=c:=by
   have:c=#[16].objs.size:=by simpa using hc
   rw[this,p];omega
  exact D.lJ n (D.aJ.fresh n)
end
theorem Qd{o:Obj}{u:HO}{d:Addr}{g:TG}{E:TS}{D:Hy}{b:St}{H:Hp}(f:Nat->St->Hp->Prop)(G:f 0 b H)(K:∀i b H,i<=Dz u->f i b H->H d=some (.dG o u))
  (L:∀i x y T b H,i<Dz u->OW u H i x y->f i b H->H T=none->g (.ref T) b (upd H T (.tup [x,y])) λn q=>E {D with nx:=f (i+1),ct:=f (i+1),bk:=D.nx} n q)(hd:∀b H,f (Dz u) b H->D.nx b H):
  ∃W:Nat->Nat->St->Hp->Prop,(∃m,W 0 m b H)/\∀i m b H,W i m b H->
   ((tm d o u).stop i H/\D.nx b H)\/((tm d o u).go i H/\∃N:St->Hp->Prop,(∀j h,N j h->∃B,B<m/\W (i+1) B j h)/\∀x h,(tm d o u).uQ i H x h->g x b h λn q=>E {D with nx:=N,ct:=N,bk:=D.nx} n q):=by
 refine{λi m b H=>m=Dz u-i/\i<=Dz u/\f i b H,{Dz u,by simp,jN _,G},?_};rintro i m b H ⟨rfl,J,p⟩;have C:=K i b H J p;by_cases A:i<Dz u
 ·refine .inr ⟨⟨C,A⟩,f (i+1),λj h M=>⟨Dz u-(i+1),by omega,rfl,A,M⟩,λv h y=>?_⟩;obtain⟨T,x,z,rfl,I,rfl,F⟩:=y;exact L i x z T b H A F p I
 ·have e:i=Dz u:=by omega
  subst e;exact .inl ⟨⟨C,de _⟩,hd b H p⟩
theorem V4{K:W.Frag}{o:Obj}{u:HO}{d:Addr}{G:List Nat}{C:TT}{B:TE}{h:St}{D:Addr}{I:Hp}{Q:Hp->Prop}(j:Nat->List V->Hp->Prop)(M:j 0 [] (upd I D (.lst [])))
  (P:∀i f H,i<=Dz u->j i f H->H d=some (.dG o u))
  (R:∀i x y T f H,i<Dz u->OW u H i x y->j i f H->H T=none->C (some x::some y::Cv G h) (upd H T (.tup [x,y])) λb E=>
   if b=true then B (some x::some y::Cv G h) E λv F=>F D=some (.lst f)/\f.length<sizeLine/\j (i+1) (f++[v]) (upd F D (.lst (f++[v])))else j (i+1) f E)
  (U:∀h H Q n,(∀b g,Q b g->n b g)->C h H Q->C h H n)(S:∀h H Q n,(∀v g,Q v g->n v g)->B h H Q->B h H n)
  (hd:∀f H,j (Dz u) f H->Q H):Dk 2 G (tm d o u) (uy K) C B h D I Q:=by
 refine{λi m f H=>m=Dz u-i/\i<=Dz u/\j i f H,{Dz u,by simp,jN _,M},?_};rintro i m f g ⟨rfl,O,p⟩;have J:=P i f g O p;by_cases A:i<Dz u
 ·refine .inr ⟨⟨J,A⟩,λv H2 y=>?_⟩;obtain⟨T,x,z,rfl,N,rfl,L⟩:=y;refine{T,_,rfl,Ax.of A2,rfl,x,_,rfl,z,_,rfl,rfl,{[some x,some z],rfl,rfl},?_};refine U _ _ _ _ ?_ (R i x z T f g A L p N);intro b E q;cases b with
  |false=>exact{Dz u-(i+1),by omega,rfl,A,q}
  |true=>exact S _ _ _ _ (λv F ⟨X,Y,Z⟩=>⟨X,Y,Dz u-(i+1),by omega,rfl,A,Z⟩) q
 ·have e:i=Dz u:=by omega
  subst e;exact .inl ⟨⟨J,de _⟩,hd f g p⟩
section
variable {prog:nP}{w:n4}{K:Type} [DecidableEq K] {knd:HeapKind prog w K}{A:nU}{E:mD}{s:nB}{d a:Addr}{k:K}{xs:List (K×Addr×nL)}
theorem Zk{v:nL}(f:(xs.map (·.1)).Nodup)(b:k∉xs.map (·.1)):((xs++[(k,a,v)]).map (·.1)).Nodup:=by
 rw[List.map_append,List.nodup_append];refine{f,by simp,λx g y h=>?_};have e:y=k:=by simpa using h
 rw[e];exact λe=>b (e▸g)
theorem j4{b:nL}{Q:mD}(y:knd.room A)(q:knd.is s.heap k a)(H:s.heap.DictOfH knd d xs)(hsz:xs.length<=sizeLine)
  (h1:∀p,atKey xs k=some p->Q p.2 {s with toks:=s.toks+knd.draws k})
  (F:atKey xs k=none->∀h',h'.DictOfH knd d (xs++[(k,a,b)])->Heap.SameBut d s.heap h'->Q b {s with heap:=h',toks:=s.toks+knd.draws k}):
  wpAny #[0] A (dictSetDefault d (.ref a) b) Q E s:=by
 obtain⟨o,D,C,g,G,f,m,h,u⟩:=H;unfold dictSetDefault
 try with_reducible refine fD ?_
 refine ag (knd.pyHash y q ?_);refine ag (wpAny_dictFind_heap (s:={s with toks:=s.toks+knd.draws k}) y q g f m h u ?_ ?_)
 ·intro z;have B:k∉xs.map (·.1):=not_mem_keys_of_get z;have n:=atKey_none_of_get z
  have I:D.size<=sizeLine:=by
   have e:=size_of_entries m;omega
  refine ag (la (ag (wpAny_updateDictKeys (hz:=I) (s:={s with toks:=s.toks+knd.draws k}) g f (aN (F n _
   ⟨_,_,C+1,gU _ g (Obj.isFreed_of_dict (Obj.data_mapDictKeys f _)),G.mapDictKeys _,Obj.data_mapDictKeys f _,?_,?_,Zk u B⟩ (il ..))))))
  ·simp[m,entryOfKey]
  ·intro x i;rcases fC.mp i with i|i
   ·exact knd.keeps (h x i) g f (il ..)
   ·cases iT.mp i;exact knd.keeps q g f (il ..)
 ·intro j p v;have n:=atKey_of_get u v;refine ag (wpAny_dictEntries (s:={s with toks:=s.toks+knd.draws k}) g f ?_);rw[entry_at m j,v];exact ag (la (aN (h1 p n)))
theorem Vq(hd:(d==sysModules)=false)(b:nL):
  MeetsIn prog w (Builtin.«dict.setdefault» ⟨[.ref d,.ref a,b],[]⟩) (λA R s=>knd.room A.in1/\∃k xs,knd.is s.heap k a/\s.heap.DictOfH knd d xs/\xs.length<=sizeLine/\
   (∀p,atKey xs k=some p->R (.ok (.ret p.2)) {s with toks:=s.toks+knd.draws k})/\
   (atKey xs k=none->∀e,e.DictOfH knd d (xs++[(k,a,b)])->Heap.SameBut d s.heap e->R (.ok (.ret b)) {s with heap:=e,toks:=s.toks+knd.draws k})):=
 .of_wp λA R s ⟨o,k,xs,h,f,q,i,j⟩=>by
  unfold Builtin.«dict.setdefault» Builtin.Dict.keyAndDefault;refine ag (ag (wpAny_notOrdered_dict f.typeIs ?_));show wpAny _ _ (pure (d,Value.ref a,some b)) _ _ s;refine aN ?_;show wpAny _ _ (if(d==sysModules)=true then _ else(dictSetDefault d (.ref a) b>>=_)) _ _ s;rw[if_neg (by rw[hd];exact Bool.false_ne_true)];exact ag (j4 o h f q (λp n=>aN ⟨p.2,rfl,i p n⟩) λm e u g=>aN ⟨b,rfl,j m e u g⟩)
end
section
variable {X:Cx}{pins:List #[18]}{σ:St}{H:Hp}{s:nB}{a b:Addr}{kvs:mF}{k:mY×Int}{z:V}{r:nL}{A:nU}{E:mD}
theorem A2z(N:A.units+20<cLine)(I:Ak X pins σ H s)(e:H a=some (.dT kvs))(m:Im H b k)(U:kvs.length<sizeLine)(P:B2 z r)
  (h1:∀v x s',Am kvs k=some v->Ak X pins σ H s'->B2 v x->Q x s')(K:Am kvs k=none->∀s',Ak X pins σ (upd H a (.dT (Cq kvs k z))) s'->Q r s'):
  wpAny #[8] A (call (.builtin "dict.setdefault") [.ref a,.ref b,r]) Q E s:=by
 obtain⟨S,o,y,h,j⟩:=nr I.aJ e;have O:y.length<=sizeLine:=by rw[<- Paired.length h];exact S
 have f:=h.val k;refine call_meetsIn PySem.F.slot_dict_setdefault j.typeIs PySem.F.entry_dict_setdefault (PySem.F.args_dict_setdefault_3 _ _ _) (Vq (knd:=De X.prog X.w) o r) ⟨Fe N,k,y,L7 I.aJ m,j,O,λp i=>?_,λL T R M=>?_⟩
 ·rw[i]at f;cases g:Am kvs k with
  |none=>rw[g]at f;exact f.elim
  |some v=>
   rw[g]at f;exact h1 v p.2 _ g (I.tok _) f
 ·rw[L]at f;cases g:Am kvs k with
  |some v=>rw[g]at f;exact f.elim
  |none=>
   have i:Cq kvs k z=kvs++[(k,z)]:=K9 z g;refine K g _ ?_;rw[i];obtain⟨q,C,B,u,D,F,G,_,J⟩:=R;refine Mx I (by rw[e];exact True.intro) M ⟨q,u⟩ ⟨by rw[List.length_append,List.length_singleton];omega,o,_,KT.keeps (Paired.snoc h ⟨rfl,m,P⟩) (λc Y n=>?_),q,C,B,u,D,F,G,J⟩;rw[A9 (Bj n e (λz=>nomatch z))];exact n
end
inductive ji(ty tx:TE)(σ:St)(Q:VK)(x:V)(H1:Hp):Prop
 |mk (a:_) (bW:x=.ref a) (bO:OU H1 a) (cB:ty σ H1 λy H2=>tx σ H2 λz H3=>∃kvs k b,y=.ref b/\Im H3 b k/\H3 a=some (.dT kvs)/\kvs.length<sizeLine/\(∀v,Am kvs k=some v->Q v H3)/\(Am kvs k=none->Q z (upd H3 a (.dT (Cq kvs k z))))):ji ty tx σ Q x H1
def A4s(e ty f:TE):TE:=λb H Q=>e b H (ji ty f b Q)
section
variable {X:Cx}{o e f:Expr}{apos bX:Pos}{td ty tx:TE}
theorem lw(P:X.A.units+20<cLine)(O:PE X o td)(he:PE X e ty)(L:PE X f tx)(m:M2 X o "setdefault" apos e f bX):PE X (.Call (.Attribute o "setdefault" apos) [e,f] [] bX) (A4s td ty tx):=by
 intro g s j H Q I h;refine wpAny_Call_method m.base m.lQ m.line PySem.F.plainAttrs_dict PySem.F.slot_dict_setdefault PySem.F.type_dict_setdefault (Bq (O g s j H _ I h) λu s1 E=>?_);obtain⟨x,q,n,rx,a,J,d,Y⟩:=E;subst J;obtain rfl:u=Value.ref a:=rx;obtain⟨t1,t2,_⟩:=Ve n d;refine{t1,t2,?_};rw[m.trees]
 refine Calls.callWith_builtin rfl (Calls.evalArgs_plain (Calls.spliced_cons (Bq (he g s1 j q _ n Y) λS s2 ⟨y,A,C,ry,Z⟩=>
  Calls.spliced_cons (Bq (L g s2 j A _ C Z) λfv s3 ⟨z,B,D,p,U,k,b,K,G,F,M,q3,q4⟩=>Calls.spliced_nil ?_))))
 subst K;obtain rfl:S=Value.ref b:=ry;exact A2z P D F G M p (λv w' s4 R i T=>⟨v,B,i,T,q3 v R⟩) λN s4 i=>⟨z,_,i,p,q4 N⟩
theorem Xq(C:PE X a q)(he:∀b,isTrue a X.env b=(do let v <- b;standAt a.pos;holding [v] (truthy v)):=by intro _;rfl):
  PT X a (λm H Q=>q m H λx n=>∃d kvs,x=.ref d/\Rd n d (.dK kvs)/\Q (!kvs.isEmpty) n):=by
 intro g s m H Q I h;refine isTrue_plain (Bq (C g s m H _ I h) λv K ⟨x,u,p,J,d,kvs,A,D,G⟩=>?_) (he _);subst A;obtain rfl:v=Value.ref d:=J;obtain⟨z,F,j,i,y⟩:=O1 p.aJ D;have E:kvs.length=j.length:=i.length;have B:sizeLine<2^30:=by decide
 refine wpAny_truthy_dict F y #[1] ⟨u,p.tok _,?_⟩
 have e:kvs.isEmpty=j.isEmpty:=by
  cases kvs<;>cases j<;>simp at E<;>rfl
 rw[<- e];exact G
end
open PySem PySem.Spec PyProof.Rows PySem.SeqAt
def tj(A:nU)(s:nB)(x y:nL)(b:Bool):Prop:=∀(e:nP) (w:n4) (E:mD) (Q:mD),Q (.bool b) s->wpAny (model e w) A (richCompare .Gt x y) Q E s
theorem A2g(l b:Addr)(xs ys:Array nL)(n S:Nat)(dd F:Option Addr)(X G:Array (Option nL))(e:Nat->Bool)(r:Bool):
  Meets (Builtin.«tuple.__gt__» ⟨[.ref l,.ref b],[]⟩)
   (λA R s=>s.heap.get? l=some {cls:=.type "tuple",dict:=dd,data:=.seq xs n,slots:=X}/\s.heap.get? b=some {cls:=.type "tuple",dict:=F,data:=.seq ys S,slots:=G}/\
    (∀j (p:j<xs.size) (q:j<ys.size),EqAt A.in1 s xs[j] ys[j] (e j))/\(∀j (p:j<xs.size) (q:j<ys.size),(∀i,i<j->e i=true)->e j=false->tj A.in1 s xs[j] ys[j] r)/\
    ((∀j,j<min xs.size ys.size->e j=true)->r=decide (xs.size>ys.size))/\R (.ok (.ret (.bool r))) s):=
 .of_wp λf w A R s h=>by
  obtain⟨N,g,d,Y,T⟩:=s;obtain⟨M,I,J,K,Q,h⟩:=h;have f2:=AutoSeq1.sub_tuple_tuple;have hZ:(xs.toList.zip ys.toList).length=min xs.size ys.size:=by simp
  wp_walk using wpAny_loadPart' M,wpAny_loadPart' I,wpAny_forIn_list _ (λm b D=>b.1=none/\D=⟨N,g,d,Y,T⟩/\∃i,m=(xs.toList.zip ys.toList).drop i/\∀k,k<i->k<min xs.size ys.size->e k=true) _
  case turn=>
   rintro⟨y,x⟩ m b D ⟨C,rfl,i,o,u⟩
   have H:i<(xs.toList.zip ys.toList).length:=by
    apply Classical.byContradiction;intro z;rw[List.drop_of_length_le #[1]]at o;cases o
   have p:i<xs.size:=by omega
   have q:i<ys.size:=by omega
   rw[List.drop_eq_getElem_cons H]at o;injection o with E U;have B:y=xs[i]:=by simpa using congrArg Prod.fst E
   have P:x=ys[i]:=by simpa using congrArg Prod.snd E
   subst B P;refine ag (J i p q f w _ _ ?_);cases B:e i with
   |true=>
    wp_walk
    refine{rfl,rfl,i+1,U,λk v uV=>?_};by_cases z:k=i
    ·rw[z];exact B
    ·exact u k #[1] uV
   |false=>
    have Z:=K i p q (λk v=>u k v #[1]) B f w
    wp_walk using Z _ _
    exact{_,rfl,h}
  case fin=>
   rintro⟨b1,b2⟩ D ⟨C,rfl,i,o,u⟩;simp only at C;subst C
   have GR:min xs.size ys.size<=i:=by
    apply Classical.byContradiction;intro z;rw[List.drop_eq_getElem_cons #[1]]at o;cases o
   have O:=Q λj L=>u j #[1] L
   wp_walk
   refine{_,rfl,?_};rw[O]at h;simpa[Builtin.Tuple.tupleCompareSizes]using h
  case h=>
   exact{rfl,rfl,0,rfl,λk v=>absurd v (l0 k)}
mutual
def cz:oa->oa->Bool
 | .int a,.int b=>decide (a>b)
 | .tuple e,.tuple f=>cJ e f
 |_,_=>false
def cJ:List oa->List oa->Bool
 |[],[]=>false
 |[],_::_=>false
 |_::_,[]=>true
 |x::b,y::e=>if PyData.eqv x y then cJ b e else cz x y
end
theorem Qg:∀(xs ys:List oa),(∀j,j<min xs.length ys.length->pairEq xs ys j=true)->cJ xs ys=decide (xs.length>ys.length)
 |[],[],_=>rfl
 |[],y::ys,_=>by simp[cJ]
 |x::xs,[],_=>by simp[cJ]
 |x::xs,y::ys,h=>by
  have b:PyData.eqv x y=true:=h 0 (by simp only[List.length_cons];omega);have e:=Qg xs ys λj f=>h (j+1) (by simp only[List.length_cons];omega);rw[cJ,if_pos b,e];simp
mutual
theorem To:∀(p g:oa) (A:nU) (s:nB) (a b:nL) (as bs:List Addr),Reads s.heap a p as->Reads s.heap b g bs->p.canLay0=true->g.canLay0=true->Mc p g->
  A.units+min p.depth g.depth<cLine->tj A s a b (cz p g)
 | .int x,g,A,s,_,_,_,_,L,M,_,_,e,v=>by
  cases g with
  |int y=>
   cases L with
   |int _ t=>
    cases M with
    |int _ u=>
     intro q w E Q h;exact richCompare_gives (op:=.Gt) (typeIs_int s _ t) (typeIs_int s _ u) F.slot_int_gt F.entry_int_gt (F.args_int_gt_2 _ _) (gives_int_gt _ _ t u) (λz=>nomatch z) h
  |none=>exact e.elim
  |bool _=>exact e.elim
  |str _=>exact e.elim
  |list _=>exact e.elim
  |tuple _=>exact e.elim
  |dict _=>exact e.elim
 | .tuple i,g,A,s,_,_,_,_,L,M,R,S,e,v=>by
  cases g with
  |tuple m=>
   cases L with
   |@tuple l o C n _ D N O P H=>
    cases M with
    |@tuple l' o' B n' _ G T U X K=>
     obtain⟨oc,od,SU,gD⟩:=o;obtain⟨oc',Z,SX,Y⟩:=o';simp only at O P U X;subst O P U X;have n1:C.size=i.length:=by simpa using ReadsAll.length _ _ _ H
     have n2:B.size=m.length:=by simpa using ReadsAll.length _ _ _ K
     intro q w E Q h;refine richCompare_meets_room (op:=.Gt) ⟨_,N,rfl⟩ ⟨_,T,rfl⟩ F.slot_tuple_gt F.entry_tuple_gt (F.args_tuple_gt_2 _ _) (A2g l l' C B n n' od Z gD Y (pairEq i m) (cJ i m)) ⟨N,T,λj I J=>?_,λj I J f1 f2=>?_,λf=>?_,(λz=>nomatch z),h⟩ (room_here v)
     ·have:=eqAt_readsAll i m A.in1 s C.toList B.toList _ _ H K R S (room_in v) j (by simpa using I) (by simpa using J);simpa using this
     ·have:=gR i m A.in1 s C.toList B.toList _ _ H K R S e (room_in v) j (by simpa using I) (by simpa using J) f1 f2;simpa using this
     ·rw[n1,n2]at f⊢;exact Qg i m f
  |none=>exact e.elim
  |bool _=>exact e.elim
  |str _=>exact e.elim
  |list _=>exact e.elim
  |int _=>exact e.elim
  |dict _=>exact e.elim
 | .none,_,_,_,_,_,_,_,_,_,_,_,e,_=>e.elim
 | .bool _,_,_,_,_,_,_,_,_,_,_,_,e,_=>e.elim
 | .str _,_,_,_,_,_,_,_,_,_,_,_,e,_=>e.elim
 | .list _,_,_,_,_,_,_,_,_,_,_,_,e,_=>e.elim
 | .dict _,_,_,_,_,_,_,_,_,_,_,_,e,_=>e.elim
theorem gR:∀(xs ys:List oa) (A:nU) (s:nB) (vs ws:List nL) (v bs:List Addr),ReadsAll s.heap vs xs v->ReadsAll s.heap ws ys bs->PyData.canLayAll0 xs=true->PyData.canLayAll0 ys=true->fU xs ys->
  A.units+min (PyData.depthAll xs) (PyData.depthAll ys)<cLine->∀j (h1:j<vs.length) (b:j<ws.length),(∀i,i<j->pairEq xs ys i=true)->pairEq xs ys j=false->tj A s vs[j] ws[j] (cJ xs ys)
 |[],_,_,_,_,_,_,_,g,_,_,_,_,_,j,h1,_,_,_=>by cases g;exact absurd h1 (l0 _)
 |_::_,[],_,_,_,_,_,_,_,h,_,_,_,_,j,_,b,_,_=>by cases h;exact absurd b (l0 _)
 |x::xs,y::ys,A,s,_,_,_,_,g,h,z,B,q,D,j,h1,b,o,p=>by
  cases g with
  |cons G H=>
   cases h with
   |cons E F=>
    have m:x.canLay0=true/\PyData.canLayAll0 xs=true:=by simpa[PyData.canLayAll0]using z
    have n:y.canLay0=true/\PyData.canLayAll0 ys=true:=by simpa[PyData.canLayAll0]using B
    have u:A.units+min x.depth y.depth<cLine/\A.units+min (PyData.depthAll xs) (PyData.depthAll ys)<cLine:=by
     simp only[PyData.depthAll]at D;omega
    cases j with
    |zero=>
     have e:cJ (x::xs) (y::ys)=cz x y:=by
      have f:PyData.eqv x y=false:=p;rw[cJ,f];rfl
     rw[e];exact To x y A s _ _ _ _ G E m.1 n.1 q.1 u.1
    |succ j=>
     have e:cJ (x::xs) (y::ys)=cJ xs ys:=by
      have f:PyData.eqv x y=true:=o 0 (Nat.succ_pos _);rw[cJ,f];rfl
     rw[e];exact gR xs ys A s _ _ _ _ H F m.2 n.2 q.2 u.2 j (Nat.lt_of_succ_lt_succ h1) (Nat.lt_of_succ_lt_succ b) (λi C=>o (i+1) (Nat.succ_lt_succ C)) p
end
open PySem PySem.Spec PyProof.Rows PySem.SeqAt
theorem Ey(bt:Nat->Nat->Bool)(j:Nat):argBest bt (j+1)=if bt (j+1) (argBest bt j)=true then j+1 else argBest bt j:=by
 first
  |rfl
  |(show(if bt (j+1) (argBest bt j)then j+1 else argBest bt j)=_;rfl)
section
variable {prog:nP}{w:n4}{A:nU}{R:Result->nB->Prop}{I S:Addr}{fp wr:List Addr}{St:Nat->Heap->Prop}{aK:Array nL}{bt:Nat->Nat->Bool}{Good:Heap->Prop}
theorem Se(h:wpAny #[0] A.in1 (Builtin.«min.loop» a) (λb s'=>match b with
   | .done f=>R (.ok f) s'
   | .again g=>g.quiet=true/\codeAny #[0] A g R s') (λe s'=>R (.error e) s') s):codeAny #[0] A (.builtin "min.loop" a) R s:=by
 refine codeAny_builtin F.entry_min_loop ?_;rw[Around.under_plainId F.plain_min_loop _];exact h
theorem mm(W:Walks prog w A.in1 I fp wr aK.size (λi v=>aK[i]?=some v) St)(O:∀h h',Good h->#[19]->Good h')
  (hc:∀i j vi vj (s:nB),Good s.heap->aK[i]?=some vi->aK[j]?=some vj->∀E Q,Q (.bool (bt i j)) s->wpAny #[0] A.in1 (richCompare .Lt vi vj) Q E s)(Y:S∉fp):
  ∀(k j:Nat) (s:nB) (m:nL) (c:Nat),aK.size=j+1+k->St (j+1) s.heap->Good s.heap->aK[argBest bt j]?=some m->
  s.heap.get? S=some {cls:=.type "list",dict:=none,data:=.seq #[m,m] c,slots:=#[] }->
  (∀v h' tk,aK[argBest bt (aK.size-1)]?=some v->#[7]->R (.ok (.ret v)) {s with heap:=h',toks:=tk})->
  codeAny #[0] A (.builtin "min.loop" ⟨[.ref I,.none,.ref S],[]⟩) R s:=by
 have nV:S∉wr:=λz=>Y (W.sub _ z);have nm:(toString "min"++toString ".loop":String)="min.loop":=by decide
 intro k
 induction k with
 |zero=>
  intro j s m c hk D U C u B;refine Se ?_;refine ag ( gd u rfl ?_);show wpAny #[0] A.in1 #[10] _ _ s;have ej:j+1=aK.size:=by omega
  refine ag (wpAny_tryCatch (W.done s _ _ (ej▸D) λG L p=>?_));have q:=p S _ nV u;show wpAny #[0] A.in1 (updateSeq S (λ_=>#[])>>=_) _ _ _;refine ag ?_;refine wpAny_updateSeq q rfl (ag (wpAny_letGo (aN ?_)));have e2:aK.size-1=j:=by omega
  exact B m _ L (by rw[e2];exact C) λb o g n e=>(eI _ _ (Ne.symm n)).trans (p b o g e)
 |succ k X=>
  intro j s m c hk D U C u B;refine Se ?_;refine ag ( gd u rfl ?_);show wpAny #[0] A.in1 #[10] _ _ s;refine ag (wpAny_tryCatch (W.item (j+1) s _ _ #[1] D λv G L P Z p=>?_));have q:=p S _ nV u;have M:Good G:=O _ _ U λb o g _ e=>p b o g e;refine ag (aN ?_);refine ag (wpAny_tryCatch (fD (ag ?_)));refine hc (j+1) (argBest bt j) v m {s with heap:=G,toks:=L} M P C _ _ ?_;refine ag (fD (iC ?_));refine ag (wpAny_letGo (aN ?_));have x:=Ey bt j;cases T:bt (j+1) (argBest bt j)with
  |true=>
   rw[T,if_pos rfl]at x;simp only[if_true];refine ag ?_;refine wpAny_updateSeq q rfl (ag (wpAny_letGo ?_));rw[nm];refine aN ⟨ll F.plain_min_loop _,X (j+1) _ v _ #[1] (W.frame _ _ _ Z λb z o e=>?_) (O _ _ M λb o g n e=>(eI _ _ (Ne.symm n)).trans e) (by rw[x];exact P) (gU _ q rfl) λN H J f K=>?_⟩
   ·exact(eI _ _ (λy:S=b=>Y (by rw[y];exact z))).trans e
   ·exact B N H J f λb o g n e=>K b o g n ((eI _ _ (Ne.symm n)).trans (p b o g e))
  |false=>
   rw[T,if_neg Bool.false_ne_true]at x;simp only[Bool.false_eq_true,if_false];refine ag (wpAny_letGo ?_);rw[nm];refine aN ⟨ll F.plain_min_loop _,X (j+1) _ m c #[1] Z M (by rw[x];exact C) q λN H J f K=>?_⟩;exact B N H J f λb o g n e=>K b o g n (p b o g e)
theorem W9(W:Walks prog w A.in1 I fp wr aK.size (λi v=>aK[i]?=some v) St)(n:∀h h',Good h->#[19]->Good h')
  (L:∀i j B C (s:nB),Good s.heap->aK[i]?=some B->aK[j]?=some C->∀E Q,Q (.bool (bt i j)) s->wpAny #[0] A.in1 (richCompare .Lt B C) Q E s)(p:S∉fp){s:nB}{c:Nat}(D:St 0 s.heap)(M:Good s.heap)
  (x:s.heap.get? S=some {cls:=.type "list",dict:=none,data:=.seq #[] c,slots:=#[] })(N:0<aK.size)
  (K:∀v h' Z,aK[argBest bt (aK.size-1)]?=some v->#[7]->R (.ok (.ret v)) {s with heap:=h',toks:=Z}):
  codeAny #[0] A (.builtin "min.loop" ⟨[.ref I,.none,.ref S],[]⟩) R s:=by
 have X:S∉wr:=λz=>p (W.sub _ z);have Y:(toString "min"++toString ".loop":String)="min.loop":=by decide
 refine Se ?_;refine ag ( gd x rfl ?_);show wpAny #[0] A.in1 #[10] _ _ s;refine ag (wpAny_tryCatch (W.item 0 s _ _ N D λv G lP J P q=>?_));have u:=q S _ X x;have U:Good G:=n _ _ M λb o g _ e=>q b o g e;show wpAny #[0] A.in1 (updateSeq S (λ_=>#[v,v])>>=_) _ _ _;refine ag ?_;refine wpAny_updateSeq u rfl ?_;rw[Y];refine aN ⟨ll F.plain_min_loop _,mm W n L p (aK.size-1) 0 _ v _ #[1] (W.frame _ _ _ P λb z o e=>?_) (n _ _ U λb o g m e=>(eI _ _ (Ne.symm m)).trans e) J (gU _ u rfl) λv2 H O f T=>?_⟩
 ·exact(eI _ _ (λy:S=b=>p (by rw[y];exact z))).trans e
 ·exact K v2 H O f λb o g m e=>T b o g m ((eI _ _ (Ne.symm m)).trans (q b o g e))
end
section
variable {prog:nP}{w:n4}{A:nU}{R:Result->nB->Prop}{I S:Addr}{fp wr:List Addr}{St:Nat->Heap->Prop}{aK:Array nL}{bt:Nat->Nat->Bool}{Good:Heap->Prop}
theorem Sd(h:wpAny #[0] A.in1 (Builtin.«max.loop» a) (λb s'=>match b with
   | .done f=>R (.ok f) s'
   | .again g=>g.quiet=true/\codeAny #[0] A g R s') (λe s'=>R (.error e) s') s):codeAny #[0] A (.builtin "max.loop" a) R s:=by
 refine codeAny_builtin F.entry_max_loop ?_;rw[Around.under_plainId F.plain_max_loop _];exact h
theorem mj(W:Walks prog w A.in1 I fp wr aK.size (λi v=>aK[i]?=some v) St)(O:∀h h',Good h->#[19]->Good h')
  (hc:∀i j vi vj (s:nB),Good s.heap->aK[i]?=some vi->aK[j]?=some vj->∀E Q,Q (.bool (bt i j)) s->wpAny #[0] A.in1 (richCompare .Gt vi vj) Q E s)(Y:S∉fp):
  ∀(k j:Nat) (s:nB) (m:nL) (c:Nat),aK.size=j+1+k->St (j+1) s.heap->Good s.heap->aK[argBest bt j]?=some m->
  s.heap.get? S=some {cls:=.type "list",dict:=none,data:=.seq #[m,m] c,slots:=#[] }->
  (∀v h' tk,aK[argBest bt (aK.size-1)]?=some v->#[7]->R (.ok (.ret v)) {s with heap:=h',toks:=tk})->
  codeAny #[0] A (.builtin "max.loop" ⟨[.ref I,.none,.ref S],[]⟩) R s:=by
 have nV:S∉wr:=λz=>Y (W.sub _ z);have nm:(toString "max"++toString ".loop":String)="max.loop":=by decide
 intro k
 induction k with
 |zero=>
  intro j s m c hk D U C u B;refine Sd ?_;refine ag ( gd u rfl ?_);show wpAny #[0] A.in1 #[10] _ _ s;have ej:j+1=aK.size:=by omega
  refine ag (wpAny_tryCatch (W.done s _ _ (ej▸D) λG L p=>?_));have q:=p S _ nV u;show wpAny #[0] A.in1 (updateSeq S (λ_=>#[])>>=_) _ _ _;refine ag ?_;refine wpAny_updateSeq q rfl (ag (wpAny_letGo (aN ?_)));have e2:aK.size-1=j:=by omega
  exact B m _ L (by rw[e2];exact C) λb o g n e=>(eI _ _ (Ne.symm n)).trans (p b o g e)
 |succ k X=>
  intro j s m c hk D U C u B;refine Sd ?_;refine ag ( gd u rfl ?_);show wpAny #[0] A.in1 #[10] _ _ s;refine ag (wpAny_tryCatch (W.item (j+1) s _ _ #[1] D λv G L P Z p=>?_));have q:=p S _ nV u;have M:Good G:=O _ _ U λb o g _ e=>p b o g e;refine ag (aN ?_);refine ag (wpAny_tryCatch (fD (ag ?_)));refine hc (j+1) (argBest bt j) v m {s with heap:=G,toks:=L} M P C _ _ ?_;refine ag (fD (iC ?_));refine ag (wpAny_letGo (aN ?_));have x:=Ey bt j;cases T:bt (j+1) (argBest bt j)with
  |true=>
   rw[T,if_pos rfl]at x;simp only[if_true];refine ag ?_;refine wpAny_updateSeq q rfl (ag (wpAny_letGo ?_));rw[nm];refine aN ⟨ll F.plain_max_loop _,X (j+1) _ v _ #[1] (W.frame _ _ _ Z λb z o e=>?_) (O _ _ M λb o g n e=>(eI _ _ (Ne.symm n)).trans e) (by rw[x];exact P) (gU _ q rfl) λN H J f K=>?_⟩
   ·exact(eI _ _ (λy:S=b=>Y (by rw[y];exact z))).trans e
   ·exact B N H J f λb o g n e=>K b o g n ((eI _ _ (Ne.symm n)).trans (p b o g e))
  |false=>
   rw[T,if_neg Bool.false_ne_true]at x;simp only[Bool.false_eq_true,if_false];refine ag (wpAny_letGo ?_);rw[nm];refine aN ⟨ll F.plain_max_loop _,X (j+1) _ m c #[1] Z M (by rw[x];exact C) q λN H J f K=>?_⟩;exact B N H J f λb o g n e=>K b o g n (p b o g e)
theorem W8(W:Walks prog w A.in1 I fp wr aK.size (λi v=>aK[i]?=some v) St)(n:∀h h',Good h->#[19]->Good h')
  (L:∀i j B C (s:nB),Good s.heap->aK[i]?=some B->aK[j]?=some C->∀E Q,Q (.bool (bt i j)) s->wpAny #[0] A.in1 (richCompare .Gt B C) Q E s)(p:S∉fp){s:nB}{c:Nat}(D:St 0 s.heap)(M:Good s.heap)
  (x:s.heap.get? S=some {cls:=.type "list",dict:=none,data:=.seq #[] c,slots:=#[] })(N:0<aK.size)
  (K:∀v h' Z,aK[argBest bt (aK.size-1)]?=some v->#[7]->R (.ok (.ret v)) {s with heap:=h',toks:=Z}):
  codeAny #[0] A (.builtin "max.loop" ⟨[.ref I,.none,.ref S],[]⟩) R s:=by
 have X:S∉wr:=λz=>p (W.sub _ z);have Y:(toString "max"++toString ".loop":String)="max.loop":=by decide
 refine Sd ?_;refine ag ( gd x rfl ?_);show wpAny #[0] A.in1 #[10] _ _ s;refine ag (wpAny_tryCatch (W.item 0 s _ _ N D λv G lP J P q=>?_));have u:=q S _ X x;have U:Good G:=n _ _ M λb o g _ e=>q b o g e;show wpAny #[0] A.in1 (updateSeq S (λ_=>#[v,v])>>=_) _ _ _;refine ag ?_;refine wpAny_updateSeq u rfl ?_;rw[Y];refine aN ⟨ll F.plain_max_loop _,mj W n L p (aK.size-1) 0 _ v _ #[1] (W.frame _ _ _ P λb z o e=>?_) (n _ _ U λb o g m e=>(eI _ _ (Ne.symm m)).trans e) J (gU _ u rfl) λv2 H O f T=>?_⟩
 ·exact(eI _ _ (λy:S=b=>p (by rw[y];exact z))).trans e
 ·exact K v2 H O f λb o g m e=>T b o g m ((eI _ _ (Ne.symm m)).trans (q b o g e))
end
open PySem PySem.Spec PyProof.Rows PySem.SeqAt
theorem Lh:∀{b:List oa}{us:List V}{i:Nat}{d:oa},aO H b us->b[i]?=some d->∃u,us[i]?=some u/\Rp H d u
 |[],_,i,d,_,e=>by simp at e
 |x::b,us,0,d,h,e=>by
  unfold aO at h;obtain⟨u,f,rfl,m,_⟩:=h;cases e;exact{u,rfl,m}
 |x::b,us,i+1,d,h,e=>by
  unfold aO at h;obtain⟨u,f,rfl,_,n⟩:=h;obtain⟨o,g,j⟩:=Lh (i:=i) n (by simpa using e);exact{o,by simpa using g,j}
theorem Gn:∀{b:List oa}{us:List V},aO H b us->us.length=b.length
 |[],us,h=>by
  unfold aO at h;rw[h];rfl
 |x::b,us,h=>by
  unfold aO at h;obtain⟨u,f,rfl,_,e⟩:=h;rw[List.length_cons,List.length_cons,Gn e]
theorem Kj{xs:List V}{us:List nL}{i:Nat}{u:nL}(r:B0 xs us)(h:us[i]?=some u):∃x,xs[i]?=some x/\B2 x u:=by
 have f:=(b0.mp h).1;have g:=r.length;obtain⟨j,b,e⟩:=r.get (d3 (show i<xs.length by omega));rw[h]at b;cases b;exact{_,d3 #[1],e}
section
variable {X:Cx}{k:Nat}
theorem Zp(a:nL):argsOk "min" ⟨[a],[]⟩:=by
 unfold argsOk
 kernel_rfl
def Mw(b:List oa):Nat:=argBest (λi j=>Uu (b.getD i .none) (b.getD j .none)) (b.length-1)
theorem uj{g:List #[18]}{s:nB}{J:St}{H:Hp}{us:List V}{u:List nL}{f:List oa}(T:Ca k X.A)(I:Ak X g J H s)(rv:B0 us u)(hd:aO H f us)(O:∀d∈f,∀e∈f,Mc d e)(K:∀d∈f,d.depth<=50)(i j:Nat)(n p:nL)(s':nB)
  (R:∀b o,s.heap.get? b=some o->s'.heap.get? b=some o)(h1:u.toArray[i]?=some n)(P:u.toArray[j]?=some p)(E Q:mD)(q:Q (.bool (Uu (f.getD i .none) (f.getD j .none))) s'):wpAny #[8] X.A.in1 (richCompare .Lt n p) Q E s':=by
 have hl:=Gn hd
 have get:∀(m:Nat) (v:nL),u.toArray[m]?=some v->∃x,B2 x v/\Rp H (f.getD m .none) x/\f.getD m .none∈f:=λm v h=>by
  obtain⟨x,A,M⟩:=Kj rv (by simpa using h)
  have S:m<f.length:=by
   have:=(b0.mp A).1;omega
  have B:f[m]?=some (f.getD m .none):=by
   rw[List.getD_eq_getElem?_getD,List.getElem?_eq_getElem S];rfl
  obtain⟨x2,C,N⟩:=Lh hd B;rw[A]at C;cases C;exact{x,M,N,cI B}
 obtain⟨x,rx,F,D⟩:=get i n h1;obtain⟨y,ry,G,U⟩:=get j p P;have z:Ak X g J H {s with heap:=s'.heap,toks:=s'.toks}:=I.kept (t':=s'.toks) R;obtain⟨L,Y⟩:=D1 z _ x n F rx;obtain⟨bs,Z⟩:=D1 z _ y p G ry;have hu:=T.units;have d1:=K _ D;exact Od _ _ X.A.in1 s' n p L bs Y Z (Dh _ x F) (Dh _ y G) (O _ D _ U) (by show X.A.units+1+_<_;omega) _ _ _ _ q
inductive oi(K:W.Frag)(xs:List V)(H:Hp)(Q:VK):Prop
 |mk (p:Addr) (us:List V) (ds:List oa) (bW:xs=[.ref p]) (bO:Ar K H p us) (cB:aO H ds us) (dM:0<us.length) (iK:(∀d∈ds,∀e∈ds,Mc d e)) (qC:(∀d∈ds,d.depth<=50)) (DS:∀v,us[Mw ds]?=some v->Q v H):oi K xs H Q
theorem Yu(K:PySem.W.Frag)(hr:Ca k X.A)(hc:X.calm=true)(Z:X.K=K:=by rfl):Cp X (.builtin "min") (oi K):=by
 subst Z;intro J s σ H xs TH Q I r h;obtain⟨p,us,n,rfl,hq,G,bZ,S,M,q⟩:=h;obtain⟨u,rfl,rx⟩:=Dj r;cases rx;obtain⟨D,C,B,hz⟩:=I.list hq;have hl:=Gn G;have pE:=C.length;have nm:(toString "min"++toString ".loop":String)="min.loop":=by decide
 refine L4 (args:={[.ref p],[]}) F.kind_min F.plain_min F.entry_min (Zp _) ?_;show wpAny #[8] X.A.in1 (Builtin.Builtins.bindParams "min" ["key","default"] 0 ⟨[],[]⟩>>=_) _ _ s;refine ag (wpAny_of_eq (show Builtin.Builtins.bindParams "min" ["key","default"] 0 ⟨[],[]⟩=pure [none,none]from ?_) ?_)
 ·kernel_rfl
 refine ag (aN ?_);refine ag (wpAny_pyIter_list B.isList ?_);refine ag (gW ?_);rw[nm];refine aN ⟨ll F.plain_min_loop _,?_⟩;have L:p<s.heap.objs.size:=B.lt;have W:=Walks.list (prog:=X.prog) (w:=X.w) (A:=X.A.in1) (I.ok.hd hc) s.heap.objs.size p (fe L) D.toArray;have f:#[11].objs.size=s.heap.objs.size+1:=by simp[Heap.push]
 refine W9 (S:=#[11].objs.size) (bt:=λi j=>Uu (n.getD i .none) (n.getD j .none)) (Good:=λh=>∀b o,s.heap.get? b=some o->h.get? b=some o) W (λh T g A b o e=>A b o ?_ ?_ (g b o e)) (λi j vi vj s' g U Y E N q'=>uj hr I C G S M i j vi vj s' g U Y E N q') ?_ ⟨⟨_,cb _ (cX _ rfl),rfl,rfl⟩,?_⟩ (λb o e=>cb _ (cb _ e)) (cX _ rfl) (by simp;omega) (λv T tk e A=>?_)
 ·exact λz=>fe (dr e) (by simpa using z)
 ·rw[f];exact fe (Nat.lt_succ_of_lt (dr e))
 ·rw[f];intro z;have m:s.heap.objs.size+1=s.heap.objs.size\/s.heap.objs.size+1=p:=by simpa using z
  rcases m with m|m
  ·exact Nat.succ_ne_self _ m
  ·exact Nat.lt_irrefl _ (Nat.lt_trans (Nat.lt_succ_self _) (m.symm▸L:s.heap.objs.size+1<s.heap.objs.size))
 ·obtain⟨o,ho,r1⟩:=B.isList;exact{o,cb _ (cb _ ho),r1}
 ·have O:D.toArray.size-1=n.length-1:=by
   simp;omega
  rw[O]at e;obtain⟨x,P,R⟩:=Kj C (by simpa using e);refine{x,H,I.kept (t':=tk) (λb o z=>A b o ?_ ?_ (cb _ (cb _ z))),R,q x P}
  ·exact λy=>fe (dr z) (by simpa using y)
  ·rw[f];exact fe (Nat.lt_succ_of_lt (dr z))
end
section
variable {X:Cx}{k:Nat}
theorem Zo(a:nL):argsOk "max" ⟨[a],[]⟩:=by
 unfold argsOk
 kernel_rfl
def Eb(b:List oa):Nat:=argBest (λi j=>cz (b.getD i .none) (b.getD j .none)) (b.length-1)
theorem ui{g:List #[18]}{s:nB}{J:St}{H:Hp}{us:List V}{u:List nL}{f:List oa}(T:Ca k X.A)(I:Ak X g J H s)(rv:B0 us u)(hd:aO H f us)(O:∀d∈f,∀e∈f,Mc d e)(K:∀d∈f,d.depth<=50)(i j:Nat)(n p:nL)(s':nB)
  (R:∀b o,s.heap.get? b=some o->s'.heap.get? b=some o)(h1:u.toArray[i]?=some n)(P:u.toArray[j]?=some p)(E Q:mD)(q:Q (.bool (cz (f.getD i .none) (f.getD j .none))) s'):wpAny #[8] X.A.in1 (richCompare .Gt n p) Q E s':=by
 have hl:=Gn hd
 have get:∀(m:Nat) (v:nL),u.toArray[m]?=some v->∃x,B2 x v/\Rp H (f.getD m .none) x/\f.getD m .none∈f:=λm v h=>by
  obtain⟨x,A,M⟩:=Kj rv (by simpa using h)
  have S:m<f.length:=by
   have:=(b0.mp A).1;omega
  have B:f[m]?=some (f.getD m .none):=by
   rw[List.getD_eq_getElem?_getD,List.getElem?_eq_getElem S];rfl
  obtain⟨x2,C,N⟩:=Lh hd B;rw[A]at C;cases C;exact{x,M,N,cI B}
 obtain⟨x,rx,F,D⟩:=get i n h1;obtain⟨y,ry,G,U⟩:=get j p P;have z:Ak X g J H {s with heap:=s'.heap,toks:=s'.toks}:=I.kept (t':=s'.toks) R;obtain⟨L,Y⟩:=D1 z _ x n F rx;obtain⟨bs,Z⟩:=D1 z _ y p G ry;have hu:=T.units;have d1:=K _ D;exact To _ _ X.A.in1 s' n p L bs Y Z (Dh _ x F) (Dh _ y G) (O _ D _ U) (by show X.A.units+1+_<_;omega) _ _ _ _ q
inductive oh(K:W.Frag)(xs:List V)(H:Hp)(Q:VK):Prop
 |mk (p:Addr) (us:List V) (ds:List oa) (bW:xs=[.ref p]) (bO:Ar K H p us) (cB:aO H ds us) (dM:0<us.length) (iK:(∀d∈ds,∀e∈ds,Mc d e)) (qC:(∀d∈ds,d.depth<=50)) (DS:∀v,us[Eb ds]?=some v->Q v H):oh K xs H Q
theorem Yq(K:PySem.W.Frag)(hr:Ca k X.A)(hc:X.calm=true)(Z:X.K=K:=by rfl):Cp X (.builtin "max") (oh K):=by
 subst Z;intro J s σ H xs TH Q I r h;obtain⟨p,us,n,rfl,hq,G,bZ,S,M,q⟩:=h;obtain⟨u,rfl,rx⟩:=Dj r;cases rx;obtain⟨D,C,B,hz⟩:=I.list hq;have hl:=Gn G;have pE:=C.length;have nm:(toString "max"++toString ".loop":String)="max.loop":=by decide
 refine L4 (args:={[.ref p],[]}) F.kind_max F.plain_max F.entry_max (Zo _) ?_;show wpAny #[8] X.A.in1 (Builtin.Builtins.bindParams "max" ["key","default"] 0 ⟨[],[]⟩>>=_) _ _ s;refine ag (wpAny_of_eq (show Builtin.Builtins.bindParams "max" ["key","default"] 0 ⟨[],[]⟩=pure [none,none]from ?_) ?_)
 ·kernel_rfl
 refine ag (aN ?_);refine ag (wpAny_pyIter_list B.isList ?_);refine ag (gW ?_);rw[nm];refine aN ⟨ll F.plain_max_loop _,?_⟩;have L:p<s.heap.objs.size:=B.lt;have W:=Walks.list (prog:=X.prog) (w:=X.w) (A:=X.A.in1) (I.ok.hd hc) s.heap.objs.size p (fe L) D.toArray;have f:#[11].objs.size=s.heap.objs.size+1:=by simp[Heap.push]
 refine W8 (S:=#[11].objs.size) (bt:=λi j=>cz (n.getD i .none) (n.getD j .none)) (Good:=λh=>∀b o,s.heap.get? b=some o->h.get? b=some o) W (λh T g A b o e=>A b o ?_ ?_ (g b o e)) (λi j vi vj s' g U Y E N q'=>ui hr I C G S M i j vi vj s' g U Y E N q') ?_ ⟨⟨_,cb _ (cX _ rfl),rfl,rfl⟩,?_⟩ (λb o e=>cb _ (cb _ e)) (cX _ rfl) (by simp;omega) (λv T tk e A=>?_)
 ·exact λz=>fe (dr e) (by simpa using z)
 ·rw[f];exact fe (Nat.lt_succ_of_lt (dr e))
 ·rw[f];intro z;have m:s.heap.objs.size+1=s.heap.objs.size\/s.heap.objs.size+1=p:=by simpa using z
  rcases m with m|m
  ·exact Nat.succ_ne_self _ m
  ·exact Nat.lt_irrefl _ (Nat.lt_trans (Nat.lt_succ_self _) (m.symm▸L:s.heap.objs.size+1<s.heap.objs.size))
 ·obtain⟨o,ho,r1⟩:=B.isList;exact{o,cb _ (cb _ ho),r1}
 ·have O:D.toArray.size-1=n.length-1:=by
   simp;omega
  rw[O]at e;obtain⟨x,P,R⟩:=Kj C (by simpa using e);refine{x,H,I.kept (t':=tk) (λb o z=>A b o ?_ ?_ (cb _ (cb _ z))),R,q x P}
  ·exact λy=>fe (dr z) (by simpa using y)
  ·rw[f];exact fe (Nat.lt_succ_of_lt (dr z))
end
section
variable {X:Cx}{pins:List #[18]}{σ:St}{H:Hp}{s:nB}{k:Nat}
theorem Tu(I:Ak X pins σ H s):∀{b:List oa}{vs:List V}{us:List nL},aO H b vs->B0 vs us->b.length=us.length/\∀(m:Nat) (w:nL) (e:oa),us[m]?=some w->b[m]?=some e->Jy s.heap d w=PyData.eqv e d
 |[],vs,us,h,r=>by
  unfold aO at h;subst h;cases r;exact{rfl,λm w e z=>by simp at z}
 |e::b,vs,us,h,r=>by
  unfold aO at h;obtain⟨x,y,rfl,i,n⟩:=h;cases r with
  |cons p u=>
   obtain⟨v,q⟩:=Iy I i p;obtain⟨l,o⟩:=Tu I n u;refine{by rw[List.length_cons,List.length_cons,l],λm w j f g=>?_};cases m with
   |zero=>
    rw[List.getElem?_cons_zero]at f g;cases f;cases g;exact Oc q (Dh e x i)
   |succ m=>
    rw[List.getElem?_cons_succ]at f g;exact o m w j f g
inductive Xt(K:W.Frag)(x:V)(vs:List V)(H:Hp)(Q:VK):Prop
 |mk (l:Addr) (us:List V) (y:V) (d:oa) (ds:List oa) (j:Nat) (bW:x=.ref l) (bO:vs=[y]) (cB:Ar K H l us) (dM:Rp H d y) (iK:aO H ds us) (qC:d.depth<=50) (DS:(∃e,ds[j]?=some e/\PyData.eqv e d=true)) (hq7:(∀m e,m<j->ds[m]?=some e->PyData.eqv e d=false)) (hq8:Q (.int (j:Nat)) H):Xt K x vs H Q
theorem Zr(S:Ca k X.A):SA X "list.index" (Xt X.K):=by
 intro pins s σ H x vs v us Q I rx rv h;obtain⟨l,ys,y,d,p,j,rfl,rfl,R,U,f,B,⟨L,C,i⟩,Y,q⟩:=h;cases rx;obtain⟨u,rfl,ru⟩:=rv.one;obtain⟨b,r,pl,hz⟩:=I.list R;obtain⟨⟨Z,od,J,M⟩,n,e,O,hd,T⟩:=pl;obtain rfl:Z=.type "list":=O;obtain rfl:J=.seq b.toArray n:=T;have D:=r.length;have hu:=S.units;obtain⟨uC,A⟩:=Tu (d:=d) I f r;have P:j<p.length:=(b0.mp C).1;have N:=Ib;refine call_meets F.slot_list_index ⟨_,e,rfl⟩ F.entry_list_index (F.args_list_index_2 _ _) (PySem.SeqAt.list_indexAt l b.toArray n od M u (Jy s.heap d) j (by rw[List.size_toArray];omega) ?_ ?_ ?_) ⟨e,λz K=>?_,?_⟩
 ·omega
 ·have G:j<b.length:=by omega
  have g:b.toArray[j]'(by rw[List.size_toArray];omega)=b[j]:=by simp
  rw[g,A j b[j] L (List.getElem?_eq_getElem G) C];exact i
 ·intro m E o;rw[List.size_toArray]at E;have g:b.toArray[m]'(by rw[List.size_toArray];omega)=b[m]:=by simp
  rw[g,A m b[m] p[m] (List.getElem?_eq_getElem E) (List.getElem?_eq_getElem #[1])];exact Y m _ o (d3 #[1])
 ·exact Oe I U ru (by show X.A.units+1+d.depth<cLine;omega) f r z (by simpa using K)
 ·exact{.int (j:Nat),H,I.tok _,{_,rfl},q}
end
section
variable {P:nP}{w:n4}{A:nU}{E:mD}{s:nB}{κ:Type} [DecidableEq κ] {knd:KeyKind P w κ}
abbrev Fu(led:Bool):Obj:={cls:=.type "set",dict:=none,data:=.set #[] 0 (.fresh 0 0 led) }
end
open PySem.Builtin.Str (strSliceIndices)
section
variable {X:Cx}
theorem Q6:Cp X (.builtin "len") (λxs H Q=>∃z:Str,xs=[.str z]/\(z.length:Int)<2^63/\Q (.int (z.length:Nat)) H):=by
 intro b s g H xs f Q I r h;obtain⟨z,rfl,e,q⟩:=h;obtain⟨u,rfl,t,rfl⟩:=Dj r;exact P.len_str #[1] ⟨.int _,H,I.tok _,⟨_,rfl⟩,q⟩
end
open PySem PySem.Spec PySem.SeqAt PyProof.Rows
section
variable {prog:nP}{w:n4}{E:mD}
theorem Uh(m:IntsAre vs ns)(v:vs.length<64)(u:∀R:List nL->nB->Prop,R vs {s with heap:=h1,toks:=t1}->wpAny #[0] A.in1 (collect r) R E s)
  (h:∀(out:Array nL) (f:mY) (h':Heap) (c:Nat),IntsAre out.toList f->f.Perm ns->f.Pairwise (·<=·)->(∀b o,h1.get? b=some o->h'.get? b=some o)->h'.get? h1.objs.size=some (seqObj "list" out c)->Q (.ref h1.objs.size) {s with heap:=h',toks:=t1}):
  wpAny #[0] A (call (.builtin "sorted") [r]) Q E s:=by
 have g:vs.length<=sizeLine:=by rw[sizeLine_eq];omega
 refine Calls.call_function_entry kind_sorted plain_sorted entry_sorted (args_sorted1 _) ?_;unfold Builtin.«sorted»;refine ag (m:=checkCount "sorted" 1 1 _) (aN ?_);refine ag (u _ (ag (wpAny_newList ?_ g)));have i:(h1.push #[5]).get? h1.objs.size=some #[5]:=cX _ rfl;show wpAny _ _ _ _ _ {s with heap:=h1.push #[5],toks:=t1};refine ag (fD (g6 slot_list_sort ⟨_,i,rfl⟩ entry_list_sort (list_sort_tree (s:={s with heap:=h1.push #[5],toks:=t1}) i m v λout f n p q=>⟨_,rfl,?_⟩) (args_list_sort _)));obtain⟨c,j⟩:∃c,(sortedHeap (h1.push #[5]) h1.objs.size vs out).get? h1.objs.size=some (seqObj "list" out c):=sortedHeap_at i;refine aN ⟨_,rfl,h out f _ c n p q (λb o e=>?_) j⟩;rw[sortedHeap_old (Nat.ne_of_lt (Heap.lt_size e)) (by rw[size_push'];exact Nat.lt_succ_of_lt (Heap.lt_size e))];exact cb _ e
end
section
variable {X:Cx}
inductive Ua(K:W.Frag)(xs:List V)(H:Hp)(Q:VK):Prop
 |mk (l:Addr) (ns:mY) (bW:xs=[.ref l]) (bO:Ar K H l #[15]) (cB:ns.length<64) (dM:∀(p:Addr) (kM:mY),H p=none->kM.Perm ns->kM.Pairwise (·<=·)->Q (.ref p) (upd H p (.lst (kM.map V.int)))):Ua K xs H Q
theorem Jq(K:W.Frag)(v:X.K=K:=by rfl):Cp X (.builtin "sorted") (Ua K):=by
 subst v;intro n s P H O N Q I r h;obtain⟨l,B,rfl,y,L,q⟩:=h;obtain⟨u,rfl,F⟩:=r.one;cases F;obtain⟨f,G,E,M⟩:=I.list y;have g:=Dq G;have i:f.length=B.length:=g.length;have A:∀b o,s.heap.get? b=some o->((s.heap.push (seqObj "list" #[] 0)).update s.heap.objs.size (Obj.mapSeq (·++f.toArray))).get? b=some o:=λb o e=>(eI _ _ (Ne.symm (fe (dr e)))).trans (cb _ e);refine Uh (h1:=(s.heap.push (seqObj "list" #[] 0)).update s.heap.objs.size (Obj.mapSeq (·++f.toArray))) (t1:=s.toks) g #[1] (λR x=>collect_list E.isList x (by rw[sizeLine_eq];omega)) λout j J c C m D z p=>?_;refine{.ref _,upd H _ (.lst (j.map V.int)),I.laid (t':=s.toks) (λb o e=>z b o (A b o e)) ?_ ?_,rfl,q _ j (I.aJ.fresh ?_) m D}
 ·rw[Heap.size_update,size_push'];exact Nat.le_succ _
 ·refine{?_,out.toList,c,J0 C,p};rw[List.length_map,m.length_eq,sizeLine_eq];omega
 ·rw[Heap.size_update,size_push'];exact Nat.le_succ _
end
open PySem PySem.Spec PySem.SeqAt PyProof.Rows
section
variable {prog:nP}{w:n4}
structure Lam(params:Arguments)(body:Expr)(scope:Scope)(x y:Str):Prop where
 bod:∃p1 p2 p3,body=.Subscript (.Name y p1) (.Name x p2) p3
 bind:∀(name qual:Str) (cl:List (Str×Addr)) (pm cd ct u:nL),bindArgs (W.kla_fn name qual params body scope cl pm cd ct) ⟨[u],[]⟩=pure [(x,u)]
 kind:scope.kind=.function
 lx:scope.names.lookup x=some .local
 ly:scope.names.lookup y=some .free
 nc:∀z∈scope.names,z.2≠ .cell
 co:scope.isCoroutine=false
 ge:scope.isGenerator=false
 dx:(x==("__debug__":Str))=false
 dy:(y==("__debug__":Str))=false
 cy:(y==("__classdict__":Str))=false
theorem dz{A:nU}{s:nB}{g:Arguments}{m:Expr}{j:Scope}{x y name n:Str}{f C q D:Addr}{S U:nL}{p:List nL}{i:Nat}{t:Tok}{v:nL}{R:Result->nB->Prop}
  (L:Lam g m j x y)(F:A.depth<recursionLimit)(N:s.heap.get? f=some (W.kla_obj name n g m j [(y,q)] S C U))(Q:s.heap.CodeRec (.ref C) n)(I:s.heap.IsCell q (some (.ref D)))
  (M:s.heap.IsList D p.toArray)(O:s.heap.NoLimit)(E:p[i]?=some v)(hz:p.length<=sizeLine)
  (h:∀h' T,#[4]->R (.ok (.ret v)) {s with heap:=h',toks:=T}):
  codeAny #[0] A (.call (.ref f) ⟨[.int (i:Int) t],[]⟩) R s:=by
 obtain⟨Y,Z,p3,rfl⟩:=L.bod;refine W.kla_callFunE F N rfl L.co L.ge rfl Q ?_;rw[L.bind];refine aN (wpAny_newFunctionEnv L.nc (λz H=>by rw[List.mem_singleton.mp H];exact L.lx) (λB J G=>?_) L.kind);have u:∀b o,s.heap.get? b=some o->B.get? b=some o:=λb o e=>G.extBut b o (fe (dr e)) (cb _ e);refine{O.keeps u,W.kla_codeExpr ?_};have X:i<p.length:=(b0.mp E).1;have K:=Ib;refine Subscript_ (wpAny_Name (wpAny_loadName_free L.kind L.ly ?_ (I.keeps u) ?_ L.cy) L.dy)
 ·show List.lookup y [(y,q)]=some q;simp
 refine wpAny_Name (wpAny_loadName_local (v:=.int (i:Int) t) L.kind L.lx J ?_ ?_) L.dx
 ·show List.lookup x [(x,Value.int (i:Int) t)].reverse=some (.int (i:Int) t);simp
 have P:B.IsList D p.toArray:=let⟨o,e,r⟩:=M;⟨o,u _ _ e,r⟩;exact item_listR (s:={s with heap:=B,toks:=s.toks+1}) P #[1] #[1] (by simpa using E) (h _ _ u) rfl
theorem Tc{A:nU}{E:mD}{s:nB}{r:Addr}{a b c:Int}{t u v:Tok}{n:Nat}{Q:List nL->nB->Prop}(I:A.handled=none)(K:IsRange s.heap r a b c t u v)(D:Builtin.Range.small a b c=true)(J:Builtin.Range.rangeSize a b c=n)(z:n<=2^24)
  (C:∀h' h g,#[4]->ItemsOf (λi v=>∃t,v=.int (a+i*c) t) g n->Q g.toList {s with heap:=h',toks:=h}):wpAny #[0] A (collect (.ref r)) Q E s:=by
 unfold collect;refine ag (wpAny_runValue (codeAny_builtin F.entry_proto_collect ?_));rw[Around.under_plainId F.plain_proto_collect _];show wpAny _ A.in1 (newList []>>=λl=>again (.builtin "list.__iadd__" ⟨[l,.ref r],[]⟩)) _ _ s;refine ag (gW ?_);refine aN ⟨ll F.plain_list_iadd _,codeAny_builtin F.entry_list_iadd ?_⟩;rw[Around.under_plainId F.plain_list_iadd _];show wpAny _ A.in1 (Builtin.List.listExtendWith #[2] (.ref r) #[2]) _ _ _
 have p:∀(x:Result->nB->Prop),(∀h' h g j,#[4]->h'.get? s.heap.objs.size=some {cls:=.type "list",dict:=none,data:=.seq g j,slots:=#[] }->ItemsOf (λi v=>∃t,v=.int (a+i*c) t) g n->x (.ok (.ret #[2])) {s with heap:=h',toks:=h})->
   wpAny #[0] A.in1 (Builtin.List.listExtendWith #[2] (.ref r) #[2]) (λp m=>match p with| .done f=>x (.ok f) m| .again j=>j.quiet=true/\codeAny #[0] A j x m) (λe m=>x (.error e) m) {s with heap:=s.heap.push {cls:=.type "list",data:=.seq #[] } }:=λx G=>
  wpAny_extend_range (s:={s with heap:=s.heap.push {cls:=.type "list",data:=.seq #[] } }) I (cb _ K) D J z s.heap.objs.size _ 0 (cX _ rfl) λh' h g j k e q=>G h' h g j (λb o e=>k b o (fe (dr e)) (cb _ e)) e q
 refine iv (p (λr m=>∃h' h g j,r=.ok (.ret #[2])/\m={s with heap:=h',toks:=h}/\#[4]/\h'.get? s.heap.objs.size=some {cls:=.type "list",dict:=none,data:=.seq g j,slots:=#[] }/\ItemsOf (λi v=>∃t,v=.int (a+i*c) t) g n) λh' h g j k e q=>⟨h',h,g,j,rfl,rfl,k,e,q⟩) (λf m y=>?_) (λe m H=>?_)
 ·cases f with
  |done f=>
   obtain⟨h',h,g,j,B,rfl,k,e,q⟩:=y;cases B;show wpAny _ A (load s.heap.objs.size>>=_) _ _ _;exact ag (wpAny_load e (aN (C h' h g k q)))
  |again L=>
   refine{y.1,codeAny_mono y.2 λr m y=>?_};obtain⟨h',h,g,j,rfl,rfl,k,e,q⟩:=y;show wpAny _ A (load s.heap.objs.size>>=_) _ _ _;exact ag (wpAny_load e (aN (C h' h g k q)))
 ·obtain⟨_,_,_,_,B,_⟩:=H;cases B
theorem Wj{A:nU}{E:mD}{s:nB}{h₀:Heap}{L:Addr}{m:Str->Option nL}{g:List #[18]}{kz:mY}{f r:nL}{q:Addr}{Q:mD}{C:List nL->Prop}(F:Fr h₀ L s.heap m)(N:News h₀ L s.heap g)(T:f=.ref q)(vB:kz.length<64)
  (qX:∀R:List nL->nB->Prop,(∀vs h1 t1,C vs->(∀b o,s.heap.get? b=some o->h1.get? b=some o)->R vs {s with heap:=h1,toks:=t1})->wpAny #[0] A.in1 (collect r) R E s)
  (S:∀vs,C vs->kz.length=vs.length)
  (x:∀vs,C vs->∀(i:Nat) (v:nL) (k:Int),vs[i]?=some v->kz[i]?=some k->∀(h:Heap) (n:Nat) (j:List #[18]),Fr h₀ L h m->News h₀ L h (g++j)->
   wpAny #[0] A.in1.in1 (call f [v]) (KskEnd h₀ L m (g++j) k {s with heap:=h,toks:=n}) (λ_ _=>False) {s with heap:=h,toks:=n})
  (done:∀vs D h' n out c,C vs->Fr h₀ L h' m->News h₀ L h' ((D,seqObj "list" out c)::g)->(∀q∈g,q.1<D)->L<D->h₀.get? D=none->KskOut false kz vs out.toList->Q (.ref D) {s with heap:=h',toks:=n}):
  wpAny #[0] A (call (.builtin "sorted") [r] [(Str.ofString "key",f)]) Q E s:=by
 subst T;refine call_function_entry_kw kind_sorted plain_sorted entry_sorted (ksk_s1 _ _) ?_;unfold Builtin.«sorted»;refine ag (m:=checkCount "sorted" 1 1 _) (aN ?_);refine ag (qX _ λvs h1 t1 I K=>?_);have u:=S vs I;have J:vs.length<=sizeLine:=by rw[sizeLine_eq];omega
 refine ag (wpAny_newList ?_ J);have z:Fr h₀ L h1 m:=F.kept K;have G:News h₀ L h1 g:=N.grown K;have H:L<h1.objs.size:=z.ns.lt;have O:(h1.push #[5]).get? h1.objs.size=some #[5]:=cX _ rfl;have M:∀b o,h1.get? b=some o->(h1.push #[5]).get? b=some o:=λb o e=>cb _ e;have P:h₀.get? h1.objs.size=none:=Heap.get?_none_of_le (ea z.above (l7 H));show wpAny _ _ _ _ _ {s with heap:=h1.push #[5],toks:=t1};refine ag (fD (wpAny_call_entry_kw slot_list_sort ⟨_,O,rfl⟩ entry_list_sort ?body (ksk_l1 _ _)))
 case body=>
  show wpAny #[0] A.in1.in1 (Builtin.«list.sort» ⟨[.ref h1.objs.size],[(Str.ofString "key",.ref q)]⟩) _ _ _;rw[ksk_t1];refine ksk_sort (s:={s with heap:=h1.push #[5],toks:=t1}) (z.kept M) (G.grown M) O (Nat.ne_of_gt H) P (λp X=>fe (dr (G p X).1)) u #[1] (λi v k Z U h n j y B=>x vs I i v k Z U h n j y B) λh' n out c y B k'=>⟨_,rfl,?_⟩;exact aN ⟨_,rfl,done vs _ h' n out c I y B (λq Y=>dr (G q Y).1) H P k'⟩
end
open PySem PySem.Spec PySem.SeqAt PyProof.Rows
section
variable {X:Cx}{pins:List #[18]}{σ:St}{H:Hp}{s:nB}{h':Heap}
theorem Ak.BM{pos:Pos}{t':Nat}(I:Ak X pins σ H s)(i:H P=some (.tab q pos))(k:∀b u,b≠P->s.heap.get? b=some u->h'.get? b=some u)(m:s.heap.objs.size<=c)(D:∃o,h'.get? c=some o)
  (h:h'.get? P=some (W.tabObj #[rawInt pos.line,rawInt pos.col,.ref c]))(A:h'.CodeRec (.ref c) q):Ak X pins σ (upd H c (.own P)) {s with heap:=h',toks:=t'}:=by
 have g:H c=none:=I.aJ.fresh m;have j:c≠P:=λz=>by rw[z,i]at g;cases g
 have p:∀b,H b=none->b≠P:=λb e z=>by rw[z,i]at e;cases e
 have C:∀b o,s.heap.get? b=some o->b≠c:=λb o e z=>absurd (fy (dr e) (z▸m)) (Nat.lt_irrefl _);refine I.un ⟨λb o e n _ _=>k b o (p b n) e,λb o e n _ _=>⟨o.slots,k b o (p b n) e⟩,λb o e n _=>(A9 (C b o e)).trans n,λb o e _=>?_,λb E e=>(A9 (Ag e g)).trans e,λb o u e=>(A9 (Ag e g)).trans e,λb G e=>⟨#[],by rw[A9 (Ag e g),e];simp⟩⟩ λb u e=>?_
 ·by_cases z:b=P
  ·exact{_,z▸h}
  ·exact{o,k b o z e}
 ·by_cases x:b=c
  ·subst x;rw[A2]at e;cases e;exact D
  ·rw[A9 x]at e;by_cases v:b=P
   ·subst v;rw[i]at e;cases e;exact .inr ⟨c,A2,j,h,A⟩
   ·refine(I.aJ b u e).fH (λd o f B=>k d o ?_ B) (λd f=>(A9 (Ag f g)).trans f) λd E f=>(A9 (Ag f g)).trans f;rcases f with y|y
    ·rw[y];exact v
    ·intro F;rw[F,i]at y;cases y
def Su(base:Heap)(mg:Str->Option nL):Prop:=∃b o,mg "__builtins__"=some (.ref b)/\b≠builtinsNs/\b≠mainGlobals/\base.get? b=some o/\o.cls=.type "module"/\o.dict=some builtinsNs/\o.data=.plain
theorem dw{x y q:Str}(I:Ak X pins σ H s)(BN:defaultsOf g X.env=([],[]))(lD:closureFor u X.env=pure [(y,E)])(nW:X.env.code=.ref c)(hK:W.codeHdIn X.K c P=true)(hq:X.env.qual++"<lambda>"=q)(F:H P=some (.tab q lpos))(hB:Su X.base X.mg)
  (h:∀(f j:Addr) (p pm:nL) (s':nB) (M:Hp),Ak X pins σ M s'->A6 H M->s'.heap.get? f=some (W.kla_obj "<lambda>" q g i u [(y,E)] pm j p)->s'.heap.CodeRec (.ref j) q->(∀b o,b≠P->s.heap.get? b=some o->s'.heap.get? b=some o)->s.heap.objs.size<=f->M f=none->Q (.ref f) s'):
  wpAny #[8] X.A (eval (.Lambda g i u lpos) X.env) Q X.xe s:=by
 refine W.kla_eval BN ?_;rw[hq];have hg:s.heap.Ns mainGlobals X.mg:=I.ok.mod.glob.keeps I.bk;have C:=W.codeHd_of_K I.fI hK;obtain⟨O,ob,b1,b2,b3,b4,b5,b6,b7⟩:=hB;have TL:=I.bk _ _ b4
 have S:O≠P:=λz=>by
  have:=(I.bs O ob b4).2;rw[z,F]at this;cases this
 have OY:s.heap.BuiltinsAt X.mg P:={O,ob,b1,b2,b3,S,TL,b5,b6,b7}
 have T:mainGlobals≠P:=λz=>by
  obtain⟨o,es,ep,e,_⟩:=I.ok.mod.glob;have:=(I.bs mainGlobals o e).2;rw[z,F]at this;cases this
 rcases(show Bi X.prog X.w H s.heap P (.tab q lpos)from I.aJ P _ F)with R|⟨j,hown,ne,R,GZ⟩
 ·refine W.kla_makeFunction (mg:=X.mg) lD I.ok.glob hg nW C R trivial rfl T OY λj p h' G hx L aZ K U=>?_;have k1:∀b o,b≠P->s.heap.get? b=some o->h'.get? b=some o:=λb o Y e=>hx b o Y e
  have DW:∃o,h'.get? j=some o:=by
   obtain⟨D,A,J,t,v,B,_⟩:=K;cases v;exact{A,B}
  have TM:h'.get? P=some (W.tabObj #[rawInt lpos.line,rawInt lpos.col,.ref j]):=by simpa using U
  have Z:=I.BM (t':=G) F k1 L DW TM K;have n:∀b o,h'.get? b=some o->(h'.push (W.kla_obj "<lambda>" q g i u [(y,E)] ((X.mg "__name__").getD .none) j p)).get? b=some o:=λb o e=>cb _ e;have N:=Z.kept (t':=G) n;have m:s.heap.objs.size<=h'.objs.size:=l7 (me L aZ);exact h _ j p _ _ _ N (A6.upd (I.aJ.fresh L)) (cX _ rfl) (by obtain⟨D,A,J,t,v,B,r⟩:=K;exact{D,A,J,t,v,n _ _ B,r}) (λb o Y e=>n _ _ (k1 b o Y e)) m (Z.aJ.fresh (de _))
 ·have BP:codeAmong lpos [rawInt lpos.line,rawInt lpos.col,.ref j]=some (.ref j):=codeAmong_snoc [] trivial rfl;refine W.kla_makeFunctionHit (mg:=X.mg) lD I.ok.glob hg nW C R trivial BP OY λp h' G hk m=>?_;have n:∀b o,s.heap.get? b=some o->(h'.push (W.kla_obj "<lambda>" q g i u [(y,E)] ((X.mg "__name__").getD .none) j p)).get? b=some o:=λb o e=>cb _ (hk b o e);have N:=I.kept (t':=G) n;exact h _ j p _ _ _ N (A6.refl _) (cX _ rfl) (by obtain⟨D,A,J,t,v,B,r⟩:=GZ;exact{D,A,J,t,v,n _ _ B,r}) (λb o _ e=>n _ _ e) m (I.aJ.fresh m)
end
open PySem PySem.Spec PySem.SeqAt PyProof.Rows
section
variable {X:Cx}
theorem bg:Cp X (.type "range") (λxs H Q=>∃j:Int,xs=[.int j]/\∀p,H p=none->Q (.ref p) (upd H p (.pZ 0 j))):=by
 intro f s i H xs g Q I r h;obtain⟨j,rfl,q⟩:=h;obtain⟨u,rfl,t,rfl⟩:=Dj r;refine call_range_1 ⟨.ref _,upd H _ (.pZ 0 j),I.laid (t':=_) (λb o e=>cb _ e) (de _) ⟨_,_,_,cX _ rfl⟩,rfl,q _ (I.aJ.fresh (de _))⟩
theorem A3b{h:Heap}{a:Addr}{m i:Str->Option nL}(h1:h.Ns a m)(n:h.Ns a i):m=i:=by
 obtain⟨o,q,p,e,d,_,f⟩:=h1;obtain⟨u,y,v,g,b,_,j⟩:=n;rw[e]at g;cases g;rw[d]at b;cases b;funext x;rw[<- f,<- j]
theorem Vj{vs out:List nL}(L:vs.length=ns.length)(z:∀(i:Nat) (v:nL),vs[i]?=some v->∃t:Tok,v=Value.int ((i:Nat):Int) t)(h:KskOut false ns vs out):
  ∃ord:List Nat,B0 (ord.map λ(k:Nat)=>V.int ((k:Nat):Int)) out/\ord.Perm (List.range ns.length)/\ord.Pairwise (λa b=>ns.getD a 0<=ns.getD b 0):=by
 obtain⟨j,o,A,B⟩:=h
 have g:∀p∈j,∃(k:Nat) (t:Tok),k<ns.length/\p=(ns.getD k 0,Value.int ((k:Nat):Int) t):=λp K=>by
  have q:=o.mem_iff.mp K;obtain⟨i,C⟩:=List.getElem?_of_mem q;obtain⟨y,E⟩:=List.getElem?_zip_eq_some.mp C;obtain⟨t,m⟩:=z i p.2 E;have G:=(b0.mp y).1;refine{i,t,G,?_};rw[List.getD_eq_getElem?_getD,y];show p=(p.1,_);rw[<- m]
 refine{j.map λp=>(numOf p.2).toNat,?_,?_,?_}
 ·rw[A];clear o A B
  induction j with
  |nil=>exact .nil
  |cons p j I=>
   obtain⟨k,t,_,e⟩:=g p c4;refine .cons ?_ (I λx H=>g x (d0 _ H));rw[e];exact{t,rfl}
 ·have n:=o.map (λp:Int×nL=>(numOf p.2).toNat);refine n.trans (List.Perm.of_eq ?_);apply List.ext_getElem?;intro i;rw[List.getElem?_map];by_cases u:i<ns.length
  ·have q:(ns.zip vs)[i]?=some (ns[i],vs[i]' #[1]):=List.getElem?_zip_eq_some.mpr ⟨d3 u,d3 #[1]⟩;obtain⟨t,m⟩:=z i (vs[i]' #[1]) (d3 #[1]);rw[q,List.getElem?_range u];show some (numOf (vs[i]' #[1])).toNat=some i;rw[m];rfl
  ·rw[List.getElem?_eq_none (by rw[List.length_zip];omega),List.getElem?_eq_none (by rw[List.length_range];omega)];rfl
 ·rw[List.pairwise_map];refine B.imp_of_mem λ{p J} n F f=>?_;obtain⟨k,t,_,e⟩:=g p n;obtain⟨M,N,_,D⟩:=g J F;rw[e,D]at f⊢;exact f
variable {k:Nat}{params:Arguments}{body:Expr}{dJ:Scope}{x y q:Str}{lpos kpos p pos:Pos}{c P:Addr}{j:Nat}{e:Expr}{tr:TA}
inductive Qz(K:W.Frag)(P:Addr)(q:Str)(lpos:Pos)(j:Nat)(σ:St)(Q:VK)(vs:List V)(H1:Hp):Prop
 |mk (r D:Addr) (ns:mY) (bW:vs=[.ref r]) (bO:H1 r=some (.pZ 0 ((ns.length:Nat):Int))) (cB:σ[j]?=some (some (.ref D))) (dM:Ar K H1 D #[15]) (iK:ns.length<64) (qC:H1 P=some (.tab q lpos)) (DS:∀(p:Addr) (ord:List Nat) (H2:Hp),A6 H1 H2->H1 p=none->H2 p=some (.lst (ord.map λ(k:Nat)=>V.int ((k:Nat):Int)))->ord.Perm (List.range ns.length)->ord.Pairwise (λa b=>ns.getD a 0<=ns.getD b 0)->Q (.ref p) H2):Qz K P q lpos j σ Q vs H1
def jm(K:W.Frag)(P:Addr)(q:Str)(lpos:Pos)(j:Nat)(tr:TA):TE:=λb H Q=>tr b H (Qz K P q lpos j b Q)
theorem W3(hr:Ca k X.A)(L:Lam params body dJ x y)(lD:∀B,X.env.cells.lookup y=some B->closureFor dJ X.env=pure [(y,B)])(hky:X.env.kindOf y=some .cell)(hN:X.N[j]?=some y)(hv:FF X.env.scope y)(BN:defaultsOf params X.env=([],[]))(nW:X.env.code=.ref c)(hK:W.codeHdIn X.K c P=true)(hq:X.env.qual++"<lambda>"=q)(hB:Su X.base X.mg)
  (hg:Gl X "sorted")(hm:X.mg "sorted"=none)(ha:PA X [e] tr)(he:starEach [e] X.env=[(false,eval e X.env)]:=by rfl):PE X (.Call (.Name "sorted" p) [e] [⟨some "key",.Lambda params body dJ lpos,kpos⟩] pos) (jm X.K P q lpos j tr):=by
 intro O s σ H Q I h;refine wpAny_Call_Name_kw (Fb I hg hm boot_sorted ?_ #[17] #[17]);refine callWith_kw (he:=by rw[he];rfl) (hplain:=by rw[he];rfl) (Bq (ha pos O s σ H _ I h) λus s1 bN=>?_);obtain⟨vs,H1,I1,r1,q1⟩:=bN;obtain⟨r,D,U,rfl,TN,hσ,hD,vB,hP,q2⟩:=q1;obtain⟨u,rfl,ru⟩:=Dj r1;cases ru;obtain⟨m0,vC,HE⟩:=I1.loc;obtain⟨u0,ru0,lk⟩:=HE j y (.ref D) hN hσ hv;cases ru0
 obtain⟨B,FI,gO⟩:∃B,X.env.cells.lookup y=some B/\s1.heap.IsCell B (some (.ref D)):=by
  rcases lk with⟨z,_⟩|⟨_,B,z1,z2⟩
  ·rw[hky]at z;cases z
  ·exact{B,z1,z2}
 show wpAny _ _ (evalAll [(do let v <- eval (.Lambda params body dJ lpos) X.env;standAt pos;pure v)]) _ _ s1;refine wpAny_evalAll_cons (ag (dw (x:=x) I1 BN (lD B FI) nW hK hq hP hB λf c' uF pm g H' A sm ef GZ kk hfz OE=>?_));refine ag (wpAny_standAt (aN (wpAny_evalAll_nil ?_)));show wpAny _ _ (call (.builtin "sorted") [.ref r] [(Str.ofString "key",.ref f)]) _ _ g;obtain⟨m,hn,_⟩:=A.loc;have F:Fr X.base X.env.locals g.heap m:={hn,A.bk,ea A.ok.qA A.ok.above};have N:News X.base X.env.locals g.heap (Ip X.base g.heap X.env.locals):=fc;obtain⟨aK,rv,pl,hz⟩:=A.list (sm.seq hD);have pE:aK.length=U.length:=by rw[<- rv.length,List.length_map]
 have nX:∀(b:Addr) (o:Obj),g.heap.get? b=some o->(∀es ep,o.data≠ .dict es ep)->b≠X.env.locals:=λb o e C z=>by
  obtain⟨o',es,ep,e',d',_⟩:=hn;rw[z,e']at e;cases e;exact C _ _ d'
 obtain⟨t1,t2,t3,TQ⟩:=(show Bi X.prog X.w H' g.heap r (.pZ 0 ((U.length:Nat):Int))from A.aJ r _ (sm _ _ TN))
 have BQ:B≠P:=λz=>by
  have:=I1.cH y B FI;rw[z,hP]at this;cases this
 have BR:g.heap.IsCell B (some (.ref D)):=by
  obtain⟨o,G,M⟩:=gO;exact{o,kk _ _ BQ G,M}
 have kept:∀{h:Heap}{Y:List #[18]},Fr X.base X.env.locals h m->News X.base X.env.locals h (Ip X.base g.heap X.env.locals++Y)->∀b o,b≠X.env.locals->g.heap.get? b=some o->h.get? b=some o:=λ{h Y} E T b o nb e=>by
  cases qq:X.base.get? b with
  |some o'=>
   have:=A.bk b o' qq;rw[e]at this;cases this;exact E.keep b _ qq
  |none=>exact(T (b,o) (gy _ (M5 nb qq e))).1
 refine Wj (h₀:=X.base) (L:=X.env.locals) (m:=m) (kz:=U) (C:=λvs=>vs.length=U.length/\∀(i:Nat) (v:nL),vs[i]?=some v->∃t:Tok,v=Value.int ((i:Nat):Int) t) F N rfl vB (λR hR=>?_) (λvs hc=>hc.1.symm) (λvs hc i v kk' hvi hki h tk Y E T=>?_) λvs S J tk out c2 hc E T aZ hL hD0 ko=>?_
 ·refine Tc (A:=X.A.in1) hr.hd TQ (small_one #[1] #[1] #[1] #[1]) (n:=U.length) (by rw[rangeSize_one];split<;>omega) #[1] λh1 tk acc k1 hI=>hR _ h1 tk ⟨by rw[Array.length_toList];exact hI.1,λi v hv=>?_⟩ k1;obtain⟨t,e⟩:=hI.2 i v (by rw[<- Array.getElem?_toList];exact hv);exact{t,by rw[e];congr 1;omega}
 ·obtain⟨t,rfl⟩:=hc.2 i v hvi;have hi:i<U.length:=(b0.mp hki).1;obtain⟨w',ew,kK⟩:=rv.get (show(U.map V.int)[i]?=some (.int kk')by rw[List.getElem?_map,hki];rfl);obtain⟨t',rfl⟩:=kK;have K:=kept E T;have hfD:f≠X.env.locals:=nX f _ ef λ_ _ z=>by cases z
  have TR:h.CodeRec (.ref c') q:=by
   obtain⟨c3,oc,vs3,t4,M,qN,C,TU⟩:=GZ;cases M;exact{_,oc,vs3,t4,rfl,K _ _ (nX _ _ qN λ_ _ z=>by rw[C]at z;cases z) qN,C,TU}
  have BS:h.IsCell B (some (.ref D)):=by
   obtain⟨o,G,M⟩:=BR;exact{o,K _ _ (nX _ _ G λ_ _ z=>by rw[M]at z;cases z) G,M}
  have HH:h.IsList D aK.toArray:=by
   obtain⟨o,G,M,n2,e3⟩:=pl.isList;exact{o,K _ _ (nX _ _ G λ_ _ z=>by rw[e3]at z;cases z) G,M,n2,e3}
  refine wpAny_call (codeAny_mono (dz (s:={g with heap:=h,toks:=tk}) L hr.depth (K _ _ hfD ef) TR BS HH (A.ok.mod.nolimit.keeps E.keep) ew (by rw[pE,sizeLine_eq];omega) (R:=λres s3=>∃J vD,res=.ok (.ret (.int kk' t'))/\s3={g with heap:=J,toks:=vD}/\∀b o,h.get? b=some o->J.get? b=some o) λJ vD k'=>⟨J,vD,rfl,rfl,k'⟩) λres s3 AR=>?_);obtain⟨J,vD,rfl,rfl,k'⟩:=AR;exact{J,vD,t',rfl,rfl,E.kept k',T.grown k'}
 ·obtain⟨ord,HI,cY,hpw⟩:=Vj hc.1 hc.2 ko
  have hDs:g.heap.get? S=none:=by
   cases qq:g.heap.get? S with
   |none=>rfl
   |some o=>exact absurd (aZ _ (M5 (Nat.ne_of_gt hL) hD0 qq)) (Nat.lt_irrefl _)
  have Z:H' S=none:=A.aJ.off hDs;have N2:News X.base X.env.locals J (Ip X.base g.heap X.env.locals++[]):=λp hp=>T p (d0 _ (by simpa using hp));have K:=kept E N2;have G:=(T _ c4).1
  have I2:Ak X O σ (upd H' S (.lst (ord.map λ(k:Nat)=>V.int ((k:Nat):Int)))) {g with heap:=J,gens:=g.gens,drawn:=g.drawn,toks:=tk}:=by
   refine A.step (ch:=[]) (λ_ z=>nomatch z) (λb o hb _ _ e _=>K b o hb e) (λb o hb _ _ e _=>⟨o.slots,K b o hb e⟩) (λb o _ e n=>(A9 λz=>by rw[z,hDs]at e;cases e).trans n) (λb o _ e=>?_) (λb xs e=>(A9 (Ag e Z)).trans e) (λb o u e=>(A9 (Ag e Z)).trans e) (λb ps e=>⟨#[],by rw[A9 (Ag e Z),e];simp⟩) (λm1 h1=>?_) (λb u e=>?_) A.bare
   ·by_cases z:b=X.env.locals
    ·obtain⟨o',es,ep,e',_⟩:=E.ns;exact{o',z▸e'}
    ·exact{o,K b o z e}
   ·rw[A3b h1 hn];exact E.ns
   ·by_cases z:b=S
    ·subst z;rw[A2]at e;cases e;refine{?_,out.toList,c2,HI,by simpa using G};rw[List.length_map,cY.length_eq,List.length_range,sizeLine_eq];omega
    ·rw[A9 z]at e;refine(A.aJ b u e).fH (λd o C ho=>K d o ?_ ho) (λd C=>(A9 (Ag C Z)).trans C) λd xs C=>(A9 (Ag C Z)).trans C;intro y;have iJ:=A.free;rcases C with w1|w1
     ·rw[<- y,w1,e]at iJ;cases iJ
     ·rw[<- y,w1]at iJ;cases iJ
  exact{.ref S,_,I2,rfl,q2 S ord _ (sm.trans (A6.upd Z)) (sm.free Z) A2 cY hpw}
end
theorem Zl{P:nP}{w:n4}{K:W.Frag}{mg mb:Str->Option nL}{CX:ar}{k:Nat}{T a pt:Addr}{q:Str}{pos:Pos}{fd:nZ}{x:Str}{sp:Sp}{f:nB}{vs:List nL}{ns:mY}
  (KX:K.In f.heap)(gP:f.heap.Ns mainGlobals mg)(B:f.heap.Ns builtinsNs mb)(TV:∀x:Str,x≠"__name__"->mb x=bootBuiltins x)(TX:f.heap.NoLimit)(hg:f.gens=#[])
  (E:f.heap.get? pt=some (W.tabObj #[]))(TY:K.lookup pt=none)(TZ:isCodeTable f.heap pt)
  (D:f.heap.get? a=some {cls:=.type "list",data:=.seq vs.toArray})(hi:IntsAre vs ns)(hl:ns.length<=sizeLine)(hr:Ca k callerA)
  (hB:f.heap.BuiltinsAt mg pt)(F:∀base:Heap,K.In base->base.Ns mainGlobals mg->Su base mg->Ee P w K mg base CX k T fd [x] sp)(HK:∀(s:nB) (u:nL),BindsTo s fd ⟨[u],[]⟩ [(x,u)])
  (oW:∀H:Hp,H pt=some (.tab q pos)->Ar K H a #[15]->sp [.ref a] H (λv Q=>v=.bl true/\Q pt=some (.tab q pos)) λ_ _ _=>False)
  (UA:∀H e s',CX [] H f (λ_ _ _=>False) e s'->False):
  codeAny #[9] callerA (.call (.ref T) ⟨[.ref a],[]⟩) (λr s'=>r=.ok (.ret (.bool true))/\OldK f.heap s'.heap/\s'.os=f.os/\AllBare s'.gens) f:=by
 have rv:=J0 hi;have UB:=hi.length
 have N:pt≠a:=λz=>by
  rw[z,D]at E;cases E
 have A:∀H:Hp,(∀b,b≠pt->H b=none\/∃o xs,H b=some (.dG o (.lst xs)))->H pt=some (.tab q pos)->Ar K H a #[15]->Hv P w H f.heap->(∀b,H b≠none->b=a\/b=pt)->(H a≠none->K.lookup a=none)->
   codeAny #[9] callerA (.call (.ref T) ⟨[.ref a],[]⟩) (λr s'=>r=.ok (.ret (.bool true))/\OldK f.heap s'.heap/\s'.os=f.os/\AllBare s'.gens) f:=by
  intro H hO Y hS aJ U hK;have kN:∀{b:Addr}{o:Obj},f.heap.get? b=some o->H b=none->(Pj f.heap H).get? b=some o:=λe n=>d6 e n
  have FR:∀{b:Addr}{o:Obj}{J:Array DictEntry}{I:Nat},f.heap.get? b=some o->o.data=.dict J I->H b=none:=λ{b o J I} e d=>by
   cases j:H b with
   |none=>rfl
   |some u=>
    rcases U b (by rw[j];simp)with i|i
    ·subst i;rw[D]at e;cases e;have d':Data.seq vs.toArray _=Data.dict J I:=d;cases d'
    ·subst i;rw[E]at e;cases e;cases d
  have O:∀{b:Addr}{m:Str->Option nL},f.heap.Ns b m->(Pj f.heap H).Ns b m:=λ{b m} ⟨o,J,I,e,d,r⟩=>⟨o,J,I,kN e (FR e d),d,r⟩
  have L:K.In (Pj f.heap H):=λb o e=>kN (KX b o e) (by
   cases j:H b with
   |none=>rfl
   |some u=>
    rcases U b (by rw[j];simp)with i|i
    ·subst i;rw[hK (by rw[j];simp)]at e;cases e
    ·subst i;rw[TY]at e;cases e)
  have hM:Mod K mg (Pj f.heap H):={L,O gP,{mb,O B,TV},let⟨mc,h1,h2⟩:=TX;{mc,O h1,h2}}
  have X:Su (Pj f.heap H) mg:=by
   obtain⟨S,o,b1,b2,b3,b4,R,b6,b7,b8⟩:=hB;refine{S,o,b1,b2,b3,kN R ?_,b6,b7,b8};cases j:H S with
   |none=>rfl
   |some u=>
    rcases U S (by rw[j];simp)with i|i
    ·rw[i,D]at R;cases R;cases b8
    ·exact absurd i b4
  have e0:Uv P w K mg (Pj f.heap H) callerA [] f H:={rfl,hM,λb o e=>ln e,Nat.le_of_eq (Zf _ _),trivial,λb B=>absurd (show b∈([]:List Addr)from B) (by simp),aJ,.of_eq hg};refine codeAny_mono ((F _ L (O gP) X).run callerA [] f H ⟨[.ref a],[]⟩ [.ref a] [.ref a] _ _ hr e0 (HK f (.ref a)) (.cons rfl .nil) (oW H Y hS)) λr s' h=>?_;cases r with
  |error e=>exact(UA H e s' h).elim
  |ok fl=>
   cases fl with
   |next=>exact False.elim h
   |brk=>exact False.elim h
   |cont=>exact False.elim h
   |ret u=>
    obtain⟨v,Q,os,G,un,nA,r',q1,q2⟩:=h;subst q1;obtain rfl:u=Value.bool true:=r';refine{rfl,{λb o e=>?_,λb o e=>un.there b o e (by simp)},os,G};by_cases M:b=pt
    ·subst M;rw[E]at e;cases e;rcases(show Bi P w Q s'.heap b (.tab q pos)from nA b _ q2)with C|⟨c',_,_,C,_⟩
     ·exact .inl C
     ·exact .inr (.inl ⟨TZ,rfl,#[],_,rfl,by simpa using C⟩)
    ·refine .inl ?_;cases j:H b with
     |none=>exact un.keep b o e j (by intro z;exact absurd (show b∈([]:List Addr)from z) (by simp)) (by simp)
     |some u=>
      rcases hO b M with z|⟨ob,xs,z⟩
      ·rw[j]at z;cases z
      ·have z2:=un.fA b ob _ z;obtain⟨C,_⟩:=aJ b _ z;obtain⟨e2,_⟩:=nA b _ z2;rw[e]at C;cases C;exact e2
 have wR:∀H:Hp,Bi P w H f.heap pt (.tab q pos):=λH=>.inl E;cases Z:K.lookup a with
 |some o=>
  have e:=KX a o Z;rw[D]at e;cases e;refine A (λb=>if b=pt then some (.tab q pos)else none) (λb B=>.inl (if_neg B)) (if_pos rfl) (.inr ⟨_,vs.toArray,_,Z,rfl,rfl,rfl,by rw[List.size_toArray,UB];exact hl,by simpa using rv⟩) (λb u z=>?_) (λb z=>?_) λz=>absurd (if_neg N.symm) z
  ·by_cases g:b=pt
   ·have y:=(if_pos g).symm.trans z;cases y;subst g;exact wR _
   ·have y:=(if_neg g).symm.trans z;cases y
  ·by_cases g:b=pt
   ·exact .inr g
   ·exact absurd (if_neg g) z
 |none=>
  refine A (λb=>if b=pt then some (.tab q pos)else if b=a then some (.dG {cls:=.type "list",data:=.seq vs.toArray} (.lst #[15]))else none) (λb B=>?_) (if_pos rfl) (.inl (.inr ⟨{cls:=.type "list",data:=.seq vs.toArray},(if_neg N.symm).trans (if_pos rfl)⟩)) (λb u z=>?_) (λb z=>?_) λ_=>Z
  ·by_cases p:b=a
   ·exact .inr ⟨_,_,(if_neg B).trans (if_pos p)⟩
   ·exact .inl ((if_neg B).trans (if_neg p))
  ·by_cases g:b=pt
   ·have y:=(if_pos g).symm.trans z;cases y;subst g;exact wR _
   ·have z1:=(if_neg g).symm.trans z;by_cases p:b=a
    ·have y:=(if_pos p).symm.trans z1;cases y;subst p;exact{D,by rw[List.length_map];exact hl,vs,_,rv,D}
    ·have y:=(if_neg p).symm.trans z1;cases y
  ·by_cases g:b=pt
   ·exact .inr g
   ·by_cases p:b=a
    ·exact .inl p
    ·exact absurd ((if_neg g).trans (if_neg p)) z
theorem walk_ofT{l:W.OpenLaw}{n k:Nat}{q:nP}{j:List Str}{XP:(Str->Option nL)->Heap->Prop}{A:n4->Heap->Prop}{d:DefRec}{K:Params->W.Frag}{CX:n4->ar}{sp:n4->Sp}{x:Str}{pt:Addr}{lq:Str}{lpos:Pos}
  (hn:l.most=some n)(uR:n<=sizeLine)(I:d.params.defaults=[])(hr:Ca k callerA)
  (hY:∀(w:n4) (h:Heap),A w h->(K w.params).In h)(P:∀(w:n4) (h:Heap),A w h->h.get? pt=some (W.tabObj #[]))
  (F:∀(w:n4) (mg:Str->Option nL) (p:Addr) (h:Heap),(K w.params).In h->h.Ns mainGlobals mg->mg d.name=some (.ref p)->
   ((K w.params).lookup pt=none/\∃c,W.codeHdIn (K w.params) c pt=true)/\∃C:nZ,(∀(s:nB) (u:nL),BindsTo s C ⟨[u],[]⟩ [(x,u)])/\
    ∀base:Heap,(K w.params).In base->base.Ns mainGlobals mg->Su base mg->Ee l.prog w (K w.params) mg base (CX w) k p C [x] (sp w))
  (oW:∀(w:n4) (H:Hp) (a:Addr) (ns:mY),ns.length<=n->(∀z∈ns,PySem.Builtin.Int.intBits z<=2^20)->H pt=some (.tab lq lpos)->Ar (K w.params) H a #[15]->sp w [.ref a] H (λv T=>v=.bl true/\T pt=some (.tab lq lpos)) λ_ _ _=>False)
  (UA:∀(w:n4) (H:Hp) (s:nB) (e:nL) (s':nB),CX w [] H s (λ_ _ _=>False) e s'->False):
  W.WalkO q j XP A l.row.toRowW d [] (λf vs=>PySem.call f vs):=by
 intro w Q b mg mb G Y p o pm cd doc dV kV ho hd mT O J hg L S as uT UC hrd mU UD;obtain rfl:dV=.none:=W.Dflts.none O I;obtain rfl:kV=.none:=W.Dflts.noKw O;obtain⟨a,vs,ns,rfl,rfl,UE,i,g⟩:=Att.oX hn uT mU
 have big:∀z∈ns,PySem.Builtin.Int.intBits z<=2^20:=λz hz=>by
  have l1:=(W.layW_cons UC).1;have l2:=W.layableW_item l1 (.int z) (ft.mpr ⟨z,hz,rfl⟩);have l3:=(W.layableW_iff.mp l2).2.2;simpa only[W.WData.weight,Builtin.Int.intBits]using l3
 have y:=hY w _ Y;obtain⟨⟨X,c,E⟩,C,hb,hF⟩:=F w mg p _ y G.T.g J
 have Z:isCodeTable b.heap pt:=by
  obtain⟨o,vs,N,tf,D,tg,inF,R,tt,e1,e2,e3,e4,_⟩:=W.codeHd_of_K y E;exact{c,o,vs,e1,e2,e3,e4}
 have U:b.heap.BuiltinsAt mg pt:=by
  obtain⟨bm,ob,b1,b2,m,M,b5,B⟩:=G.T.bmain;refine{bm,ob,b1,b2,λz=>?_,λz=>?_,m,M,b5,B}
  ·obtain⟨o',es,ep,e,gB,_⟩:=G.T.g;rw[z,e]at m;cases m;rw[gB]at B;cases B
  ·have:=P w _ Y;rw[z,this]at m;cases m;cases M
 refine W.enter_call (codeAny_mono (Zl (q:=lq) (pos:=lpos) y G.T.g G.T.b G.T.builtins G.T.nolimit hg (P w _ Y) X Z UE i (ea g uR) hr U hF hb (λH hP hS=>oW w H a ns g big hP hS) λH e s'=>UA w H b e s') λr s' hq=>?_);obtain⟨rfl,h2,h3,h4⟩:=hq;exact{.inl {.bool true,.bool true,[],rfl,λ_=>rfl,.bool true,Att.oY l _,λ_=>{List.Pairwise.nil,λ_ hm=>(nomatch hm)}},h2,h3,h4}
structure Ye(K:W.Frag)(x qual:Str)(st:Stmt)(f:Addr)(fd:nZ)(c pt:Addr):Prop where
 fn:Uw K x qual st f fd
 code:fd.code=.ref c
 tab:W.codeHdIn K c pt=true
theorem Ye.jH{P:nP}{w:n4}{K:W.Frag}{mg:Str->Option nL}{base:Heap}{x b:Str}{e:Stmt}{f:Addr}{i:nZ}{c pt:Addr}{N h:List Str}{k:Nat}{sp:Sp}(F:Ye K x b e f i c pt)(S:Ae N h (A8 e))(g:∀vs H Q E,sp vs H Q E->vs.length=h.length)
  (o:∀(A:nU) (outer:List Env) (s:nB) (H:Hp) (vs:List V) (Q:VK) (E:XK),Ca k (A.deeper (envOfC b (A8 e) s.heap.objs.size f (.ref c)))->sp vs H Q E->
   ∃t,Pc (Gc (CX1 P w) P w K mg base N b (A8 e) f (.ref c) A outer s H E) (C7 e) t/\t {nx:=λ_ j=>Q .bB j,rt:=Q} (start N vs) H):Ee P w K mg base (CX1 P w) (k+1) f i h sp:=by
 obtain⟨z,B,kV,n,C,u,m,v,y,rfl,p,q⟩:=F.fn.ex;obtain rfl:m=.ref c:=F.code;exact cp p q S g o
theorem Ye.okN{P:nP}{w:n4}{K:W.Frag}{mg:Str->Option nL}{base:Heap}{x b:Str}{e:Stmt}{f:Addr}{j:nZ}{c pt:Addr}{N i:List Str}{k:Nat}{sp:Sp}(F:Ye K x b e f j c pt)(S:Ae N i (A8 e))(g:∀vs H Q E,sp vs H Q E->vs.length=i.length)
  (n:∀(A:nU) (outer:List Env) (s:nB) (H:Hp) (vs:List V) (Q:VK) (E:XK),Ca k (A.deeper (envOfC b (A8 e) s.heap.objs.size f (.ref c)))->sp vs H Q E->
   ∃t,Pc (Gc (CX1 P w) P w K mg base N b (A8 e) f (.ref c) A outer s H E).DM (C7 e) t/\t {nx:=λ_ m=>Q .bB m,rt:=Q} (start N vs) H):Ee P w K mg base (CX1 P w) (k+1) f j i sp:=
 F.jH S g λA outer s H vs Q E o p=>let⟨t,h,q⟩:=n A outer s H vs Q E o p;⟨t,h.DM,q⟩
theorem Tb{env:Env}(f:e.names=[(x,.local),(y,.free)])(h:env.cells.lookup y=some b):closureFor e env=pure [(y,b)]:=by
 unfold closureFor;rw[f];simp[cellOf,h]
def Nb(xs:Array Nat):Prop:=xs.toList.Pairwise (·<·)
theorem V1(x:Nb xs):∀(fuel lo f:Nat),f-lo<=fuel->lo<=f->f<=xs.size->(∀i a,i<lo->xs[i]?=some a->a<j)->(∀i a,f<=i->xs[i]?=some a->j<=a)->
  SetTable.below.go xs j fuel lo f<=xs.size/\(∀i a,i<SetTable.below.go xs j fuel lo f->xs[i]?=some a->a<j)/\∀i a,SetTable.below.go xs j fuel lo f<=i->xs[i]?=some a->j<=a
 |0,lo,f,F,v,p,n,o=>by
  unfold SetTable.below.go;have e:lo=f:=by omega
  subst e;exact{p,n,o}
 |fuel+1,lo,f,F,v,p,n,o=>by
  unfold SetTable.below.go;by_cases A:lo<f
  ·rw[if_pos A];have m:(lo+f)/2<xs.size:=by omega
   have h:xs[(lo+f)/2]?=some (xs[(lo+f)/2]'m):=Array.getElem?_eq_getElem m;have E:xs.getD ((lo+f)/2) j=xs[(lo+f)/2]'m:=by simp[Array.getD,m]
   dsimp only;rw[E];generalize xs[(lo+f)/2]'m=b at h
   have up:∀i k a c,i<k->xs[i]?=some a->xs[k]?=some c->a<c:=λi k a c u g D=>by
    have y:=jA.mp g;have B:=jA.mp D;have:=List.pairwise_iff_getElem.mp x i k (by simpa using y.1) (by simpa using B.1) u;simp only[Array.getElem_toList]at this;rw[y.2,B.2]at this;exact this
   by_cases q:b<j
   ·rw[if_pos q];refine V1 x fuel _ _ #[1] #[1] p (λi a C g=>?_) o;rcases iE i ((lo+f)/2)with z|z
    ·have:=up i _ a b z g h;omega
    ·rw[show i=(lo+f)/2 by omega,h]at g;cases g;exact q
   ·rw[if_neg q];refine V1 x fuel _ _ #[1] #[1] #[1] n (λi a C g=>?_);rcases iE ((lo+f)/2) i with z|z
    ·have:=up _ i b a z h g;omega
    ·rw[show i=(lo+f)/2 by omega,h]at g;cases g;omega
  ·rw[if_neg A];have e:lo=f:=by omega
   subst e;exact{p,n,o}
theorem PD(j:Nat)(b:Nb xs):SetTable.below xs j<=xs.size/\(∀i a,i<SetTable.below xs j->xs[i]?=some a->a<j)/\∀i a,SetTable.below xs j<=i->xs[i]?=some a->j<=a:=
 V1 b xs.size 0 xs.size #[1] (jN _) (de _) (λi a h=>absurd h (l0 _)) λi a h e=>by
  have:=(jA.mp e).1;omega
theorem ug(j:Nb xs)(h:xs[i]?=some a):SetTable.below xs (a+1)=i+1:=by
 obtain⟨m,b,e⟩:=PD (a+1) j;have g:=jA.mp h;generalize SetTable.below xs (a+1)=p at m b e;rcases Nat.lt_trichotomy p (i+1)with z|z|z
 ·have:=e i a #[1] h;omega
 ·exact z
 ·have n:xs[i+1]?=some (xs[i+1]' #[1]):=Array.getElem?_eq_getElem #[1];have:=b (i+1) _ z n;have f:=List.pairwise_iff_getElem.mp j i (i+1) (by simpa using g.1) (by simp;omega) #[1];simp only[Array.getElem_toList]at f;rw[g.2]at f;omega
theorem bc(h:Nb xs):SetTable.below xs 0=0:=by
 obtain⟨e,b,f⟩:=PD 0 h;generalize SetTable.below xs 0=p at e b f;cases p with
 |zero=>rfl
 |succ p=>
  have g:xs[0]?=some (xs[0]' #[1]):=Array.getElem?_eq_getElem #[1];exact absurd (b 0 _ #[1] g) (l0 _)
theorem Wa(m:Nb xs)(x:j∉xs.toList):Nb (SetTable.insertAt xs (SetTable.below xs j) j):=by
 obtain⟨v,n,o⟩:=PD j m;generalize SetTable.below xs j=p at v n o⊢;unfold Nb;rw[SetTable.toList_insertAt]
 have u:∀a∈xs.toList.take p,a<j:=λa h=>by
  obtain⟨i,f⟩:=gC.mp h;rw[List.getElem?_take]at f;split at f
  ·exact n i a (by assumption) (by simpa using f)
  ·cases f
 have q:∀b∈xs.toList.drop p,j<b:=λb g=>by
  obtain⟨i,f⟩:=gC.mp g;rw[List.getElem?_drop]at f;have:=o (p+i) b #[1] (by simpa using f);have y:j≠b:=λe=>x (e▸List.mem_of_mem_drop g);omega
 refine List.pairwise_append.mpr ⟨List.Pairwise.sublist (List.take_sublist ..) m,List.pairwise_cons.mpr ⟨q,List.Pairwise.sublist (List.drop_sublist ..) m⟩,λa h b g=>?_⟩;rcases eH.mp g with e|g
 ·rw[e];exact u a h
 ·exact Nat.lt_trans (u a h) (q b g)
theorem ac(n:Nat):Nb (Array.range n):=by
 unfold Nb;rw[Array.toList_range];exact List.pairwise_lt_range
structure Bs(t:SetTable)(led:Bool):Prop where
 uH:Nb t.place
 UG:t.dummies=#[]
 led:t.led=led
theorem Bs.fresh(a b:Nat)(led:Bool):Bs (.fresh a b led) led:={List.Pairwise.nil,rfl,rfl}
theorem Bs.standIn{t:SetTable}{led:Bool}(h:Bs t led)(n:Nat):Bs (t.standIn n) led:={ac n,rfl,h.led}
theorem Bs.off{t:SetTable}{led:Bool}(h:Bs t led):Bs {t with plain:=false} led:={h.uH,h.UG,h.led}
theorem Xl(j:Nat):SetTable.has #[] j=false:=by
 unfold SetTable.has;simp
theorem Bs.probe{t:SetTable}{led:Bool}(g:Bs t led)(f:Nat->Int)(h:Int):∀(fuel:Nat) (p:SetTable.Probe) (j:Nat) (d:Option Nat),SetTable.probe.go t f h fuel p=some (.empty j d)->d=p.dummy/\t.slot j=.empty
 |0,p,j,d,e=>by
  unfold SetTable.probe.go at e;cases e
 |fuel+1,p,j,d,e=>by
  unfold SetTable.probe.go at e;split at e
  ·rename_i b;cases e;exact{rfl,b}
  ·rename_i b;unfold SetTable.slot at b;simp only[g.UG,Xl]at b;split at b
   ·cases b
   ·cases b
  ·split at e
   ·cases e
   ·have:=Bs.probe g f h fuel _ j d e;refine{this.1.trans ?_,this.2};unfold SetTable.advance;split<;>rfl
theorem Bs.free{t:SetTable}{led:Bool}(g:Bs t led){h:Int}{j:Nat}{b:Bool}(e:t.freeSlot h=some (j,b)):j∉t.place.toList:=by
 unfold SetTable.freeSlot at e;split at e
 ·rename_i f d C;obtain⟨y,m⟩:=g.probe _ _ _ _ _ _ C;have q:d=none:=y;subst q;cases e;intro B;obtain⟨i,A⟩:=gC.mp B;obtain⟨E,u,v⟩:=PD f g.uH;have n:t.place[i]?=some f:=by simpa using A
  have D:i=SetTable.below t.place f:=by
   rcases Nat.lt_trichotomy i (SetTable.below t.place f)with z|z|z
   ·have:=u i f z n;omega
   ·exact z
   ·have p:=(jA.mp n).1;have x:t.place[SetTable.below t.place f]?=some (t.place[SetTable.below t.place f]' #[1]):=Array.getElem?_eq_getElem #[1];have F:=v _ _ (de _) x;have o:=List.pairwise_iff_getElem.mp g.uH _ i (by simp;omega) (by simpa using p) z;simp only[Array.getElem_toList]at o;rw[(Array.getElem?_eq_some_iff.mp n).2]at o;omega
  unfold SetTable.slot at m;dsimp only at m;rw[<- D,n]at m;simp at m
 ·cases e
theorem Bs.put{t:SetTable}{led:Bool}(g:Bs t led){j:Nat}(h:j∉t.place.toList):Bs (t.put j).1 led:=by
 refine{Wa g.uH h,?_,g.led};show(if SetTable.has t.dummies j then _ else t.dummies)=_;rw[g.UG,Xl];rfl
theorem Bs.orStandIn{t:SetTable}{led:Bool}(g:Bs t led)(n:Nat):Bs (t.orStandIn n) led:=by
 unfold SetTable.orStandIn;split
 ·exact g
 ·exact g.standIn n
theorem Bs.layNew{t:SetTable}{led:Bool}(g:Bs t led)(es:Array (Int×nL))(h:Int)(x:nL):Bs (layNew t es h x).2.1 led:=by
 unfold PySem.layNew;split
 ·rename_i f b e;exact(g.put (g.free e)).orStandIn _
 ·exact g.standIn _
theorem Bs.laid{g a b:Nat}{led h:Bool}{u:Array Int}{t:SetTable}{o:Array Nat}(e:SetTable.laid g a b led h u=some (t,o)):Bs t led:=by
 unfold SetTable.laid at e;cases q:SetTable.layClean g u with
 |none=>rw[q]at e;cases e
 |some f=>
  rw[q]at e;cases e;refine{?_,rfl,rfl};show List.Pairwise _ _;simp only[List.toList_toArray];rw[List.map_filterMap];refine List.Pairwise.filterMap _ (R:=(·<·)) (λi k v a j b m=>?_) List.pairwise_lt_range;cases n:f.getD i none with
  |none=>simp[n]at j
  |some c=>
   cases p:f.getD k none with
   |none=>simp[p]at m
   |some d=>
    simp[n]at j;simp[p]at m;omega
theorem Bs.HM{t:SetTable}{led:Bool}(g:Bs t led)(es:Array (Int×nL))(n:Nat):Bs (relayAll t es n).2.1 led:=by
 unfold relayAll;split
 ·rename_i f b e;dsimp only;split
  ·have:=Bs.laid e;rw[g.led]at this;exact this
  ·exact g.standIn _
 ·exact g.standIn _
section
variable {P:nP}{w:n4}{A:nU}{E:mD}{s:nB}{κ:Type} [DecidableEq κ]
def Nd(knd:KeyKind P w κ)(h:Heap)(a:Addr)(led:Bool)(g:List κ)(n:Nat):Prop:=
 ∃(o:Obj) (b:Array (Int×nL)) (f:Nat) (t:SetTable),h.get? a=some o/\o.ExactSet/\o.data=.set b f t/\ElemsOf knd b.toList/\(∀k,k∈g↔∃e∈b.toList,knd.is k e.2=true)/\b.size<=n/\t.fits b.size=true/\Bs t led
variable {knd:KeyKind P w κ}
theorem Nd.at{h h':Heap}{a:Addr}{led:Bool}{e:List κ}{n:Nat}(g:Nd knd h a led e n)(keep:∀o,h.get? a=some o->h'.get? a=some o):Nd knd h' a led e n:=by
 obtain⟨o,i,f,t,j,b⟩:=g;exact{o,i,f,t,keep _ j,b}
theorem stored{h:Heap}{a:Addr}{o:Obj}{b es:Array (Int×nL)}{ep:Nat}{g:SetTable}(t:SetTable)(f:h.get? a=some o)(hd:o.data=.set b ep g):
  (h.update a (Obj.putSet es t)).get? a=some {o with data:=.set es (ep+1) t}:=by
 have e:=gU (Obj.putSet es t) f (by rw[putSet_of es t hd];rfl);rw[putSet_of es t hd]at e;exact e
theorem su{D:Bool->Sem Unit}(x:∀(b:Bool) (z:nB) (R:Unit->nB->Prop),R () z->wpAny #[9] A (D b) R E z){a:Addr}{o:Obj}{J es:Array (Int×nL)}{ep n:Nat}{L t:SetTable}{led:Bool}{G:List κ}(F:s.heap.get? a=some o)(ex:o.ExactSet)(hd:o.data=.set J ep L)
  (B:ElemsOf knd es.toList)(i:∀k,k∈G↔∃e∈es.toList,knd.is k e.2=true)(le:es.size<=n)(M:n<scanBound)(m:t.fits es.size=true)(f:Bs t led){K:Bool}{R:Option Bool->nB->Prop}
  (q:∀h',Heap.SameBut a s.heap h'->Nd knd h' a led G n->R (some true) {s with heap:=h'}):
  wpAny #[9] A (do
    storeSet a es t
    if(!K&&t.tooFull)=true then do
      D (relayAll t es #[21]).2.2
      storeSet a (relayAll t es #[21]).1 (relayAll t es #[21]).2.1
      pure (some true)
     else pure (some true)) R E s:=by
 have j:es.size<=sizeLine:=fits_of_scanBound #[1];refine ag (wpAny_storeSet_of F hd ?_ j);have y:=stored (es:=es) t F hd;have I:=il s.heap a (Obj.putSet es t);split
 ·have g:=relayAll_perm t es #[21];have p:=relayAll_fits t es #[21];have u:=f.HM es #[21];generalize relayAll t es #[21]=all at g p u⊢;obtain⟨h,H,C⟩:=all;dsimp only at g p u⊢
  have sz:h.size=es.size:=by
   have:=g.length_eq;simpa using this
  refine ag (x _ _ _ ?_);refine ag (wpAny_storeSet_of y rfl ?_ #[1]);refine aN (q _ (I.trans (il _ a _)) ⟨_,h,_,H,stored H y rfl,ex,rfl,B.perm g,λk=>(i k).trans ⟨λ⟨e,v,z⟩=>⟨e,g.mem_iff.mpr v,z⟩,λ⟨e,v,z⟩=>⟨e,g.mem_iff.mp v,z⟩⟩,by omega,p,u⟩)
 ·exact aN (q _ I ⟨_,es,_,t,y,ex,rfl,B,i,le,m,f⟩)
theorem A59{a:Addr}{led:Bool}{K:List κ}{n:Nat}{k:κ}{x:nL}{Q:Bool->nB->Prop}(I:knd.is k x=true)(L:x.scannable=true)(g:Nd knd s.heap a led K n)(Y:n+1<scanBound)
  (q:∀b h',Heap.SameBut a s.heap h'->Nd knd h' a led (k::K) (n+1)->Q b {s with heap:=h'}):wpAny #[9] A (setAddHashed a x (knd.hash k)) Q E s:=by
 obtain⟨o,i,Z,t,J,M,H,C,y,le,v,m⟩:=g;unfold setAddHashed setAddHashedIn;refine fD (ag (wpAny_setState_of J H v ?_));dsimp only;rw[byScan_of L #[1] C];simp only[↓reduceIte];unfold setAddByScan;refine ag ?_;refine ag (la ?_);refine ag (wpAny_setScan_of I J H v C ?_);cases S:List.findIdx? (λe=>knd.is k e.2) i.toList with
 |some j=>
  dsimp only;obtain⟨hj,is,_⟩:=List.findIdx?_eq_some_iff_getElem.mp S;have B:k∈K:=(y k).mpr ⟨i.toList[j],ml hj,is⟩;refine aN (aN ?_);have e:s={s with heap:=s.heap}:=by cases s;rfl
  rw[e];refine q _ s.heap (Heap.SameBut.refl a s.heap) ⟨o,i,Z,t,J,M,H,C,λu=>?_,by omega,v,m⟩;rw[List.mem_cons,<- y u];exact{λz=>z.elim (λe=>e▸B) id,.inr}
 |none=>
  dsimp only;have f:=layNew_perm t i (knd.hash k) x;have F:=layNew_fits t i (knd.hash k) x;have G:=m.layNew i (knd.hash k) x;generalize layNew t i (knd.hash k) x=all at f F G⊢;obtain⟨D,t1,dm,X⟩:=all;dsimp only at f F G⊢;rw[Array.toList_push]at f
  have sz:D.size=i.size+1:=by
   have:=f.length_eq;simpa using this
  have U:∀u,u∈k::K↔∃e∈D.toList,knd.is u e.2=true:=λu=>by
   rw[List.mem_cons,y u];constructor
   ·rintro(rfl|⟨e,p,z⟩)
    ·exact{(knd.hash u,x),f.mem_iff.mpr (gv _ (iT.mpr rfl)),I}
    ·exact{e,f.mem_iff.mpr (gy _ p),z}
   ·rintro⟨e,p,z⟩;rcases fC.mp (f.mem_iff.mp p)with p|p
    ·exact .inr ⟨e,p,z⟩
    ·rw[List.mem_singleton]at p;subst p;exact .inl (knd.inj x u k z I)
  have O:∀(b:Bool) {z:nB}{R:Unit->nB->Prop},R () z->wpAny #[9] A (match b with|true=>rule "set.scan.the-table-gave-way"|false=>pure ()) R E z:=λb z R h=>by
   cases b
   ·exact aN h
   ·exact la h
  refine ag (O _ ?_);split
  ·refine ag ?_;rw[hashByValue_scannable 8 L];refine aN ?_;refine su (led:=led) (λb z R h=>?_) J M H ((C.push I L).perm f) U (n:=n+1) #[1] Y ?_ ?_ λh' T N=>?_
   ·exact O b h
   ·split
    ·exact F
    ·exact SetTable.fits_plain_off F
   ·split
    ·exact G
    ·exact G.off
   ·exact aN (q _ h' T N)
  ·refine ag (aN ?_);simp only[↓reduceIte];refine su (led:=led) (λb z R h=>?_) J M H ((C.push I L).perm f) U (n:=n+1) #[1] Y F G λh' T N=>?_
   ·exact O b h
   ·exact aN (q _ h' T N)
end
section
variable {P:nP}{w:n4}{A:nU}{R:Result->nB->Prop}{κ:Type} [DecidableEq κ] {knd:KeyKind P w κ}
theorem A38{I S:Addr}{led:Bool}{F x:List Addr}{G:Array GenState->Array GenState->Prop}{n:Nat}{Pr:Nat->nL->Prop}{St:Nat->nB->Prop}(W:WalksS P w A.in1 I F x G n Pr St)(out:S∉F){f:Nat->κ}(hf:∀i v,Pr i v->knd.is (f i) v=true/\v.scannable=true)(lQ:n+1<scanBound):
  ∀(m i:Nat) (s:nB),n=i+m->St i s->Nd knd s.heap S led ((List.range i).map f) i->
   (∀z,Moved (S::x) G s z->Nd knd z.heap S led ((List.range n).map f) n->R (.ok (.ret .none)) z)->codeAny #[9] A (.builtin "set.update.loop" ⟨[.ref S,.ref I],[]⟩) R s:=by
 have E:S∉x:=λz=>out (W.sub _ z);have h:∀b∈x,b∈S::x:=λb z=>d0 _ z;intro m
 induction m with
 |zero=>
  intro i s e D g q;obtain rfl:n=i:=by omega
  refine codeAny_builtin PyProof.Rows.F.entry_set_update_loop ?_;rw[Around.under_plainId PyProof.Rows.F.plain_set_update_loop _];show wpAny _ A.in1 (pyNext (.ref I)>>=_) _ _ s;refine ag (W.done s _ _ D λz u=>?_);show wpAny _ A.in1 (ret Value.none) _ _ z;exact aN (q z (u.mono h) (g.at λo j=>u.heap S o E j))
 |succ m ih=>
  intro i s e D g q;refine codeAny_builtin PyProof.Rows.F.entry_set_update_loop ?_;rw[Around.under_plainId PyProof.Rows.F.plain_set_update_loop _];show wpAny _ A.in1 (pyNext (.ref I)>>=_) _ _ s;refine ag (W.item i s _ _ #[1] D λv z pr jO u=>?_);obtain⟨H,oZ⟩:=hf i v pr;have U:=g.at λo j=>u.heap S o E j;show wpAny _ A.in1 (holding [v] (setAdd S v)>>=_) _ _ z;refine ag (fD ?_);unfold setAdd;refine fD (ag (knd.pyHash H ?_));refine A59 (s:={z with toks:=z.toks+1}) H oZ U #[1] λb h2 J X=>?_
  have Y:Nd knd h2 S led ((List.range (i+1)).map f) (i+1):=by
   obtain⟨o,T,Q,t,K,L,M,N,O,p⟩:=X;refine{o,T,Q,t,K,L,M,N,λk=>?_,p};rw[<- O k,List.range_succ,List.map_append,List.mem_append,List.mem_cons];simp only[List.map_cons,List.map_nil,List.mem_singleton];exact{λz=>z.elim .inr .inl,λz=>z.elim .inr .inl}
  refine aN ⟨ll PyProof.Rows.F.plain_set_update_loop _,ih (i+1) _ #[1] (W.frame _ z _ _ jO (Nat.le_succ _) λb C o j=>?_) Y λy my Z=>?_⟩
  ·rw[J.2 b (λB:b=S=>out (by rw[<- B];exact C))];exact j
  ·refine q y (Moved.trans W.gtrans ((u.mono h).then_heap (Nat.le_succ _) λb o C j=>?_) my) Z;rw[J.2 b (λB:b=S=>C (by rw[B];exact List.mem_cons_self))];exact j
end
section
variable {P:nP}{w:n4}{A:nU}{E:mD}{s:nB}{κ:Type} [DecidableEq κ] {knd:KeyKind P w κ}
abbrev Qi(w:n4):Bool:= !w.params.followText "set-order"
theorem Yz(a:nL)(q:Q #[2] {s with heap:=s.heap.push (Fu (Qi w)) }):
  codeAny #[9] A (.call (.builtin "set.__new__") ⟨[.type "set",a],[]⟩) (wants Q E) s:=by
 refine codeAny_of_tree ?_;show wpAny _ A.in1 (checkBuiltinCall "set.__new__" ⟨[.type "set",a],[]⟩>>=λ_=>again (.builtin "set.__new__" ⟨[.type "set",a],[]⟩)) _ _ s;refine ag (wpAny_of_eq (PySem.F.newCall_set_1 a) (aN ⟨ll PySem.F.plain_set_new _,codeAny_builtin PySem.F.entry_set_new ?_⟩));rw[Around.under_plainId PySem.F.plain_set_new _];unfold Builtin.«set.__new__» Builtin.Frozenset.newClass;have b:=sub_set_self;obtain⟨e,g,d,h,f⟩:=s;dsimp only
 wp_walk
 refine wpAny_askSetting (aN ?_);dsimp only;simp only[newObj];refine ag (wpAny_alloc (aN ?_));exact aN q
theorem A2w{l:Addr}{h:Array nL}{f:Nat->κ}{Q:mD}(no:A.handled=none)(hl:s.heap.IsList l h)(hf:∀i v,h[i]?=some v->knd.is (f i) v=true/\v.scannable=true)(lQ:h.size+1<scanBound)
  (q:∀(m:Heap) (n:Nat),Nd knd m s.heap.objs.size (Qi w) ((List.range h.size).map f) h.size->(∀b o,b<s.heap.objs.size->s.heap.get? b=some o->m.get? b=some o)->Q #[2] {s with heap:=m,toks:=n}):
  wpAny #[9] A (call (.type "set") [.ref l]) Q E s:=by
 have O:=PySem.F.called_set.mro;obtain⟨cc,tl,O⟩:=O;have md:=PySem.F.called_set.made;have sb:=PySem.F.called_set.sub;refine wpAny_call (codeAny_of_tree ?_);show wpAny _ _ (callAny (.type "set") _) _ _ _;refine aN (And.intro (Code.quiet_builtin _ #[13]) (codeAny_builtin PySem.F.entry_type_call ?_));rw[Around.under_plain (weight_type_call_type "set" [.ref l] []) rfl];have nt:=PySem.F.called_set.notType;have cn:=PySem.F.called_set.canCreate;have tc:=PySem.F.typeCall_set_1 (.ref l)
 repeat (any_goals (first|wp_step|assumption))
 refine codeAny_mono (Yz (.ref l) (E:=E) (Q:=λx z=>x=.ref s.heap.objs.size/\z={s with heap:=s.heap.push (Fu (Qi w)) }) ⟨rfl,rfl⟩) λr z B=>?_;cases r with
 |error e=>exact B
 |ok Y=>
  cases Y with
  |ret x=>
   obtain⟨rfl,rfl⟩:=B;generalize J:Qi w=j at*;have ne:(s.heap.push (Fu j)).get? s.heap.objs.size=some (Fu j):=cX _ rfl;have ty:Shared.TypeIs {s with heap:=s.heap.push (Fu j) } #[2] "set":={_,ne,rfl};have li:=PySem.F.called_set.init.lookup;have bi:=PySem.F.called_set.init.bind #[2]
   repeat (any_goals (first|wp_step|assumption))
   refine codeAny_mono (codeAny_call_builtin (R:=wants (λr y=>r=.none/\∃m n,y={s with heap:=m,toks:=n}/\Nd knd m s.heap.objs.size j ((List.range h.size).map f) h.size/\∀b o,b<s.heap.objs.size->s.heap.get? b=some o->m.get? b=some o) E) PySem.F.called_set.init.plain PySem.F.entry_set_init (check_set_init_1 ty ?_)) λr2 y C=>?_
   ·obtain⟨⟨c0,S,U,F⟩,K,H,M,I⟩:=hl;simp only at H I;subst H I;have R:(s.heap.push (Fu j)).get? l=some {cls:=.type "list",dict:=S,data:=.seq h M,slots:=F}:=cb _ K;have n1:=PySem.F.sub_list_set;have n2:=PySem.F.sub_list_frozenset;have n3:(Value.type "list"==Value.type "dict")=false:=by decide
    have L:(s.heap.push (Fu j)).IsList l h:={_,R,rfl,M,rfl};have N:l<s.heap.objs.size:=dr K;unfold Builtin.«set.__init__» noKeywords Builtin.Frozenset.updateFrom;generalize u:pyIter=it
    wp_walk
    subst u;refine wpAny_pyIter_list L (ag (wpAny_runValue ?_));have D:A.in1.in1.in1.handled=none:=by simp[no]
    have sz:(s.heap.push (Fu j)).objs.size=s.heap.objs.size+1:=Heap.size_push ..;refine A38 (knd:=knd) (f:=f) (led:=j) ((Walks.list D _ l (by rw[sz];exact fe (Nat.lt_succ_of_lt N)) h).toS) (S:=s.heap.objs.size) (λz=>by rcases eH.mp z with e|e;exact absurd e (by rw[sz];exact fe (Nat.lt_succ_self _));exact absurd (iT.mp e) (Nat.ne_of_gt N)) hf lQ h.size 0 _ #[1] ⟨⟨_,cX _ rfl,rfl,rfl⟩,(L.push _)⟩ ?_ λz p g=>?_
    ·have hg:((s.heap.push (Fu j)).push {cls:=.type "list_iterator",data:=.fields #[.ref l,.int 0 0] }).get? s.heap.objs.size=some (Fu j):=cb _ ne;exact{_,#[],0,_,hg,{rfl,rfl,rfl},rfl,(λe z=>by simp at z),(λk=>by simp),de _,rfl,Bs.fresh 0 0 j}
    ·obtain⟨m,Z,T,n,os⟩:=z;obtain rfl:Z=s.gens:=p.gens;obtain rfl:T=s.drawn:=p.drawn;obtain rfl:os=s.os:=p.os;show wpAny _ _ _ _ _ _;refine aN ?_;show wpAny _ _ (ret Value.none) _ _ _;refine aN ⟨rfl,m,n,rfl,g,λb o G e=>p.heap b o (λz=>?_) (cb _ (cb _ e))⟩;rcases eH.mp z with y|y
     ·exact absurd y (fe G)
     ·exact absurd (iT.mp y) (by rw[sz];exact fe (Nat.lt_succ_of_lt G))
   ·cases r2 with
    |error e=>exact C
    |ok X=>
     cases X with
     |ret r=>
      obtain⟨rfl,m,n,rfl,g,kp⟩:=C
      repeat (any_goals (first|wp_step|assumption))
      exact q _ _ g kp
     |_=>exact C.elim
  |_=>exact B.elim
end
theorem Ug:Manifest.owners.lookup (String.ofList ['r','o','t','a','r','e','t','i','_','t','e','s'].reverse)=some Manifest.sig_set_iterator:=by kernel_rfl
theorem Hk:Slot "set_iterator" "__next__" "set_iterator.__next__":=.of (owner:="set_iterator") (n:="__next__") (by rw[typeLookup_type,builtinLookup_eq_fast];kernel_rfl) #[13] #[13] #[13] (by first|exact .inl #[13]|exact .inr #[13]) (by rw[isSubtype_type];kernel_rfl)
theorem Uf:entryFor table "set_iterator.__next__"=some Builtin.«set_iterator.__next__»:=entryFor_of_tree (by kernel_rfl)
theorem Y4(a:nL):argsOk "set_iterator.__next__" ⟨[a],[]⟩:=by
 unfold argsOk;rw[signature?_of (id:="set_iterator.__next__") (n:=['_','_','t','x','e','n','_','_']) (o:=['r','o','t','a','r','e','t','i','_','t','e','s']) (by kernel_rfl) Ug]
 kernel_rfl
theorem Y5:Slot "set_iterator" "__iter__" "set_iterator.__iter__":=.of (owner:="set_iterator") (n:="__iter__") (by rw[typeLookup_type,builtinLookup_eq_fast];kernel_rfl) #[13] #[13] #[13] (by first|exact .inl #[13]|exact .inr #[13]) (by rw[isSubtype_type];kernel_rfl)
theorem Sm(a:nL):argsOk "set_iterator.__iter__" ⟨[a],[]⟩:=by
 unfold argsOk;rw[signature?_of (id:="set_iterator.__iter__") (n:=['_','_','r','e','t','i','_','_']) (o:=['r','o','t','a','r','e','t','i','_','t','e','s']) (by kernel_rfl) Ug]
 kernel_rfl
theorem Pm:entryFor table "set_iterator.__iter__"=some Builtin.«dict_keyiterator.__iter__»:=entryFor_alias (id':="dict_keyiterator.__iter__") (by kernel_rfl) (by first|rfl|decide+kernel|(unfold String.splitOn;simp+decide [String.splitOnAux])) #[13] (by kernel_rfl)
theorem P4:entryFor table "set.__iter__"=some Builtin.«frozenset.__iter__»:=entryFor_alias (id':="frozenset.__iter__") (by kernel_rfl) (by first|rfl|decide+kernel|(unfold String.splitOn;simp+decide [String.splitOnAux])) #[13] (by kernel_rfl)
def Fz(h:Heap)(it:Addr)(first:nL)(i:Nat)(S:Addr)(n ep:Nat):Prop:=∃o,h.get? it=some o/\o.cls=.type "set_iterator"/\o.data=.fields #[first,rawInt i,.ref S,rawInt n,rawInt ep]
theorem Fz.ty{s:nB}{it S:Addr}{first:nL}{i n ep:Nat}(x:Fz s.heap it first i S n ep):s.TypeIs (.ref it) "set_iterator":=let⟨o,e,b,_⟩:=x;⟨o,e,b⟩
theorem Fz.at{first:nL}(x:Fz h it first i S n ep)(k:∀o,h.get? it=some o->h'.get? it=some o):Fz h' it first i S n ep:=let⟨o,b,r⟩:=x;⟨o,k _ b,r⟩
theorem Jj:∀{l:List b}{i:Nat}{x:b},l[i]?=some x->(x::l.eraseIdx i).Perm l
 |[],i,x,h=>by cases h
 |y::l,0,x,h=>by
  cases h;exact List.Perm.refl _
 |y::l,i+1,x,h=>by
  have e:=Jj (l:=l) (i:=i) (x:=x) (by simpa using h);exact(List.Perm.swap y x _).trans (e.cons y)
theorem Xp(b:Nat->Nat):∀(fuel k:Nat) (left:List g) (out:Array g),left.length<=fuel->(pickOrder.go b fuel k left out).toList.Perm (out.toList++left)
 |0,k,left,out,h=>by
  unfold pickOrder.go;have e:left=[]:=List.length_eq_zero_iff.mp #[1];rw[e];simp
 |fuel+1,k,left,out,h=>by
  unfold pickOrder.go;split
  ·rename_i x f;have i:=(b0.mp f);have m:=Xp b fuel (k+1) (left.eraseIdx (b k%left.length)) (out.push x) (by rw[List.length_eraseIdx,if_pos i.1];omega);refine m.trans ?_;rw[Array.toList_push,List.append_assoc];refine List.Perm.append_left _ ?_;exact Jj f
  ·rename_i f;have:left.length<=b k%left.length:=List.getElem?_eq_none_iff.mp f
   have j:left.length=0:=by
    rcases Nat.eq_zero_or_pos left.length with z|z
    ·exact z
    ·have:=Nat.mod_lt (b k) z;omega
   rw[List.length_eq_zero_iff.mp j];simp
theorem a9(b:Nat->Nat)(xs:Array e):(pickOrder b xs).toList.Perm xs.toList:=by
 have:=Xp b xs.size 0 xs.toList #[] (by simp);simpa[pickOrder]using this
section
variable {P:nP}{w:n4}{A:nU}{E:mD}{s:nB}
theorem al(b:0<n)(q:∀i d,i<n->Q i {s with drawn:=d}):wpAny #[9] A (choose .order n) Q E s:=λf p e=>by
 show Sem.wp _ _ (.choose .order n .pure) _ _ _ _;rw[Sem.wp_choose];refine{by omega,?_};show Sem.wp _ _ (Sem.pure _) _ _ _ _;rw[Sem.wp_pure];exact q _ _ (Nat.mod_lt _ b)
theorem Kk:∀(n:Nat) (xs:List g) (s:nB) {Q:List g->nB->Prop},xs.length=n->(∀ys d,ys.Perm xs->Q ys {s with drawn:=d})->wpAny #[9] A (drawOrder n xs) Q E s
 |0,xs,s,Q,h,q=>by
  rw[List.length_eq_zero_iff.mp h]at q⊢;unfold drawOrder;have e:s={s with drawn:=s.drawn}:=by cases s;rfl
  rw[e];exact aN (q [] s.drawn (List.Perm.refl _))
 |n+1,[],s,Q,h,q=>by cases h
 |n+1,x::xs,s,Q,h,q=>by
  unfold drawOrder;refine ag (al (by rw[h];omega) λi d b=>?_);have f:(x::xs)[i]?=some ((x::xs)[i]'b):=d3 b;rw[f];dsimp only;refine ag (Kk n _ _ (by rw[List.length_eraseIdx,if_pos b];omega) λys j m=>aN ?_);refine q _ j ?_;exact(List.Perm.cons _ m).trans (Jj f)
end
def Rq(es:Array (Int×nL))(t:SetTable):Bool:= !t.plain&&decide (es.size>1)
inductive Pf(w:n4)(h:Heap)(S:Addr)(es:Array (Int×nL))(ep:Nat)(t:SetTable)(T:Addr)(ord:List nL)(i:Nat):nL->Prop
 |text (slot:Nat):w.params.followText "set-order"=true->ord=(pickOrder (w.params.setOrder S ep) es).toList.map (·.2)->Pf w h S es ep t T ord i (rawInt slot)
 |plain (slot:Nat):w.params.followText "set-order"=false->Rq es t=false->t.led=true->Nb t.place->ord=es.toList.map (·.2)->SetTable.below t.place slot=i->Pf w h S es ep t T ord i (rawInt slot)
 |drawn (pl:List Nat):h.IsTuple T (pl.map λ(k:Nat)=>rawInt k).toArray->(∀k∈pl,k<es.size)->ord=pl.filterMap (λk=>(es[k]?).map (·.2))->ord.length=pl.length->Pf w h S es ep t T ord i (.ref T)
theorem nv{g m:Type}{f:g->Option m}:∀{l:List g},(∀x∈l,(f x).isSome)->∀(i:Nat),(l.filterMap f)[i]?=l[i]?.bind f
 |[],_,i=>by simp
 |x::l,h,i=>by
  have b:=h x c4;cases e:f x with
  |none=>rw[e]at b;cases b
  |some y=>
   rw[List.filterMap_cons_some e];cases i with
   |zero=>simp[e]
   |succ i=>simpa using nv (λz j=>h z (d0 _ j)) i
section
variable {P:nP}{w:n4}{A:nU}{E:mD}{s:nB}{S:Addr}{o:Obj}{es:Array (Int×nL)}{ep:Nat}{t:SetTable}
theorem Qm(g:s.heap.get? S=some o)(hd:o.data=.set es ep t)(f:t.fits es.size=true)(bt:w.params.followText "set-order"=true)
  (q:Q (((pickOrder (w.params.setOrder S ep) es)[i]?).map λe=>(e.2,b)) s):wpAny #[9] A (setNext S b i ep) Q E s:=by
 unfold setNext;refine ag (wpAny_setState_of g hd f ?_);dsimp only;refine ag (ag (wpAny_askSetting (aN ?_)));show wpAny _ _ (if(w.params.followText "set-order")=true then _ else _) _ _ _;rw[if_pos bt];show wpAny _ _ (if(ep != ep)=true then _ else _) _ _ _;rw[if_neg (by simp)];refine ag ?_;unfold setWalk;refine ag (wpAny_setState_of g hd f ?_);dsimp only;refine ag (ag (wpAny_askSetting (aN ?_)));show wpAny _ _ (if(w.params.followText "set-order")=true then _ else _) _ _ _;rw[if_pos bt];refine ag (wpAny_askSetting (aN (aN ?_)));exact q
theorem Op(f:s.heap.get? S=some o)(hd:o.data=.set es ep t)(e:t.fits es.size=true)(bt:w.params.followText "set-order"=false)(g:Rq es t=false)(led:t.led=true)
  (q:Q (match es[SetTable.below t.place b]?,t.place[SetTable.below t.place b]? with|some (_,x),some j=>some (x,j+1)|_,_=>none) s):wpAny #[9] A (setNext S b i ep) Q E s:=by
 unfold setNext;refine ag (wpAny_setState_of f hd e ?_);dsimp only;refine ag (ag (wpAny_askSetting (aN ?_)));show wpAny _ _ (if(w.params.followText "set-order")=true then _ else _) _ _ _;rw[if_neg (by rw[bt];decide)];show wpAny _ _ (if Rq es t=true then _ else _) _ _ _;rw[if_neg (by rw[g];decide)];refine ag ?_;show wpAny _ _ (if(!t.led&& !es.isEmpty)=true then _ else _) _ _ _;rw[if_neg (by rw[led];simp)];exact aN (aN q)
theorem N6{h:Heap}{it S:Addr}{b:Obj}{first x y:nL}{i n ep:Nat}(f:h.get? it=some b)(e:b.cls=.type "set_iterator")(hd:b.data=.fields #[first,rawInt i,.ref S,rawInt n,rawInt ep]):
  Fz (h.update it (Obj.mapFields (·.setIfInBounds 1 (rawInt ((i:Int)+1))))) it first (i+1) S n ep/\(h.update it (Obj.mapFields (·.setIfInBounds 0 x))).get? it=some (Obj.mapFields (·.setIfInBounds 0 x) b)/\(Obj.mapFields (·.setIfInBounds 0 x) b).cls=.type "set_iterator"/\(Obj.mapFields (·.setIfInBounds 0 x) b).data=.fields #[x,rawInt i,.ref S,rawInt n,rawInt ep]:=by
 refine{{_,gU _ f (Obj.isFreed_of_fields (Obj.data_mapFields hd _)),(Obj.cls_mapFields ..).trans e,?_},gU _ f (Obj.isFreed_of_fields (Obj.data_mapFields hd _)),(Obj.cls_mapFields ..).trans e,?_}
 ·rw[Obj.data_mapFields hd];simp[rawInt]
 ·rw[Obj.data_mapFields hd];simp
theorem dj{it T:Addr}{first v:nL}{i:Nat}{ord:List nL}{Q:Option nL->nB->Prop}(D:Fz s.heap it first i S es.size ep)(L:s.heap.get? S=some o)(hd:o.data=.set es ep t)(g:t.fits es.size=true)(hm:Pf w s.heap S es ep t T ord i first)(n:ord[i]?=some v)(nT:it≠T)
  (q:∀kO h',Fz h' it kO (i+1) S es.size ep->Pf w h' S es ep t T ord (i+1) kO->Heap.SameBut it s.heap h'->Q (some v) {s with heap:=h'}):wpAny #[9] A (pyNext (.ref it)) Q E s:=by
 have ty:=D.ty;obtain⟨o',B,Y,C⟩:=D;unfold pyNext;refine ag (mu (mr (name:=Str.ofString "__next__") ty Hk (g6 Hk ty Uf ?_ (Y4 _))));unfold Builtin.«set_iterator.__next__»;refine ag (wpAny_of_eq (a:=(Value.ref it,[])) rfl ?_);refine ag (wpAny_fieldsOf B C ?_);show wpAny _ _ (setEntries S>>=_) _ _ _;refine ag (wpAny_setEntries_of L hd g ?_);show wpAny _ _ (if(((es.size:Nat):Int) != ((es.size:Nat):Int))=true then _ else _) _ _ _;rw[if_neg (by simp)]
 have j:∀(u:Nat),Pf w ((s.heap.update it (Obj.mapFields (·.setIfInBounds 0 (rawInt u)))).update it (Obj.mapFields (·.setIfInBounds 1 (rawInt ((i:Int)+1))))) S es ep t T ord (i+1) (rawInt u)->∀{R:Fin->nB->Prop}{F:mD},(∀p,Q (some v) p->R (.done (.ret v)) p)->wpAny #[9] A.in1 (do setField (.ref it) 0 (rawInt u);setField (.ref it) 1 (rawInt ((i:Int)+1));ret v) R F s:=λu iR R F hR=>
  iv (Q:=λf p=>f=.done (.ret v)/\Q (some v) p) (E:=λ_ _=>False) (by
   obtain⟨_,U,e2,X⟩:=N6 (x:=rawInt u) (y:=v) B Y C;refine ag (wpAny_setField B C (by simp) ?_);refine ag (wpAny_setField (s:={s with heap:=s.heap.update it (Obj.mapFields (·.setIfInBounds 0 (rawInt u))) }) U X (by simp) ?_);obtain⟨M,_⟩:=N6 (x:=rawInt u) (y:=v) U e2 X;exact aN ⟨rfl,q _ _ M iR ((il ..).trans (il ..))⟩) (λf p ⟨e,G⟩=>by rw[e];exact hR p G) λ_ _ z=>z.elim
 cases hm with
 |text b y h=>
  show wpAny _ _ (setNext S (b:Int).toNat ((i:Nat):Int).toNat ((ep:Nat):Int).toNat>>=_) _ _ _;refine ag (Qm L hd g y ?_);simp only[Int.toNat_natCast];rw[h,List.getElem?_map,Array.getElem?_toList]at n;obtain⟨e,m,rfl⟩:=dI.mp n;rw[m];exact j b (.text b y h) λp G=>⟨_,rfl,aN G⟩
 |plain b y nd H uH h hb=>
  show wpAny _ _ (setNext S (b:Int).toNat ((i:Nat):Int).toNat ((ep:Nat):Int).toNat>>=_) _ _ _;refine ag (Op L hd g y nd H ?_);simp only[Int.toNat_natCast];rw[h,List.getElem?_map,Array.getElem?_toList]at n;obtain⟨e,m,rfl⟩:=dI.mp n
  have hsz:t.place.size=es.size:=by
   simp only[SetTable.fits,Bool.and_eq_true,beq_iff_eq]at g;exact g.1
  have hi:=(jA.mp m).1;have hj:t.place[i]?=some (t.place[i]' #[1]):=Array.getElem?_eq_getElem #[1];rw[hb,m,hj];exact j _ (.plain _ y nd H uH h (ug uH hj)) λp G=>⟨_,rfl,aN G⟩
 |drawn I Z N h hl=>
  obtain⟨oT,UI,_,nT2,BV⟩:=id Z;show wpAny _ _ (seqItems? (Value.ref T)>>=_) _ _ _;refine ag (gd UI BV ?_);have hi:=(b0.mp n).1;have J:I[i]?=some (I[i]' #[1]):=d3 #[1];have K:=N _ (cI J);generalize I[i]' #[1]=k at J K;have m:es[k]?=some (es[k]'K):=Array.getElem?_eq_getElem K;generalize es[k]'K=e at m
  have O:v=e.2:=by
   rw[h,nv (λx hx=>by rw[Array.getElem?_eq_getElem (N x hx)];rfl),J]at n;simp[m]at n;exact n.symm
  subst O
  have UJ:(I.map λ(k:Nat)=>rawInt k).toArray[((i:Nat):Int).toNat]?=some (rawInt k):=by
   rw[Int.toNat_natCast,List.getElem?_toArray,List.getElem?_map,J];rfl
  dsimp only;rw[UJ];show wpAny _ _ (setNextDrawn S ((k:Nat):Int).toNat ((ep:Nat):Int).toNat>>=_) _ _ _;refine ag ?_;unfold setNextDrawn;refine ag (wpAny_setState_of L hd g ?_);dsimp only;rw[if_neg (by simp)];simp only[Int.toNat_natCast,m];refine aN ?_;obtain⟨M,_⟩:=N6 (x:=e.2) (y:=e.2) B Y C;refine ag (wpAny_setField B C (by simp) ?_);refine aN ⟨_,rfl,aN (q _ _ M (.drawn I ?_ N h hl) (il ..))⟩;exact Z.at λo e=>(eI _ _ nT).trans e
theorem ja{it T:Addr}{first:nL}{i:Nat}{ord:List nL}{Q:Option nL->nB->Prop}(J:A.handled=none)(m:Fz s.heap it first i S es.size ep)(v:s.heap.get? S=some o)(hd:o.data=.set es ep t)(g:t.fits es.size=true)(K:Pf w s.heap S es ep t T ord i first)(L:ord.length=i)(Y:ord.length=es.size)
  (q:∀h',Heap.ExtBut it s.heap h'->Q none {s with heap:=h'}):wpAny #[9] A (pyNext (.ref it)) Q E s:=by
 have ty:=m.ty;obtain⟨o',h,G,j⟩:=m;unfold pyNext;refine ag (mu (mr (name:=Str.ofString "__next__") ty Hk (g6 Hk ty Uf ?_ (Y4 _))));unfold Builtin.«set_iterator.__next__»;refine ag (wpAny_of_eq (a:=(Value.ref it,[])) rfl ?_);refine ag (wpAny_fieldsOf h j ?_);show wpAny _ _ (setEntries S>>=_) _ _ _;refine ag (wpAny_setEntries_of v hd g ?_);show wpAny _ _ (if(((es.size:Nat):Int) != ((es.size:Nat):Int))=true then _ else _) _ _ _;rw[if_neg (by simp)]
 have out:∀(x:Heap) {R:Fin->nB->Prop},Heap.ExtBut it s.heap x->wpAny #[9] A.in1 (do let e <- newExc (.type "StopIteration") [];raiseNew e) R (λe X=>wpAny #[9] A (do let b <- isInstance e (Value.type "StopIteration");if b=true then pure none else throw e) Q E X) {s with heap:=x}:=λx R M=>by
  refine ag ?_;simp only[newExc,newTuple];refine ag (gW ?_ (by size_fits));refine ag (m:=firstArgMember _ _) (wpAny_of_eq (a:=Value.none) (by first|rfl|(simp only[firstArgMember];rfl)) ?_);refine gW ?_ (by size_fits);simp only[raiseNew];refine ag (wpAny_handled ?_);rw[show A.in1.handled=none from J];refine ag (aN (wpAny_throw ?_));refine ag (jT (T:="StopIteration") (b:=true) ⟨_,cX _ rfl,rfl⟩ isSubtype_stop ?_);exact aN (q _ ((M.push _).push _))
 cases K with
 |text f n p=>
  show wpAny _ _ (setNext S (f:Int).toNat ((i:Nat):Int).toNat ((ep:Nat):Int).toNat>>=_) _ _ _;refine ag (Qm v hd g n ?_);simp only[Int.toNat_natCast]
  have u:(pickOrder (w.params.setOrder S ep) es)[i]?=none:=by
   rw[Array.getElem?_eq_none_iff];rw[p,List.length_map,Array.length_toList]at L;omega
  rw[u];refine ag (wpAny_setField h j (by simp) ?_);exact out _ (il ..).extBut
 |plain f n O y uH p I=>
  show wpAny _ _ (setNext S (f:Int).toNat ((i:Nat):Int).toNat ((ep:Nat):Int).toNat>>=_) _ _ _;refine ag (Op v hd g n O y ?_);simp only[Int.toNat_natCast]
  have u:es[i]?=none:=by
   rw[Array.getElem?_eq_none_iff];omega
  rw[I,u];refine ag (wpAny_setField h j (by simp) ?_);exact out _ (il ..).extBut
 |drawn U H hk p hl=>
  obtain⟨oT,B,_,N,z⟩:=id H;show wpAny _ _ (seqItems? (Value.ref T)>>=_) _ _ _;refine ag (gd B z ?_)
  have C:(U.map λ(k:Nat)=>rawInt k).toArray[((i:Nat):Int).toNat]?=none:=by
   rw[Int.toNat_natCast,List.getElem?_toArray,List.getElem?_map,List.getElem?_eq_none #[1]];rfl
  dsimp only;rw[C];obtain⟨_,D,Z,F⟩:=N6 (x:=rawInt 0) (y:=rawInt 0) h G j;refine ag (wpAny_setField h j (by simp) ?_);refine ag (wpAny_setField (s:={s with heap:=s.heap.update it (Obj.mapFields (·.setIfInBounds 0 (rawInt 0))) }) D F (by simp) ?_);exact out _ ((il ..).trans (il ..)).extBut
theorem j5{first:nL}(b:Fz s.heap it first i S n ep)(q:Q (.ref it) s):wpAny #[9] A (pyIter (.ref it)) Q E s:=by
 refine wpAny_pyIter_slot b.ty Y5 (g6 Y5 b.ty Pm ?_ (Sm _));show wpAny _ _ (ret (.ref it)) _ _ s;refine aN ⟨_,rfl,"set_iterator",_,b.ty,Hk.lookup,q⟩
theorem aj{ord:List nL}(G:A.handled=none)(J:it≠S)(K:it≠T)(hd:o.data=.set es ep t)(x:t.fits es.size=true)(D:ord.length=es.size):
  Walks P w A it [it,S,T] [it] ord.length (λi v=>ord[i]?=some v) (λi h=>h.get? S=some o/\∃first,Fz h it first i S es.size ep/\Pf w h S es ep t T ord i first)where
 sub:=λb p=>by simp at p;simp[p]
 frame:=λi h n ⟨j,first,g,u⟩ y=>⟨y S (by simp) _ j,first,g.at λo e=>y it (by simp) o e,by
  cases u with
  |text m a b=>exact .text m a b
  |plain m a b c d e f=>exact .plain m a b c d e f
  |drawn L a b c d=>exact .drawn L (a.at λo e=>y T (by simp) o e) b c d⟩
 item:=λi s Q E z ⟨j,first,g,u⟩ q=>by
  have B:ord[i]?=some (ord[i]'z):=d3 z;refine dj g j hd x u B K λI n F H C=>?_;have e:({s with heap:=n}:nB)={s with heap:=n,toks:=s.toks}:=rfl;rw[e];refine q _ n s.toks B ⟨(C.2 S (Ne.symm J)).trans j,I,F,H⟩ λb o p j=>(C.2 b (by simpa using p)).trans j
 done:=λs Q E ⟨j,first,g,u⟩ q=>by
  refine ja G g j hd x u rfl D λn M=>?_;have e:({s with heap:=n}:nB)={s with heap:=n,toks:=s.toks}:=rfl;rw[e];exact q n s.toks λb o p j=>M b o (by simpa using p) j
 self:=λi s Q E ⟨j,first,g,u⟩ q=>j5 g q
end
open PySem PySem.Spec PySem.SeqAt PyProof.Rows
theorem Uk:isSubtype (.type "set") (.type "set")=pure true:=by rw[isSubtype_type];kernel_rfl
theorem ck{es:Array (Int×nL)}{pl:List Nat}(h:pl.Perm (List.range es.size)):(pl.filterMap λk=>(es[k]?).map (·.2)).Perm (es.toList.map (·.2)):=by
 refine(h.filterMap _).trans ?_
 have e:(List.range es.size).filterMap (λk=>(es[k]?).map (·.2))=es.toList.map (·.2):=by
  rw[<- filterMap_getElem?_range es,List.map_filterMap]
 rw[e]
section
variable {P:nP}{w:n4}{A:nU}{E:mD}{s:nB}{S:Addr}{o:Obj}{es:Array (Int×nL)}{ep:Nat}{t:SetTable}
theorem dl{Q:mD}(j:s.heap.get? S=some o)(ex:o.ExactSet)(hd:o.data=.set es ep t)(i:t.fits es.size=true)(g:Bs t (Qi w))(I:es.size<=1000)
  (q:∀(first:nL) (T it:Addr) (ord:List nL) (h':Heap) (d:Drawn),(∀b u,s.heap.get? b=some u->h'.get? b=some u)->s.heap.objs.size<=it->it≠T->(T=S\/s.heap.objs.size<=T)->ord.Perm (es.toList.map (·.2))->Fz h' it first 0 S es.size ep->Pf w h' S es ep t T ord 0 first->Q (.ref it) {s with heap:=h',drawn:=d}):wpAny #[9] A (pyIter (.ref S)) Q E s:=by
 have B:s.TypeIs (.ref S) "set":={o,j,ex.1};refine wpAny_pyIter_slot B PySem.F.slot_set_iter (g6 PySem.F.slot_set_iter B P4 ?_ (PySem.F.args_set_iter_1 _));unfold Builtin.«frozenset.__iter__»;refine ag (wpAny_of_eq (a:=S) rfl ?_);refine ag (ag (wpAny_setEntries_of j hd i (aN ?_)));unfold setDrawn;refine ag (ag (wpAny_setState_of j hd i ?_));dsimp only;refine ag (ag (wpAny_askSetting (aN ?_)));refine aN ?_;have z:=dr j;have f:∀{h:Heap}{x:Obj}{b u},h.get? b=some u->(h.push x).get? b=some u:=λe=>cb _ e;refine wpAny_ite_split (λC=>?_) (λC=>?_)
 ·refine ag (Kk _ _ _ List.length_range λp d y=>?_);have H:p.length=es.size:=by rw[y.length_eq,List.length_range]
  refine ag (wpAny_newTuple ?_ (by rw[List.length_map,sizeLine_eq];omega));refine ag (wpAny_setEpoch_of (f j) hd i ?_);refine ag (gW (aN ⟨_,rfl,"set_iterator",_,⟨_,cX _ rfl,rfl⟩,Hk.lookup,?_⟩));have F:∀x:Obj,(s.heap.push x).objs.size=s.heap.objs.size+1:=λx=>Heap.size_push ..;have v:∀k∈p,k<es.size:=λk v=>mx.mp (y.mem_iff.mp v);have m:=ck y;refine q #[2] s.heap.objs.size _ (p.filterMap λk=>(es[k]?).map (·.2)) _ d (λb u e=>f (f e)) (by rw[F];exact Nat.le_succ _) (by rw[F];exact Nat.succ_ne_self _) (.inr (de _)) m ⟨_,cX _ rfl,rfl,rfl⟩ (.drawn p ⟨_,f (cX _ rfl),rfl,_,rfl⟩ v rfl ?_);rw[m.length_eq,List.length_map,Array.length_toList,H]
 ·refine ag (aN ?_);refine ag (wpAny_setEpoch_of j hd i ?_);refine ag (gW (aN ⟨_,rfl,"set_iterator",_,⟨_,cX _ rfl,rfl⟩,Hk.lookup,?_⟩));have D:¬((!w.params.followText "set-order"&&Rq es t)=true):=C;cases n:w.params.followText "set-order" with
  |true=>
   exact q (rawInt 0) S _ ((pickOrder (w.params.setOrder S ep) es).toList.map (·.2)) _ s.drawn (λb u e=>f e) (de _) (Nat.ne_of_gt z) (.inl rfl) ((a9 _ es).map _) ⟨_,cX _ rfl,rfl,rfl⟩ (.text 0 n rfl)
  |false=>
   rw[n]at D;have G:t.led=true:=by rw[g.led];show(!w.params.followText "set-order")=true;rw[n];rfl
   exact q (rawInt 0) S _ (es.toList.map (·.2)) _ s.drawn (λb u e=>f e) (de _) (Nat.ne_of_gt z) (.inl rfl) (List.Perm.refl _) ⟨_,cX _ rfl,rfl,rfl⟩ (.plain 0 n (by simpa using D) G g.uH rfl (bc g.uH))
theorem d7(e:s.TypeIs (.ref S) "set")(q:Q false s):wpAny #[9] A (Builtin.List.listLengthHint (.ref S)) Q E s:=by
 unfold Builtin.List.listLengthHint;refine ag (wpAny_specialOf e PySem.F.slot_set_len.lookup ?_);generalize b:("set.__len__":String)=f
 wp_delta;rw[show splitId f=some ("set","__len__")from by subst b;decide+kernel];subst b;refine ag (jT (T:="set") (b:=true) e Uk ?_);refine wpAny_ite_split (λz=>absurd z #[17]) (λ_=>?_);refine wpAny_ite_split (λ_=>?_) (λz=>absurd #[13] z);refine ag (wpAny_typeOf e ?_);exact aN q
end
open PySem PySem.Spec PySem.SeqAt PyProof.Rows
section
variable {P:nP}{w:n4}{A:nU}{E:mD}{s:nB}{S:Addr}{o:Obj}{es:Array (Int×nL)}{ep:Nat}{t:SetTable}
theorem bj(hh:A.handled=none)(ho:s.heap.get? S=some o)(ex:o.ExactSet)(hd:o.data=.set es ep t)(p:t.fits es.size=true)(v:Bs t (Qi w))(lQ:es.size<=1000)
  (q:∀(vs:List nL) (h':Heap) (d:Drawn) (tk:Nat),(∀b u,s.heap.get? b=some u->h'.get? b=some u)->s.heap.objs.size<=h'.objs.size->vs.Perm (es.toList.map (·.2))->Q vs {s with heap:=h',drawn:=d,toks:=tk}):wpAny #[9] A (collect (.ref S)) Q E s:=by
 have I:=dr ho;unfold collect;refine ag (wpAny_runValue (codeAny_builtin F.entry_proto_collect ?_));rw[Around.under_plainId F.plain_proto_collect _];show wpAny _ A.in1 (newList []>>=λl=>again (.builtin "list.__iadd__" ⟨[l,.ref S],[]⟩)) _ _ s;refine ag (gW ?_);refine aN ⟨ll F.plain_list_iadd _,codeAny_builtin F.entry_list_iadd ?_⟩;rw[Around.under_plainId F.plain_list_iadd _];show wpAny _ A.in1 (Builtin.List.listExtendWith #[2] (.ref S) #[2]) _ _ _;have uI:∀x:Obj,(s.heap.push x).objs.size=s.heap.objs.size+1:=λx=>Heap.size_push ..;have n:(s.heap.push {cls:=.type "list",data:=.seq ([]:List nL).toArray}).get? S=some o:=cb _ ho;have hN:(s.heap.push {cls:=.type "list",data:=.seq ([]:List nL).toArray}).get? s.heap.objs.size=some {cls:=.type "list",data:=.seq ([]:List nL).toArray}:=cX _ rfl;generalize hL:s.heap.push {cls:=.type "list",data:=.seq ([]:List nL).toArray}=G at n hN;have X:G.objs.size=s.heap.objs.size+1:=by rw[<- hL];exact uI _
 have O:∀b u,s.heap.get? b=some u->G.get? b=some u:=λb u e=>by rw[<- hL];exact cb _ e
 unfold Builtin.List.listExtendWith;refine ag (wpAny_typeOf (T:="set") ⟨o,n,ex.1⟩ ?_);have k1:Builtin.List.listSameRef #[2] (.ref S)=false:=by simp[Builtin.List.listSameRef];exact Nat.ne_of_gt I
 have k2:(Value.type "set"==Value.type "list")=false:=by decide
 have k3:(Value.type "set"==Value.type "tuple")=false:=by decide
 simp only[k1,k2,k3,Bool.or_false,Bool.false_eq_true,if_false];refine ag (dl (s:={s with heap:=G}) n ex hd p v lQ λfirst T H g B d J f nT PJ Z M K=>?_);have f:G.objs.size<=H:=f;rw[X]at f;refine ag (fD (d7 (S:=S) ⟨o,J _ _ n,ex.1⟩ ?_));refine wpAny_ite_split (λ_=>?_) (λz=>absurd #[13] z);refine ag (la ?_);refine ag ?_;show wpAny _ A.in1 (updateSeq s.heap.objs.size (·.push .none)>>=λ_=>updateSeq s.heap.objs.size (·.pop)) _ _ _;have Y:=J _ _ hN;refine ag (wpAny_updateSeq Y rfl ?_);have C:=gU (Obj.mapSeq (·.push Value.none)) Y rfl;refine wpAny_updateSeq C rfl ?_;have L:=gU (Obj.mapSeq (·.pop)) C rfl
 have off:∀b u,b≠s.heap.objs.size->B.get? b=some u->((B.update s.heap.objs.size (Obj.mapSeq (·.push Value.none))).update s.heap.objs.size (Obj.mapSeq (·.pop))).get? b=some u:=
  λb u j e=>(eI _ _ (Ne.symm j)).trans ((eI _ _ (Ne.symm j)).trans e)
 have nS:H≠S:=λe=>by
  rw[e]at f;exact absurd (fy (Nat.lt_succ_self _) f) (Nat.not_lt.mpr (l7 I))
 have U:g.length=es.size:=by rw[Z.length_eq,List.length_map,Array.length_toList]
 have nN:s.heap.objs.size∉[H,S,T]:=λz=>by
  rcases eH.mp z with e|z
  ·rw[<- e]at f;exact absurd f (Nat.not_succ_le_self _)
  ·rcases eH.mp z with e|z
   ·exact absurd e (Nat.ne_of_gt I)
   ·have e:=iT.mp z;rcases PJ with h|h
    ·rw[h]at e;exact absurd e (Nat.ne_of_gt I)
    ·have h:G.objs.size<=T:=h;rw[X,<- e]at h;exact absurd h (Nat.not_succ_le_self _)
 have W:=aj (P:=P) (w:=w) (A:=A.in1) (it:=H) (T:=T) (ord:=g) (show A.in1.handled=none from hh) nS nT hd p U
 have N:(λi h=>h.get? S=some o/\∃first,Fz h H first i S es.size ep/\Pf w h S es ep t T g i first) 0 ((B.update s.heap.objs.size (Obj.mapSeq (·.push Value.none))).update s.heap.objs.size (Obj.mapSeq (·.pop))):=
  W.frame 0 B _ ⟨J _ _ n,first,M,K⟩ λb j u e=>off b u (λz=>nN (z▸j)) e
 refine aN ⟨ll F.plain_extend_loop _,codeAny_extend_loopS W.toS (by rw[U,sizeLine_eq];omega) _ nN _ g.length 0 _ _ _ rfl (jN _) N L (ItemsOf.nil _) λR m c' hm D ha=>?_⟩;show wpAny _ A (load s.heap.objs.size>>=_) _ _ R;refine ag (wpAny_load D (aN ?_))
 have UL:m.toList=g:=by
  obtain⟨B,h2⟩:=ha;refine List.ext_getElem? λi=>?_;rcases iE i m.size with z|z
  ·have e:=h2 i m[i] (Array.getElem?_eq_getElem z);rw[e];simp[z]
  ·rw[List.getElem?_eq_none (by simpa using z),List.getElem?_eq_none #[1]]
 rw[Moved.eq_with hm];refine q _ R.heap d R.toks (λb u e=>hm.heap b u (λz=>?_) (off b u (fe (dr e)) (J _ _ (O b u e)))) (l7 (dr D)) (by rw[UL];exact Z);have j:=dr e;rcases eH.mp z with y|y
 ·exact absurd y (fe j)
 ·rw[List.mem_singleton.mp y]at j;exact absurd (fy j (Nat.le_of_succ_le f)) (Nat.lt_irrefl _)
end
theorem Xf:∀{vs:List nL},(∀v∈vs,∃y t,v=.int y t)->∃ys:mY,IntsAre vs ys/\ys.length=vs.length/\∀y,y∈ys↔∃t,Value.int y t∈vs
 |[],_=>⟨[],.nil,rfl,λy=>by simp⟩
 |v::vs,h=>by
  obtain⟨y,t,rfl⟩:=h v c4;obtain⟨ys,f,g,i⟩:=Xf λv j=>h v (d0 _ j);refine{y::ys,.cons y t f,by rw[List.length_cons,List.length_cons,g],λz=>?_};rw[List.mem_cons,i z];constructor
  ·rintro(rfl|⟨u,b⟩)
   ·exact{t,c4}
   ·exact{u,d0 _ b}
  ·rintro⟨u,b⟩;rcases eH.mp b with e|b
   ·cases e;exact .inl rfl
   ·exact .inr ⟨u,b⟩
section
variable {prog:nP}{w:n4}{E:mD}
theorem Ui{A:nU}{s:nB}{r:nL}{Q:mD}{C:mY->Prop}(D:∀R:List nL->nB->Prop,(∀vs ns h1 d f,IntsAre vs ns->vs.length<64->C ns->(∀b u,s.heap.get? b=some u->h1.get? b=some u)->s.heap.objs.size<=h1.objs.size->R vs {s with heap:=h1,drawn:=d,toks:=f})->wpAny #[0] A.in1 (collect r) R E s)
  (h:∀(out:Array nL) (ns g:mY) (N:Addr) (h':Heap) (d:Drawn) (f c:Nat),C ns->IntsAre out.toList g->g.Perm ns->g.Pairwise (·<=·)->(∀b u,s.heap.get? b=some u->h'.get? b=some u)->s.heap.objs.size<=N->g.length<64->h'.get? N=some (seqObj "list" out c)->Q (.ref N) {s with heap:=h',drawn:=d,toks:=f}):
  wpAny #[0] A (call (.builtin "sorted") [r]) Q E s:=by
 refine Calls.call_function_entry kind_sorted plain_sorted entry_sorted (args_sorted1 _) ?_;unfold Builtin.«sorted»;refine ag (m:=checkCount "sorted" 1 1 _) (aN ?_);refine ag (D _ λvs ns h1 d f n q v y i=>?_);have j:vs.length<=sizeLine:=by rw[sizeLine_eq];omega
 refine ag (wpAny_newList ?_ j);have m:(h1.push #[5]).get? h1.objs.size=some #[5]:=cX _ rfl;show wpAny _ _ _ _ _ {s with heap:=h1.push #[5],drawn:=d,toks:=f};refine ag (fD (g6 slot_list_sort ⟨_,m,rfl⟩ entry_list_sort (list_sort_tree (s:={s with heap:=h1.push #[5],drawn:=d,toks:=f}) m n q λout g z p B=>⟨_,rfl,?_⟩) (args_list_sort _)));obtain⟨c,x⟩:∃c,(sortedHeap (h1.push #[5]) h1.objs.size vs out).get? h1.objs.size=some (seqObj "list" out c):=sortedHeap_at m;refine aN ⟨_,rfl,h out ns g _ _ d f c v z p B (λb o e=>?_) i (by rw[p.length_eq,<- n.length];exact q) x⟩;have e:=y b o e;rw[sortedHeap_old (Nat.ne_of_lt (Heap.lt_size e)) (by rw[size_push'];exact Nat.lt_succ_of_lt (Heap.lt_size e))];exact cb _ e
end
open PySem PySem.Spec PySem.SeqAt PyProof.Rows
section
variable {X:Cx}
theorem Ak.draws(I:Ak X b e H s)(d:Drawn):Ak X b e H {s with drawn:=d}:={I.ok,I.os,I.bare,I.base,I.loc,I.cell,I.free,I.cH,I.pin,I.aJ,I.len}
inductive R0(K:W.Frag)(Q:VK)(vs:List V)(H1:Hp):Prop
 |mk (l:Addr) (ns:mY) (bW:vs=[.ref l]) (bO:Ar K H1 l #[15]) (cB:ns.length<64) (dM:∀(p:Addr) (ys:mY),H1 p=none->ys.length<64->(∀y,y∈ys↔y∈ns)->ys.Pairwise (·<=·)->Q (.ref p) (upd H1 p (.lst (ys.map V.int)))):R0 K Q vs H1
def jo(K:W.Frag)(b:TA):TE:=λe H Q=>b e H (R0 K Q)
theorem ve{ns:mY}{b:List nL}(r:B0 #[15] b){i:Nat}{v:nL}(h:b[i]?=some v):∃t,v=.int (ns.getD i 0) t:=by
 have m:=(b0.mp h).1;have g:=r.length;rw[List.length_map]at g
 have e:#[15][i]?=some (.int (ns.getD i 0)):=by
  rw[List.getElem?_map,List.getElem?_eq_getElem #[1],List.getD_eq_getElem?_getD,List.getElem?_eq_getElem #[1]];rfl
 obtain⟨u,f,j⟩:=r.get e;rw[h]at f;cases f;exact j
theorem Pk{ns:mY}{k:Int}:k∈(List.range ns.length).map (λi=>ns.getD i 0)↔k∈ns:=by
 have e:(List.range ns.length).map (λk=>ns.getD k 0)=ns:=by
  refine List.ext_getElem (by simp) λi a b=>?_;simp[List.getElem_map,List.getElem_range,List.getD_eq_getElem?_getD,List.getElem?_eq_getElem b]
 rw[e]
theorem W4{a:Expr}{ta:TA}{p j pos D:Pos}(hc:X.calm=true)(hg:Gl X "sorted")(hm:X.mg "sorted"=none)(OX:Gl X "set")(HS:X.mg "set"=none)(ha:PA X [a] ta)
  (hs:starEach [a] X.env=[(false,eval a X.env)]:=by rfl)(jM:starEach [Expr.Call (.Name "set" j) [a] [] D] X.env=[(false,eval (.Call (.Name "set" j) [a] [] D) X.env)]:=by rfl):
  PE X (.Call (.Name "sorted" p) [.Call (.Name "set" j) [a] [] D] [] pos) (jo X.K ta):=by
 intro C s σ H Q I h;refine wpAny_Call_Name_kw (Fb I hg hm boot_sorted (PyProof.Rows.callWith_builtin1 ?_ jM rfl));rw[jM];show wpAny _ _ (spliced ((false,eval (.Call (.Name "set" j) [a] [] D) X.env)::[])) _ _ s;refine Calls.spliced_cons (wpAny_Call_Name_kw (Fb I OX HS PyProof.Rows.boot_set (PyProof.Rows.callWith_type1 (Bq (ha D C s σ H _ I h) λus m ⟨Z,H1,n,r1,q1⟩=>?_) hs rfl)));obtain⟨l,G,e,hq,lQ,q⟩:=q1;subst e;obtain⟨u1,rfl,uW⟩:=Dj r1;cases uW;obtain⟨aK,rv,pl,hz⟩:=n.list hq;have f:=rv.length;rw[List.length_map]at f;have e3:aK.toArray.size=G.length:=by rw[List.size_toArray,f]
 refine A2w (knd:=intKind X.prog X.w) (f:=λi=>G.getD i 0) (n.ok.hd hc) pl.isList (λi v T=>?_) (by rw[e3];unfold scanBound;omega) λF tk g kp=>?_
 ·obtain⟨t,rfl⟩:=ve rv (by rw[<- List.getElem?_toArray];exact T);exact{intKind_is _ _ _ _,rfl}
 refine Calls.spliced_nil ?_;rw[e3]at g;obtain⟨o,es,ep,tb,ho,M,hd,SQ,fB,hsz,UM,x⟩:=g;have U:∀b u,m.heap.get? b=some u->F.get? b=some u:=λb u e=>kp b u (dr e) e;refine Ui (s:={m with heap:=F,toks:=tk}) (C:=λJ=>∀y,y∈J↔y∈G) (λR hR=>?_) λout J wM N L d Y c hC p0 p1 j K hN vB e'=>?_
 ·refine bj (s:={m with heap:=F,toks:=tk}) (show X.A.in1.handled=none from n.ok.hd hc) ho M hd UM x #[1] λZ L d Y K S E=>?_
  have z:∀v∈Z,∃y t,v=.int y t:=λv T=>by
   obtain⟨e,A,rfl⟩:=ft.mp (E.mem_iff.mp T);obtain⟨⟨k,P,_⟩,_⟩:=SQ e A;obtain⟨t,B⟩:=Value.isInt_shape P;exact{k,t,B}
  obtain⟨J,h1,h2',h3⟩:=Xf z;refine hR Z J L d Y h1 ?_ (λy=>?_) K S
  ·rw[E.length_eq,List.length_map,Array.length_toList];omega
  ·rw[h3 y,<- Pk (ns:=G),fB y];constructor
   ·rintro⟨t,B⟩;obtain⟨e,A,ee⟩:=ft.mp (E.mem_iff.mp B);exact{e,A,by rw[ee];exact intKind_is _ _ _ _}
   ·rintro⟨e,A,P⟩;obtain⟨t,B⟩:=Value.isInt_shape P;exact{t,E.mem_iff.mpr (ft.mpr {e,A,B})}
 ·have kk:∀b u,m.heap.get? b=some u->L.get? b=some u:=λb u e=>K b u (U b u e)
  have HR:m.heap.objs.size<=N:=by
   have O:m.heap.objs.size<F.objs.size:=dr ho;exact ea (l7 O) hN
  have I2:=(n.laid (a:=N) (o:=.lst (wM.map V.int)) (t':=Y) kk HR ⟨by rw[List.length_map,sizeLine_eq];omega,out.toList,c,J0 p0,e'⟩).draws d;exact{.ref N,upd H1 N (.lst (wM.map V.int)),I2,rfl,q N wM (n.aJ.fresh HR) vB (λy=>(p1.mem_iff).trans (hC y)) j}
end
section
variable {X:Cx}{p pos kpos:Pos}{e d:Expr}{t:TA}{td:TE}{x:Str}
inductive jj(K:W.Frag)(t:TA)(Q:VK)(vs:List V)(ys:List V)(H2:Hp):Prop
 |mk (a:Addr) (ns:mY) (bW:vs=[.ref a]) (bO:ys=[.bB]) (cB:Ar K H2 a #[15]) (dM:(ns=[]->Q .bB H2)) (iK:∀m:Int,m∈ns->(∀b∈ns,b<=m)->Q (.int m) H2):jj K t Q vs ys H2
def A4w(K:W.Frag)(t:TA)(td:TE):TE:=λb H Q=>t b H λg f=>Ul td Wn b f (jj K t Q g)
theorem lz(U:X.calm=true)(Y:Gl X x)(hm:X.mg x=none)(hv:bootBuiltins x=some (.builtin "max"))(T:PA X [e] t)(n:PE X d td)(hn:x≠"__name__":=by decide)(R:(x==("__debug__":Str))=false:=by decide)
  (he:starEach [e] X.env=[(false,eval e X.env)]:=by rfl):PE X (.Call (.Name x p) [e] [⟨some "default",d,kpos⟩] pos) (A4w X.K t td):=by
 intro g s K H Q I h;refine wpAny_Call_Name_kw (Fb I Y hm hv ?_ hn R);refine callWith_kw (he:=by rw[he];rfl) (hplain:=by rw[he];rfl) (Bq (T pos g s K H _ I h) λus s1 y=>?_);obtain⟨vs,M,N,r1,q1⟩:=y;refine Bq (ma (kpos:=kpos) (nm:=some "default") n zd pos g s1 K M _ N q1) λks s2 y=>?_;obtain⟨v,B,o,r2,q2⟩:=y
 ·obtain⟨a,J,rfl,rfl,hq,q0,q⟩:=q2;obtain⟨u,rfl,ru⟩:=Dj r1;cases ru;obtain⟨u2,rfl,L⟩:=Dj r2;obtain⟨aK,rv,pl,hz⟩:=o.list hq;have F:=Dq rv;obtain⟨v,D⟩:=F.allInts.items
  have A:J=v.toList.map (·.1):=by
   have P:=F.numsOf;have C:=nums_intItems v;rw[<- D]at C;exact P.symm.trans C
  have f:J.length=v.size:=by rw[A,List.length_map,Array.length_toList]
  have G:=pl.isList;rw[D]at G;refine Z7 (o.ok.hd U) G (λz S tk n=>?_) λz m t S tk top n=>?_
  ·refine{.bB,B,o.kept n,L,q0 ?_};rw[z]at f;exact List.length_eq_zero_iff.mp f
  ·refine{.int m,B,o.kept n,{t,rfl},q _ ?_ λb E=>?_}
   ·obtain⟨⟨i,jE,O⟩,_⟩:=top;rw[O,A,numAt_eq];exact getD_mem (by rw[List.length_map,Array.length_toList];omega)
   ·rw[A]at E;obtain⟨j,Z,rfl⟩:=mem_getD E;rw[List.length_map,Array.length_toList]at Z;rw[<- numAt_eq];exact top.2 j #[1]
end
def HU(x:Str):It:={λi _=>i<x.cps.toList.length,λi H v b=>b=H/\∃c,x.cps.toList[i]?=some c/\v=.str ⟨#[c]⟩,λi _=>i=x.cps.toList.length}
theorem Uo{P:nP}{w:n4}{K:PySem.W.Frag}{tg:Expr}(x:Str)(t:Tok)(it:Addr)(n:String)(hn:["enumerate","zip","dict_itemiterator","dict_reverseitemiterator","odict_iterator","itertools.zip_longest","itertools.pairwise"].contains n=false)
  (W:∀R:nU,R.handled=none->Walks P w R it [it] [it] x.cps.size (SignAt x) (λi h=>h.IsStrIter it n x t i))
  (hs:∀(A:nU) (i:Nat) (s:nB) (Q:mD) (E:mD),s.heap.IsStrIter it n x t i->Q (.ref it) s->wpAny #[9] A (pyIter (.ref it)) Q E s):
  R8 P w K tg (HU x) [it] it (λi h=>h.IsStrIter it n x t i)where
 mem:=by simp
 obj:=λi h f b j=>by
  have e:b=it:=by simpa using j
  subst e;obtain⟨o,e,c,d⟩:=f;exact{o,e,λv z=>by rw[d]at z;cases z}
 keep:=λi h p f k=>by
  obtain⟨o,e,r⟩:=f;exact{o,k it (by simp) o e,r}
 item:=by
  intro X J N G L i g s T H E I q f M;subst J N G;obtain⟨y,B,Z,C,D,F⟩:=q it (by simp);refine(W X.A (I.ok.hd L)).item i s _ E (by have:i<x.cps.toList.length:=M;simpa using this) f λv p m hv S O=>?_;obtain⟨c,u,hx,rfl⟩:=hv;have U:Ak X g T H {s with heap:=p,toks:=m}:=I.turned (t':=m) (λb o j e=>O b o (by simpa using j) e) y B C D F;obtain⟨o,e,Y,d⟩:=id S;exact{_,rfl,Xb (s:={s with heap:=p,toks:=m}) e Y d hn {.str ⟨#[c]⟩,H,U,{u,rfl},{rfl,c,by simpa using hx,rfl},S,λb j=>(q b j).1}}
 done:=by
  intro X J N G L i g s T H E I q f M;subst J N G;obtain⟨y,B,Z,C,D,F⟩:=q it (by simp)
  have e:i=x.cps.size:=by
   have:i=x.cps.toList.length:=M;simpa using this
  subst e;exact(W X.A (I.ok.hd L)).done s _ E f λp m O=>⟨rfl,I.turned (t':=m) (λb o j e=>O b o (by simpa using j) e) y B C D F⟩
 self:=λA i s Q E f h=>hs A i s Q E f h
inductive nw(R:It->Hp->Prop)(v:V)(H1:Hp):Prop
 |mk (x:_) (bW:v=.str x) (bO:R (HU x) H1):nw R v H1
def A5c(b:TE):TI:=λe H R=>b e H (nw R)
theorem za{X:Cx}{L l:Expr}{B:TE}(G:PE X l B):PI X L l (A5c B):=by
 intro f s M H R I h;refine Bq (G f s M H _ I h) λv g D=>?_;obtain⟨y,n,m,K,J⟩:=D;obtain⟨x,e,q⟩:=J;subst e;obtain⟨t,rfl⟩:=K
 have j:∀b∈[g.heap.objs.size],Md X f n b:=λb F=>by
  have e:b=g.heap.objs.size:=by simpa using F
  subst e;exact m.lJ (de _) (m.aJ.fresh (de _))
 cases z:x.cps.all (·<128)
 ·refine wpAny_pyIter_wide z ⟨g.heap.objs.size,[g.heap.objs.size],_,HU x,n,rfl,m.kept (t':=g.toks) λb o e=>cb _ e,Uo x t _ "str_iterator" #[17] (λC p=>Walks.strWide p _ x t) (λA i s Q E u h=>wpAny_pyIter_striter_wide u h),⟨_,cX _ rfl,rfl,rfl⟩,j,q⟩
 ·refine wpAny_pyIter_ascii z ⟨g.heap.objs.size,[g.heap.objs.size],_,HU x,n,rfl,m.kept (t':=g.toks) λb o e=>cb _ e,Uo x t _ "str_ascii_iterator" #[17] (λC p=>Walks.strAscii p _ x t) (λA i s Q E u h=>wpAny_pyIter_striter_ascii u h),⟨_,cX _ rfl,rfl,rfl⟩,j,q⟩
theorem bn(b:Nat->List V->Hp->Prop)(u:b 0 [] (upd g D (.lst [])))
  (B:∀i c ys H,x.cps.toList[i]?=some c->b i ys H->∀h:VK,(∀y f,f D=some (.lst ys)->ys.length<sizeLine->b (i+1) (ys++[y]) (upd f D (.lst (ys++[y])))->h y f)->o (some (.str ⟨#[c]⟩)::Cv n q) H h)
  (hd:∀ys H,b x.cps.toList.length ys H->Q H):Dk 1 n (HU x) (Hr 0) Pp o q D g Q:=by
 refine{λi m ys H=>m=x.cps.toList.length-i/\i<=x.cps.toList.length/\b i ys H,{x.cps.toList.length,by simp,jN _,u},?_};rintro i m ys E ⟨rfl,G,p⟩;by_cases j:i<x.cps.toList.length
 ·refine .inr ⟨j,λv F y=>?_⟩;obtain⟨e,c,A,y⟩:=y;subst e y;refine{{[some (.str ⟨#[c]⟩)],rfl,rfl},?_};simp only[Pp,↓reduceIte];exact B i c ys _ A p _ λy f z C pv=>⟨z,C,x.cps.toList.length-(i+1),by omega,rfl,j,pv⟩
 ·have e:i=x.cps.toList.length:=by omega
  subst e;exact .inl ⟨rfl,hd _ _ p⟩
theorem R3:∀l:List (Str×Tok),B0 ((l.map (·.1)).map V.str) (strValues l)
 |[]=>.nil
 |(x,t)::l=>.cons ⟨t,rfl⟩ (R3 l)
section
variable {X:Cx}
inductive gi(v:V)(vs:List V)(H:Hp)(Q:VK):Prop
 |mk (x y:Str) (bW:v=.str x) (bO:vs=[.str y]) (cB:(y.length==0)=false) (dM:x.length<=100000) (iK:∀p,H p=none->Q (.ref p) (upd H p (.lst ((Txt.split x y).map V.str)))):gi v vs H Q
theorem U0:uc X "str.split" gi:=by
 intro b s m H v L K J Q I C B h;obtain⟨x,y,rfl,rfl,j,z,q⟩:=h;obtain⟨t,rfl⟩:=C;obtain⟨G,rfl,A⟩:=B.one;obtain⟨u,rfl⟩:=A;have E:100000+2<=sizeLine:=by decide
 have p:(Builtin.Str.partsBetween x #[20] y.length).length<=sizeLine:=by
  have D:=StrLaws.occ_length_le x y 0 x.length (x.length+1);rw[length_partsBetween];omega
 have f:∀(l:List (Str×Tok)) (k:Nat),l.map (·.1)=Txt.split x y->l.length<=sizeLine->EP X b m Q #[2] {s with heap:=s.heap.push {cls:=.type "list",data:=.seq (strValues l).toArray},toks:=k}:=λl k e o=>by
  refine{.ref _,_,I.GA (t':=k) (R3 l) (by rw[List.length_map,List.length_map];exact o),rfl,?_};rw[e];exact q _ I.fresh
 cases g:(decide (x.length<y.length)||decide (Builtin.Str.strKind x<Builtin.Str.strKind y))
 ·cases i:#[20].isEmpty
  ·refine call_meets F.slot_str_split (typeIs_str _ _ _) F.entry_str_split (F.args_str_split_2 _ _) (meets_str_split_sep x y t u g j i #[1] p) ?_;show wants (EP X b m Q) X.xe _ {s with toks:=_,heap:=s.heap.push {cls:=.type "list",data:=.seq (strsFrom s.toks (Builtin.Str.partsBetween x #[20] y.length)).toArray} };rw[strsFrom_eq];have e:=numbered_texts s.toks (Builtin.Str.partsBetween x #[20] y.length);refine f _ _ (e.trans ((if_neg (ne_true_of_eq_false g)).trans (if_neg (ne_true_of_eq_false i))).symm) ?_;have n:=congrArg List.length e;rw[List.length_map]at n;omega
  ·exact call_meets F.slot_str_split (typeIs_str _ _ _) F.entry_str_split (F.args_str_split_2 _ _) (meets_str_split_not_found x y t u g j i)
    (f [(x,t)] s.toks ((if_neg (ne_true_of_eq_false g)).trans (if_pos i)).symm (by show 1<=sizeLine;decide))
 ·exact call_meets F.slot_str_split (typeIs_str _ _ _) F.entry_str_split (F.args_str_split_2 _ _) (meets_str_split_cannot_occur x y t u g)
   (f [(x,t)] s.toks (if_pos g).symm (by show 1<=sizeLine;decide))
theorem Q4:Cp X (.type "int") (λxs H Q=>∃(x:Str) (n:Int),xs=[.str x]/\intText? x=some n/\x.length<=640/\Q (.int n) H):=by
 intro b s j H xs i Q I r h;obtain⟨x,n,rfl,f,e,q⟩:=h;obtain⟨u,rfl,g⟩:=r.one;obtain⟨t,rfl⟩:=g;exact W.KIN.call_text f e ⟨.int n,H,I.tok _,⟨_,rfl⟩,q⟩
end
def jn:List (List Nat)->List Nat
 |[]=>[]
 |[w]=>w
 |w::v::r=>w++32::jn (v::r)
theorem l5:∀{ws vs:List (List Nat)},ws≠[]->vs≠[]->(∀w∈ws,32∉w)->(∀w∈vs,32∉w)->jn ws=jn vs->ws=vs:=by
 have i:∀{a b r s:List Nat},32∉a->32∉b->a++32::r=b++32::s->a=b/\r=s:=by
  intro a
  induction a with
  |nil=>
   intro b r s _ o e;cases b with
   |nil=>
    injection e with _ j;exact{rfl,j}
   |cons x b=>
    injection e with g _;exact absurd (g▸c4) o
  |cons y a q=>
   intro b r s A o e;cases b with
   |nil=>
    injection e with g _;exact absurd (g▸c4) A
   |cons x b=>
    injection e with g j;obtain⟨m,n⟩:=q (λz=>A (d0 _ z)) (λz=>o (d0 _ z)) j;exact{by rw[g,m],n}
 intro ws
 induction ws with
 |nil=>intro vs h;exact absurd rfl h
 |cons w ws q=>
  intro vs _ F B u e;cases vs with
  |nil=>exact absurd rfl F
  |cons v vs=>
   have E:=B w c4;have C:=u v c4;cases ws with
   |nil=>
    cases vs with
    |nil=>
     have f:w=v:=e;rw[f]
    |cons D vs=>
     have f:w=v++32::jn (D::vs):=e;exact absurd (f▸gv _ c4) E
   |cons G ws=>
    cases vs with
    |nil=>
     have f:w++32::jn (G::ws)=v:=e;exact absurd (f▸gv _ c4) C
    |cons D vs=>
     obtain⟨m,n⟩:=i E C e;rw[m,q (by simp) (by simp) (λz p=>B z (List.mem_cons_of_mem _ p)) (λz p=>u z (List.mem_cons_of_mem _ p)) n]
theorem Jv:∀ws:List Str,(Str.join " " ws).cps.toList=jn (ws.map λx=>x.cps.toList)
 |[]=>rfl
 |[w]=>rfl
 |w::v::r=>by
  have b:=Jv (v::r);show(w++" "++Str.join " " (v::r)).cps.toList=_;rw[Str.cps_append,Str.cps_append,Array.toList_append,Array.toList_append,b,W.KWk.blank_list,List.append_assoc];rfl
theorem bd:(Str.ofString " ")=⟨#[32]⟩:=by decide
theorem Kf{x y:Str}(h:x.cps.toList=y.cps.toList):x=y:=Str.ext' (Array.toList_inj.mp h)
theorem M4:∀{ws vs:List Str},(ws.map λx=>x.cps.toList)=(vs.map λx=>x.cps.toList)->ws=vs
 |[],[],_=>rfl
 |[],_::_,h=>by cases h
 |_::_,[],h=>by cases h
 |w::ws,v::vs,h=>by
  injection h with b e;rw[Kf b,M4 e]
theorem M8{x:Str}{ws:List Str}(n:ws≠[])(o:∀w∈ws,32∉w.cps.toList)(h:x.cps.toList=jn (ws.map λx=>x.cps.toList)):Txt.split x " "=ws:=by
 have e:=StrLaws.join_split x " ";have i:=StrLaws.split_free x 32;rw[<- bd]at i;refine M4 (l5 ?_ (by simpa using n) ?_ ?_ ?_)
 ·intro z;have g:Txt.split x " "=[]:=by simpa using z
  rw[g]at e;have j:=congrArg (λy:Str=>y.cps.toList) e;have m:([]:List Nat)=x.cps.toList:=j;have p:x=⟨#[]⟩:=Kf m.symm;rw[p]at g;exact absurd g #[17]
 ·intro w b;obtain⟨y,f,rfl⟩:=ft.mp b;exact i y f
 ·intro w b;obtain⟨y,f,rfl⟩:=ft.mp b;exact o y f
 ·rw[<- Jv,e,h]
open PySem PySem.Spec PyProof.Rows PySem.NumText
def B8(n:Int):Str:=Str.ofString (toString n)
def Jb(x:Str):Bool:=(x.cps.toList.all λc=>decide (48<=c/\c<=57))&&(decide (1<=x.length/\x.length<=100)&&(decide (x="0")||decide (x.cps.toList.head? ≠some 48)))
theorem Th:∀m:Nat,0<m->∃c r,Nat.toDigits 10 m=c::r/\c≠'0':=λm=>by
 induction m using Nat.strongRecOn with
 |_ m i=>
  intro b;by_cases h:m<10
  ·rw[Nat.toDigits_of_lt_base h];refine{_,_,rfl,?_};have:∀d:Nat,d<10->0<d->Nat.digitChar d≠'0':=by decide
   exact this m h b
  ·have g:m%10<10:=Nat.mod_lt m #[17];have t:Nat.toDigits 10 (m/10)++Nat.toDigits 10 (m%10)=Nat.toDigits 10 (10*(m/10)+m%10):=Nat.toDigits_append_toDigits #[17] #[1] g;rw[Nat.div_add_mod]at t;obtain⟨c,r,e,f⟩:=i (m/10) #[1] #[1];rw[<- t,e];exact{c,_,rfl,f}
theorem Gh(m:Nat):(B8 (m:Int)).cps.toList=(Nat.toDigits 10 m).map Char.toNat:=W.KIN.signs_num m
theorem lm(m:Nat):AllDigits (B8 (m:Int)).cps.toList:=by
 intro c b;rw[Gh]at b;obtain⟨g,f,e⟩:=ft.mp b;rw[<- e];exact digit_range (Nat.isDigit_of_mem_toDigits #[17] #[17] f)
theorem vv(m:Nat):(B8 (m:Int)).cps.toList≠[]:=by
 rw[Gh];intro e;by_cases h:0<m
 ·obtain⟨c,r,b,_⟩:=Th m h;rw[b]at e;cases e
 ·have:m=0:=by omega
  subst this;exact absurd e #[17]
theorem Vv{m:Nat}(h:m<10^100):(B8 (m:Int)).length<=100:=by
 have e:(B8 (m:Int)).length=(B8 (m:Int)).cps.toList.length:=by simp[Str.length]
 rw[e,Gh,List.length_map];exact toDigits_len_pow #[17] #[17] h
structure A2q(x:Str)(n:Int):Prop where
 is:Jb x=true
 val:intText? x=some n
 HV:32∉x.cps.toList
 len:x.length<=100
 sgn:∀c∈x.cps.toList,48<=c/\c<=57
theorem Bg{n:Int}(i:0<=n)(h1:n<10^100):A2q (B8 n) n:=by
 obtain⟨m,rfl⟩:=Int.eq_ofNat_of_zero_le i
 have j:m<10^100:=by
  have:((10:Int)^100)=((10^100:Nat):Int):=by norm_cast
  omega
 have b:=lm m;have h:=vv m;have g:=Vv j;refine{?_,?_,λz=>?_,g,b}
 ·unfold Jb;rw[Bool.and_eq_true,Bool.and_eq_true,Bool.or_eq_true];refine{List.all_eq_true.mpr λc f=>decide_eq_true (b c f),decide_eq_true {?_,g},?_}
  ·have e:(B8 (m:Int)).length=(B8 (m:Int)).cps.toList.length:=by simp[Str.length]
   rw[e];exact List.length_pos_iff.mpr h
  ·by_cases z:0<m
   ·refine .inr (decide_eq_true ?_);rw[Gh];obtain⟨c,r,e,f⟩:=Th m z;rw[e];intro y;have o:c.toNat=48:=by simpa using y
    exact f (Char.toNat_inj.mp o)
   ·have:m=0:=by omega
    subst this;exact .inl #[17]
 ·have e:=intText_digits b h (ea g #[17]);rw[Gh,W.KIN.val_back]at e;exact e
 ·have:=b 32 z;omega
open Builtin.Str in
theorem O9(h:r≠[]):jn (w::r)=w++32::jn r:=by
 cases r with
 |nil=>exact absurd rfl h
 |cons v r=>rfl
theorem du:∀{r s:List (List Nat)},r≠[]->s≠[]->jn (r++s)=jn r++32::jn s
 |[],_,h,_=>absurd rfl h
 |[w],s,_,b=>O9 b
 |w::v::r,s,_,b=>by
  have e:=du (r:=v::r) (s:=s) (by simp) b;show w++32::jn ((v::r)++s)=(w++32::jn (v::r))++32::jn s;rw[e];simp
section
variable {X:Cx}{o e:Expr}{es:List Expr}{ta:TE}{t:TA}{C f:Addr}{m:Str}{fd:nZ}{ps:List Str}{sp:Sp}{k:Nat}{ds:List nL}{cT:List V}{R:St->XK->Prop}{pos apos:Pos}
inductive Y9(C:Addr)(m:Str)(sp:Sp)(cT:List V)(R:St->XK->Prop)(t:TA)(σ:St)(Q:VK)(x:V)(H1:Hp):Prop
 |mk (a:_) (dx:_) (fs:_) (bW:x=.ref a) (bO:H1 a=some (.ins C dx fs)) (cB:fs.lookup m=none) (dM:t σ H1 λvs H2=>∃E,R σ E/\sp (x::(vs++cT)) H2 Q E):Y9 C m sp cT R t σ Q x H1
def A2b(C:Addr)(m:Str)(sp:Sp)(cT:List V)(R:St->XK->Prop)(ta:TE)(t:TA):TE:=λb H Q=>ta b H (Y9 C m sp cT R t b Q)
theorem Gj{pl:Sem Bool}(he:PE X o ta)(c:Cls X.K C)(j:aw X.K C m f)(F:Ee X.prog X.w X.K X.mg X.base (CX1 X.prog X.w) k f fd ps sp)(J:Ca k X.A)(G:Ep X.K fd ps ds)(hd:B0 cT ds)(L:Na X R)(D:PA X (e::es) t)
  (y:starEach (e::es) X.env=(false,eval e X.env)::starEach es X.env:=by rfl)(M:(backTo pos (starEach es X.env)).any (·.1)=false:=by rfl)
  (K:eval (.Call (.Attribute o m apos) (e::es) [] pos) X.env=(do
   let n <- eval o X.env
   standAt apos.atName;let(f,first) <- holding [n] (getMethod n m pl)
   callWith pos f first (backTo pos (starEach (e::es) X.env)) (backToKw pos (keywordEach [] X.env))):=by rfl):
  PE X (.Call (.Attribute o m apos) (e::es) [] pos) (A2b C m sp cT R ta t):=by
 intro b s p H Q I h;refine W.methodCall_KW (pl:=pl) (Bq (he b s p H _ I h) λu P ⟨x,v,g,O,a,Y,fs,A,z,l,q⟩=>?_) K;subst A;obtain rfl:u=Value.ref a:=O;refine Jk g z c j l ?_;refine W.callWith_K (first:=[.ref a]) (h₀:=X.base) I.ok.mod.dH j.kp (Bq (D pos b P p v _ g q) λS Z ⟨T,U,i,r,E,B,N⟩=>⟨i.fI,?_⟩) y M;exact Xx (us:=.ref a::S) (vs:=.ref a::T) F J G hd L i (.cons rfl r) B N
end
section
variable {X:Cx}
inductive A4u(c:Str)(t2:TE)(σ:St)(Q:VK)(v:V)(H1:Hp):Prop
 |mk (i:Int) (bW:v=.int i) (bO:i.natAbs.log2<1920) (cB:c.length<=100) (dM:t2 σ H1 λu H2=>∃j:Int,u=.int j/\j.natAbs.log2<1920/\Q (.str ((toString i:Str)++c++(toString j:Str))) H2):A4u c t2 σ Q v H1
def tFs(c:Str)(t1 e:TE):TE:=λb H Q=>t1 b H (A4u c e b Q)
theorem yy{k p1 p2 p3 p}(h1:PE X m t1)(F:PE X n u):PE X (.JoinedStr [.FormattedValue m (-1) none p1,.Constant (.str c) k p2,.FormattedValue n (-1) none p3] p) (tFs c t1 u):=by
 intro b s z H Q I h;refine wpAny_JoinedStr ?_
 have big:∀i:Int,i.natAbs.log2<1920->(toString i:Str).length<=4000:=λi f=>by
  have e:=int_text_length_le (k:=1920) #[17] f;show(Str.ofString (toString i)).length<=4000;rw[PySem.ofString_length];omega
 refine PySem.wpAny_FormattedValue_plain (Bq (h1 b s z H _ I h) λv M g=>?_);obtain⟨x,A,C,K,G⟩:=g;obtain⟨i,e,f,R,q⟩:=G;subst e;obtain⟨t,rfl⟩:=K;have P:10000<=sizeLine:=by decide
 have N:=big i f;refine PySem.wpAny_formatField_int f ⟨_,_,rfl,?_,?_⟩
 ·rw[strLen_append];show 0+_<=_;omega
 refine Calls.Constant_str ⟨_,_,rfl,?_,?_⟩
 ·rw[strLen_append,strLen_append];show 0+_+_<=_;omega
 refine PySem.wpAny_FormattedValue_plain (Bq (F b _ z A _ (C.tok _) q) λv M g=>?_);obtain⟨x,B,D,L,J⟩:=g;obtain⟨j,e,o,q⟩:=J;subst e;obtain⟨t,rfl⟩:=L;have O:=big j o;refine PySem.wpAny_formatField_int o ⟨_,_,rfl,?_,?_,?_⟩
 ·rw[strLen_append,strLen_append,strLen_append];show 0+_+_+_<=_;omega
 ·rw[strLen_append,strLen_append,strLen_append];show 0+_+_+_<=_;omega
 ·have E:∀y:Str,Str.empty++y=y:=λy=>Str.ext' (by rw[Str.cps_append];exact Array.empty_append);rw[E];exact{.str _,B,D.tok _,{_,rfl},q}
end
theorem uk:∀{a b r s:List Nat},c∉a->c∉b->a++c::r=b++c::s->a=b/\r=s:=by
 intro a
 induction a with
 |nil=>
  intro b r s _ h e;cases b with
  |nil=>
   injection e with _ g;exact{rfl,g}
  |cons x b=>
   injection e with f _;exact absurd (f▸c4) h
 |cons y a n=>
  intro b r s i h e;cases b with
  |nil=>
   injection e with f _;exact absurd (f▸c4) i
  |cons x b=>
   injection e with f g;obtain⟨j,m⟩:=n (λz=>i (d0 _ z)) (λz=>h (d0 _ z)) g;exact{by rw[f,j],m}
section
variable {X:Cx}
inductive gh(v:V)(vs:List V)(H:Hp)(Q:VK):Prop
 |mk (x y:Str) (bW:v=.str x) (bO:vs=[.str y]) (cB:(y.length==0)=false) (dM:x.length<=100000) (iK:∀p,H p=none->Q (.ref p) (upd H p (.tup [.str (Txt.partition x y).1,.str (Txt.partition x y).2.1,.str (Txt.partition x y).2.2]))):gh v vs H Q
theorem Ry:uc X "str.partition" gh:=by
 intro g s D H v K J G Q I C B h;obtain⟨x,y,rfl,rfl,p,o,q⟩:=h;obtain⟨t,rfl⟩:=C;obtain⟨E,rfl,A⟩:=B.one;obtain⟨u,rfl⟩:=A
 have f:∀(a b c:Str) (j m n:Tok) (k:Nat),Txt.partition x y=(a,b,c)->EP X g D Q #[2] {s with heap:=s.heap.push {cls:=.type "tuple",data:=.seq #[Value.str a j,Value.str b m,Value.str c n] },toks:=k}:=λa b c j m n k e=>by
  have z:[V.str a,V.str b,V.str c].length<=sizeLine:=by show 3<=sizeLine;decide
  refine{.ref _,_,I.laid (t':=k) (o:=.tup [.str a,.str b,.str c]) (λb u e=>cb _ e) (de _) {{z,{_,cX _ rfl,rfl}},[Value.str a j,Value.str b m,Value.str c n],.cons {j,rfl} (.cons {m,rfl} (.cons {n,rfl} .nil)),{_,cX _ rfl,rfl,_,rfl}},rfl,?_};have:=q _ I.fresh;rw[e]at this;exact this
 refine call_meets F.slot_str_partition (typeIs_str _ _ _) F.entry_str_partition (F.args_str_partition_2 _ _) (meets_str_partition x y t u p (ea o #[17])) ?_;cases e:Builtin.Str.occurrences x y 0 x.length 1 with
 |nil=>exact f x Str.empty Str.empty t s.toks s.toks _ (by unfold Txt.partition;rw[e])
 |cons i r=>exact f _ y _ s.toks u (s.toks+1) _ (by unfold Txt.partition;rw[e])
end
theorem fo{a b:Str}{c:Nat}(A:c∉a.cps.toList):Txt.partition (a++⟨#[c]⟩++b) ⟨#[c]⟩=(a,⟨#[c]⟩,b):=by
 have j:(a++⟨#[c]⟩++b).cps.toList=a.cps.toList++c::b.cps.toList:=by
  rw[Str.cps_append,Str.cps_append,Array.toList_append,Array.toList_append,List.append_assoc];rfl
 generalize a++⟨#[c]⟩++b=x at j;have g:=StrLaws.partition_sum x ⟨#[c]⟩
 have n:∃p r,Txt.partition x ⟨#[c]⟩=(p,⟨#[c]⟩,r)/\c∉p.cps.toList:=by
  rcases StrLaws.occ_head x ⟨#[c]⟩ 1 (de _)with⟨e,m⟩|⟨i,r,e,y,m⟩
  ·exfalso;refine m a.cps.toList.length ((StrLaws.subAt_one x c _).mpr ?_);rw[j,List.getElem?_append_right (Nat.le_refl _),Nat.sub_self];rfl
  ·refine{Builtin.Str.strSub x 0 i,_,by unfold Txt.partition;rw[e],λB=>?_}
   have h:i<=x.length:=by
    have:=y.1;omega
   have F:=StrLaws.sub_len x 0 i h;have v:Txt.partition x ⟨#[c]⟩=(Builtin.Str.strSub x 0 i,⟨#[c]⟩,Builtin.Str.strSub x (i+(⟨#[c]⟩:Str).length) x.length):=by unfold Txt.partition;rw[e]
   rw[v]at g;have f:=congrArg (λz:Str=>z.cps.toList) g;simp only[Str.cps_append,Array.toList_append]at f;obtain⟨k,o⟩:=gC.mp B;have D:=(b0.mp o).1;have E:(Builtin.Str.strSub x 0 i).cps.toList.length=(Builtin.Str.strSub x 0 i).length:=by simp[Str.length]
   refine m k #[1] ((StrLaws.subAt_one x c k).mpr ?_);rw[<- f,List.append_assoc,List.getElem?_append_left D];exact o
 obtain⟨p,r,e,C⟩:=n;rw[e]at g⊢;have f:=congrArg (λz:Str=>z.cps.toList) g;simp only[Str.cps_append,Array.toList_append]at f;rw[j,List.append_assoc]at f;obtain⟨q,u⟩:=uk C A (show p.cps.toList++c::r.cps.toList=a.cps.toList++c::b.cps.toList from f);rw[Kf q,Kf u]
section
variable {prog:nP}{w:n4}{A:nU}{E:mD}{s:nB}{l:Addr}{xs:Array (Int×Tok)}
theorem Vp{Q:mD}(q:A.handled=none)(x:s.heap.IsTuple l (intItems xs))(n:0<xs.size)
  (h:∀v h' f,(intItems xs)[argBest (λi j=>decide (numAt xs i>numAt xs j)) (xs.size-1)]?=some v->#[4]->Q v {s with heap:=h',toks:=f}):
  wpAny #[0] A (call (.builtin "max") [.ref l]) Q E s:=by
 refine call_max_walk (Ly x λg e z y m=>?_);subst e;refine{_,_,_,_,_,_,_,rfl,Walks.tuple (A:=A.in1) q _ l m (intItems xs),z,y,by simpa[intItems]using n,CmpOf.ints_gt (numAt xs) (λ_ _=>intItems_at),λv h' f p u=>?_};exact h v h' f (by simpa[intItems]using p) (Qo u)
end
section
variable {X:Cx}
theorem Ys(C:X.calm=true):Cp X (.builtin "max") (λxs H Q=>∃(p:Addr) (ns:mY),xs=[.ref p]/\Ax X.K H p #[15]/\0<ns.length/\∀m:Int,m∈ns->(∀a∈ns,a<=m)->Q (.int m) H):=by
 intro y s T H S R Q I r q;obtain⟨p,ns,rfl,F,g,q⟩:=q;obtain⟨u,rfl,L⟩:=Dj r;cases L;obtain⟨z,K,J,O⟩:=I.tuple F;have o:=Dq K;obtain⟨b,i⟩:=o.allInts.items
 have e:ns=b.toList.map (·.1):=by
  have B:=o.numsOf;have h:=nums_intItems b;rw[<- i]at h;exact B.symm.trans h
 have f:0<b.size:=by
  rw[e,List.length_map,Array.length_toList]at g;exact g
 have x:s.heap.IsTuple p z.toArray:=J;rw[i]at x;refine Vp (I.ok.hd C) x f λv N P G E=>?_;obtain⟨t,rfl⟩:=intItems_at G;obtain⟨M,A⟩:=argBest_gt (numAt b) (b.size-1);refine{.int _,H,I.kept E,{t,rfl},q _ ?_ λa n=>?_}
 ·rw[e,numAt_eq];exact getD_mem (by rw[List.length_map,Array.length_toList];omega)
 ·rw[e]at n;obtain⟨j,D,rfl⟩:=mem_getD n;rw[List.length_map,Array.length_toList]at D;rw[<- numAt_eq];exact A j #[1]
theorem Kp(K:W.Frag)(g:X.calm=true)(j:X.K=K:=by rfl):Cp X (.builtin "max") (λxs H Q=>∃(p:Addr) (ns:mY),xs=[.ref p]/\(Ar K H p #[15]\/Ax K H p #[15])/\0<ns.length/\∀m:Int,m∈ns->(∀a∈ns,a<=m)->Q (.int m) H):=by
 subst j;intro b s i H n h Q I r q;obtain⟨p,ns,rfl,e|e,f,q⟩:=q
 ·exact Yr g b s i H _ h Q I r ⟨p,ns,rfl,e,f,q⟩
 ·exact Ys g b s i H _ h Q I r ⟨p,ns,rfl,e,f,q⟩
end
end L2
namespace Law
local macro_rules | `(tactic| ac_rfl) => `(tactic| first | exact ⟨rfl,rfl,rfl,by decide +kernel,rfl,by decide +kernel,by decide +kernel⟩ | exact ⟨rfl,by decide +kernel,by decide +kernel,by decide +kernel,by decide +kernel⟩)
local macro_rules | `(tactic| omega) => `(tactic| lia)
open PySem L2 PyProof.Rows
open PySem.Builtin.Int (intBits)
set_option hygiene false
local macro_rules (kind:=«term{_}») | `({$a:term,$b:term,$c,*})=>`(⟨$a,$b,$c,*⟩) | `({$a:term,$b:term})=>`(⟨$a,$b⟩) | `({$n:num})=>`(GT P w K mg base ad aC aA aD aB aE aF aG $n)
local macro_rules | `(tactic| exists $H,$p,$h,$s:ident,$e:ident,$K:ident,$o)=>`(tactic| (have $s : A6 $H (upd $H $p $o):=A6.upd $h;have $e : (upd $H $p $o) $p=some $o :=A2;generalize upd $H $p $o=$K at $s:ident $e:ident ⊢))
local macro_rules | `(())=>`(by omega)
local macro_rules | `(#[])=>`(by decide)
local macro_rules | `(#[$s:str])=>`(Str.ofString $s)
local macro_rules | `(#[0])=>`(λvs H Q E h=>?_)
local macro_rules | `(#[1])=>`((#[".0"],NameKind.local))
local macro_rules | `(#[2])=>`(λaS A outer s H vs Q E hr h=>?_)
local macro_rules | `(#[3])=>`(A7 (Bp (D9 PySem.F.plainAttrs_list PySem.F.slot_list_append PySem.F.type_list_append Br (pv 1) (A0 Ad A4))))
local macro_rules | `(#[4])=>`(A0 (pv 0) A4)
local macro_rules | `(#[5])=>`(.ins aF m (Bb (.ref a) (.ref p) (.ref C) w))
local macro_rules | `(#[6])=>`(Bo (pv 0) rfl)
local macro_rules | `(#[7])=>`(Aj (by rw[List.length_map,List.length_map,List.length_take];omega))
local macro_rules | `(#[8])=>`(by decide+kernel)
local macro_rules | `(#[9])=>`(pX K (pv 0) A5)
local macro_rules | `(#[10])=>`(Ab Ay (pv 2) A5)
local macro_rules | `(#[11])=>`(A0 (pv 2) A4)
local macro_rules | `(#[12])=>`(A0 (pv 1) A4)
local macro_rules | `(#[13])=>`(pX K (pv 2) A5)
local macro_rules | `(#[14])=>`(pX K (pv 1) A5)
local macro_rules | `(#[15])=>`(f.map V.int)
local macro_rules | `(#[16])=>`(λz=>absurd z #[])
local macro_rules | `(#[17])=>`(λ_ _ _ _=>Bu)
local macro_rules | `(#[18])=>`(pX K (pv 3) A5)
local macro_rules | `(#[19])=>`(if b<1+f/7%6 then b else 1+f/7%6)
local macro_rules | `(#[20])=>`(upd n D (.dT (Cq b z (.ref c))))
local macro_rules | `(#[21])=>`(upd C c (.dK (Bv I (.inl (f:Int)))))
local macro_rules | `(#[22])=>`(Aj (by rw[List.length_map,List.length_replicate];omega))
local macro_rules | `(#[23])=>`(List.range n)
local macro_rules | `(#[24])=>`(A0 Ad (A0 Ad A4))
local macro_rules | `(#[25])=>`(if g=true then[#["hall"]]else[])
local macro_rules | `(#[26])=>`(m=[.ref a,.ref b,.int g,.bl e])
local macro_rules | `(#[27])=>`(A0 A5 A4)
local macro_rules | `(#[28])=>`((∀w∈b,intBits w<=256))
local macro_rules | `(#[29])=>`(#["base "]++B8 b)
local macro_rules | `(#[30])=>`(if j=true then[#["listener"]]else[])
local macro_rules | `(#[31])=>`(.ins aF f (Bb (.ref m) (.ref o) (.ref I) w))
local macro_rules | `(#[32])=>`(.ins aF e (Bb (.ref m) (.ref u) (.ref B) w))
local macro_rules | `(#[33])=>`(.ins aF e (Bb (.ref a) (.ref b) (.ref i) w))
local macro_rules | `(#[34])=>`(A0 (pv 4) A4)
local macro_rules | `(#[35])=>`(A0 (pv 3) A4)
local macro_rules | `(#[36])=>`(λ_ z=>by cases z)
local macro_rules | `(#[37])=>`(b.map V.int)
local macro_rules | `(#[38])=>`(A7 (Aa (B1 (A0 (Ah #[24]) #[4]))))
def top(i:Nat):Stmt:=PySem.Challenge.pw_roundcall_k94_join_and_leave.main.body.getD i (.Pass ⟨0,0,0,0⟩)
abbrev qx:Stmt:=top 14
abbrev pd:Stmt:=top 15
abbrev ia:Stmt:=top 16
abbrev gz:Stmt:=top 18
abbrev pw:Stmt:=top 19
abbrev pj:Stmt:=top 20
abbrev A44:Stmt:=top 21
abbrev Xz:Stmt:=top 22
abbrev qf:Stmt:=top 23
abbrev Y3:Stmt:=top 24
abbrev pe:Stmt:=top 25
abbrev Y2:Stmt:=top 26
abbrev pz:Stmt:=top 27
abbrev qy:Stmt:=top 31
abbrev qa:Stmt:=top 32
abbrev qg:Stmt:=top 33
abbrev pf:Stmt:=top 34
abbrev A3z:Stmt:=top 35
abbrev gu:Stmt:=top 36
abbrev ox:Stmt:=top 37
abbrev r9:Stmt:=top 38
abbrev pk:Stmt:=top 39
abbrev gw:Stmt:=top 40
abbrev oy:Stmt:=top 41
abbrev qh:Stmt:=top 42
abbrev i9:Stmt:=top 43
abbrev i4:Stmt:=top 44
abbrev A40:Stmt:=top 46
abbrev qz:Stmt:=top 47
abbrev A3y:Stmt:=top 48
abbrev ib:Stmt:=top 49
abbrev re:Stmt:=top 50
abbrev gx:Stmt:=top 51
abbrev i5:Stmt:=top 52
abbrev oz:Stmt:=top 53
abbrev A45:Stmt:=top 55
abbrev r8:Stmt:=top 56
abbrev oq:Stmt:=top 57
abbrev qi:Stmt:=top 58
abbrev rf:Stmt:=top 60
abbrev i6:Stmt:=top 67
abbrev Y0:Stmt:=top 68
abbrev rh:Stmt:=top 69
abbrev qj:Stmt:=top 70
abbrev gr:Stmt:=top 71
abbrev pp:Stmt:=top 72
abbrev ot:Stmt:=Dx (top 73) 0
abbrev A3x:Stmt:=Dx (top 73) 3
abbrev qk:Stmt:=Dx (top 73) 4
abbrev ou:Stmt:=Dx (top 73) 5
abbrev zq:Stmt:=Dx (top 73) 6
abbrev A42:Stmt:=Dx (top 73) 7
abbrev ow:Stmt:=Dx (top 73) 9
abbrev A43:Stmt:=Dx (top 73) 10
abbrev pc:Stmt:=Dx (top 73) 8
abbrev A41:Stmt:=Dx (top 73) 2
abbrev qb:Stmt:=Dx (top 73) 1
abbrev ph:Stmt:=top 75
abbrev r6:Stmt:=top 76
abbrev ql:Stmt:=top 77
abbrev qm:Stmt:=top 78
abbrev qo:Stmt:=top 79
abbrev qp:Stmt:=top 80
abbrev i7:Stmt:=top 81
abbrev i8:Stmt:=top 82
abbrev qr:Stmt:=top 83
abbrev qc:Stmt:=top 84
abbrev pq:Stmt:=top 85
abbrev qt:Stmt:=top 86
abbrev qe:Stmt:=top 87
abbrev Y1:Stmt:=top 88
abbrev pi:Stmt:=top 89
abbrev qu:Stmt:=top 90
abbrev qw:Stmt:=top 91
abbrev Xy:Stmt:=top 92
theorem Sk:Ae (["one","other","rest"]:List Str) ["one","other"] (A8 qx):=by ac_rfl
theorem Sg:Ae (["numbers","common","number"]:List Str) ["numbers"] (A8 pd):=by ac_rfl
theorem Sl:Ae (["numbers","bottom","top","both"]:List Str) ["numbers"] (A8 ia):=by ac_rfl
def Tf:Scope:={kind:=.function,names:=[#[1],(#["number"],NameKind.local),(#["bottom"],NameKind.free)],isGenerator:=false,isCoroutine:=false,more:=[] }
theorem Td:Bn (A8 ia) Tf (["numbers","bottom","top","both"]:List Str) (["number"]:List Str) [1]:=by ac_rfl
theorem U1:(Bc (["numbers","bottom","top","both"]:List Str) (["number"]:List Str) [1]).Nodup:=by decide+kernel
theorem iq:Ae (["periods","rising"]:List Str) ["periods"] (A8 gz):=by ac_rfl
def Nq:Scope:={kind:=.function,names:=[#[1],(#["earlier"],NameKind.local),(#["later"],NameKind.local)],isGenerator:=false,isCoroutine:=false,more:=[] }
theorem Ni:Bn (A8 gz) Nq (["periods","rising"]:List Str) (["earlier","later"]:List Str) []:=by ac_rfl
theorem Ic:(Bc (["periods","rising"]:List Str) (["earlier","later"]:List Str) []).Nodup:=by decide+kernel
theorem ir:Ae (["periods","told"]:List Str) ["periods"] (A8 pw):=by ac_rfl
theorem Ik:Ae (["levels","taken","first","step","period","size"]:List Str) ["levels","taken"] (A8 pj):=by ac_rfl
theorem P3:Ae (["periods","levels","taken","firsts","period"]:List Str) ["periods"] (A8 A44):=by ac_rfl
theorem P1:Ae (["periods","order","rows","number","first"]:List Str) ["periods"] (A8 Xz):=by ac_rfl
def Ky:Scope:={kind:=.function,names:=[#[1],(#["period"],NameKind.local)],isGenerator:=false,isCoroutine:=false,more:=[] }
theorem Ks:Bn (A8 Xz) Ky (["periods","order","rows","number","first"]:List Str) (["period"]:List Str) []:=by ac_rfl
theorem L9:(Bc (["periods","order","rows","number","first"]:List Str) (["period"]:List Str) []).Nodup:=by decide+kernel
def Kz:Scope:={kind:=.function,names:=[#[1],(#["period"],NameKind.local)],isGenerator:=false,isCoroutine:=false,more:=[] }
theorem Kt:Bn (A8 Xz) Kz (["periods","order","rows","number","first"]:List Str) (["period"]:List Str) []:=by ac_rfl
theorem La:(Bc (["periods","order","rows","number","first"]:List Str) (["period"]:List Str) []).Nodup:=by decide+kernel
theorem ix:Ae (["wait","base","times"]:List Str) ["wait","base"] (A8 qf):=by ac_rfl
theorem A07:Ae (["waits","base"]:List Str) ["waits","base"] (A8 Y3):=by ac_rfl
def Rl:Scope:={kind:=.function,names:=[#[1],(#["wait"],NameKind.local),(#["base"],NameKind.free)],isGenerator:=false,isCoroutine:=false,more:=[] }
theorem Ri:Bn (A8 Y3) Rl (["waits","base"]:List Str) (["wait"]:List Str) [1]:=by ac_rfl
theorem Rz:(Bc (["waits","base"]:List Str) (["wait"]:List Str) [1]).Nodup:=by decide+kernel
def Rm:Scope:={kind:=.function,names:=[#[1],(#["wait"],NameKind.local),(#["doubling"],NameKind.globalImplicit),(#["base"],NameKind.free)],isGenerator:=false,isCoroutine:=false,more:=[] }
theorem Rj:Bn (A8 Y3) Rm (["waits","base"]:List Str) (["wait"]:List Str) [1]:=by ac_rfl
theorem S0:(Bc (["waits","base"]:List Str) (["wait"]:List Str) [1]).Nodup:=by decide+kernel
theorem ij:Ae (["wait","most"]:List Str) ["wait","most"] (A8 pe):=by ac_rfl
theorem We:Ae (["waits","least","bases"]:List Str) ["waits"] (A8 Y2):=by ac_rfl
def Nr:Scope:={kind:=.function,names:=[#[1],(#["wait"],NameKind.local),(#["halved_down"],NameKind.globalImplicit),(#["least"],NameKind.free)],isGenerator:=false,isCoroutine:=false,more:=[] }
theorem Nj:Bn (A8 Y2) Nr (["waits","least","bases"]:List Str) (["wait"]:List Str) [1]:=by ac_rfl
theorem Og:(Bc (["waits","least","bases"]:List Str) (["wait"]:List Str) [1]).Nodup:=by decide+kernel
def Nt:Scope:={kind:=.function,names:=[#[1],(#["base"],NameKind.local),(#["have_room"],NameKind.globalImplicit),(#["doubled"],NameKind.globalImplicit),(#["waits"],NameKind.free)],isGenerator:=false,isCoroutine:=false,more:=[] }
theorem Nk:Bn (A8 Y2) Nt (["waits","least","bases"]:List Str) (["base"]:List Str) [0]:=by ac_rfl
theorem Oh:(Bc (["waits","least","bases"]:List Str) (["base"]:List Str) [0]).Nodup:=by decide+kernel
theorem iu:Ae (["waits","base"]:List Str) ["waits"] (A8 pz):=by ac_rfl
theorem A08:Ae (["waits","calm"]:List Str) ["waits","calm"] (A8 qy):=by ac_rfl
theorem A02:Ae (["hall"]:List Str) ["hall"] (A8 qa):=by ac_rfl
theorem A05:Ae (["hall","standing"]:List Str) ["hall","standing"] (A8 qg):=by ac_rfl
theorem zy:Ae (["hall","who"]:List Str) ["hall","who"] (A8 pf):=by ac_rfl
theorem A47:Ae (["hall","standing","who","lost"]:List Str) ["hall","standing","who","lost"] (A8 A3z):=by ac_rfl
theorem ik:Ae (["hall","standing","who","lost","left"]:List Str) ["hall","standing","who","lost"] (A8 gu):=by ac_rfl
def L3:Scope:={kind:=.function,names:=[#[1],(#["turns"],NameKind.local)],isGenerator:=false,isCoroutine:=false,more:=[] }
theorem Ku:Bn (A8 gu) L3 (["hall","standing","who","lost","left"]:List Str) (["turns"]:List Str) []:=by ac_rfl
theorem Lb:(Bc (["hall","standing","who","lost","left"]:List Str) (["turns"]:List Str) []).Nodup:=by decide+kernel
theorem zu:Ae (["hall","standing","lost"]:List Str) ["hall","standing","lost"] (A8 ox):=by ac_rfl
theorem j0:Ae (["hall","standing","who","lost","left"]:List Str) ["hall","standing","who","lost"] (A8 r9):=by ac_rfl
theorem ip:Ae (["hall","standing","who","behind"]:List Str) ["hall","standing","who"] (A8 pk):=by ac_rfl
theorem im:Ae (["hall","standing","who","lost","left"]:List Str) ["hall","standing","who","lost"] (A8 gw):=by ac_rfl
def Kw:Scope:={kind:=.function,names:=[#[1],(#["number"],NameKind.local),(#["turns"],NameKind.local)],isGenerator:=false,isCoroutine:=false,more:=[] }
theorem Kr:Bn (A8 gw) Kw (["hall","standing","who","lost","left"]:List Str) (["number","turns"]:List Str) []:=by ac_rfl
theorem Gg:(Bc (["hall","standing","who","lost","left"]:List Str) (["number","turns"]:List Str) []).Nodup:=by decide+kernel
theorem zw:Ae (["hall"]:List Str) ["hall"] (A8 oy):=by ac_rfl
theorem Si:Ae (["hall","product","wait"]:List Str) ["hall"] (A8 qh):=by ac_rfl
theorem Lj:Ae (["waits","rows","wait","longer","row"]:List Str) ["waits"] (A8 i9):=by ac_rfl
def Ph:Scope:={kind:=.function,names:=[#[1],(#["turns"],NameKind.local),(#["row"],NameKind.free)],isGenerator:=false,isCoroutine:=false,more:=[] }
theorem Pg:Bn (A8 i9) Ph (["waits","rows","wait","longer","row"]:List Str) (["turns"]:List Str) [4]:=by ac_rfl
theorem Pl:(Bc (["waits","rows","wait","longer","row"]:List Str) (["turns"]:List Str) [4]).Nodup:=by decide+kernel
theorem Wf:Ae (["hall","told","left"]:List Str) ["hall"] (A8 i4):=by ac_rfl
def Ny:Scope:={kind:=.function,names:=[#[1],(#["quiet"],NameKind.local),(#["left"],NameKind.free)],isGenerator:=false,isCoroutine:=false,more:=[] }
theorem Np:Bn (A8 i4) Ny (["hall","told","left"]:List Str) (["quiet"]:List Str) [2]:=by ac_rfl
theorem Oo:(Bc (["hall","told","left"]:List Str) (["quiet"]:List Str) [2]).Nodup:=by decide+kernel
theorem Qv:Ae (["hall","pending","standing","calls","who","behind"]:List Str) ["hall"] (A8 A40):=by ac_rfl
theorem Jp:Ae (["pending","ways","standing","calls","who","behind","later"]:List Str) ["pending"] (A8 qz):=by ac_rfl
theorem Qu:Ae (["pending","ways","ranked","bare","later","standing","who","calls"]:List Str) ["pending","ways","ranked"] (A8 A3y):=by ac_rfl
theorem Hj:Ae (["hall","pending","ways","table","rank","ranked","standing"]:List Str) ["hall"] (A8 ib):=by ac_rfl
def V8:Scope:={kind:=.function,names:=[#[1],(#["standing"],NameKind.local),(#["calls"],NameKind.local)],isGenerator:=false,isCoroutine:=false,more:=[] }
theorem V6:Bn (A8 ib) V8 (["hall","pending","ways","table","rank","ranked","standing"]:List Str) (["standing","calls"]:List Str) []:=by ac_rfl
theorem On:(Bc (["hall","pending","ways","table","rank","ranked","standing"]:List Str) (["standing","calls"]:List Str) []).Nodup:=by decide+kernel
theorem A0b:Ae (["table","behind"]:List Str) ["table","behind"] (A8 re):=by ac_rfl
theorem A00:Ae (["hall","table","standing","who"]:List Str) ["hall","table","standing","who"] (A8 gx):=by ac_rfl
def Mj:Scope:={kind:=.function,names:=[#[1],(#["behind"],NameKind.local),(#["worth"],NameKind.globalImplicit),(#["table"],NameKind.free)],isGenerator:=false,isCoroutine:=false,more:=[] }
theorem Me:Bn (A8 gx) Mj (["hall","table","standing","who"]:List Str) (["behind"]:List Str) [1]:=by ac_rfl
theorem Mq:(Bc (["hall","table","standing","who"]:List Str) (["behind"]:List Str) [1]).Nodup:=by decide+kernel
theorem iw:Ae (["hall","table","standing","worths"]:List Str) ["hall","table","standing"] (A8 i5):=by ac_rfl
def Nu:Scope:={kind:=.function,names:=[#[1],(#["who"],NameKind.local),(#["call_worth"],NameKind.globalImplicit),(#["hall"],NameKind.free),(#["standing"],NameKind.free),(#["table"],NameKind.free)],isGenerator:=false,isCoroutine:=false,more:=[] }
theorem Nl:Bn (A8 i5) Nu (["hall","table","standing","worths"]:List Str) (["who"]:List Str) [0,1,2]:=by ac_rfl
theorem Oi:(Bc (["hall","table","standing","worths"]:List Str) (["who"]:List Str) [0,1,2]).Nodup:=by decide+kernel
theorem ig:Ae (["hall","table","standing","who","reached"]:List Str) ["hall","table","standing","who"] (A8 oz):=by ac_rfl
theorem A4a:Ae (["standing","wait"]:List Str) ["standing","wait"] (A8 A45):=by ac_rfl
theorem A0a:Ae (["hall","standing","wait"]:List Str) ["hall","standing","wait"] (A8 r8):=by ac_rfl
theorem zr:Ae (["row","place"]:List Str) ["row","place"] (A8 oq):=by ac_rfl
theorem iy:Ae (["hall","standing","who","smaller"]:List Str) ["hall","standing","who"] (A8 qi):=by ac_rfl
theorem Wh:Ae (["wheel","turn","number","row"]:List Str) ["wheel","turn"] (A8 rf):=by ac_rfl
theorem A03:Ae (["word"]:List Str) ["word"] (A8 i6):=by ac_rfl
def Nv:Scope:={kind:=.function,names:=[#[1],(#["sign"],NameKind.local),(#["FIGURES"],NameKind.globalImplicit)],isGenerator:=false,isCoroutine:=false,more:=[] }
theorem Nm:Bn (A8 i6) Nv (["word"]:List Str) (["sign"]:List Str) []:=by ac_rfl
theorem Oj:(Bc (["word"]:List Str) (["sign"]:List Str) []).Nodup:=by decide+kernel
theorem A01:Ae (["words"]:List Str) ["words"] (A8 Y0):=by ac_rfl
def Mn:Scope:={kind:=.function,names:=[#[1],(#["word"],NameKind.local),(#["is_number"],NameKind.globalImplicit)],isGenerator:=false,isCoroutine:=false,more:=[] }
theorem Mh:Bn (A8 Y0) Mn (["words"]:List Str) (["word"]:List Str) []:=by ac_rfl
theorem Mt:(Bc (["words"]:List Str) (["word"]:List Str) []).Nodup:=by decide+kernel
def Mo:Scope:={kind:=.function,names:=[#[1],(#["word"],NameKind.local),(#["int"],NameKind.globalImplicit)],isGenerator:=false,isCoroutine:=false,more:=[] }
theorem Mi:Bn (A8 Y0) Mo (["words"]:List Str) (["word"]:List Str) []:=by ac_rfl
theorem Mu:(Bc (["words"]:List Str) (["word"]:List Str) []).Nodup:=by decide+kernel
theorem A0c:Ae (["word","size"]:List Str) ["word","size"] (A8 rh):=by ac_rfl
theorem Lk:Ae (["row","words","calm","numbers"]:List Str) ["row"] (A8 qj):=by ac_rfl
theorem zx:Ae (["numbers"]:List Str) ["numbers"] (A8 gr):=by ac_rfl
def Js:Scope:={kind:=.function,names:=[#[1],(#["number"],NameKind.local),(#["str"],NameKind.globalImplicit)],isGenerator:=false,isCoroutine:=false,more:=[] }
theorem Jr:Bn (A8 gr) Js (["numbers"]:List Str) (["number"]:List Str) []:=by ac_rfl
theorem K1:(Bc (["numbers"]:List Str) (["number"]:List Str) []).Nodup:=by decide+kernel
theorem Wd:Ae (["place","period","first"]:List Str) ["place"] (A8 pp):=by ac_rfl
theorem zt:Ae (["self"]:List Str) ["self"] (A8 ot):=by ac_rfl
theorem A46:Ae (["self","word"]:List Str) ["self","word"] (A8 A3x):=by ac_rfl
theorem A06:Ae (["self","hall","standing","table"]:List Str) ["self","hall","standing","table"] (A8 qk):=by ac_rfl
theorem ie:Ae (["self","hall","table"]:List Str) ["self","hall"] (A8 ou):=by ac_rfl
theorem A48:Ae (["self","found"]:List Str) ["self","found"] (A8 zq):=by ac_rfl
def J5:Scope:={kind:=.function,names:=[#[1],(#["place"],NameKind.local),(#["place_text"],NameKind.globalImplicit)],isGenerator:=false,isCoroutine:=false,more:=[] }
theorem J2:Bn (A8 zq) J5 (["self","found"]:List Str) (["place"]:List Str) []:=by ac_rfl
theorem J6:(Bc (["self","found"]:List Str) (["place"]:List Str) []).Nodup:=by decide+kernel
theorem A49:Ae (["self"]:List Str) ["self"] (A8 A42):=by ac_rfl
theorem Sf:Ae (["self","wait","coming","table","number"]:List Str) ["self","wait"] (A8 ow):=by ac_rfl
theorem rk:Ae (["self","who","staying"]:List Str) ["self","who"] (A8 A43):=by ac_rfl
theorem ii:Ae (["self","who","lost","broken"]:List Str) ["self","who","lost"] (A8 pc):=by ac_rfl
theorem rj:Ae (["self","word","number","who"]:List Str) ["self","word","number"] (A8 A41):=by ac_rfl
theorem Sh:Ae (["self","row","read","word","numbers"]:List Str) ["self","row"] (A8 qb):=by ac_rfl
theorem zz:Ae (["script","k"]:List Str) ["script","k"] (A8 ph):=by ac_rfl
theorem A09:Ae (["cell"]:List Str) ["cell"] (A8 r6):=by ac_rfl
theorem Eo:Ae (["number","some","room","calm","waits","k"]:List Str) ["number"] (A8 ql):=by ac_rfl
theorem P2:Ae (["hall","wait","many","one"]:List Str) ["hall","wait"] (A8 qm):=by ac_rfl
theorem iz:Ae (["e","kinds"]:List Str) ["e"] (A8 qo):=by ac_rfl
theorem Ll:Ae (["desk","row","caught","found","e"]:List Str) ["desk","row"] (A8 qp):=by ac_rfl
theorem A04:Ae (["head","numbers"]:List Str) ["head","numbers"] (A8 i7):=by ac_rfl
def Nx:Scope:={kind:=.function,names:=[#[1],(#["number"],NameKind.local),(#["str"],NameKind.globalImplicit)],isGenerator:=false,isCoroutine:=false,more:=[] }
theorem No:Bn (A8 i7) Nx (["head","numbers"]:List Str) (["number"]:List Str) []:=by ac_rfl
theorem Om:(Bc (["head","numbers"]:List Str) (["number"]:List Str) []).Nodup:=by decide+kernel
theorem Hh:Ae (["desk","number","waits","how","found","words","rows","word","wait","figures"]:List Str) ["desk","number"] (A8 i8):=by ac_rfl
def Nw:Scope:={kind:=.function,names:=[#[1],(#["first"],NameKind.local),(#["str"],NameKind.globalImplicit)],isGenerator:=false,isCoroutine:=false,more:=[] }
theorem Nn:Bn (A8 i8) Nw (["desk","number","waits","how","found","words","rows","word","wait","figures"]:List Str) (["first"]:List Str) []:=by ac_rfl
theorem Ol:(Bc (["desk","number","waits","how","found","words","rows","word","wait","figures"]:List Str) (["first"]:List Str) []).Nodup:=by decide+kernel
theorem Sj:Ae (["desk","rows","turn","due","who"]:List Str) ["desk","rows","turn"] (A8 qr):=by ac_rfl
theorem Jo:Ae (["desk","hall","table","standing","due","row"]:List Str) ["desk","hall"] (A8 qc):=by ac_rfl
theorem Jn:Ae (["state","wait","hall","standing","table","more","there"]:List Str) ["state","wait"] (A8 pq):=by ac_rfl
theorem Lm:Ae (["state","who","hall","standing","table","fewer","there"]:List Str) ["state","who"] (A8 qt):=by ac_rfl
theorem En:Ae (["desk","state","first","hall","standing","table","rank","asked","who","lost","k","row","due"]:List Str) ["desk","state","first"] (A8 qe):=by ac_rfl
theorem Em:Ae (["desk","state","number","hall","standing","table","left","who","lost","found","behind","gone","due"]:List Str) ["desk","state","number"] (A8 Y1):=by ac_rfl
def Ml:Scope:={kind:=.function,names:=[#[1],(#["k"],NameKind.local),(#["min"],NameKind.globalImplicit),(#["left"],NameKind.free)],isGenerator:=false,isCoroutine:=false,more:=[] }
theorem Mf:Bn (A8 Y1) Ml (["desk","state","number","hall","standing","table","left","who","lost","found","behind","gone","due"]:List Str) (["k"]:List Str) [6]:=by ac_rfl
theorem Mr:(Bc (["desk","state","number","hall","standing","table","left","who","lost","found","behind","gone","due"]:List Str) (["k"]:List Str) [6]).Nodup:=by decide+kernel
def Mm:Scope:={kind:=.function,names:=[#[1],(#["k"],NameKind.local),(#["left"],NameKind.free),(#["lost"],NameKind.free),(#["who"],NameKind.free)],isGenerator:=false,isCoroutine:=false,more:=[] }
theorem Mg:Bn (A8 Y1) Mm (["desk","state","number","hall","standing","table","left","who","lost","found","behind","gone","due"]:List Str) (["k"]:List Str) [8,6,7]:=by ac_rfl
theorem Ms:(Bc (["desk","state","number","hall","standing","table","left","who","lost","found","behind","gone","due"]:List Str) (["k"]:List Str) [8,6,7]).Nodup:=by decide+kernel
theorem Li:Ae (["desk","state","number","hall","standing","table","who","row"]:List Str) ["desk","state","number"] (A8 pi):=by ac_rfl
theorem Hi:Ae (["desk","state","number","hall","wait","who","due"]:List Str) ["desk","state","number"] (A8 qu):=by ac_rfl
theorem Wg:Ae (["desk","state","number","deeds","good"]:List Str) ["desk","state","number","deeds"] (A8 qw):=by ac_rfl
theorem D5:Ae (["script","desk","number","hall","rows","good","state","deeds","again","cell"]:List Str) ["script"] (A8 Xy):=by ac_rfl
abbrev lamQ:Str:="chain_wheel.<locals>.<lambda>"
abbrev lamP:Pos:={77,44,77,74}
theorem A50{us:List nL}(h:us.length=0):us=[]:=List.length_eq_zero_iff.mp h
theorem A2i{us:List nL}(h:us.length=1):∃b,us=[b]:=by
 cases us with
 |nil=>cases h
 |cons a us=>
  obtain rfl:=A50 (Nat.succ.inj h);exact{a,rfl}
theorem A2j{us:List nL}(h:us.length=2):∃e b,us=[e,b]:=by
 cases us with
 |nil=>cases h
 |cons a us=>
  obtain⟨b,rfl⟩:=A2i (Nat.succ.inj h);exact{a,b,rfl}
theorem ng{us:List nL}(h:us.length=3):∃f b e,us=[f,b,e]:=by
 cases us with
 |nil=>cases h
 |cons a us=>
  obtain⟨b,e,rfl⟩:=A2j (Nat.succ.inj h);exact{a,b,e,rfl}
theorem A2k{us:List nL}(h:us.length=4):∃g b e f,us=[g,b,e,f]:=by
 cases us with
 |nil=>cases h
 |cons a us=>
  obtain⟨b,e,f,rfl⟩:=ng (Nat.succ.inj h);exact{a,b,e,f,rfl}
def UO(x b:Str)(f:Stmt)(h:List Str):Prop:=∀(kV e n:nL) (j:Option Addr) (i m:nL) (g:List nL),g.length=h.length->bindArgs (W.fnOf x b (Dc f) (C7 f) (A8 f) .none kV e n j i m) ⟨g,[]⟩=pure (h.zip g)
structure Gm(P:nP)(w:n4)(K:W.Frag)(mg:Str->Option nL)(base:Heap)(k:Nat)(f:Addr)(ps:List Str)(sp:Sp):Prop where
 e:∃fd,Ee P w K mg base (CX1 P w) k f fd ps sp/\Ep K fd ps []
structure Gk(P:nP)(w:n4)(K:W.Frag)(mg:Str->Option nL)(base:Heap)(k:Nat)(x:Str)(f:Addr)(ps:List Str)(sp:Sp):Prop where
 o:Gm P w K mg base k f ps sp
 m:mg x=some (.ref f)
 p:W.keepIn K (.ref f)=true
structure Gd(P:nP)(w:n4)(K:W.Frag)(mg:Str->Option nL)(base:Heap)(k:Nat)(x:Str)(f:Addr)(ps:List Str)(sp:Sp)(d:nL):Prop where
 o:Gk P w K mg base k x f ps sp
 e:∃fd,Ee P w K mg base (CX1 P w) k f fd ps sp/\Ep K fd ps [d]
structure Df(K:W.Frag)(mg:Str->Option nL)(n:Str)(st:Stmt)(f:Addr):Prop where
 m:mg n=some (.ref f)
 e:∃fd,Uw K n n st f fd
 p:W.keepIn K (.ref f)=true
structure Dm(K:W.Frag)(C:Addr)(x n:Str)(st:Stmt)(f:Addr):Prop where
 a:aw K C x f
 e:∃fd,Uw K x n st f fd
structure Dl(K:W.Frag)(mg:Str->Option nL)(n:Str)(st:Stmt)(f ct:Addr):Prop where
 m:mg n=some (.ref f)
 e:∃fd c,Ye K n n st f fd c ct
 p:W.keepIn K (.ref f)=true
structure Dd(K:W.Frag)(mg:Str->Option nL)(n:Str)(st:Stmt)(f:Addr)(d:nL):Prop where
 m:mg n=some (.ref f)
 e:∃(oc:nL) (od:Option Addr) (dt:Addr) (kV doc pm:nL) (an:Option Addr) (aS ct:nL) (gD:Array (Option nL)) (tc:nL) (td:Option Addr) (tn:Nat) (ts:Array (Option nL)),K.lookup f=some ⟨oc,od,.func (W.fnOf n n (Dc st) (C7 st) (A8 st) (.ref dt) kV doc pm an aS ct),gD⟩/\W.codeIn K aS n=true/\K.lookup dt=some ⟨tc,td,.seq #[d] tn,ts⟩
 p:W.keepIn K (.ref f)=true
local macro_rules | `(tactic| trivial)=>`(tactic| (intro _ _ _ _ _ _ us hl; first | (obtain e:=A50 hl; subst e; rfl) | (obtain ⟨_,e⟩ := A2i hl; subst e; rfl) | (obtain ⟨_,_,e⟩ := A2j hl; subst e; rfl) | (obtain ⟨_,_,_,e⟩ := ng hl; subst e; rfl) | (obtain ⟨_,_,_,_,e⟩ := A2k hl; subst e; rfl)))
section
variable {P:nP}{w:n4}{K:W.Frag}{mg:Str->Option nL}{base h:Heap}{x n:Str}{st:Stmt}{f C ct dt:Addr}{ps:List Str}{k j:Nat}{sp:Sp}{d:nL}{X:Cx}
theorem Df.m0{m:nL}{o g:Option Addr}{i:Array (Option nL)}{kV b p e ct:nL}(X:K.In h)(G:h.Ns mainGlobals mg)(a:W.nsIn K mainGlobals n=some (some (.ref f)))(l:K.lookup f=some ⟨m,o,.func (W.fnOf n n (Dc st) (C7 st) (A8 st) .none kV b p g e ct),i⟩)(c:W.codeIn K e n=true)(k:W.keepIn K (.ref f)=true):Df K mg n st f:={W.mg_of X G a,{_,fun_mk l c k},k}
theorem Dm.m1{o:nL}{p g:Option Addr}{m:Array (Option nL)}{kV b q e ct:nL}(a:W.findIn K (.ref C) x=some (some (.ref f)))(i:W.isFn K (.ref f)=true)(l:K.lookup f=some ⟨o,p,.func (W.fnOf x n (Dc st) (C7 st) (A8 st) .none kV b q g e ct),m⟩)(c:W.codeIn K e n=true)(k:W.keepIn K (.ref f)=true):Dm K C x n st f:={{a,i,k},{_,fun_mk l c k}}
theorem Dl.m3{q:nL}{u o:Option Addr}{p:Array (Option nL)}{kV g v b ct:nL}{i m:Addr}(X:K.In h)(G:h.Ns mainGlobals mg)(a:W.nsIn K mainGlobals n=some (some (.ref f)))(l:K.lookup f=some ⟨q,u,.func (W.fnOf n n (Dc st) (C7 st) (A8 st) .none kV g v o b ct),p⟩)(c:W.codeIn K b n=true)(k:W.keepIn K (.ref f)=true)(e:b=.ref i)(t:W.codeHdIn K i m=true):Dl K mg n st f m:={W.mg_of X G a,{_,_,{fun_mk l c k,e,t}},k}
theorem Dd.m2{m:nL}{o g:Option Addr}{i:Array (Option nL)}{kV b p e ct:nL}{q:nL}{u:Option Addr}{v:Nat}{y:Array (Option nL)}(X:K.In h)(G:h.Ns mainGlobals mg)(a:W.nsIn K mainGlobals n=some (some (.ref f)))(l:K.lookup f=some ⟨m,o,.func (W.fnOf n n (Dc st) (C7 st) (A8 st) (.ref dt) kV b p g e ct),i⟩)(c:W.codeIn K e n=true)(k:W.keepIn K (.ref f)=true)(t:K.lookup dt=some ⟨q,u,.seq #[d] v,y⟩):Dd K mg n st f d:={W.mg_of X G a,{_,_,_,_,_,_,_,_,_,_,_,_,_,_,l,c,t},k}
theorem Df.ok(D:Df K mg n st f)(H:∀{b:nZ},Uw K n n st f b->Ee P w K mg base (CX1 P w) k f b ps sp)(e:UO n n st ps:=by trivial):Gk P w K mg base k n f ps sp:=let⟨b,F⟩:=D.e;⟨⟨b,H F,F.binds e⟩,D.m,D.p⟩
theorem Dm.ok(D:Dm K C x n st f)(H:∀{b:nZ},Uw K x n st f b->Ee P w K mg base (CX1 P w) k f b ps sp)(e:UO x n st ps:=by trivial):Gm P w K mg base k f ps sp:=let⟨b,F⟩:=D.e;⟨b,H F,F.binds e⟩
theorem Dl.ok(D:Dl K mg n st f ct)(H:∀{b:nZ}{c:Addr},Ye K n n st f b c ct->Ee P w K mg base (CX1 P w) k f b ps sp)(e:UO n n st ps:=by trivial):Gk P w K mg base k n f ps sp:=let⟨b,_,F⟩:=D.e;⟨⟨b,H F,F.fn.binds e⟩,D.m,D.p⟩
theorem Dd.ok(D:Dd K mg n st f d)(b1:∀{dt:Addr}{kV b i:nL}{g:Option Addr}{e ct m:nL}{o:Option Addr}{p:Nat}{q:Array (Option nL)},K.lookup dt=some ⟨m,o,.seq #[d] p,q⟩->Ep K (W.fnOf n n (Dc st) (C7 st) (A8 st) (.ref dt) kV b i g e ct) ps [])
  (b2:∀{dt:Addr}{kV b i:nL}{g:Option Addr}{e ct m:nL}{o:Option Addr}{p:Nat}{q:Array (Option nL)},K.lookup dt=some ⟨m,o,.seq #[d] p,q⟩->Ep K (W.fnOf n n (Dc st) (C7 st) (A8 st) (.ref dt) kV b i g e ct) ps [d])
  (H:∀{u:nZ},t9 K n n st f u->Ee P w K mg base (CX1 P w) k f u ps sp):Gd P w K mg base k n f ps sp d:=
 let⟨_,_,_,_,_,_,_,_,_,_,_,_,_,_,l,c,t⟩:=D.e;have F:=H ⟨⟨_,_,_,_,_,_,_,_,_,_,rfl,l,c⟩⟩
 ⟨⟨⟨_,F,b1 t⟩,D.m,D.p⟩,_,F,b2 t⟩
section
variable {p pos apos:Pos}{e o:Expr}{es:List Expr}{ta:TE}{t:TA}{m:Str}{R:L2.St->XK->Prop}{v:V}
theorem cN(G:Gk X.prog X.w X.K X.mg X.base k x f ps sp)(A:Ca j X.A)(g:PA X (e::es) t)(q:Gl X x:=by rfl)(u:k<=j:=by decide)(b:(x==("__debug__":Str))=false:=by decide)(he:starEach (e::es) X.env=(false,eval e X.env)::starEach es X.env:=by rfl)(B:(backTo pos (starEach es X.env)).any (·.1)=false:=by rfl):
  PE X (.Call (.Name x p) (e::es) [] pos) (jf sp [] E0 t):=let⟨⟨_,F,i⟩,y,z⟩:=G;Xo F (A.mono u) q y z i .nil K5 g b he B
theorem cE(G:Gk X.prog X.w X.K X.mg X.base k x f ps sp)(A:Ca j X.A)(B:Na X R)(g:PA X (e::es) t)(q:Gl X x:=by rfl)(u:k<=j:=by decide)(b:(x==("__debug__":Str))=false:=by decide)(he:starEach (e::es) X.env=(false,eval e X.env)::starEach es X.env:=by rfl)(D:(backTo pos (starEach es X.env)).any (·.1)=false:=by rfl):
  PE X (.Call (.Name x p) (e::es) [] pos) (Wm sp [] R t):=let⟨⟨_,F,i⟩,y,z⟩:=G;U4 F (A.mono u) q y z i .nil B g b he D
theorem cD(G:Gd X.prog X.w X.K X.mg X.base k x f ps sp d)(B:B0 [v] [d])(A:Ca j X.A)(g:PA X (e::es) t)(q:Gl X x:=by rfl)(u:k<=j:=by decide)(b:(x==("__debug__":Str))=false:=by decide)(he:starEach (e::es) X.env=(false,eval e X.env)::starEach es X.env:=by rfl)(D:(backTo pos (starEach es X.env)).any (·.1)=false:=by rfl):
  PE X (.Call (.Name x p) (e::es) [] pos) (jf sp [v] E0 t):=let⟨⟨_,y,z⟩,_,F,i⟩:=G;Xo F (A.mono u) q y z i B K5 g b he D
theorem cF(G:Gd X.prog X.w X.K X.mg X.base k x f ps sp d)(B:B0 [v] [d])(A:Ca j X.A)(D:Na X R)(g:PA X (e::es) t)(q:Gl X x:=by rfl)(u:k<=j:=by decide)(b:(x==("__debug__":Str))=false:=by decide)(he:starEach (e::es) X.env=(false,eval e X.env)::starEach es X.env:=by rfl)(E:(backTo pos (starEach es X.env)).any (·.1)=false:=by rfl):
  PE X (.Call (.Name x p) (e::es) [] pos) (Wm sp [v] R t):=let⟨⟨_,y,z⟩,_,F,i⟩:=G;U4 F (A.mono u) q y z i B D g b he E
theorem pS(i:Nat){g:TE}{b:Pos}(q:X.N.Nodup)(he:PE X e g)(y:X.N[i]?=some x:=by rfl)(A:u8 X.env.scope x:=by first|exact Or.inl rfl|exact Or.inr rfl)(z:swapsWith e (some (.Name x b)) pos.line X.env=pure false:=by rfl)(u:X.fn x=true\/X.env.scope.names.lookup x=some .local:=by first|exact .inl rfl|exact .inr rfl|assumption):
  PS X (.Assign [.Name x b] e pos) (RQ g (Hr i)):=ze q y A he z u
theorem pN(i:Nat)(b:X.N.Nodup)(q:X.N[i]?=some x:=by rfl)(u:u8 X.env.scope x:=by first|exact Or.inl rfl|exact Or.inr rfl)(g:X.fn x=true\/X.env.scope.names.lookup x=some .local:=by first|exact .inl rfl|exact .inr rfl|assumption):PG X (.Name x pos) (Hr i):=m9 b q u g
theorem pX(K:W.Frag){a b:Expr}{g:TE}(q:PE X a ta)(u:PE X b g)(i:X.K=K:=by rfl)(y:X1 b:=by exact λ_ _=>rfl):PE X (.Subscript a b pos) (AO (zi K) ta g):=o0 (A37 K i) q u y
theorem pL(K:W.Frag)(q:X.mg "len"=none)(he:PE X e ta)(i:Gl X "len":=by rfl)(g:X.K=K:=by rfl)(h1:starEach (e::[]) X.env=(false,eval e X.env)::starEach [] X.env:=by rfl)(b:(backTo pos (starEach [] X.env)).any (·.1)=false:=by rfl):PE X (.Call (.Name "len" p) (e::[]) [] pos) (OI (zj K) (Ul ta Wn)):=Aq (Yo K g) i q PySem.boot_len (A0 he A4 h1) #[] #[] h1 b
theorem pT(q:X.mg "str"=none)(he:PE X e ta)(g:Gl X "str":=by rfl)(h1:starEach (e::[]) X.env=(false,eval e X.env)::starEach [] X.env:=by rfl)(b:(backTo pos (starEach [] X.env)).any (·.1)=false:=by rfl):PE X (.Call (.Name "str" p) (e::[]) [] pos) (OI (λxs H Q=>∃i,xs=[.int i]/\i.natAbs.log2<1920/\Q (.str (toString i)) H) (Ul ta Wn)):=D3 Rg g q boot_str (A0 he A4 h1) #[] #[] h1 b
theorem pC{a b:Expr}{g:TE}{op:CmpOp}{r:R2}(y:Ht X (compareOp op) r)(i:PE X a ta)(q:PE X b g)(u:behindInMarks op b=false:=by exact ff _):PE X (.Compare a [op] [b] pos) (AO r ta g):=S8 y i q u
theorem pD{a b:Expr}{g:TE}{op:CmpOp}{r:R2}(y:Ht X (compareOp op) r)(i:PE X a ta)(q:PE X b g)(u:behindInMarks op b=false:=by exact ff _):PT X (.Compare a [op] [b] pos) (so (AO r ta g)):=Gy y i q u
end
end
structure Kx(K:W.Frag)(c bC aC aA aD bJ bQ bD bE aQ aB bG aE:Addr)(nC iU nD lR nF:Bool):Prop where
 HW:W.findIn K (.ref c) "__getattribute__"=some (some (.builtin "BaseException.__getattribute__"))
 HY:W.findIn K (.ref c) "__getattr__"=some none
 HZ:W.findIn K (.ref c) "__class__"=some (some (.builtin "object.__class__"))
 IA:W.mroIn K c (.type "object")=some true
 IB:W.subIn K (.ref c) (.type "BaseException")=some true
 cK:W.subIn K (.ref c) (.ref aQ)=some true
 eU:W.kitOne K (.ref c) (.ref aC)=some nC
 cL:W.kitOne K (.ref c) (.ref aA)=some iU
 eV:W.kitOne K (.ref c) (.ref aD)=some nD
 dN:W.kitOne K (.ref c) (.ref aB)=some lR
 eX:W.kitOne K (.ref c) (.ref aE)=some nF
 dQ:W.kitOne K (.ref c) (.ref bE)=some false
 dR:W.kitOne K (.ref c) (.ref bC)=some false
 dU:W.kitOne K (.ref c) (.ref bG)=some false
 eY:W.kitOne K (.ref c) (.ref bJ)=some false
 fV:W.kitOne K (.ref c) (.ref bQ)=some false
 dW:W.kitOne K (.ref c) (.ref bD)=some false
 cM:W.kitOne K (.ref c) (.type "ValueError")=some true
theorem qt_2{K:W.Frag}{t:Addr}{b e:Str}{k0 k1 g:Nat}{f:Option Addr}{h:Array (Option nL)}(q:K.lookup t=some ⟨.type "tuple",f,.seq #[.str b k0,.str e k1] g,h⟩):∀H:Hp,Ax K H t ([.str b,.str e]:List V):=λH=>.inr ⟨_,_,_,q,rfl,rfl,(by show 2<=sizeLine;decide),(.cons ⟨_,rfl⟩ (.cons ⟨_,rfl⟩ .nil))⟩
theorem qt_6{K:W.Frag}{t:Addr}{b e f g h i:Str}{k0 k1 k2 k3 j k5 n:Nat}{m:Option Addr}{o:Array (Option nL)}(q:K.lookup t=some ⟨.type "tuple",m,.seq #[.str b k0,.str e k1,.str f k2,.str g k3,.str h j,.str i k5] n,o⟩):∀H:Hp,Ax K H t ([.str b,.str e,.str f,.str g,.str h,.str i]:List V):=λH=>.inr ⟨_,_,_,q,rfl,rfl,(by show 6<=sizeLine;decide),(.cons ⟨_,rfl⟩ (.cons ⟨_,rfl⟩ (.cons ⟨_,rfl⟩ (.cons ⟨_,rfl⟩ (.cons ⟨_,rfl⟩ (.cons ⟨_,rfl⟩ .nil))))))⟩
set_option genInjectivity false in
set_option genSizeOf false in
structure PL where
 wV:Addr
 wW:Addr
 wX:Addr
 wY:Addr
 wZ:Addr
 xA:Addr
 IC:Addr
 xB:Addr
 xC:Addr
 xD:Addr
 xE:Addr
 xF:Addr
 xG:Addr
 xH:Addr
 xI:Addr
 xJ:Addr
 xK:Addr
 IE:Addr
 xM:Addr
 xN:Addr
 xO:Addr
 xP:Addr
 xQ:Addr
 xR:Addr
 xS:Addr
 xU:Addr
 xV:Addr
 IG:Addr
 xW:Addr
 IH:Addr
 xX:Addr
 xY:Addr
 xZ:Addr
 yA:Addr
 yB:Addr
 II:Addr
 yC:Addr
 yD:Addr
 yE:Addr
 yF:Addr
 yG:Addr
 yH:Addr
 yI:Addr
 yJ:Addr
 yK:Addr
 yL:Addr
 rA:Addr
 IJ:Addr
 yM:Addr
 yN:Addr
 IK:Addr
 IL:Addr
 yO:Addr
 IM:Addr
 yP:Addr
 IP:Addr
 yQ:Addr
 yR:Addr
 yS:Addr
 yT:Addr
 yU:Addr
 yV:Addr
 yW:Addr
 yX:Addr
 yY:Addr
 yZ:Addr
 zA:Addr
 zB:Addr
 zC:Addr
 zD:Addr
 zE:Addr
 zF:Addr
 zG:Addr
 zH:Addr
 jP:Addr
structure Txt(K:W.Frag)(mg:Str->Option nL)(ad:PL)(aC aA aD aB aE aQ bE bC bG bJ bQ bD aF aG bK aY aX:Addr):Prop where
 fW:mg "NoHall"=some (.ref aC)
 dZ:mg "NoListener"=some (.ref aA)
 lS:mg "NoLoss"=some (.ref aD)
 jQ:mg "TooMany"=some (.ref aB)
 lU:mg "Unsafe"=some (.ref aE)
 kQ:mg "RoundError"=some (.ref aQ)
 pF:mg "NoWheel"=some (.ref bE)
 pG:mg "NoChain"=some (.ref bC)
 pH:mg "TooMuch"=some (.ref bG)
 rB:mg "NoPart"=some (.ref bJ)
 vF:mg "NoRow"=some (.ref bQ)
 pI:mg "NoStand"=some (.ref bD)
 BX:mg "Desk"=some (.ref aF)
 aI:Cls K aF
 vG:Mk K aF ad.rA
 IQ:∃fd,Uw K "__init__" "Desk.__init__" ot ad.rA fd
 zI:Dm K aF "told" "Desk.told" qb ad.yQ
 IT:Dm K aF "told_of_one" "Desk.told_of_one" A41 ad.IP
 IU:Dm K aF "refuse_without_stand" "Desk.refuse_without_stand" A3x ad.IJ
 nY:Dm K aF "put" "Desk.put" qk ad.yM
 zJ:Dm K aF "new_hall" "Desk.new_hall" ou ad.yN
 IV:Dm K aF "new_wheel" "Desk.new_wheel" zq ad.IK
 IW:Dm K aF "rank_text" "Desk.rank_text" A42 ad.IL
 zK:Dm K aF "do_turn" "Desk.do_turn" pc ad.yP
 zL:Dm K aF "let_join" "Desk.let_join" ow ad.yO
 IX:Dm K aF "let_leave" "Desk.let_leave" A43 ad.IM
 aM:NoAttr K aF "hall"
 aH:NoAttr K aF "standing"
 bL:NoAttr K aF "table"
 cU:NoAttr K aF "wheel"
 IY:Df K mg "divisor" qx ad.wV
 IZ:Df K mg "least_round" pd ad.wW
 JA:Df K mg "shares" ia ad.wX
 JB:Df K mg "are_chain" gz ad.wY
 JC:Df K mg "have_room" pw ad.wZ
 JD:Df K mg "free_first" pj ad.xA
 UP:Df K mg "rising_firsts" A44 ad.IC
 zM:Dl K mg "chain_wheel" Xz ad.xB aG
 BZ:K.lookup aG=none
 JE:Df K mg "doubling" qf ad.xC
 JF:Df K mg "doubled" Y3 ad.xD
 JG:Df K mg "halved_down" pe ad.xE
 JH:Df K mg "best_base" Y2 ad.xF
 JI:Df K mg "wheel_for" pz ad.xG
 JJ:Dd K mg "hall_of" qy ad.xH (Value.none)
 JK:Df K mg "beginning" qa ad.xI
 JL:Df K mg "may_lose" qg ad.xJ
 JM:Df K mg "is_listener" pf ad.xK
 UQ:Df K mg "refuse_wrong_turn" A3z ad.IE
 JN:Df K mg "left_behind" gu ad.xM
 JO:Df K mg "quiet_behind" ox ad.xN
 JP:Dd K mg "after" r9 ad.xO (Value.bool false)
 JQ:Df K mg "all_behind" pk ad.xP
 JR:Dd K mg "broken_ones" gw ad.xQ (Value.bool false)
 JS:Df K mg "quiet_values" oy ad.xR
 JT:Df K mg "how_many" qh ad.xS
 JU:Df K mg "all_left" i9 ad.xU
 JV:Df K mg "standings" i4 ad.xV
 UR:Df K mg "calls_by_standing" A40 ad.IG
 JW:Df K mg "ways_to" qz ad.xW
 US:Df K mg "without_calls_left" A3y ad.IH
 JX:Df K mg "ranks" ib ad.xX
 JY:Df K mg "worth" re ad.xY
 JZ:Df K mg "call_worth" gx ad.xZ
 KA:Df K mg "best_call" i5 ad.yA
 KC:Df K mg "worst_answer" oz ad.yB
 UT:Df K mg "with_newcomer" A45 ad.II
 KD:Df K mg "joined" r8 ad.yC
 KG:Df K mg "without_place" oq ad.yD
 KH:Df K mg "left_out" qi ad.yE
 KI:Df K mg "heard" rf ad.yF
 KJ:Df K mg "is_number" i6 ad.yG
 KL:Df K mg "numbers_of" Y0 ad.yH
 KN:Df K mg "takes" rh ad.yI
 KO:Df K mg "row_read" qj ad.yJ
 KP:Df K mg "numbers_text" gr ad.yK
 KQ:Df K mg "place_text" pp ad.yL
 KR:Df K mg "_law_cell_at" ph ad.yR
 KS:Df K mg "_law_big" r6 ad.yS
 KU:Df K mg "_law_hall" ql ad.yT
 KW:Df K mg "_law_many" qm ad.yU
 KY:Df K mg "_law_kind" qo ad.yV
 KZ:Df K mg "_law_told" qp ad.yW
 LA:Df K mg "_law_words" i7 ad.yX
 LB:Df K mg "_law_wheel" i8 ad.yY
 LC:Df K mg "_law_turn" qr ad.yZ
 LD:Df K mg "_law_begun" qc ad.zA
 LF:Df K mg "_law_joined" pq ad.zB
 LG:Df K mg "_law_left" qt ad.zC
 LH:Df K mg "_law_asked" qe ad.zD
 LI:Df K mg "_law_called" Y1 ad.zE
 LJ:Df K mg "_law_refused" pi ad.zF
 LK:Df K mg "_law_deed" qu ad.zG
 LL:Df K mg "_law_done" qw ad.zH
 zN:Df K mg "law" Xy ad.jP
 LM:mg "sum"=none
 fX:mg "sorted"=none
 rC:mg "all"=none
 rD:mg "zip"=none
 zO:mg "any"=none
 cA:mg "range"=none
 bM:mg "len"=none
 iV:mg "min"=none
 jR:mg "max"=none
 LN:mg "set"=none
 kR:mg "tuple"=none
 gT:mg "enumerate"=none
 lV:mg "int"=none
 aR:mg "isinstance"=none
 bH:mg "str"=none
 kS:mg "ValueError"=none
 gI:∃t,mg "MOST_LISTENERS"=some (.int 8 t)
 gJ:∃t,mg "MOST_STANDINGS"=some (.int 3000 t)
 iW:∃t,mg "MOST_FIGURES"=some (.int 100 t)
 pJ:∃t,mg "FIGURES"=some (.str "0123456789" t)
 kT:mg "ROWS_ALONE"=some (.ref bK)
 kU:∀H:Hp,Ax K H bK ([.str "best",.str "rank"]:List V)
 hV:mg "ROWS_WITH_ONE"=some (.ref aY)
 iA:∀H:Hp,Ax K H aY ([.str "call",.str "lost",.str "answer",.str "join",.str "leave",.str "turn"]:List V)
 gK:mg "ROWS_WITH_SOME"=some (.ref aX)
 gL:∀H:Hp,Ax K H aX ([.str "hall",.str "wheel"]:List V)
 iX:ExcC K aC
 fY:ExcC K aA
 rE:ExcC K aD
 pK:ExcC K aB
 rF:ExcC K aE
 kW:ExcC K aQ
 kX:W.subIn K (.ref aQ) (.type "BaseException")=some true
 LO:W.specialIn K (.builtin "object.__class__") "__get__"=some (some (.builtin "getset_descriptor.__get__"))
 LP:W.takesIn K (.builtin "object.__class__")=some true
 aU:Kx K aC bC aC aA aD bJ bQ bD bE aQ aB bG aE true false false false false
 aL:Kx K aA bC aC aA aD bJ bQ bD bE aQ aB bG aE false true false false false
 aV:Kx K aD bC aC aA aD bJ bQ bD bE aQ aB bG aE false false true false false
 aP:Kx K aB bC aC aA aD bJ bQ bD bE aQ aB bG aE false false false true false
 aW:Kx K aE bC aC aA aD bJ bQ bD bE aQ aB bG aE false false false false true
inductive J1(p0 p1 p2:Prop):Prop where
 |mk (h0:p0) (h1:p1) (h2:p2):J1 p0 p1 p2
inductive Ed(p0 p1 p2 p3:Prop):Prop where
 |mk (h0:p0) (h1:p1) (h2:p2) (h3:p3):Ed p0 p1 p2 p3
inductive Dv(p0 p1 p2 p3 p4:Prop):Prop where
 |mk (h0:p0) (h1:p1) (h2:p2) (h3:p3) (h4:p4):Dv p0 p1 p2 p3 p4
inductive Hs(p0 p1 p2 p3 p4 p5:Prop):Prop where
 |mk (h0:p0) (h1:p1) (h2:p2) (h3:p3) (h4:p4) (h5:p5):Hs p0 p1 p2 p3 p4 p5
inductive Pe(p0 p1 p2 p3 p4 p5 p6:Prop):Prop where
 |mk (h0:p0) (h1:p1) (h2:p2) (h3:p3) (h4:p4) (h5:p5) (h6:p6):Pe p0 p1 p2 p3 p4 p5 p6
inductive Yb(p0 p1 p2 p3 p4 p5 p6 p7:Prop):Prop where
 |mk (h0:p0) (h1:p1) (h2:p2) (h3:p3) (h4:p4) (h5:p5) (h6:p6) (h7:p7):Yb p0 p1 p2 p3 p4 p5 p6 p7
inductive R6(p0 p1 p2 p3 p4 p5 p6 p7 p8:Prop):Prop where
 |mk (h0:p0) (h1:p1) (h2:p2) (h3:p3) (h4:p4) (h5:p5) (h6:p6) (h7:p7) (h8:p8):R6 p0 p1 p2 p3 p4 p5 p6 p7 p8
inductive N7(p0 p1 p2 p3 p4 p5 p6 p7 p8 p9:Prop):Prop where
 |mk (h0:p0) (h1:p1) (h2:p2) (h3:p3) (h4:p4) (h5:p5) (h6:p6) (h7:p7) (h8:p8) (h9:p9):N7 p0 p1 p2 p3 p4 p5 p6 p7 p8 p9
inductive Ww(p0 p1 p2 p3 p4 p5 p6 p7 p8 p9 zQ:Prop):Prop where
 |mk (h0:p0) (h1:p1) (h2:p2) (h3:p3) (h4:p4) (h5:p5) (h6:p6) (h7:p7) (h8:p8) (h9:p9) (PM:zQ):Ww p0 p1 p2 p3 p4 p5 p6 p7 p8 p9 zQ
inductive nh(p0 p1 p2 p3 p4 p5 p6 p7 p8 p9 zQ LQ LR LS LU:Prop):Prop where
 |mk (h0:p0) (h1:p1) (h2:p2) (h3:p3) (h4:p4) (h5:p5) (h6:p6) (h7:p7) (h8:p8) (h9:p9) (PM:zQ) (h11:LQ) (h12:LR) (h13:LS) (h14:LU):nh p0 p1 p2 p3 p4 p5 p6 p7 p8 p9 zQ LQ LR LS LU
inductive ni(p0 p1 p2 p3 p4 p5 p6 p7 p8 p9 zQ LQ LR LS LU p15:Prop):Prop where
 |mk (h0:p0) (h1:p1) (h2:p2) (h3:p3) (h4:p4) (h5:p5) (h6:p6) (h7:p7) (h8:p8) (h9:p9) (PM:zQ) (h11:LQ) (h12:LR) (h13:LS) (h14:LU) (h15:p15):ni p0 p1 p2 p3 p4 p5 p6 p7 p8 p9 zQ LQ LR LS LU p15
inductive Pt{T0 T1:Type}(p:T0->T1->Prop):Prop where
 |mk (x0:T0) (x1:T1) (h:p x0 x1):Pt p
inductive Je{T0 T1 T2:Type}(p:T0->T1->T2->Prop):Prop where
 |mk (x0:T0) (x1:T1) (x2:T2) (h:p x0 x1 x2):Je p
inductive Ut{T0 T1 T2 T3:Type}(p:T0->T1->T2->T3->Prop):Prop where
 |mk (x0:T0) (x1:T1) (x2:T2) (x3:T3) (h:p x0 x1 x2 x3):Ut p
inductive LV{T0 T1 T2 T3 T4:Type}(p:T0->T1->T2->T3->T4->Prop):Prop where
 |mk (x0:T0) (x1:T1) (x2:T2) (x3:T3) (x4:T4) (h:p x0 x1 x2 x3 x4):LV p
inductive jy{T0 T1 T2 T3 T4 T5:Type}(p:T0->T1->T2->T3->T4->T5->Prop):Prop where
 |mk (x0:T0) (x1:T1) (x2:T2) (x3:T3) (x4:T4) (x5:T5) (h:p x0 x1 x2 x3 x4 x5):jy p
inductive nj{T0 T1 T2 T3 T4 T5 T6:Type}(p:T0->T1->T2->T3->T4->T5->T6->Prop):Prop where
 |mk (x0:T0) (x1:T1) (x2:T2) (x3:T3) (x4:T4) (x5:T5) (x6:T6) (h:p x0 x1 x2 x3 x4 x5 x6):nj p
inductive Yd{T0 T1 T2 T3 T4 T5 T6 T7:Type}(p:T0->T1->T2->T3->T4->T5->T6->T7->Prop):Prop where
 |mk (x0:T0) (x1:T1) (x2:T2) (x3:T3) (x4:T4) (x5:T5) (x6:T6) (x7:T7) (h:p x0 x1 x2 x3 x4 x5 x6 x7):Yd p
inductive aq{T0 T1 T2 T3 T4 T5 T6 T7 T8:Type}(p:T0->T1->T2->T3->T4->T5->T6->T7->T8->Prop):Prop where
 |mk (x0:T0) (x1:T1) (x2:T2) (x3:T3) (x4:T4) (x5:T5) (x6:T6) (x7:T7) (x8:T8) (h:p x0 x1 x2 x3 x4 x5 x6 x7 x8):aq p
inductive Sv{T0 T1 T2 T3 T4 T5 T6 T7 T8 T9:Type}(p:T0->T1->T2->T3->T4->T5->T6->T7->T8->T9->Prop):Prop where
 |mk (x0:T0) (x1:T1) (x2:T2) (x3:T3) (x4:T4) (x5:T5) (x6:T6) (x7:T7) (x8:T8) (x9:T9) (h:p x0 x1 x2 x3 x4 x5 x6 x7 x8 x9):Sv p
inductive A2o{T0 T1 T2 T3 T4 T5 T6 T7 T8 T9 T10:Type}(p:T0->T1->T2->T3->T4->T5->T6->T7->T8->T9->T10->Prop):Prop where
 |mk (x0:T0) (x1:T1) (x2:T2) (x3:T3) (x4:T4) (x5:T5) (x6:T6) (x7:T7) (x8:T8) (x9:T9) (x10:T10) (h:p x0 x1 x2 x3 x4 x5 x6 x7 x8 x9 x10):A2o p
def An(H:Hp)(a:Addr)(ws:mY)(calm:nf):Prop:=∃t,H a=some (.tup [.ref t,vO calm])/\H t=some (.tup (ws.map V.int))
def Cb(H:Hp)(b:Addr)(ls:mY)(q:Int):Prop:=∃u,H b=some (.tup [.ref u,.int q])/\H u=some (.tup (ls.map V.int))
theorem An.same{H b:Hp}{a:Addr}{ws:mY}{calm:nf}(s:A6 H b)(h:An H a ws calm):An b a ws calm:=by
 obtain⟨t,e,f⟩:=h;exact{t,s _ _ e,s _ _ f}
theorem Cb.same{H b:Hp}{a:Addr}{ls:mY}{q:Int}(s:A6 H b)(h:Cb H a ls q):Cb b a ls q:=by
 obtain⟨t,e,f⟩:=h;exact{t,s _ _ e,s _ _ f}
theorem A2l(c:nf):decide (vO c=V.bB)=decide (c=none):=by cases c<;>simp[vO]
def Au(ws ls:mY)(who:Nat)(lost:Bool):mY:=if lost=true then ls.map (λx=>x-1)else(ls.map (λx=>x-1)).set who (ws.getD who 0)
def Bl(calm:nf)(q:Int)(lost:Bool):Int:=if lost=true then calm.getD 0 else max (q-1) 0
def N9(calm:nf)(q:Int)(lost:Bool):Prop:=lost=true->calm≠none/\q=0
theorem Dy(ws ls:mY)(who:Nat)(lost:Bool):(Au ws ls who lost).length=ls.length:=by
 unfold Au;split<;>simp
theorem Tq(x:Int):∀ns:mY,Pd (.int x) (ns.map V.int)=decide (x∈ns)
 |[]=>rfl
 |n::ns=>by
  show(jw (V.int n) (V.int x)||Pd (.int x) (ns.map V.int))=_;rw[Tq x ns];show((n==x)||decide (x∈ns))=_;by_cases h:n=x
  ·simp[h]
  ·have b:¬x=n:=λe=>h e.symm;simp[h,b]
theorem Qb:∀ns:mY,(ns.map V.int).all Hq=true
 |[]=>rfl
 |n::ns=>by
  show(Hq (V.int n)&&(ns.map V.int).all Hq)=true;rw[Qb ns];rfl
theorem Rs{ws:mY}{k:Nat}(h:k<ws.length):Ls (ws.map V.int) (k:Int)=some (.int (ws.getD k 0)):=by
 refine Et ?_;rw[List.getElem?_map,List.getElem?_eq_getElem h,List.getD_eq_getElem?_getD,List.getElem?_eq_getElem h];rfl
theorem Xg{n k:Nat}(h:k<n):dq n (k:Int)=some k:=by
 unfold dq;rw[if_pos (),if_pos ()];simp
theorem Ym{a b:Int}{m:Nat}(e:intBits a<=m)(f:intBits b<=m):intBits (a+b)<=m+1:=by
 have h:=bits_add e f;rw[Nat.max_self]at h;exact h
theorem Ct{a:Int}{n:Nat}(h:a.natAbs<2^n):intBits a<=n:=intBits_le h
theorem B3(x:Int){m:Int}(h:0<m):0<=x%m/\x%m<m:={Int.emod_nonneg x (),Int.emod_lt_of_pos x h}
theorem o4:(0:Int)<10^(60:Int).toNat:=by decide+kernel
def V7(xs:mY)(b e:nf):mY:=(xs.drop (HT.bS xs.length 0 b)).take (HT.bS xs.length xs.length e-HT.bS xs.length 0 b)
theorem Q8(xs:mY)(e b:nf):Ji (xs.map V.int) e b=(V7 xs e b).map V.int:=by
 unfold Ji V7;rw[List.length_map,List.map_take,List.map_drop]
theorem Rk{xs:List V}{c:Int}(b:0<=c)(h:c<=xs.length):Ji xs none (some c)=xs.take c.toNat:=by
 obtain⟨n,rfl⟩:∃n:Nat,c=n:={c.toNat,()};unfold Ji;rw[HT.cV,HT.dC];have e:min n xs.length=n:=()
 rw[e];simp
theorem Kv{xs:List V}{c:Int}(b:0<=c)(h:c<=xs.length):Ji xs (some c) none=xs.drop c.toNat:=by
 obtain⟨n,rfl⟩:∃n:Nat,c=n:={c.toNat,()};unfold Ji;rw[HT.cV,HT.dC];have e:min n xs.length=n:=()
 rw[e,Int.toNat_natCast,List.take_of_length_le];rw[List.length_drop];omega
theorem Yn{a b:Int}{m n:Nat}(g:intBits a<=m)(h:intBits b<=n):intBits (a*b)<=m+n:=by
 apply intBits_le;rw[Int.natAbs_mul,Nat.pow_add];have e:=fy (natAbs_lt_pow_bits a) (Nat.pow_le_pow_right #[] g);have f:=fy (natAbs_lt_pow_bits b) (Nat.pow_le_pow_right #[] h);exact Nat.mul_lt_mul'' e f
theorem Go{n:Nat}(h:n<=10000):n<sizeLine:=me h #[]
def Az(H f:Hp):Prop:=∀b e,H b=some (.tup e)->f b=some (.tup e)
theorem Az.of{H f:Hp}(s:A6 H f):Az H f:=λb g e=>s b _ e
theorem Az.trans{H f g:Hp}(a:Az H f)(b:Az f g):Az H g:=λc h e=>b c h (a c h e)
theorem Az.lst{H:Hp}{D:Addr}{f:List V}{o:HO}(h:H D=some (.lst f)):Az H (upd H D o):=λb g e=>by
 rw[A9 (Bj e h (by intro z;cases z))];exact e
def Fk(H:Hp)(r:mY)(v:V):Prop:=∃p,v=.ref p/\H p=some (.tup (r.map V.int))
def Lq(H:Hp)(z:mY×Int)(v:V):Prop:=∃p u,v=.ref p/\H p=some (.tup [.ref u,.int z.2])/\H u=some (.tup (z.1.map V.int))
theorem Fk.up{H b:Hp}{r:mY}{v:V}(t:Az H b)(h:Fk H r v):Fk b r v:=by
 obtain⟨p,e,f⟩:=h;exact{p,e,t _ _ f}
theorem Lq.up{H b:Hp}{z:mY×Int}{v:V}(t:Az H b)(h:Lq H z v):Lq b z v:=by
 obtain⟨p,u,e,f,g⟩:=h;exact{p,u,e,t _ _ f,t _ _ g}
def Ap{b:Type}(P:b->V->Prop)(e:List b)(vs:List V):Prop:=vs.length=e.length/\∀(i:Nat) (r:b) (v:V),e[i]?=some r->vs[i]?=some v->P r v
theorem Ap.nil{b:Type}{P:b->V->Prop}:Ap P [] []:={rfl,λi r v e=>by cases e}
theorem Ap.imp{g:Type}{P b:g->V->Prop}{e:List g}{vs:List V}(f:∀r v,P r v->b r v)(h:Ap P e vs):Ap b e vs:={h.1,λi r v j m=>f _ _ (h.2 i r v j m)}
theorem Ap.append{j:Type}{P:j->V->Prop}{f ss:List j}{vs us:List V}(h:Ap P f vs)(g:Ap P ss us):Ap P (f++ss) (vs++us):=by
 refine{by rw[List.length_append,List.length_append,h.1,g.1],λi r v b e=>?_};rcases iE i f.length with z|z
 ·rw[List.getElem?_append_left z]at b;rw[List.getElem?_append_left (by rw[h.1];exact z)]at e;exact h.2 i r v b e
 ·rw[List.getElem?_append_right z]at b;rw[List.getElem?_append_right (by rw[h.1];exact z),h.1]at e;exact g.2 _ r v b e
theorem Ap.one{e:Type}{P:e->V->Prop}{r:e}{v:V}(h:P r v):Ap P [r] [v]:=by
 refine{rfl,λi g j b f=>?_};cases i with
 |zero=>cases b;cases f;exact h
 |succ i=>cases b
theorem Ap.get{g:Type}{P:g->V->Prop}{b:List g}{vs:List V}(h:Ap P b vs){i:Nat}{v:V}(e:vs[i]?=some v):∃r,b[i]?=some r/\P r v:=by
 have m:=(b0.mp e).1
 have j:i<b.length:=by
  rw[<- h.1];exact m
 have f:b[i]?=some b[i]:=d3 j;exact{_,f,h.2 i _ v f e}
def qv:nf->Int
 |none=>1
 |some c=>c+1
def Ao(q:Int)(ws:mY):Int:=ws.foldl (·*·) q
def Rt(r:mY)(w:Int):List (mY):=(List.range w.toNat).map λt=>r++[1+((t:Nat):Int)]
def Bz(b:List (mY))(w:Int):List (mY):=b.flatMap λr=>Rt r w
def Cd(ws:mY):List (mY):=ws.foldl Bz [[]]
def Gp(r:mY)(q:Int):List (mY×Int):=(List.range q.toNat).map λk=>(r,0+((k:Nat):Int))
def Ba(ws:mY)(q:Int):List (mY×Int):=(Cd ws).flatMap λr=>Gp r q
theorem F0{e g:Type}(f:g->e->g)(b:g)(xs:List e){i:Nat}{x:e}(h:xs[i]?=some x):(xs.take (i+1)).foldl f b=f ((xs.take i).foldl f b) x:=by
 rw[List.take_add_one,h,List.foldl_append];rfl
theorem Qc{b e:Type}(f:b->List e)(xs:List b){i:Nat}{x:b}(h:xs[i]?=some x):(xs.take (i+1)).flatMap f=(xs.take i).flatMap f++f x:=by
 rw[List.take_add_one,h,List.flatMap_append];simp
theorem Iu{q:Int}(b:intBits q<=256):∀{ws:mY},(∀w∈ws,intBits w<=256)->∀i,i<=ws.length->intBits (Ao q (ws.take i))<=256*(i+1)
 |ws,h,0,_=>by simpa[Ao]using b
 |ws,h,i+1,g=>by
  have f:ws[i]?=some ws[i]:=d3 ();have e:=Iu b h i ();unfold Ao at e⊢;rw[F0 _ _ _ f];exact ea (Yn e (h _ (ml _))) ()
theorem Ld(q:Int):∀(ws:mY) (a:Int),Ao (q*a) ws=q*Ao a ws
 |[],a=>rfl
 |w::ws,a=>by
  show Ao (q*a*w) ws=q*Ao (a*w) ws;rw[Int.mul_assoc,Ld q ws (a*w)]
theorem O4{b g:Type}{f:b->List g}{n:Nat}:∀{xs:List b},(∀x∈xs,(f x).length=n)->(xs.flatMap f).length=xs.length*n
 |[],_=>by simp
 |x::xs,h=>by
  rw[List.flatMap_cons,List.length_append,h x (List.mem_cons_self ..),O4 λy e=>h y (List.mem_cons_of_mem _ e),List.length_cons,Nat.succ_mul];omega
theorem Tv(r:mY)(w:Int):(Rt r w).length=w.toNat:=by simp[Rt]
theorem Qy(r:mY)(q:Int):(Gp r q).length=q.toNat:=by simp[Gp]
theorem P6(b:List (mY))(w:Int):(Bz b w).length=b.length*w.toNat:=O4 λr _=>Tv r w
theorem P0:∀(ws:mY) (rows:List (mY)),(∀w∈ws,1<=w)->((ws.foldl Bz rows).length:Int)=Ao (rows.length:Int) ws
 |[],rows,_=>rfl
 |w::ws,rows,h=>by
  have e:=h w (c4 ..);show((ws.foldl Bz (Bz rows w)).length:Int)=Ao ((rows.length:Int)*w) ws;rw[P0 ws _ (λx b=>h x (List.mem_cons_of_mem _ b)),P6];congr 1;rw[Int.natCast_mul];congr 1;omega
theorem Iv:∀(ws:mY) (a:Int),0<=a->(∀w∈ws,1<=w)->a<=Ao a ws
 |[],a,_,_=>Int.le_refl _
 |w::ws,a,e,h=>by
  have f:=h w (c4 ..)
  have b:a<=a*w:=by
   have:=i3 f e;rw[Int.mul_one]at this;exact this
  exact mv b (Iv ws (a*w) (mv e b) λx g=>h x (d0 _ g))
theorem aa{ws:mY}{a:Int}(f:0<=a)(h:∀w∈ws,1<=w)(i:Nat):Ao a (ws.take i)<=Ao a ws:=by
 have e:Ao a ws=Ao (Ao a (ws.take i)) (ws.drop i):=by
  unfold Ao;rw[<- List.foldl_append,List.take_append_drop]
 rw[e];refine Iv _ _ (mv f (Iv _ _ f λw b=>h w (List.mem_of_mem_take b))) λw b=>h w (List.mem_of_mem_drop b)
theorem Rv{r x:mY}{w:Int}(h:x∈Rt r w):∃t:Nat,t<w.toNat/\x=r++[1+(t:Int)]:=by
 unfold Rt at h;obtain⟨t,b,rfl⟩:=ft.mp h;exact{t,mx.mp b,rfl}
theorem Kc(ws:mY):∀i,i<=ws.length->∀r∈Cd (ws.take i),r.length=i/\∀(k:Nat) (x w:Int),r[k]?=some x->ws[k]?=some w->1<=x/\x<=w
 |0,_,r,h=>by
  have e:r=[]:=iT.mp h;subst e;exact{rfl,λk x w e=>by cases e}
 |i+1,v,r,h=>by
  have j:ws[i]?=some ws[i]:=d3 ();have e:Cd (ws.take (i+1))=Bz (Cd (ws.take i)) ws[i]:=F0 _ _ _ j;rw[e]at h;obtain⟨m,n,o⟩:=List.mem_flatMap.mp h;obtain⟨t,u,rfl⟩:=Rv o;obtain⟨g,p⟩:=Kc ws i () m n;refine{by simp[g],λk x w b f=>?_};rcases iE k m.length with z|z
  ·rw[List.getElem?_append_left z]at b;exact p k x w b f
  ·have q:k=i:=by
    have:=(b0.mp b).1;rw[List.length_append,List.length_singleton]at this;omega
   subst q;rw[List.getElem?_append_right z,g,Nat.sub_self]at b;cases b;rw[j]at f;cases f;omega
def Yh(r s:mY):Prop:=bA (r.map PyData.int) (s.map PyData.int)=true
theorem My(a b:Int):PyData.eqv (.int a) (.int b)=decide (a=b):=by
 show(a==b)=_;by_cases h:a=b<;>simp[h]
theorem Ru:∀r:mY,¬Yh r r
 |[]=>by unfold Yh;simp[bA]
 |x::r=>λh=>by
  have b:=Ru r;unfold Yh at h b;rw[List.map_cons,bA,My,if_pos (by simp)]at h;exact b h
theorem Tx:∀{r s:mY}{x y:Int},r.length=s.length->Yh r s->Yh (r++[x]) (s++[y])
 |[],[],x,y,_,h=>absurd h (Ru [])
 |[],_::_,_,_,f,_=>by simp at f
 |_::_,[],_,_,f,_=>by simp at f
 |a::r,b::s,x,y,f,h=>by
  unfold Yh at h⊢;rw[List.cons_append,List.cons_append,List.map_cons,List.map_cons,bA]at*;by_cases e:PyData.eqv (.int a) (.int b)=true
  ·rw[if_pos e]at h⊢;exact Tx (r:=r) (s:=s) (by simpa using f) h
  ·rw[if_neg e]at h⊢;exact h
theorem Tw:∀{r:mY}{x y:Int},x<y->Yh (r++[x]) (r++[y])
 |[],x,y,h=>by
  unfold Yh;show bA [PyData.int x] [PyData.int y]=true;rw[bA,My,if_neg (by simp;omega),Uu];exact decide_eq_true h
 |a::r,x,y,h=>by
  unfold Yh;rw[List.cons_append,List.cons_append,List.map_cons,List.map_cons,bA,My,if_pos (by simp)];exact Tw (r:=r) h
theorem Vl(r:mY)(w:Int):(Rt r w).Pairwise Yh:=by
 unfold Rt;rw[List.pairwise_map];exact List.pairwise_lt_range.imp λh=>Tw ()
theorem M7(ws:mY):∀i,i<=ws.length->(Cd (ws.take i)).Pairwise Yh
 |0,_=>by
  show([[]]:List (mY)).Pairwise Yh;exact List.pairwise_singleton _ _
 |i+1,q=>by
  have j:ws[i]?=some ws[i]:=d3 ();have e:Cd (ws.take (i+1))=Bz (Cd (ws.take i)) ws[i]:=F0 _ _ _ j;rw[e];unfold Bz;rw[List.pairwise_flatMap];refine{λr _=>Vl r _,?_};refine(M7 ws i ()).imp_of_mem λ{a b} f g h x m y n=>?_;obtain⟨t,_,rfl⟩:=Rv m;obtain⟨u,_,rfl⟩:=Rv n;have o:=(Kc ws i () a f).1;have p:=(Kc ws i () b g).1;exact Tx () h
def dS(z:mY×Int):oa:=dP (dT z.1) (.int z.2)
theorem ez{a b:mY×Int}(h:Yh a.1 b.1\/(a.1=b.1/\a.2<b.2)):Uu (dS a) (dS b)=true:=by
 show bA [dT a.1,.int a.2] [dT b.1,.int b.2]=true;rw[bA,uv];rcases h with h|⟨g,i⟩
 ·have f:¬a.1=b.1:=λe=>by
   rw[e]at h;exact Ru _ h
  rw[if_neg (by simpa using f)];exact h
 ·rw[if_pos (by simpa using g),bA,My,if_neg (by simp;omega),Uu];exact decide_eq_true i
theorem Rx{r:mY}{q:Int}{z:mY×Int}(h:z∈Gp r q):z.1=r/\0<=z.2/\z.2<q:=by
 unfold Gp at h;obtain⟨k,b,rfl⟩:=ft.mp h;have:=mx.mp b;exact{rfl,by show 0<=0+(k:Int);omega,by show 0+(k:Int)<q;omega}
theorem So(ws:mY)(q:Int):(Ba ws q).Pairwise λa b=>Uu (dS a) (dS b)=true:=by
 unfold Ba;rw[List.pairwise_flatMap];refine{λr _=>?_,?_}
 ·unfold Gp;rw[List.pairwise_map];exact List.pairwise_lt_range.imp λ{a b} h=>ez (a:=(r,0+((a:Nat):Int))) (b:=(r,0+((b:Nat):Int))) (.inr ⟨rfl,by show 0+((a:Nat):Int)<0+((b:Nat):Int);omega⟩)
 ·have h:=M7 ws ws.length (de _);rw[List.take_length]at h;refine h.imp λ{a b} h x e y f=>?_;exact ez (.inl (by rw[(Rx e).1,(Rx f).1];exact h))
theorem Qw{ws:mY}{q:Int}(h:∀w∈ws,1<=w)(b:0<=q):((Ba ws q).length:Int)=Ao q ws:=by
 unfold Ba;rw[O4 λr _=>Qy r q,Int.natCast_mul];have e:((Cd ws).length:Int)=Ao 1 ws:=P0 ws [[]] h;rw[e,Int.toNat_of_nonneg b,Int.mul_comm,<- Ld,Int.mul_one]
theorem Du{ws:mY}{q:Int}{z:mY×Int}(h:z∈Ba ws q):z.1.length=ws.length/\(∀(k:Nat) (x w:Int),z.1[k]?=some x->ws[k]?=some w->1<=x/\x<=w)/\0<=z.2/\z.2<q:=by
 obtain⟨r,e,f⟩:=List.mem_flatMap.mp h;obtain⟨g,i,j⟩:=Rx f;have b:=Kc ws ws.length (de _) r (by rw[List.take_length];exact e);rw[g];exact{b.1,b.2,i,j}
theorem Qs{ws:mY}(h:∀w∈ws,1<=w)(j:Ao 1 ws<=3000)(i:Nat):(Cd (ws.take i)).length<=3000:=by
 have e:=P0 (ws.take i) [[]] λw b=>h w (List.mem_of_mem_take b);have f:=aa (ws:=ws) (a:=1) #[] h i;have g:Ao (([[]]:List (mY)).length:Int) (ws.take i)=Ao 1 (ws.take i):=rfl;unfold Cd;omega
def DY(H:Hp)(v:V):Option (mY×Int)->Prop
 |none=>v=.bB
 |some r=>∃b,v=.ref b/\Cb H b r.1 r.2
def ul:Option (mY×Int)->oa
 |none=>.none
 |some r=>dP (dT r.1) (.int r.2)
theorem zo{H:Hp}{v:V}{r:Option (mY×Int)}(h:DY H v r):Rp H (ul r) v:=by
 cases r with
 |none=>
  cases h;exact gn
 |some r=>
  obtain⟨b,rfl,t,e,f⟩:=h;exact om e (A3u f) (Wb _)
theorem Ap.tail{e:Type}{P:e->V->Prop}{r:e}{v:V}{f:List e}{vs:List V}(h:Ap P (r::f) (v::vs)):P r v/\Ap P f vs:={h.2 0 r v rfl rfl,by have:=h.1;simpa using this,λi a b g j=>h.2 (i+1) a b g j}
theorem Of{b:Type}{P:b->Prop}{xs:List b}{x:b}(h:∀y∈xs,P y)(e:P x):∀y∈xs++[x],P y:=λy f=>by
 rcases fC.mp f with z|z
 ·exact h y z
 ·cases iT.mp z;exact e
theorem Cb.up{H e:Hp}{b:Addr}{ls:mY}{q:Int}(t:Az H e)(h:Cb H b ls q):Cb e b ls q:=by
 obtain⟨u,f,g⟩:=h;exact{u,t _ _ f,t _ _ g}
theorem DY.up{H f:Hp}{v:V}{r:Option (mY×Int)}(s:Az H f)(h:DY H v r):DY f v r:=by
 cases r with
 |none=>exact h
 |some r=>
  obtain⟨b,e,h⟩:=h;exact{b,e,h.up s}
def G9(ws ls:mY)(b:nf)(q:Int)(who:Nat)(lost:Bool):Option (mY×Int):=if(0:Int)∈Au ws ls who lost then none else some (Au ws ls who lost,Bl b q lost)
def Jz(b:nf)(q:Int):Bool:= !decide (b=none)&&decide (q=0)
def Bh(ws ls:mY)(b:nf)(q:Int)(who:Nat):List (Option (mY×Int)):=G9 ws ls b q who false::if Jz b q=true then[G9 ws ls b q who true]else[]
def Jd(H:Hp)(r:Option (mY×Int))(v:V):Prop:=DY H v r
theorem Jd.up{H b:Hp}{v:V}{r:Option (mY×Int)}(s:Az H b)(h:Jd H r v):Jd b r v:=DY.up s h
theorem Ap.cons{b:Type}{P:b->V->Prop}{r:b}{v:V}{e:List b}{vs:List V}(h:P r v)(g:Ap P e vs):Ap P (r::e) (v::vs):=(Ap.one h).append g
theorem Qt{H:Hp}:∀{b:List (Option (mY×Int))}{us:List V},Ap (Jd H) b us->aO H (b.map ul) us
 |[],[],_=>by unfold aO;rfl
 |[],_::_,h=>by have:=h.1;simp at this
 |_::_,[],h=>by have:=h.1;simp at this
 |r::b,u::us,h=>by
  obtain⟨e,f⟩:=h.tail;show aO H (ul r::b.map ul) (u::us);unfold aO;exact{_,_,rfl,zo e,Qt f}
theorem ki(r:Option (mY×Int)):PyData.eqv (ul r) .none=decide (r=none):=by cases r<;>rfl
theorem Rb:∀b:List (Option (mY×Int)),(b.map ul).any (λe=>PyData.eqv e .none)=decide (none∈b)
 |[]=>rfl
 |r::b=>by
  rw[List.map_cons,List.any_cons,Rb b,ki,Bool.eq_iff_iff];simp only[Bool.or_eq_true,decide_eq_true_eq,List.mem_cons];exact{λz=>z.imp Eq.symm id,λz=>z.imp Eq.symm id}
def SV(H:Hp)(v:V):Prop:=∃b k,v=.ref b/\Im H b k
def Wy(H:Hp)(cs:List (Ex×V)):Prop:=∀e∈cs,(∃i:Int,e.1=.inl i)/\∃(l:Addr) (b:List V),e.2=.ref l/\H l=some (.lst b)/\b.length<=2/\∀u∈b,SV H u
def A2n(H:Hp)(v:V):Prop:=∃(c:Addr) (b:List (Ex×V)),v=.ref c/\H c=some (.dK b)/\b.length<=8/\Wy H b
def LT(H e:Hp):Prop:=(∀b f,H b=some (.lst f)->e b=some (.lst f))/\Az H e
theorem LT.of{H f:Hp}(s:A6 H f):LT H f:={λb g e=>s b _ e,Az.of s}
theorem LT.dT{H:Hp}{D:Addr}{kvs:mF}{o:HO}(h:H D=some (.dT kvs)):LT H (upd H D o):=
 ⟨λb f e=>by rw[A9 (Bj e h (by intro z;cases z))];exact e,λb f e=>by rw[A9 (Bj e h (by intro z;cases z))];exact e⟩
theorem LT.dK{H:Hp}{D:Addr}{kvs:List (Ex×V)}{o:HO}(h:H D=some (.dK kvs)):LT H (upd H D o):=
 ⟨λb f e=>by rw[A9 (Bj e h (by intro z;cases z))];exact e,λb f e=>by rw[A9 (Bj e h (by intro z;cases z))];exact e⟩
theorem LT.trans{H f g:Hp}(a:LT H f)(b:LT f g):LT H g:={λc h e=>b.1 c h (a.1 c h e),a.2.trans b.2}
def Jg(H:Hp)(kvs:mF):Prop:=∀b∈kvs,A2n H b.2
theorem U9{f:Type}[DecidableEq f]{P:V->Prop}{kvs:List (f×V)}{k:f}{v:V}(h:∀b∈kvs,P b.2)(g:P v):∀b∈Cq kvs k v,P b.2:=λb e=>by
 unfold Cq at e;split at e
 ·obtain⟨x,i,rfl⟩:=ft.mp e;split
  ·exact g
  ·exact h x i
 ·rcases fC.mp e with z|z
  ·exact h b z
  ·cases iT.mp z;exact g
theorem E9{n:Nat}(h:n<=200000):n<sizeLine:=me h #[]
theorem Be{b:Type}[DecidableEq b]{kvs:List (b×V)}{k:b}{v:V}(h:Am kvs k=some v):(k,v)∈kvs:=by
 unfold Am at h;obtain⟨p,e,rfl⟩:=dI.mp h;have f:=List.find?_some e;have g:=List.mem_of_find?_eq_some e;have i:p.1=k:=by simpa using f
 rw[<- i];exact g
theorem Mb{b:Type}[DecidableEq b]{kvs:List (b×V)}{k:b}{v:V}(h:(k,v)∈kvs):∃w,Am kvs k=some w:=by
 cases e:Am kvs k with
 |some w=>exact{w,rfl}
 |none=>exact absurd (List.mem_map_of_mem (f:=(·.1)) h) (Uq e)
def Fi(kvs:mF)(H e:Hp):Prop:=∀b o,H b=some o->(∀f∈kvs,f.2≠ .ref b)->e b=some o
theorem Fi.of{kvs:mF}{H f:Hp}(s:A6 H f):Fi kvs H f:=λb o e _=>s b o e
theorem Fi.trans{kvs:mF}{H f g:Hp}(a:Fi kvs H f)(b:Fi kvs f g):Fi kvs H g:=λc o e n=>b c o (a c o e n) n
theorem Fi.new{kvs:mF}{H f:Hp}{p:Addr}{o:HO}(a:Fi kvs H f)(h:H p=none):Fi kvs H (upd f p o):=λb u e n=>by
 rw[A9 (Ag e h)];exact a b u e n
theorem Fi.keep{kvs:mF}{H f:Hp}{b:Addr}{o:HO}(a:Fi kvs H f)(p:Jg H kvs)(e:H b=some o)(n:∀cs,o≠ .dK cs):f b=some o:=a b o e λj i z=>by
 obtain⟨c,cs,g,h,_⟩:=p j i;rw[z]at g;cases g;rw[e]at h;exact n cs (en h)
theorem Fi.lt{kvs:mF}{H f:Hp}(a:Fi kvs H f)(p:Jg H kvs):LT H f:={λb h e=>a.keep p e (λg z=>nomatch z),λb h e=>a.keep p e (λg z=>nomatch z)}
theorem Fi.pop{kvs:mF}{H:Hp}{c:Addr}{o:HO}{f:(mY×Int)×V}(h:f∈kvs)(e:f.2=.ref c):Fi kvs H (upd H c o):=λb u g n=>by
 rw[A9 (λz=>n f h (by rw[e,z]))];exact g
def rm(H:Hp):V->Nat
 | .ref c=>match H c with
  |some (.dK b)=>b.length
  |_=>0
 |_=>0
def Cs(H:Hp)(kvs:mF):Nat:=(kvs.map λb=>rm H b.2).sum
theorem P8{H:Hp}{c:Addr}{cs:List (Ex×V)}(h:H c=some (.dK cs)):rm H (.ref c)=cs.length:=by
 unfold rm;simp only[h]
theorem Fc{H b:Hp}:∀{kvs:mF},Jg H kvs->(∀c cs,H c=some (.dK cs)->b c=some (.dK cs))->Cs b kvs=Cs H kvs
 |[],_,_=>rfl
 |kv::kvs,p,k=>by
  obtain⟨c,cs,e,f,_⟩:=p kv (by simp);have g:=Fc (kvs:=kvs) (λx h=>p x (d0 _ h)) k;unfold Cs at g⊢;rw[List.map_cons,List.map_cons,List.sum_cons,List.sum_cons,g,e,P8 f,P8 (k c cs f)]
theorem Ob{H:Hp}:∀{kvs:mF},Jg H kvs->Cs H kvs<=8*kvs.length
 |[],_=>jN _
 |kv::kvs,p=>by
  obtain⟨c,h,e,b,i,_⟩:=p kv (by simp);have g:=Ob (kvs:=kvs) (λx f=>p x (d0 _ f));unfold Cs at g⊢;rw[List.map_cons,List.sum_cons,e,P8 b,List.length_cons];omega
theorem Qj{H:Hp}{c:Addr}{cs b:List (Ex×V)}(f:H c=some (.dK cs))(i:b.length<cs.length):∀{kvs:mF},Cs (upd H c (.dK b)) kvs<=Cs H kvs/\((∃kv∈kvs,kv.2=.ref c)->Cs (upd H c (.dK b)) kvs+1<=Cs H kvs)
 |[]=>⟨de _,λ⟨kv,h,_⟩=>by cases h⟩
 |kv::kvs=>by
  obtain⟨o,g⟩:=Qj f i (kvs:=kvs)
  have one:rm (upd H c (.dK b)) kv.2<=rm H kv.2/\(kv.2=.ref c->rm (upd H c (.dK b)) kv.2+1<=rm H kv.2):=by
   by_cases z:kv.2=.ref c
   ·rw[z,P8 f,P8 A2];omega
   ·refine{Nat.le_of_eq ?_,λy=>absurd y z};unfold rm;cases m:kv.2 with
    |ref d=>
     rw[m]at z;have j:d≠c:=λy=>z (by rw[y]);simp only[A9 j]
    |_=>rfl
  unfold Cs at o g⊢;rw[List.map_cons,List.map_cons,List.sum_cons,List.sum_cons];refine{(),λ⟨x,n,e⟩=>?_};rcases eH.mp n with y|y
  ·subst y;have:=one.2 e;omega
  ·have:=g ⟨x,y,e⟩;omega
theorem kg{cs:List (Ex×V)}{k:Ex}{v:V}(h:Am cs k=some v):(Bv cs k).length<cs.length:=by
 have b:=Be h;unfold Bv;exact List.length_filter_lt_length_iff_exists.mpr ⟨(k,v),b,by simp⟩
theorem O2{cs:List (Ex×V)}{k:Ex}{e:Ex×V}(h:e∈Bv cs k):e∈cs:=(List.mem_filter.mp h).1
def Yi(B:Addr)(H:Hp)(kvs:mF):Prop:=∀f∈kvs,∀c b,f.2=.ref c->H c=some (.dK b)->∀e∈b,e.2≠ .ref B
theorem Yi.start{B:Addr}{H:Hp}{kvs:mF}(p:Jg H kvs)(h:H B=none):Yi B H kvs:=λu j c v m n e q z=>by
 obtain⟨d,x,b,f,_,o⟩:=p u j;rw[m]at b;cases b;rw[n]at f;cases f;obtain⟨_,l,y,g,i,_⟩:=o e q;rw[z]at g;cases g;rw[h]at i;cases i
theorem Yi.keep{B:Addr}{H b:Hp}{kvs:mF}(n:Yi B H kvs)(p:Jg H kvs)(k:∀c cs,H c=some (.dK cs)->b c=some (.dK cs)):Yi B b kvs:=λi f c cs g j=>by
 obtain⟨d,o,m,h,_⟩:=p i f;have e:=m;rw[g]at e;cases e;have:=k _ _ h;rw[j]at this;cases this;exact n i f c cs g h
theorem Yi.pop{B c:Addr}{H:Hp}{cs:List (Ex×V)}{k:Ex}{kvs:mF}(n:Yi B H kvs)(m:H c=some (.dK cs)):Yi B (upd H c (.dK (Bv cs k))) kvs:=λi f d j g b e h=>by
 by_cases z:d=c
 ·subst z;rw[A2]at b;cases b;exact n i f d cs g m e (O2 h)
 ·rw[A9 z]at b;exact n i f d j g b e h
theorem lg(k:mY×Int):Uu (dS k) (dS k)=false:=by
 have b:PyData.eqv (dT k.1) (dT k.1)=true:=by
  show PyData.eqvAll (k.1.map PyData.int) (k.1.map PyData.int)=true;rw[Ia];simp
 show bA [dT k.1,.int k.2] [dT k.1,.int k.2]=false;rw[bA,if_pos b,bA,if_pos (show PyData.eqv (.int k.2) (.int k.2)=true from PySem.SeqAt.eqv_refl _ rfl)];rfl
theorem Ma(ws:mY)(q:Int):(Ba ws q).Nodup:=(So ws q).imp λ{a b} h e=>by
 rw[e,lg]at h;cases h
theorem Qn{g:Type}{xs:List g}{i:Nat}{x:g}(h:xs.Nodup)(e:xs[i]?=some x):x∉xs.take i:=λz=>by
 obtain⟨j,b⟩:=gC.mp z
 have f:j<i:=by
  apply Classical.byContradiction;intro y;rw[List.getElem?_take_eq_none ()]at b;cases b
 rw[List.getElem?_take_of_lt f]at b;have q:=(b0.mp b);have u:=(b0.mp e);obtain⟨m,n⟩:=q;obtain⟨o,p⟩:=u;exact(List.pairwise_iff_getElem.mp h) j i m o f (n.trans p.symm)
theorem Ds{f:Type}[DecidableEq f]{kvs:List (f×V)}{k:f}{v:V}(b:(kvs.map (·.1)).Nodup)(h:(k,v)∈kvs):Am kvs k=some v:=by
 induction kvs with
 |nil=>cases h
 |cons p r i=>
  rw[List.map_cons,List.nodup_cons]at b;rcases eH.mp h with z|z
  ·subst z;exact C6 rfl
  ·have g:¬p.1=k:=λe=>b.1 (by rw[e];exact List.mem_map_of_mem (f:=(·.1)) z);rw[C0 g];exact i b.2 z
theorem Ss{h:Type}{kvs:List (h×V)}{x y:h×V}(f:(kvs.map (·.2)).Nodup)(g:x∈kvs)(i:y∈kvs)(e:x.2=y.2):x=y:=by
 induction kvs with
 |nil=>cases g
 |cons p r j=>
  rw[List.map_cons,List.nodup_cons]at f;rcases eH.mp g with z|z<;>rcases eH.mp i with b|b
  ·rw[z,b]
  ·subst z;exact absurd (by rw[e];exact List.mem_map_of_mem (f:=(·.2)) b) f.1
  ·subst b;exact absurd (by rw[<- e];exact List.mem_map_of_mem (f:=(·.2)) z) f.1
  ·exact j f.2 z b
theorem gf{b:Type}[DecidableEq b]{kvs:List (b×V)}{k:b}{v:V}{e:b×V}(h:e∈Cq kvs k v):e∈kvs\/e=(k,v):=by
 unfold Cq at h;split at h
 ·obtain⟨x,g,rfl⟩:=ft.mp h;split
  ·rename_i f;exact .inr (by rw[f])
  ·exact .inl g
 ·rcases fC.mp h with z|z
  ·exact .inl z
  ·exact .inr (iT.mp z)
theorem Vg{b:Type}[DecidableEq b]{kvs:List (b×V)}{k j:b}{v:V}(h:(Am kvs j).isSome=true\/j=k):(Am (Cq kvs k v) j).isSome=true:=by
 rw[Kh];split
 ·rfl
 ·rename_i e;rcases h with h|h
  ·exact h
  ·exact absurd h e
def Hx(ws:mY)(f:nf)(z:mY×Int)(H:Hp)(cs:List (Ex×V)):Prop:=∀e∈cs,∃(b:Nat) (l:Addr) (g:List V),e.1=.inl (b:Int)/\b<ws.length/\none∉Bh ws z.1 f z.2 b/\e.2=.ref l/\H l=some (.lst g)/\Ap (Jd H) (Bh ws z.1 f z.2 b) g
def Wx(ws:mY)(e:nf)(H:Hp)(z:mY×Int)(v:V):Prop:=∃(c:Addr) (b:List (Ex×V)),v=.ref c/\H c=some (.dK b)/\b.length<=8/\Hx ws e z H b
theorem Hx.up{ws:mY}{g:nf}{z:mY×Int}{H f:Hp}{cs:List (Ex×V)}(t:LT H f)(h:Hx ws g z H cs):Hx ws g z f cs:=λe q=>by
 obtain⟨b,l,u,i,j,m,n,o,p⟩:=h e q;exact{b,l,u,i,j,m,n,t.1 _ _ o,p.imp λ_ _ y=>Jd.up t.2 y}
theorem Hx.ok{ws:mY}{i:nf}{z:mY×Int}{H:Hp}{cs:List (Ex×V)}(h:Hx ws i z H cs):Wy H cs:=λe p=>by
 obtain⟨B,l,A,b,C,j,n,o,f⟩:=h e p;refine{{_,b},l,A,n,o,?_,λu v=>?_}
 ·rw[f.1];unfold Bh;split<;>simp
 ·obtain⟨m,q⟩:=gC.mp v;obtain⟨r,y,x⟩:=f.get q;cases r with
  |none=>exact absurd (cI y) j
  |some r=>
   obtain⟨g,e,b⟩:=x;exact{g,r,e,b}
theorem Wx.up{ws:mY}{f:nf}{z:mY×Int}{H b:Hp}{v:V}(t:LT H b)(k:∀c cs,H c=some (.dK cs)->b c=some (.dK cs))(h:Wx ws f H z v):Wx ws f b z v:=by
 obtain⟨c,cs,e,g,i,j⟩:=h;exact{c,cs,e,k _ _ g,i,j.up t}
def Cy(ws:mY)(e:nf)(H:Hp)(kvs:mF):Prop:=(∀b∈kvs,Wx ws e H b.1 b.2)/\(kvs.map (·.1)).Nodup/\(kvs.map (·.2)).Nodup
theorem Cy.ok{ws:mY}{f:nf}{H:Hp}{kvs:mF}(h:Cy ws f H kvs):Jg H kvs:=λn b=>by
 obtain⟨c,g,e,i,j,m⟩:=h.1 n b;exact{c,g,e,i,j,m.ok}
theorem Cy.keep{ws:mY}{e:nf}{H b:Hp}{kvs:mF}(p:Cy ws e H kvs)(t:LT H b)(k:∀c cs,H c=some (.dK cs)->b c=some (.dK cs)):Cy ws e b kvs:={λg f=>(p.1 g f).up t k,p.2}
def N8(ws:mY)(g:nf)(H:Hp)(kvs:mF):Prop:=∀e∈kvs,∀c f,e.2=.ref c->H c=some (.dK f)->∀b:Nat,b<ws.length->none∉Bh ws e.1.1 g e.1.2 b->(Am f (.inl (b:Int))).isSome=true
theorem N8.keep{ws:mY}{b:nf}{H e:Hp}{kvs:mF}(f:N8 ws b H kvs)(p:Cy ws b H kvs)(k:∀c cs,H c=some (.dK cs)->e c=some (.dK cs)):N8 ws b e kvs:=λm h c cs i n=>by
 obtain⟨d,q,o,j,_⟩:=p.1 m h;have g:=o;rw[i]at g;cases g;have:=k _ _ j;rw[n]at this;cases this;exact f m h c cs i j
def Al(H:Hp)(kvs:mF)(k:mY×Int)(who:Nat):Prop:=∃(c:Addr) (b:List (Ex×V)),Am kvs k=some (.ref c)/\H c=some (.dK b)/\(Am b (.inl (who:Int))).isSome=true
theorem Fn{f:Type}{xs:List f}{x:f}(h:xs.Nodup)(j:x∉xs):(xs++[x]).Nodup:=by
 rw[List.nodup_append];refine{h,by simp,λa g b i e=>?_};rw[List.mem_singleton.mp i]at e;exact j (e▸g)
def R9(ws:mY)(g:nf)(kvs:mF)(H:Hp)(e:mY×Int)(u:V):Prop:=∃(t b:Addr) (f:Nat) (k:mY×Int),u=.ref t/\H t=some (.tup [.ref b,.int (f:Int)])/\Im H b k/\(∃v,Am kvs k=some v)/\some e∈Bh ws k.1 g k.2 f
theorem R9.up{ws:mY}{j:nf}{kvs:mF}{H g:Hp}{f:mY×Int}{u:V}(t:Az H g)(h:R9 ws j kvs H f u):R9 ws j kvs g f u:=by
 obtain⟨a,b,i,k,e,m,n,o,p⟩:=h;exact{a,b,i,k,e,t _ _ m,n.up t,o,p}
def G8(ws:mY)(h:nf)(g:Hp)(kvs:mF)(n:Nat)(H:Hp)(f:mF):Prop:=(∀e∈f,∃(l:Addr) (b:List V),e.2=.ref l/\g l=none/\H l=some (.lst b)/\b.length<=n/\∀u∈b,R9 ws h kvs H e.1 u)/\(f.map (·.2)).Nodup
theorem G8.up{ws:mY}{g:nf}{f H b:Hp}{kvs i:mF}{n m:Nat}(t:LT H b)(A:n<=m)(h:G8 ws g f kvs n H i):G8 ws g f kvs m b i:={λx j=>by
 obtain⟨l,y,e,o,p,z,q⟩:=h.1 x j;exact{l,y,e,o,t.1 _ _ p,(),λu v=>(q u v).up t.2},h.2}
theorem G8.app{ws:mY}{f:nf}{m H:Hp}{kvs j:mF}{n:Nat}{l:Addr}{us:List V}{x:V}{b:mY×Int}(h:G8 ws f m kvs n H j)(D:(b,V.ref l)∈j)(C:H l=some (.lst us))(g:us.length<=n)(B:∀u∈us,R9 ws f kvs H b u)(E:R9 ws f kvs H b x):G8 ws f m kvs (n+1) (upd H l (.lst (us++[x]))) j:={λq o=>by
 have t:Az H (upd H l (.lst (us++[x]))):=Az.lst C;obtain⟨i,F,e,p,y,G,A⟩:=h.1 q o;by_cases z:i=l
 ·subst z;have v:q=(b,V.ref i):=Ss h.2 o D e;refine{i,us++[x],e,p,A2,by rw[List.length_append,List.length_singleton];omega,λu g=>?_};rw[v];exact(Of B E u g).up t
 ·exact{i,F,e,p,(A9 z).trans y,(),λu g=>(A u g).up t},h.2}
def Cj(H:Hp)(g:mF)(e k:mY×Int)(who:Nat):Prop:=∃(l:Addr) (f:List V) (t b:Addr),Am g e=some (.ref l)/\H l=some (.lst f)/\V.ref t∈f/\H t=some (.tup [.ref b,.int (who:Int)])/\Im H b k
theorem Cj.up{H f:Hp}{g:mF}{e k:mY×Int}{who:Nat}(t:LT H f)(h:Cj H g e k who):Cj f g e k who:=by
 obtain⟨l,p,a,b,i,j,m,n,o⟩:=h;exact{l,p,a,b,i,t.1 _ _ j,m,t.2 _ _ n,o.up t.2}
theorem Cj.put{H:Hp}{i:mF}{f k j:mY×Int}{who:Nat}{v:V}(n:Am i j=none)(h:Cj H i f k who):Cj H (Cq i j v) f k who:=by
 obtain⟨l,o,a,b,g,m⟩:=h;refine{l,o,a,b,?_,m};rw[Kh,if_neg (λe=>by rw[e,n]at g;cases g)];exact g
theorem Cj.app{H:Hp}{p:mF}{e k:mY×Int}{who:Nat}{l:Addr}{us:List V}{x:V}(o:H l=some (.lst us))(h:Cj H p e k who):Cj (upd H l (.lst (us++[x]))) p e k who:=by
 have t:Az H (upd H l (.lst (us++[x]))):=Az.lst o;obtain⟨g,q,a,b,i,f,j,m,n⟩:=h;by_cases z:g=l
 ·subst z;rw[o]at f;cases f;exact{g,_,a,b,i,A2,gy _ j,t _ _ m,n.up t}
 ·exact{g,q,a,b,i,(A9 z).trans f,j,t _ _ m,n.up t}
theorem Tj{cs:List (Ex×V)}{k j:Ex}:Am (Bv cs k) j=if j=k then none else Am cs j:=by
 induction cs with
 |nil=>split<;>rfl
 |cons p r b=>
  by_cases e:p.1=k
  ·rw[Z9 e,b];by_cases z:j=k
   ·rw[if_pos z,if_pos z]
   ·rw[if_neg z,if_neg z,C0 (λy=>z (by rw[<- y,e]))]
  ·have f:Bv (p::r) k=p::Bv r k:=by
    unfold Bv;rw[List.filter_cons,if_pos (by simpa using e)]
   rw[f];by_cases z:p.1=j
   ·rw[C6 z,C6 z,if_neg (λy=>e (z.trans y))]
   ·rw[C0 z,C0 z,b]
theorem Al.keep{ws:mY}{m:nf}{H h:Hp}{kvs:mF}{k:mY×Int}{who:Nat}(p:Cy ws m H kvs)(j:∀c cs,H c=some (.dK cs)->h c=some (.dK cs)):Al h kvs k who↔Al H kvs k who:=by
 constructor
 ·rintro⟨c,cs,b,f,g⟩;obtain⟨d,n,e,i,_⟩:=p.1 _ (Be b);cases e;have:=j _ _ i;rw[f]at this;cases this;exact{c,cs,b,i,g}
 ·rintro⟨c,cs,b,f,g⟩;exact{c,cs,b,j _ _ f,g}
theorem Al.pop{ws:mY}{o:nf}{H:Hp}{kvs:mF}{k h:mY×Int}{who g:Nat}{c:Addr}{cs:List (Ex×V)}(p:Cy ws o H kvs)(m:Am kvs k=some (.ref c))(n:H c=some (.dK cs)):
  Al (upd H c (.dK (Bv cs (.inl (who:Int))))) kvs h g↔Al H kvs h g/\¬(h=k/\g=who):=by
 constructor
 ·rintro⟨d,i,b,f,e⟩;by_cases z:d=c
  ·subst z;rw[A2]at f;cases f;have j:(h,V.ref d)=(k,V.ref d):=Ss p.2.2 (Be b) (Be m) rfl;cases j;rw[Tj]at e;by_cases y:(Sum.inl (g:Int):Ex)=.inl (who:Int)
   ·rw[if_pos y]at e;cases e
   ·rw[if_neg y]at e;exact{{d,cs,b,n,e},λw=>y (by rw[w.2])}
  ·rw[A9 z]at f;refine{{d,i,b,f,e},λw=>z ?_};rw[w.1,m]at b;cases b;rfl
 ·rintro⟨⟨d,i,b,f,e⟩,q⟩;by_cases z:d=c
  ·subst z;have j:(h,V.ref d)=(k,V.ref d):=Ss p.2.2 (Be b) (Be m) rfl;cases j;rw[n]at f;cases f;refine{d,_,b,A2,?_};rw[Tj,if_neg]
   ·exact e
   ·intro y;have u:(g:Int)=(who:Int):=Sum.inl.inj y;exact q ⟨rfl,()⟩
  ·exact{d,i,b,(A9 z).trans f,e}
theorem Cy.pop{ws:mY}{f:nf}{H:Hp}{c:Addr}{cs:List (Ex×V)}{k:Ex}{kvs:mF}(p:Cy ws f H kvs)(i:H c=some (.dK cs)):Cy ws f (upd H c (.dK (Bv cs k))) kvs:={λo j=>by
 obtain⟨d,m,e,b,g,h⟩:=p.1 o j;have t:LT H (upd H c (.dK (Bv cs k))):=LT.dK i;by_cases z:d=c
 ·subst z;rw[i]at b;cases b;exact{d,Bv cs k,e,A2,ea (Ti cs k) g,λx n=>(h.up t) x (O2 n)}
 ·exact{d,m,e,(A9 z).trans b,g,h.up t},p.2}
theorem Cy.LX{ws:mY}{h:nf}{B:Addr}{H b:Hp}{kvs:mF}(p:Cy ws h H kvs)(n:Yi B H kvs)(t:Az H b)(F:∀l us,l≠B->H l=some (.lst us)->b l=some (.lst us))(k:∀c cs,H c=some (.dK cs)->b c=some (.dK cs)):Cy ws h b kvs:={λq g=>by
 obtain⟨c,cs,i,j,u,v⟩:=p.1 q g;refine{c,cs,i,k _ _ j,u,λe o=>?_};obtain⟨f,l,us,x,A,C,m,D,E⟩:=v e o;exact{f,l,us,x,A,C,m,F _ _ (λz=>n q g c cs i j e o (by rw[m,z])) D,E.imp λ_ _ y=>Jd.up t y},p.2}
theorem M3:∀{xs ys:mY},xs.map V.int=ys.map V.int->xs=ys
 |[],[],_=>rfl
 |[],_::_,h=>by cases h
 |_::_,[],h=>by cases h
 |x::xs,y::ys,h=>by
  rw[List.map_cons,List.map_cons]at h;injection h with b e;injection b with b;rw[b,M3 e]
def Sx(ws:mY)(g:nf)(h:mF)(k:mY×Int)(m:Int):Prop:=
 (∀e,e<ws.length->none∈Bh ws k.1 g k.2 e\/∃b f,some b∈Bh ws k.1 g k.2 e/\Am h b=some (.int f)/\f<=m-1)/\
 (m=1\/∃e,e<ws.length/\none∉Bh ws k.1 g k.2 e/\∀b f,some b∈Bh ws k.1 g k.2 e->Am h b=some (.int f)->m-1<=f)
def F7(ws:mY)(f:nf)(g:mF):Prop:=
 (∀k v,Am g k=some v->∃m:Int,v=.int m/\1<=m/\k∈Ba ws (qv f)/\Sx ws f g k m)/\
 (∀k,k∈Ba ws (qv f)->Am g k=none->∃e,e<ws.length/\none∉Bh ws k.1 f k.2 e/\∀b,some b∈Bh ws k.1 f k.2 e->Am g b=none)
def Hn(ws:mY)(f:nf)(g:mF)(h:List (mY×Int))(r:Int)(i:(mY×Int)->Nat->Prop):Prop:=
 1<=r/\(∀j∈g,∃n:Int,j.2=.int n/\1<=n/\n<r)/\(∀k∈h,k∈Ba ws (qv f)/\Am g k=none)/\(∀k v,Am g k=some v->k∈Ba ws (qv f))/\
 (∀k b,i k b↔(k∈Ba ws (qv f)/\b<ws.length/\none∉Bh ws k.1 f k.2 b/\∀e,some e∈Bh ws k.1 f k.2 b->Am g e=none))/\
 (∀k,k∈Ba ws (qv f)->((∀b,¬i k b)↔(k∈h\/(Am g k).isSome=true)))/\
 (∀k m,Am g k=some (.int m)->Sx ws f g k m)/\∀k∈h,Sx ws f g k r
theorem Hn.done{ws:mY}{g:nf}{i:mF}{r:Int}{f:(mY×Int)->Nat->Prop}(h:Hn ws g i [] r f):F7 ws g i:=by
 obtain⟨K,F,I,m,A,B,j,C⟩:=h;refine{λk v e=>?_,λk D e=>?_}
 ·obtain⟨n,o,p,_⟩:=F _ (Be e);have H:v=.int n:=o;subst H;exact{n,rfl,p,m k _ e,j k n e}
 ·have E:¬ ∀b,¬f k b:=λz=>by
   rcases(B k D).mp z with y|y
   ·cases y
   ·rw[e]at y;cases y
  obtain⟨b,G⟩:=Classical.not_forall.mp E;obtain⟨J,q,u,x⟩:=(A k b).mp (Classical.not_not.mp G);exact{b,q,u,x}
theorem Hn.step{ws:mY}{i:nf}{A g:mF}{j o:List (mY×Int)}{r:Int}{L M:(mY×Int)->Nat->Prop}(h:Hn ws i A j r L)
  (C:∀k,Am g k=if k∈j then some (.int r)else Am A k)(oV:∀kv∈g,∃n:Int,kv.2=.int n/\1<=n/\n<r+1)
  (hl:∀k who,M k who↔(L k who/\∀b∈j,some b∉Bh ws k.1 i k.2 who))(N:∀k,k∈o↔((∃who,L k who)/\∀who,¬M k who)):Hn ws i g o (r+1) M:=by
 obtain⟨h0,hv,bP,bR,R,H,UW,S⟩:=h
 have O:∀k,Am g k=none↔(k∉j/\Am A k=none):=λk=>by
  rw[C];by_cases z:k∈j
  ·rw[if_pos z];exact{λy=>(nomatch y),λy=>absurd z y.1}
  ·rw[if_neg z];exact{λy=>{z,y},λy=>y.2}
 have I:∀b f,Am A b=some (.int f)->Am g b=some (.int f):=λb f e=>by
  rw[C,if_neg (λz=>by rw[(bP b z).2]at e;cases e)];exact e
 have back:∀b f,Am g b=some (.int f)->(b∈j/\f=r)\/Am A b=some (.int f):=λb f e=>by
  rw[C]at e;by_cases z:b∈j
  ·rw[if_pos z]at e;cases e;exact .inl ⟨z,rfl⟩
  ·rw[if_neg z]at e;exact .inr e
 have p:∀k m,m<=r->Sx ws i A k m->Sx ws i g k m:=λk m hm ⟨p1,p2⟩=>by
  refine{λwho u=>?_,?_}
  ·rcases p1 who u with y|⟨b,f,J,K,Z⟩
   ·exact .inl y
   ·exact .inr ⟨b,f,J,I _ _ K,Z⟩
  ·rcases p2 with y|⟨who,J,K,Z⟩
   ·exact .inl y
   ·refine .inr ⟨who,J,K,λb f z1 z2=>?_⟩;rcases back b f z2 with⟨_,e⟩|e
    ·omega
    ·exact Z b f z1 e
 have pB:∀k who,M k who↔(k∈Ba ws (qv i)/\who<ws.length/\none∉Bh ws k.1 i k.2 who/\∀b,some b∈Bh ws k.1 i k.2 who->Am g b=none):=λk who=>by
  rw[hl,R];constructor
  ·rintro⟨⟨E,F,G,B⟩,g5⟩;exact{E,F,G,λb z=>(O b).mpr {λy=>g5 b y z,B b z}}
  ·rintro⟨E,F,G,B⟩;exact{{E,F,G,λb z=>((O b).mp (B b z)).2},λb y z=>((O b).mp (B b z)).1 y}
 refine{(),oV,λk q=>?_,λk v e=>?_,pB,λk q=>?_,λk m e=>?_,λk q=>?_}
 ·obtain⟨⟨who,u⟩,hn⟩:=(N k).mp q;have U:=((R k who).mp u).1;refine{U,(O k).mpr {λz=>?_,?_}}
  ·exact(H k U).mpr (.inl z) who u
  ·cases X:Am A k with
   |none=>rfl
   |some v=>exact absurd u ((H k U).mpr (.inr (by rw[X];rfl)) who)
 ·rw[C]at e;by_cases z:k∈j
  ·exact(bP k z).1
  ·rw[if_neg z]at e;exact bR k v e
 ·constructor
  ·intro z;by_cases y:∃who,L k who
   ·exact .inl ((N k).mpr ⟨y,z⟩)
   ·right;rcases(H k q).mp (λwho w=>y ⟨who,w⟩)with x|x
    ·rw[C,if_pos x];rfl
    ·obtain⟨v,Q⟩:=Option.isSome_iff_exists.mp x;obtain⟨n,D,_⟩:=hv _ (Be Q);have Y:v=.int n:=D;rw[Y]at Q;rw[I k n Q];rfl
  ·rintro(z|z) who w
   ·exact((N k).mp z).2 who w
   ·have w1:=((hl k who).mp w).1;rw[C]at z;by_cases y:k∈j
    ·exact(H k q).mpr (.inl y) who w1
    ·rw[if_neg y]at z;exact(H k q).mpr (.inr z) who w1
 ·rcases back k m e with⟨J,K⟩|y
  ·subst K;exact p k m (Int.le_refl _) (S k J)
  ·obtain⟨n,D,e2,e3⟩:=hv _ (Be y);cases D;exact p k m () (UW k m y)
 ·obtain⟨⟨vH,zR⟩,hn⟩:=(N k).mp q;obtain⟨E,F,G,B⟩:=(R k vH).mp zR;refine{λwho u=>?_,.inr {vH,F,G,λb f z1 z2=>?_}}
  ·by_cases y:none∈Bh ws k.1 i k.2 who
   ·exact .inl y
   ·right;have T:¬ ∀b,some b∈Bh ws k.1 i k.2 who->Am g b=none:=λz=>hn who ((pB k who).mpr ⟨E,u,y,z⟩);obtain⟨b,hx⟩:=Classical.not_forall.mp T;obtain⟨x1,x2⟩:=Classical.not_imp.mp hx;cases P:Am g b with
    |none=>exact absurd P x2
    |some v=>
     obtain⟨n,D,e2,e3⟩:=oV _ (Be P);have Y:v=.int n:=D;exact{b,n,x1,by rw[P,Y],()}
  ·rcases back b f z2 with⟨_,e⟩|e
   ·omega
   ·rw[B b z1]at e;cases e
theorem vt{f:Type}[DecidableEq f]{kvs:List (f×V)}{k:f}{v:V}(g:(kvs.map (·.1)).Nodup):((Cq kvs k v).map (·.1)).Nodup:=by
 cases e:Am kvs k with
 |none=>
  rw[K9 v e,List.map_append];exact Fn g (Uq e)
 |some w=>
  have h:(kvs.any λb=>decide (b.1=k))=true:=by
   rw[Ff,e];rfl
  unfold Cq;rw[if_pos h,List.map_map]
  have:(kvs.map ((λx=>x.1) ∘ λb=>if b.1=k then(b.1,v)else b))=kvs.map (·.1):=by
   apply List.map_congr_left;intro x _;show(if x.1=k then(x.1,v)else x).1=x.1;split<;>rfl
  rw[this];exact g
def au(H:Hp)(v:V):Prop:=∃c,v=.ref c/\H c=some (.dK [])
theorem Hn.start{ws:mY}{i:nf}{H:Hp}{kvs:mF}{D:List (mY×Int)}(n:Cy ws i H kvs)(S:kvs.map (·.1)=Ba ws (qv i))(R:N8 ws i H kvs)(I:∀k,k∈D↔∃v,(k,v)∈kvs/\au H v):Hn ws i [] D 1 (Al H kvs):=by
 have g:∀k,k∈Ba ws (qv i)↔∃v,(k,v)∈kvs:=λk=>by
  rw[<- S,List.mem_map];exact{λ⟨x,h,u⟩=>{x.2,by rw[<- u];exact h},λ⟨v,h⟩=>{_,h,rfl}}
 have J:∀k b,Al H kvs k b↔(k∈Ba ws (qv i)/\b<ws.length/\none∉Bh ws k.1 i k.2 b):=λk b=>by
  constructor
  ·rintro⟨c,q,h,u,G⟩;have f:=Be h;obtain⟨d,ds,e,j,_,A⟩:=n.1 _ f;cases e;rw[u]at j;cases j;obtain⟨w',M⟩:=Option.isSome_iff_exists.mp G;obtain⟨L,l,X,o,B,F,_⟩:=A _ (Be M);have Q:(b:Int)=(L:Int):=Sum.inl.inj o;have:b=L:=()
   subst this;exact{(g k).mpr {_,f},B,F}
  ·rintro⟨h,u,G⟩;obtain⟨v,f⟩:=(g k).mp h;obtain⟨c,q,e,j,_,A⟩:=n.1 _ f;have E:v=.ref c:=e;subst E;exact{c,q,Ds n.2.1 f,j,R _ f c q rfl j b u G}
 have K:∀k,k∈Ba ws (qv i)->((∀b,¬Al H kvs k b)↔k∈D):=λk p=>by
  obtain⟨v,f⟩:=(g k).mp p;obtain⟨c,q,e,j,_,A⟩:=n.1 _ f;have E:v=.ref c:=e;subst E;rw[I];constructor
  ·intro z;refine{_,f,c,rfl,?_};cases q with
   |nil=>exact j
   |cons x xs=>
    obtain⟨b,l,X,o,_⟩:=A x (by simp);exact absurd ⟨c,_,Ds n.2.1 f,j,by rw[C6 o];rfl⟩ (z b)
  ·rintro⟨v',U,Y,O,P⟩ b ⟨Z,N,o,B,F⟩;have h:=Ds n.2.1 f;rw[Ds n.2.1 U,O]at h;cases h;rw[Ds n.2.1 f]at o;cases o;rw[P]at B;cases B;cases F
 refine{Int.le_refl _,(λkv z=>by cases z),λk C=>?_,(λk v z=>by cases z),λk b=>?_,λk p=>?_,(λk m z=>by cases z),λk C=>?_}
 ·obtain⟨v,f,_⟩:=(I k).mp C;exact{(g k).mpr {v,f},rfl}
 ·rw[J];exact{λz=>{z.1,z.2.1,z.2.2,λ_ _=>rfl},λz=>{z.1,z.2.1,z.2.2.1}}
 ·rw[K k p];exact{λz=>.inl z,λz=>z.elim id (λy=>by cases y)}
 ·obtain⟨v,f,_⟩:=(I k).mp C;have p:=(g k).mpr ⟨v,f⟩;refine{λb T=>?_,.inl rfl};left;apply Classical.byContradiction;intro y;exact(K k p).mpr C b ((J k b).mpr ⟨p,T,y⟩)
def eh(b:nf)(q:Int):List Bool:=if Jz b q=true then[false,true]else[false]
def wd(x:Int×Int):oa:=dP (.int x.1) (.int x.2)
def O6(x y:Int×Int):Bool:=decide (y.1<x.1\/(x.1=y.1/\y.2<x.2))
theorem L5(a b:Int):PyData.eqv (.int a) (.int b)=decide (a=b):=rfl
theorem uz(x y:Int×Int):cz (wd x) (wd y)=O6 x y:=by
 obtain⟨a,b⟩:=x;obtain⟨c,d⟩:=y;show(if PyData.eqv (.int a) (.int c)=true then(if PyData.eqv (.int b) (.int d)=true then cJ [] []else cz (.int b) (.int d))else cz (.int a) (.int c))=decide (c<a\/(a=c/\d<b));rw[L5,L5];show(if decide (a=c)=true then(if decide (b=d)=true then false else decide (b>d))else decide (a>c))=decide (c<a\/(a=c/\d<b));by_cases e:a=c
 ·rw[if_pos (decide_eq_true e)];by_cases f:b=d
  ·rw[if_pos (decide_eq_true f)];exact(jJ ()).symm
  ·rw[if_neg (by simpa using f)];exact decide_eq_decide.mpr ()
 ·rw[if_neg (by simpa using e)];exact decide_eq_decide.mpr ()
theorem f8(x y:Int×Int):Uu (wd x) (wd y)=O6 y x:=by
 obtain⟨a,b⟩:=x;obtain⟨c,d⟩:=y;show(if PyData.eqv (.int a) (.int c)=true then(if PyData.eqv (.int b) (.int d)=true then bA [] []else Uu (.int b) (.int d))else Uu (.int a) (.int c))=decide (a<c\/(c=a/\b<d));rw[L5,L5];show(if decide (a=c)=true then(if decide (b=d)=true then false else decide (b<d))else decide (a<c))=decide (a<c\/(c=a/\b<d));by_cases e:a=c
 ·rw[if_pos (decide_eq_true e)];by_cases f:b=d
  ·rw[if_pos (decide_eq_true f)];exact(jJ ()).symm
  ·rw[if_neg (by simpa using f)];exact decide_eq_decide.mpr ()
 ·rw[if_neg (by simpa using e)];exact decide_eq_decide.mpr ()
theorem bh(x y:Int×Int):Mc (wd x) (wd y):=by
 show Mc (.tuple [.int x.1,.int x.2]) (.tuple [.int y.1,.int y.2]);simp[Mc,fU]
theorem O0(x:Int×Int):(wd x).depth<=50:=by
 show(dP _ _).depth<=50;rw[br];show max 0 0+1<=50;decide
theorem Xw{H:Hp}{p:Addr}{x:Int×Int}(h:H p=some (.tup [.int x.1,.int x.2])):Rp H (wd x) (.ref p):=om h (Wb _) (Wb _)
theorem ce(x y:Int×Int):PyData.eqv (wd x) (wd y)=decide (x=y):=by
 obtain⟨a,b⟩:=x;obtain⟨c,d⟩:=y;show PyData.eqv (dP _ _) (dP _ _)=_;rw[uu,L5,L5];by_cases e:a=c<;>by_cases f:b=d<;>simp[e,f]
theorem Re(f:Nat->Int×Int):∀k,argBest (λi j=>O6 (f i) (f j)) k<=k/\∀j,j<=k->O6 (f j) (f (argBest (λi j=>O6 (f i) (f j)) k))=false
 |0=>⟨de _,λj h=>by
  have e:j=0:=()
  subst e;show O6 (f 0) (f 0)=false;unfold O6;exact jJ ()⟩
 |k+1=>by
  obtain⟨m,g⟩:=Re f k;rw[Ey];generalize argBest (λi j=>O6 (f i) (f j)) k=b at m g⊢;by_cases z:O6 (f (k+1)) (f b)=true
  ·rw[if_pos z];refine{de _,λj h=>?_};unfold O6 at z g⊢;have n:=of_decide_eq_true z;refine jJ ?_;rcases iE k j with y|y
   ·have e:j=k+1:=()
    subst e;omega
   ·have:=of_decide_eq_false (g j y);omega
  ·rw[if_neg z];refine{(),λj h=>?_};rcases iE k j with y|y
   ·have e:j=k+1:=()
    subst e;simpa using z
   ·exact g j y
def Um:Option V->Int×Int
 |some (.int m)=>(0,m)
 |_=>(1,0)
def told(b:mF):Option (mY×Int)->Int×Int
 |none=>(0,0)
 |some k=>Um (Am b k)
def A39(x y:Int×Int):Int×Int:=if O6 x y=true then y else x
def R4(e:mF)(ws ls:mY)(b:nf)(q:Int)(who:Nat):Int×Int:=
 if Jz b q=true then A39 (told e (G9 ws ls b q who false)) (told e (G9 ws ls b q who true))else told e (G9 ws ls b q who false)
def Uy(b:mF):Prop:=∀k v,Am b k=some v->∃m:Int,v=.int m
theorem Ud{H:Hp}:∀{b:List oa}{us:List V},us.length=b.length->(∀(i:Nat) (d:oa) (u:V),b[i]?=some d->us[i]?=some u->Rp H d u)->aO H b us
 |[],us,e,_=>by
  unfold aO;exact List.length_eq_zero_iff.mp e
 |d::b,[],e,_=>by simp at e
 |d::b,u::us,e,h=>by
  unfold aO;exact{u,us,rfl,h 0 d u rfl rfl,Ud (by simpa using e) λi f m g j=>h (i+1) f m (by simpa using g) (by simpa using j)}
theorem kb{f:Nat->Int×Int}{n:Nat}(y:0<n):Eb (#[23].map λi=>wd (f i))<n/\∀j,j<n->O6 (f j) (f (Eb (#[23].map λi=>wd (f i))))=false:=by
 have e:Eb (#[23].map λi=>wd (f i))=argBest (λi j=>O6 (f i) (f j)) (n-1):=by
  unfold Eb;rw[List.length_map,List.length_range]
  have h:∀k,k<=n-1->argBest (λi j=>cz ((#[23].map λi=>wd (f i)).getD i .none) ((#[23].map λi=>wd (f i)).getD j .none)) k=argBest (λi j=>O6 (f i) (f j)) k:=λk=>by
   induction k with
   |zero=>exact λ_=>rfl
   |succ k q=>
    intro x;have b:=(Re f k).1;rw[Ey,Ey,q ()];generalize argBest (λi j=>O6 (f i) (f j)) k=m at b⊢
    have g:∀i,i<n->(#[23].map λi=>wd (f i)).getD i .none=wd (f i):=λi p=>by
     rw[List.getD_eq_getElem?_getD,List.getElem?_map,List.getElem?_range p];rfl
    show(if cz ((#[23].map λi=>wd (f i)).getD (k+1) .none) ((#[23].map λi=>wd (f i)).getD m .none)=true then _ else _)=_;rw[g _ (),g _ (),uz]
  exact h (n-1) (de _)
 rw[e];obtain⟨u,o⟩:=Re f (n-1);exact{(),λj v=>o j ()}
theorem Kb{ws:mY}{f:nf}{b:mF}(h:F7 ws f b):Uy b:=λk v e=>by
 obtain⟨m,g,_⟩:=h.1 k v e;exact{m,g}
def Hw(f:Nat->Int×Int)(n j:Nat):Prop:=j<n/\(∀i,i<n->O6 (f i) (f j)=false)/\∀m,m<j->f m≠f j
theorem least{Pr:Nat->Prop}:∀(b:Nat),Pr b->∃j,j<=b/\Pr j/\∀m,m<j->¬Pr m:=λb=>by
 induction b using Nat.strongRecOn with
 |ind b n=>
  intro g;by_cases z:∃m,m<b/\Pr m
  ·obtain⟨m,e,f⟩:=z;obtain⟨j,q,o,p⟩:=n m e f;exact{j,(),o,p}
  ·exact{b,de _,g,λm h i=>z {m,h,i}}
theorem cx{x y:Int×Int}(h1:O6 x y=false)(g:O6 y x=false):x=y:=by
 obtain⟨a,b⟩:=x;obtain⟨c,d⟩:=y;unfold O6 at h1 g;have e:=of_decide_eq_false h1;have f:=of_decide_eq_false g
 have h:a=c:=by
  simp only at e f;omega
 have i:b=d:=by
  simp only at e f;omega
 rw[h,i]
theorem Hw.uniq{f:Nat->Int×Int}{n j k:Nat}(h:Hw f n j)(g:Hw f n k):j=k:=by
 have e:f j=f k:=cx (g.2.1 j h.1) (h.2.1 k g.1);rcases Nat.lt_trichotomy j k with z|z|z
 ·exact absurd e (g.2.2 j z)
 ·exact z
 ·exact absurd e.symm (h.2.2 k z)
theorem Hw.of{f:Nat->Int×Int}{n j:Nat}(p:0<n)(u:j<=Eb (#[23].map λi=>wd (f i)))(e:f j=f (Eb (#[23].map λi=>wd (f i))))(h:∀m,m<j->¬f m=f (Eb (#[23].map λi=>wd (f i)))):Hw f n j:=by
 obtain⟨q,b⟩:=kb (f:=f) p;refine{(),λi g=>by rw[e];exact b i g,λm o=>by rw[e];exact h m o}
def Uz(H:Hp)(f:Nat->Int×Int)(ys:List V):Prop:=∀(i:Nat) (u:V),ys[i]?=some u->∃p,u=.ref p/\H p=some (.tup [.int (f i).1,.int (f i).2])
theorem Uz.snoc{H g:Hp}{f:Nat->Int×Int}{ys:List V}{p:Addr}{n:Nat}(h:Uz H f ys)(t:Az H g)(x:ys.length=n)(e:g p=some (.tup [.int (f n).1,.int (f n).2])):Uz g f (ys++[.ref p]):=λi u b=>by
 rcases iE i ys.length with y|y
 ·rw[List.getElem?_append_left y]at b;obtain⟨v,m,o⟩:=h i u b;exact{v,m,t _ _ o}
 ·rw[List.getElem?_append_right y]at b
  have j:i-ys.length=0:=by
   have:=(b0.mp b).1;rw[List.length_singleton]at this;omega
  rw[j]at b;cases b;have q:i=n:=()
  subst q;exact{p,rfl,e}
theorem Uz.rp{H:Hp}{f:Nat->Int×Int}{ys:List V}{n:Nat}(h:Uz H f ys)(p:ys.length=n):aO H (#[23].map λi=>wd (f i)) ys:=by
 refine Ud (by rw[List.length_map,List.length_range];exact p) λi d u b e=>?_;obtain⟨v,m,o⟩:=h i u e;subst m;rw[List.getElem?_map]at b;obtain⟨q,g,rfl⟩:=dI.mp b
 have j:i<n:=by
  have:=(b0.mp e).1;omega
 rw[List.getElem?_range j]at g;cases g;exact Xw o
theorem X3(f:Nat->Int×Int)(n:Nat):∀d∈#[23].map λi=>wd (f i),∀e∈#[23].map λi=>wd (f i),Mc d e:=λd b e g=>by
 obtain⟨h,_,rfl⟩:=ft.mp b;obtain⟨j,_,rfl⟩:=ft.mp g;exact bh _ _
theorem X6(f:Nat->Int×Int)(n:Nat):∀d∈#[23].map λi=>wd (f i),d.depth<=50:=λd b=>by
 obtain⟨e,_,rfl⟩:=ft.mp b;exact O0 _
theorem kn(f:Nat->Int×Int){n i:Nat}(h:i<n):(#[23].map λi=>wd (f i))[i]?=some (wd (f i)):=by
 rw[List.getElem?_map,List.getElem?_range h];rfl
theorem cw{f:Nat->Int×Int}{n i:Nat}{e:oa}(h:(#[23].map λi=>wd (f i))[i]?=some e):e=wd (f i):=by
 rw[List.getElem?_map]at h;obtain⟨j,b,rfl⟩:=dI.mp h
 have g:i<n:=by
  have:=(b0.mp b).1;rwa[List.length_range]at this
 rw[List.getElem?_range g]at b;cases b;rfl
theorem Ea{a b:Str}(e:PyData.strOk a=true)(f:PyData.strOk b=true):PyData.strOk (a++b)=true:=by
 unfold PyData.strOk at*;rw[Str.cps_append,Array.all_append,e,f];rfl
theorem P7{b:Str}(e:PyData.strOk b=true):∀{f:List Str},(∀z∈f,PyData.strOk z=true)->PyData.strOk (Str.join b f)=true
 |[],_=>by unfold Str.join;decide+kernel
 |[x],h=>h x c4
 |x::y::r,h=>Ea (Ea (h x c4) e) (P7 e λz g=>h z (d0 _ g))
theorem cu{ls:mY}{j:Nat}(h:j<ls.length):ls[j]?=some (ls.getD j 0):=by
 rw[List.getD_eq_getElem?_getD,List.getElem?_eq_getElem h];rfl
theorem L6{ls:mY}{j:Nat}(h:j<ls.length):ls.getD j 0∈ls:=cI (cu h)
theorem O5{xs:mY}{i:Nat}(h:i<xs.length):xs[i]?=some (xs.getD i 0):=by
 rw[List.getD_eq_getElem?_getD,List.getElem?_eq_getElem h];rfl
theorem Xu:∀(ws:mY) (rows:List (mY)) (b ext:mY),b∈rows->ext.length=ws.length->(∀i,i<ws.length->1<=ext.getD i 0/\ext.getD i 0<=ws.getD i 0)->b++ext∈ws.foldl Bz rows
 |[],rows,b,ext,h,f,_=>by
  have e:ext=[]:=List.length_eq_zero_iff.mp f;rw[e,List.append_nil];exact h
 |w::ws,rows,b,[],h,f,_=>by simp at f
 |w::ws,rows,b,x::ext,h,f,g=>by
  have n:=g 0 (by simp);have p:1<=x/\x<=w:=n
  have m:b++[x]∈Bz rows w:=by
   refine List.mem_flatMap.mpr ⟨b,h,ft.mpr ⟨(x-1).toNat,mx.mpr (),?_⟩⟩;have e:1+(((x-1).toNat:Nat):Int)=x:=()
   rw[e]
  have j:=Xu ws (Bz rows w) (b++[x]) ext m (by simpa using f) λi o=>g (i+1) (by simp;omega);rw[List.append_assoc]at j;exact j
theorem Kd{ws:mY}{q:Int}{z:mY×Int}(h1:z.1.length=ws.length)(b:∀i,i<ws.length->1<=z.1.getD i 0/\z.1.getD i 0<=ws.getD i 0)(f:0<=z.2)(g:z.2<q):z∈Ba ws q:=by
 refine List.mem_flatMap.mpr ⟨z.1,?_,ft.mpr ⟨z.2.toNat,mx.mpr (),?_⟩⟩
 ·have:=Xu ws [[]] [] z.1 (by simp) h1 b;exact this
 ·have e:0+((z.2.toNat:Nat):Int)=z.2:=()
  rw[e]
theorem Lp{ws:mY}{q:Int}{z:mY×Int}(h:z∈Ba ws q):z.1.length=ws.length/\(∀i,i<ws.length->1<=z.1.getD i 0/\z.1.getD i 0<=ws.getD i 0)/\0<=z.2/\z.2<q:=by
 obtain⟨m1,m2,m3,e⟩:=Du h;exact{m1,λi b=>m2 i _ _ (O5 ()) (O5 b),m3,e}
theorem Zm{ws ls:mY}{who i:Nat}{lost:Bool}(b:i<ls.length):(Au ws ls who lost)[i]?=some (if i=who/\lost=false then ws.getD who 0 else ls.getD i 0-1):=by
 have e:(ls.map λx=>x-1)[i]?=some (ls.getD i 0-1):=by
  rw[List.getElem?_map,List.getElem?_eq_getElem b,List.getD_eq_getElem?_getD,List.getElem?_eq_getElem b];rfl
 unfold Au;cases lost with
 |true=>
  rw[if_pos rfl,if_neg (λz=>nomatch z.2)];exact e
 |false=>
  rw[if_neg Bool.false_ne_true,List.getElem?_set];by_cases z:i=who
  ·subst z;rw[if_pos rfl,if_pos (by rw[List.length_map];exact b),if_pos ⟨rfl,rfl⟩]
  ·rw[if_neg (λy=>z y.symm),if_neg (λy=>z y.1)];exact e
theorem Xi{ws ls:mY}{who i:Nat}{lost:Bool}(b:i<ls.length):(Au ws ls who lost).getD i 0=if i=who/\lost=false then ws.getD who 0 else ls.getD i 0-1:=by
 rw[List.getD_eq_getElem?_getD,Zm b];rfl
theorem az{ws ls:mY}{b:nf}{q:Int}{who:Nat}{lost:Bool}{k:mY×Int}(h:G9 ws ls b q who lost=some k):(0:Int)∉Au ws ls who lost/\k=(Au ws ls who lost,Bl b q lost):=by
 unfold G9 at h;by_cases z:(0:Int)∈Au ws ls who lost
 ·rw[if_pos z]at h;cases h
 ·rw[if_neg z]at h;exact{z,(en h).symm}
theorem ue{ws:mY}{f:nf}{k l:mY×Int}{who:Nat}{lost:Bool}(m:∀w∈ws,1<=w)(v:k∈Ba ws (qv f))(n:who<ws.length)(z:lost∈eh f k.2)(h:G9 ws k.1 f k.2 who lost=some l):l∈Ba ws (qv f):=by
 obtain⟨o,p,B,q⟩:=Lp v;obtain⟨x,rfl⟩:=az h;have A:1<=ws.getD who 0:=m _ (L6 n);have g:(Au ws k.1 who lost).length=k.1.length:=Dy _ _ _ _;refine Kd (by rw[g];exact o) (λi u=>?_) ?_ ?_
 ·have b:=p i u
  have j:(Au ws k.1 who lost).getD i 0≠0:=λe=>by
   have:=O5 (xs:=Au ws k.1 who lost) (i:=i) ();rw[e]at this;exact x (cI this)
  show 1<=(Au ws k.1 who lost).getD i 0/\(Au ws k.1 who lost).getD i 0<=ws.getD i 0;rw[Xi ()]at j⊢;by_cases y:i=who/\lost=false
  ·rw[if_pos y,y.1];omega
  ·rw[if_neg y]at j;rw[if_neg y];omega
 ·show 0<=Bl f k.2 lost;unfold Bl;cases lost with
  |true=>
   rw[if_pos rfl];cases f with
   |none=>exact Int.le_refl _
   |some c=>
    show 0<=c;have:k.2<c+1:=q;omega
  |false=>
   rw[if_neg Bool.false_ne_true];omega
 ·show Bl f k.2 lost<qv f;unfold Bl;cases lost with
  |true=>
   rw[if_pos rfl];cases f with
   |none=>decide
   |some c=>
    show c<c+1;omega
  |false=>
   rw[if_neg Bool.false_ne_true];have:0<qv f:=()
   omega
theorem Ew{b:Type}{xs:List b}{i:Nat}{x:b}(h:xs[i]?=some x):xs.take (i+1)=xs.take i++[x]:=by
 rw[List.take_add_one,h];rfl
def UZ(e:mF)(m:Int):Prop:=∃b∈e,b.2=.int m
theorem U2{ws:mY}{x:nf}{f:mF}(h:F7 ws x f)(o:(f.map (·.1)).Nodup):∀(n:Nat) (m:Int),UZ f m->1<=m-n->UZ f (m-n)
 |0,m,g,_=>by
  rw[show m-((0:Nat):Int)=m by omega];exact g
 |n+1,m,g,J=>by
  obtain⟨q,v,e⟩:=g;have p:=Ds o (show(q.1,q.2)∈f from v);rw[e]at p;obtain⟨m0,y,I,_,C,D⟩:=h.1 _ _ p;cases y;rcases D with z|⟨j,E,F,G⟩
  ·omega
  ·rcases C j E with z|⟨b,i,H,u,K⟩
   ·exact absurd z F
   ·have B:=G b i H u;have A:i=m-1:=()
    have:=U2 h o n (m-1) ⟨(b,.int i),Be u,by rw[A]⟩ ();rw[show m-((n+1:Nat):Int)=m-1-(n:Int)by omega];exact this
theorem Qr{ws:mY}{j:nf}{o f:mF}(h:F7 ws j o)(h':F7 ws j f):∀(n:Nat) (k:mY×Int) (m:Int),m<=n->Am o k=some (.int m)->(Am f k).isSome=true
 |0,k,m,q,g=>by
  obtain⟨m0,e,p,_⟩:=h.1 k _ g;cases e;omega
 |n+1,k,m,q,g=>by
  obtain⟨m0,e,p,y,A,_⟩:=h.1 k _ g;cases e;cases u:Am f k with
  |some v=>rfl
  |none=>
   obtain⟨i,B,C,D⟩:=h'.2 k y u;rcases A i B with z|⟨b,x,E,F,G⟩
   ·exact absurd z C
   ·have:=Qr h h' n b x () F;rw[D b E]at this;cases this
theorem Ix{ws:mY}{j:nf}:∀(n:Nat) {tv f:mF},F7 ws j tv->F7 ws j f->∀(k:mY×Int) (m:Int),m<=n->Am tv k=some (.int m)->Am f k=some (.int m)
 |0,tv,f,h,g,k,m,C,i=>by
  obtain⟨m0,e,B,_⟩:=h.1 k _ i;cases e;omega
 |n+1,tv,f,h,g,k,m,C,i=>by
  have p:=@Ix ws j n tv f h g;have q:=@Ix ws j n f tv g h;obtain⟨m0,e,B,M,E,N⟩:=h.1 k _ i;cases e;have D:(Am f k).isSome=true:=Qr h g m.toNat k m () i;obtain⟨P,u⟩:=Option.isSome_iff_exists.mp D;obtain⟨x,A,L,_,O,F⟩:=g.1 k _ u;subst A
  have o:x<=m:=by
   rcases F with e|⟨v,G,H,I⟩
   ·omega
   ·rcases E v G with z|⟨b,y,J,K,Q⟩
    ·exact absurd z H
    ·have:=I b y J (p b y () K);omega
  rcases Int.lt_or_eq_of_le o with z|z
  ·have:=q k x () u;rw[i]at this;cases this;omega
  ·rw[u,z]
theorem Ka{ws:mY}{i:nf}{g b:mF}(h:F7 ws i g)(h':F7 ws i b)(k:mY×Int):Am g k=Am b k:=by
 cases f:Am g k with
 |some v=>
  obtain⟨m,e,n,_⟩:=h.1 k _ f;subst e;exact(Ix m.toNat h h' k m () f).symm
 |none=>
  cases j:Am b k with
  |none=>rfl
  |some v=>
   obtain⟨m,e,n,_⟩:=h'.1 k _ j;subst e;have:=Ix m.toNat h' h k m () j;rw[f]at this;cases this
def Ej(e:mF)(ws ls:mY)(b:nf)(q:Int)(who:Nat):Bool:=Jz b q&&O6 (told e (G9 ws ls b q who false)) (told e (G9 ws ls b q who true))
def Bx(L:mY)(i:Nat):mY:=(List.range i).filterMap λk=>if L.getD k 0=0 then some (k:Int)else none
theorem Dt(L:mY)(i:Nat):Bx L (i+1)=Bx L i++(if L.getD i 0=0 then[(i:Int)]else[]):=by
 unfold Bx;rw[List.range_succ,List.filterMap_append];congr 1;by_cases h:L.getD i 0=0
 ·rw[if_pos h,List.filterMap_cons,List.filterMap_nil,if_pos h]
 ·rw[if_neg h,List.filterMap_cons,List.filterMap_nil,if_neg h]
theorem Ec(L:mY):∀i,(Bx L i).length<=i
 |0=>de _
 |i+1=>by
  rw[Dt,List.length_append];have h:=Ec L i;split<;>simp<;>omega
theorem Ng{L:mY}{i:Nat}(g:i<=L.length):Bx L i=[]↔(0:Int)∉L.take i:=by
 induction i with
 |zero=>simp[Bx]
 |succ i f=>
  have e:L[i]?=some (L.getD i 0):=by
   rw[List.getD_eq_getElem?_getD,List.getElem?_eq_getElem (show i<L.length by omega)];rfl
  rw[Dt,Ew e,List.append_eq_nil_iff,f ()];by_cases h:L.getD i 0=0
  ·rw[if_pos h,h];simp
  ·have b:¬(0=L.getD i 0):=λz=>h z.symm;simp only[if_neg h,List.mem_append,List.mem_singleton,b,or_false,and_true]
theorem Lx{b:Type}{f:b->oa}{n:Nat}(h:∀x,(f x).depth<=n):∀xs:List b,PyData.depthAll (xs.map f)<=n
 |[]=>jN _
 |x::xs=>Nat.max_le.mpr ⟨h x,Lx h xs⟩
theorem N5{H:Hp}{a:Addr}{ss:List Str}(e:H a=some (.lst (ss.map V.str)))(b:∀s∈ss,PyData.strOk s=true):Rp H (.list (ss.map PyData.str)) (.ref a):=by
 have f:∀{ss:List Str},(∀s∈ss,PyData.strOk s=true)->aO H (ss.map PyData.str) (ss.map V.str):=by
  intro ss
  induction ss with
  |nil=>intro _;unfold aO;rfl
  |cons s ss h=>
   intro b;rw[List.map_cons,List.map_cons];unfold aO;exact{_,_,rfl,by unfold Rp;exact{rfl,b s c4},h λx g=>b x (d0 _ g)}
 unfold Rp;exact{a,_,rfl,e,f b}
theorem Nz(ss:List Str):(PyData.list (ss.map PyData.str)).depth<=60:=by
 have:=Lx (f:=PyData.str) (n:=0) (λ_=>de _) ss;show PyData.depthAll (ss.map PyData.str)+1<=60;omega
def Bw(x:Addr)(H e:Hp):Prop:=∀b o,b≠x->H b=some o->e b=some o
theorem Bw.of{x:Addr}{H f:Hp}(s:A6 H f):Bw x H f:=λb o _ e=>s b o e
theorem Bw.trans{x:Addr}{H f g:Hp}(s:Bw x H f)(t:Bw x f g):Bw x H g:=λb o n e=>t b o n (s b o n e)
theorem Bw.ins{x:Addr}{H:Hp}{o:HO}:Bw x H (upd H x o):=λb u n e=>by rw[A9 n];exact e
theorem Bw.tup{x C e:Addr}{fs:List (Str×V)}{H b:Hp}(s:Bw x H b)(f:H x=some (.ins C e fs)){a:Addr}{xs:List V}(h:H a=some (.tup xs)):b a=some (.tup xs):=s _ _ (Bj h f HO.noConfusion) h
theorem Bw.lst{x C e:Addr}{fs:List (Str×V)}{H b:Hp}(s:Bw x H b)(f:H x=some (.ins C e fs)){a:Addr}{xs:List V}(h:H a=some (.lst xs)):b a=some (.lst xs):=s _ _ (Bj h f HO.noConfusion) h
theorem Bw.dT{x C e:Addr}{fs:List (Str×V)}{H b:Hp}(s:Bw x H b)(f:H x=some (.ins C e fs)){a:Addr}{xs:mF}(h:H a=some (.dT xs)):b a=some (.dT xs):=s _ _ (Bj h f HO.noConfusion) h
theorem Bw.seq{K:W.Frag}{x C f:Addr}{fs:List (Str×V)}{H b:Hp}(s:Bw x H b)(e:H x=some (.ins C f fs)){a:Addr}{xs:List V}(h:Ar K H a xs):Ar K b a xs:=by
 rcases h with(h|⟨o,h⟩)|h
 ·exact .inl (.inl (s.lst e h))
 ·exact .inl (.inr ⟨o,s _ _ (Bj h e HO.noConfusion) h⟩)
 ·exact .inr h
theorem An.but{x C g:Addr}{fs:List (Str×V)}{H b:Hp}(s:Bw x H b)(f:H x=some (.ins C g fs)){a:Addr}{ws:mY}{e:nf}(h:An H a ws e):An b a ws e:=by
 obtain⟨t,i,j⟩:=h;exact{t,s.tup f i,s.tup f j}
theorem Cb.but{x C f:Addr}{fs:List (Str×V)}{H b:Hp}(s:Bw x H b)(e:H x=some (.ins C f fs)){a:Addr}{ls:mY}{q:Int}(h:Cb H a ls q):Cb b a ls q:=by
 obtain⟨t,g,i⟩:=h;exact{t,s.tup e g,s.tup e i}
def Z5(c:Nat):Bool:=decide (48<=c/\c<=57)
theorem vd(c:Nat):(!(Builtin.Str.occurrences "0123456789" ⟨#[c]⟩ 0 #["0123456789"].length 1).isEmpty)=Z5 c:=by
 rw[StrLaws.found_one];have e:#["0123456789"].cps.toList=[48,49,50,51,52,53,54,55,56,57]:=by decide
 rw[e];unfold Z5;rw[Bool.eq_iff_iff,decide_eq_true_iff,decide_eq_true_iff];simp only[List.mem_cons,List.not_mem_nil,or_false];omega
theorem Pq{b:Type}{f:Nat->b}{xs:List Nat}{i c:Nat}(h:xs[i]?=some c):(xs.take (i+1)).map f=(xs.take i).map f++[f c]:=by
 rw[List.take_add_one,h,List.map_append];rfl
theorem A0e{n:Nat}(h:n<100000):n<sizeLine:=fy h #[]
theorem kr{xs:List Nat}(h:xs≠[]):∃c,xs[0]?=some c/\xs.head?=some c:=by
 cases xs with
 |nil=>exact absurd rfl h
 |cons c r=>exact{c,rfl,rfl}
theorem PR{v:V}{xs:List V}:Ls (v::xs) 0=some v:=Et (show(v::xs)[0]?=some v from rfl)
def Dw:nf->List Str
 |none=>[]
 |some c=>[#["calm"],B8 c]
def Fy(w:Str)(n:Int):Bool:=if Pd (.str w) [.str "best",.str "rank"]=true then decide (V.int n=V.int 0)else if Pd (.str w) [.str "call",.str "lost",.str "answer",.str "join",.str "leave",.str "turn"]=true then decide (V.int n=V.int 1)else(Pd (.str w) [.str "hall",.str "wheel"]&&decide (n>0))
structure Ho(x hd:Str)(ns:mY)(cm:nf):Prop where
 cut:Txt.split x " "=hd::(ns.map B8++Dw cm)
 len:x.length<=100000
 big:∀n∈ns,0<=n/\n<10^100
 calm:∀c,cm=some c->(0<=c/\c<10^100)/\hd=#["hall"]
 tak:Fy hd (ns.length:Int)=true
 lQ:ns.length<=300
 ok:PyData.strOk hd=true
def F8(ws:List Str)(b e:nf):List Str:=(ws.drop (HT.bS ws.length 0 b)).take (HT.bS ws.length ws.length e-HT.bS ws.length 0 b)
theorem Ez(ws:List Str)(e b:nf):Ji (ws.map V.str) e b=(F8 ws e b).map V.str:=by
 unfold Ji F8;rw[List.length_map,List.map_take,List.map_drop]
theorem bp(w:Str)(ws:List Str):F8 (w::ws) (some 1) none=ws:=by
 unfold F8;rw[HT.cV,show HT.bS (w::ws).length 0 (some 1)=min 1 (w::ws).length from HT.dC _ 0 1,List.length_cons,show min 1 (ws.length+1)=1 by omega];simp
theorem Te(ws:List Str)(a b:Str):F8 (ws++[a,b]) (some (-2)) (some (-1))=[a]/\F8 (ws++[a,b]) (some (-1)) none=[b]/\F8 (ws++[a,b]) none (some (-2))=ws:=by
 have g:(ws++[a,b]).length=ws.length+2:=by simp
 have f:∀d,HT.bS (ws++[a,b]).length d (some (-2))=ws.length:=λd=>by
  unfold HT.bS;simp only[show(-2:Int)<0 by decide,if_true];omega
 have e:∀d,HT.bS (ws++[a,b]).length d (some (-1))=ws.length+1:=λd=>by
  unfold HT.bS;simp only[show(-1:Int)<0 by decide,if_true];omega
 refine{?_,?_,?_}
 ·unfold F8;rw[f,e,List.drop_left,show ws.length+1-ws.length=1 by omega];rfl
 ·unfold F8;rw[e,HT.cV,g,show ws++[a,b]=(ws++[a])++[b]by simp,List.drop_left' (by simp),show ws.length+2-(ws.length+1)=1 by omega];rfl
 ·unfold F8;rw[HT.cV,f,List.drop_zero,Nat.sub_zero,List.take_left]
theorem Z1{ws:List Str}{a:Str}(h:a∉ws):F8 ws (some (-2)) (some (-1))≠[a]:=λe=>by
 have:a∈F8 ws (some (-2)) (some (-1)):=by rw[e];simp
 exact h (List.mem_of_mem_drop (List.mem_of_mem_take this))
theorem Zt{n:Int}{x:Str}(h:0<=n/\n<10^100)(b:Jb x=false):B8 n≠x:=λe=>by
 have:=(Bg h.1 h.2).is;rw[e,b]at this;cases this
theorem Cr{n:Int}(h:0<=n/\n<10^100):PyData.strOk (B8 n)=true:=by
 have e:=(Bg h.1 h.2).sgn;unfold PyData.strOk;rw[<- Array.all_toList,List.all_eq_true];intro c b;have:=e c b;simp;omega
theorem B5{n:Int}(h:0<=n/\n<10^100):n.natAbs.log2<1920:=by
 by_cases z:n.natAbs=0
 ·rw[z];decide
 ·rw[Nat.log2_lt z]
  have b:n.natAbs<10^100:=by
   have e:((10:Int)^100)=((10^100:Nat):Int):=by norm_cast
   omega
  exact Nat.lt_trans b #[8]
theorem Tl:∀xs ys:List Str,PyData.eqv (.list (xs.map PyData.str)) (.list (ys.map PyData.str))=decide (xs=ys):=by
 have b:∀xs ys:List Str,PyData.eqvAll (xs.map PyData.str) (ys.map PyData.str)=decide (xs=ys):=by
  intro xs
  induction xs with
  |nil=>intro ys;cases ys<;>simp[PyData.eqvAll]
  |cons x xs e=>
   intro ys;cases ys with
   |nil=>simp[PyData.eqvAll]
   |cons y ys=>
    show(PyData.eqv (.str x) (.str y)&&PyData.eqvAll (xs.map PyData.str) (ys.map PyData.str))=_;rw[e ys,Bool.eq_iff_iff,Bool.and_eq_true];simp[PyData.eqv]
 exact b
def Fg(lost:Bool):Str:=if lost=true then #["lost"] else #["call"]
theorem Co(a b:Str):(a++b).length=a.length+b.length:=by
 show(a++b).cps.size=_;rw[Str.cps_append,Array.size_append];rfl
def Fd(ns:mY):Str:=Txt.join " " (ns.map B8)
theorem K2{ns:mY}(h:∀n∈ns,0<=n/\n<10^100)(i:ns.length<=300):(Fd ns).length<=40000:=by
 unfold Fd;rw[show Txt.join #[" "] (ns.map B8)=Str.join #[" "] (ns.map B8)from StrLaws.glued_eq_join _ _];have e:=StrLaws.join_length_le #[" "] (ns.map B8)
 have f:=sumLen_le_of_bound (λz:Str=>z) 100 (ns.map B8) (λz g=>by
  obtain⟨n,b,rfl⟩:=ft.mp g;exact(Bg (h n b).1 (h n b).2).len)
 rw[List.map_id',List.length_map]at f;rw[List.length_map,show#[" "].length=1 from rfl]at e;omega
def Bb(h s t w:V):List (Str×V):=[("hall",h),("standing",s),("table",t),("wheel",w)]
def B7(C:Addr)(H:Hp)(x g:Addr)(ws:mY)(f:nf)(ls:mY)(q:Int)(h:mF)(w:V):Prop:=
 ∃a b e,H x=some (.ins C g (Bb (.ref a) (.ref b) (.ref e) w))/\An H a ws f/\Cb H b ls q/\H e=some (.dT h)
theorem B7.same{C:Addr}{H e:Hp}{x g:Addr}{ws:mY}{f:nf}{ls:mY}{q:Int}{i:mF}{w:V}(s:A6 H e)(h:B7 C H x g ws f ls q i w):B7 C e x g ws f ls q i w:=by
 obtain⟨a,b,j,m,n,o,p⟩:=h;exact{a,b,j,s _ _ m,n.same s,o.same s,s _ _ p}
theorem Oy(h s t w v:V):Hu "standing" v (Bb h s t w)=Bb h v t w:=rfl
def D6(ws:mY)(b:nf):Prop:=(∀w∈ws,1<=w/\w<=3000)/\(∀c,b=some c->1<=c/\c<=3000)/\0<ws.length/\ws.length<=8/\Ao (qv b) ws<=3000
def Ck(ws:mY)(e:nf)(b:mF):Prop:=F7 ws e b/\(b.map (·.1)).Nodup/\b.length<=60000
theorem gj{ws:mY}{p:nf}{b:mF}{k:mY×Int}{m:Int}(h:Ck ws p b)(n:Am b k=some (.int m)):1<=m/\m<=(b.length:Int):=by
 obtain⟨j,x,A⟩:=h;obtain⟨m0,q,u,_⟩:=j.1 _ _ n;cases q;have y:UZ b m:={(k,.int m),Be n,rfl};refine{u,?_};have z:(List.range m.toNat).Nodup:=List.nodup_range
 have g:List.range m.toNat ⊆ b.map λf=>match f.2 with| .int i=>(i-1).toNat|_=>0:=λi v=>by
  have B:=mx.mp v;obtain⟨f,o,e⟩:=U2 j x (m.toNat-(i+1)) m y ();refine ft.mpr ⟨f,o,?_⟩;rw[e];show(m-((m.toNat-(i+1):Nat):Int)-1).toNat=i;omega
 have:=List.Nodup.length_le_of_subset z g;rw[List.length_range,List.length_map]at this;omega
theorem Iw{ws:mY}{e:nf}{b:mF}{k:mY×Int}{m:Int}(h:Ck ws e b)(f:Am b k=some (.int m)):1<=m/\m<=60000:=by
 have g:=gj h f;have i:=h.2.2;omega
def Fa(b:mF)(k:mY×Int):Str:=match Am b k with
 |some (.int m)=>#["broken within "]++B8 m
 |_=>#["kept"]
def Jc(ws ls:mY)(b:nf)(q:Int)(who:Nat)(lost:Bool):mY×Int:=if(0:Int)∈Au ws ls who lost then(ws,0)else(Au ws ls who lost,Bl b q lost)
def Pa(ws ls:mY)(b:nf)(q:Int)(who:Nat)(lost:Bool):Str:=if(0:Int)∈Au ws ls who lost then #["broken "]++Fd (Bx (Au ws ls who lost) ws.length)else #["left "]++Fd (Au ws ls who lost)++#[" quiet "]++B8 (Bl b q lost)
theorem N4{ns:mY}:(Fd ns).cps.toList=jn ((ns.map B8).map λx=>x.cps.toList):=by
 unfold Fd;rw[show Txt.join #[" "] (ns.map B8)=Str.join #[" "] (ns.map B8)from StrLaws.glued_eq_join _ _,Jv]
theorem Lg{x hd:Str}{ns:mY}{b:nf}(h:x.cps.toList=jn ((hd::(ns.map B8++Dw b)).map λx=>x.cps.toList))(i:32∉hd.cps.toList)(m:x.length<=100000)(e:∀n∈ns,0<=n/\n<10^100)(f:∀c,b=some c->(0<=c/\c<10^100)/\hd=#["hall"])(p:Fy hd (ns.length:Int)=true)(j:ns.length<=300)(o:PyData.strOk hd=true):Ho x hd ns b:=by
 refine{M8 (by simp) (λw q=>?_) h,m,e,f,p,j,o};rcases eH.mp q with z|z
 ·rw[z];exact i
 ·rcases fC.mp z with z|z
  ·obtain⟨n,g,rfl⟩:=ft.mp z;exact(Bg (e n g).1 (e n g).2).HV
  ·cases b with
   |none=>cases z
   |some c=>
    rcases eH.mp z with z|z
    ·rw[z];decide
    ·rw[List.mem_singleton.mp z];exact(Bg (f c rfl).1.1 (f c rfl).1.2).HV
theorem P9{hd:Str}{n:Int}(h1:Pd (.str hd) [.str "best",.str "rank"]=false)(b:Pd (.str hd) [.str "call",.str "lost",.str "answer",.str "join",.str "leave",.str "turn"]=false)(e:Pd (.str hd) [.str "hall",.str "wheel"]=true)(f:0<n):Fy hd n=true:=by
 unfold Fy;rw[h1,b,e,if_neg Bool.false_ne_true,if_neg Bool.false_ne_true,decide_eq_true (show n>0 from f)];rfl
theorem D2(a b:Str):(a++b).cps.toList=a.cps.toList++b.cps.toList:=by rw[Str.cps_append,Array.toList_append]
theorem gl{ws:mY}{f:nf}(b:D6 ws f):Ho (match f with|none=>#["hall "]++Fd ws|some c=>#["hall "]++Fd ws++#[" calm "]++B8 c) #["hall"] ws f:=by
 have i:∀n∈ws,0<=n/\n<10^100:=λn g=>by have:=b.1 n g;omega
 have g:=K2 i (by have:=b.2.2.2.1;omega)
 have j:(ws.map B8).map (λx:Str=>x.cps.toList)≠[]:=by
  have:=b.2.2.1;intro z;rw[List.map_eq_nil_iff,List.map_eq_nil_iff]at z;rw[z]at this;cases this
 have m:#["hall "].cps.toList=#["hall"].cps.toList++[32]:=by decide
 have o:Fy #["hall"] (ws.length:Int)=true:=P9 #[] #[] #[] (by have:=b.2.2.1;omega);cases f with
 |none=>
  refine Lg ?_ #[] ?_ i (λc e=>by cases e) o (by have:=b.2.2.2.1;omega) #[8]
  ·show(#["hall "]++Fd ws).cps.toList=_;rw[D2,N4,m,show ws.map B8++Dw none=ws.map B8 from List.append_nil _,List.map_cons,O9 j];simp
  ·show(#["hall "]++Fd ws).length<=_;rw[Co];exact ea (i0 g _) #[]
 |some c=>
  have e:0<=c/\c<10^100:=by have:=b.2.1 c rfl;omega
  have q:=(Bg e.1 e.2).len;have p:#[" calm "].cps.toList=32::#["calm"].cps.toList++[32]:=by decide
  refine Lg ?_ #[] ?_ i (λu h=>by cases h;exact{e,rfl}) o (by have:=b.2.2.2.1;omega) #[8]
  ·show(#["hall "]++Fd ws++#[" calm "]++B8 c).cps.toList=_;rw[D2,D2,D2,N4,m,p,List.map_cons,List.map_append,O9 (by simp[Dw]),du j (by simp[Dw])];show _=_++32::(_++32::(#["calm"].cps.toList++32::(B8 c).cps.toList));simp
  ·show(#["hall "]++Fd ws++#[" calm "]++B8 c).length<=_;rw[Co,Co,Co];exact ea (Nat.add_le_add (Nat.add_le_add_right (i0 g _) _) q) #[]
theorem Hg{x hd:Str}{n:Int}(b:0<=n/\n<10^100)(h:x.cps.toList=hd.cps.toList++[32])(e:32∉hd.cps.toList)(p:x.length<=100)(j:Fy hd 1=true)(i:PyData.strOk hd=true):Ho (x++B8 n) hd [n] none:=by
 have o:=(Bg b.1 b.2).len;refine Lg ?_ e (by rw[Co];omega) (λm g=>by rw[List.mem_singleton.mp g];exact b) (λc f=>by cases f) j (by show 1<=300;decide) i;rw[D2,h];show _=hd.cps.toList++32::(B8 n).cps.toList;simp
theorem Uc{n:Int}(b:0<=n/\n<10^100)(lost:Bool):Ho ((if lost=true then #["lost "] else #["call "])++B8 n) (Fg lost) [n] none:=by
 cases lost with
 |true=>exact Hg b #[] #[] #[] #[] #[8]
 |false=>exact Hg b #[] #[] #[] #[] #[8]
theorem gk:Ho #["best"] #["best"] [] none:=
 Lg #[] #[] #[] (λn e=>by cases e) (λc b=>by cases b) #[] #[] #[8]
def Es(b:mF)(k:mY×Int):Str:=match Am b k with
 |some (.int m)=>B8 m
 |_=>#["safe"]
theorem Gf(ws:mY)(w:Int):ws.map V.int++[V.int w]=(ws++[w]).map V.int:=by rw[List.map_append];rfl
theorem eg{b:Type}{ls:List b}{x:b}{i:Nat}(h:ls.length=i):(ls++[x]).length=i+1:=by
 rw[List.length_append,h];rfl
theorem Yk{P:Int->Prop}{ls:mY}{x:Int}(h:∀y∈ls,P y)(b:P x):∀y∈ls++[x],P y:=λy e=>by
 rcases fC.mp e with z|z
 ·exact h y z
 ·cases iT.mp z;exact b
theorem M9{ws:mY}{b:nf}(h:D6 ws b):(ws,0)∈Ba ws (qv b):=by
 refine Kd rfl (λi e=>⟨(h.1 _ (L6 e)).1,Int.le_refl _⟩) (Int.le_refl _) ?_;show 0<qv b;cases b with
 |none=>decide
 |some c=>
  have:=h.2.1 c rfl;show 0<c+1;omega
theorem bo{xs:mY}{e b:nf}{z:Int}(h:z∈V7 xs e b):z∈xs:=by
 unfold V7 at h;exact List.mem_of_mem_drop (List.mem_of_mem_take h)
theorem kc:intBits (618033988749894848204586834365638117720309179805762862137:Int)<=200:=by decide+kernel
theorem A5e:(10:Int)^(60:Int).toNat<2^200:=by decide+kernel
theorem PV(a b:Int):decide (V.int a=V.int b)=decide (a=b):=by simp
theorem cr{x y:Int}(e:0<=x)(f:0<y):Int.gcd y (x%y)=Int.gcd x y:=by
 obtain⟨a,rfl⟩:∃a:Nat,x=a:={x.toNat,()};obtain⟨b,rfl⟩:∃b:Nat,y=b:={y.toNat,()};rw[<- Int.natCast_emod,Int.gcd_natCast_natCast,Int.gcd_natCast_natCast,Nat.gcd_comm b,<- Nat.gcd_rec,Nat.gcd_comm]
def Kl(H:Hp)(r:Int×Int)(v:V):Prop:=∃p,v=.ref p/\H p=some (.tup [.int r.1,.int r.2])
theorem Kl.up{H b:Hp}{r:Int×Int}{v:V}(t:Az H b)(h:Kl H r v):Kl b r v:=by
 obtain⟨p,e,f⟩:=h;exact{p,e,t _ _ f}
theorem Fo:1<=sizeLine:=by decide
theorem Po{xs ys:mY}{ord:List Nat}(h1:ys.Perm xs)(f:ys.Pairwise (·<=·))(g:ord.Perm (List.range xs.length))(h:(ord.map λk=>xs.getD k 0).Pairwise (·<=·)):ord.map (λk=>xs.getD k 0)=ys:=by
 have e:(List.range xs.length).map (λk=>xs.getD k 0)=xs:=by
  refine List.ext_getElem (by simp) λi a b=>?_;have:i<xs.length:=b;simp[List.getElem_map,List.getElem_range,List.getD_eq_getElem?_getD,List.getElem?_eq_getElem this]
 refine List.Perm.eq_of_pairwise (le:=(·<=·)) (λa b _ _ x y=>Int.le_antisymm x y) h f ?_;refine(g.map _).trans ?_;rw[e];exact h1.symm
theorem Ap.set{f:Type}{P:f->V->Prop}{m:List f}{vs:List V}(h:Ap P m vs)(i:Nat){r:f}{v:V}(g:P r v):Ap P (m.set i r) (vs.set i v):=by
 refine{by rw[List.length_set,List.length_set];exact h.1,λj x y b e=>?_};rw[List.getElem?_set]at b e;by_cases z:i=j
 ·rw[if_pos z]at b e;split at b
  ·split at e
   ·cases b;cases e;exact g
   ·cases e
  ·cases b
 ·rw[if_neg z]at b e;exact h.2 j x y b e
def WF(p a:Int):Prop:=1<=p/\p<2^600/\0<=a/\a<p
theorem W7(h s t w v:V):Hu "wheel" v (Bb h s t w)=Bb h s t v:=rfl
def B4(r:Int×Int):Str:=B8 r.1++#["+"]++B8 r.2
def Hm(b:Int)(e:List (Int×Int)):Str:=Txt.join " " (#[29]::e.map B4)
theorem Lc{r:Int×Int}(h1:0<=r.1/\r.1<10^100)(b:0<=r.2/\r.2<10^100):(B4 r).length<=201:=by
 have e:=(Bg h1.1 h1.2).len;have f:=(Bg b.1 b.2).len;unfold B4;rw[Co,Co,show#["+"].length=1 from rfl];omega
theorem mf:#["+"]=⟨#[43]⟩:=by decide
theorem fh{n:Int}(h:0<=n/\n<10^100):43∉(B8 n).cps.toList:=λz=>by
 have:=(Bg h.1 h.2).sgn 43 z;omega
def X0(b:List (Int×Int)):Prop:=b≠[]/\b.length<=63/\(∀r∈b,WF r.1 r.2/\r.1<=2^200)/\∀(i j:Nat) (r e:Int×Int) (t:Int),b[i]?=some r->b[j]?=some e->t%r.1=r.2->t%e.1=e.2->i=j
theorem ae{xs:mY}(e:∀n∈xs,0<=n/\n<10^100)(b:1<=xs.length)(h1:xs.length<=300):Ho (#["wheel "]++Fd xs) #["wheel"] xs none:=by
 have i:=K2 e h1
 have f:(xs.map B8).map (λx:Str=>x.cps.toList)≠[]:=by
  intro z;rw[List.map_eq_nil_iff,List.map_eq_nil_iff]at z;rw[z]at b;cases b
 have g:#["wheel "].cps.toList=#["wheel"].cps.toList++[32]:=by decide
 refine Lg ?_ #[] ?_ e (λc h=>by cases h) (P9 #[] #[] #[] ()) h1 #[8]
 ·rw[D2,N4,g,show xs.map B8++Dw none=xs.map B8 from List.append_nil _,List.map_cons,O9 f];simp
 ·rw[Co];exact ea (i0 i _) #[]
theorem ak{b:Int}{e:List (Int×Int)}(g:0<=b/\b<10^100)(n:e.length<=63)(h:∀r∈e,(0<=r.1/\r.1<10^100)/\(0<=r.2/\r.2<10^100)):(Hm b e).length<=100000:=by
 unfold Hm;rw[show Txt.join #[" "] (#[29]::e.map B4)=Str.join #[" "] (#[29]::e.map B4)from StrLaws.glued_eq_join _ _];have j:=StrLaws.join_length_le #[" "] (#[29]::e.map B4)
 have m:=sumLen_le_of_bound (λz:Str=>z) 300 (#[29]::e.map B4) (λz f=>by
  rcases eH.mp f with rfl|f
  ·rw[Co];exact ea (i0 (Bg g.1 g.2).len _) #[]
  ·obtain⟨r,i,rfl⟩:=ft.mp f;exact ea (Lc (h r i).1 (h r i).2) #[])
 rw[List.map_id',List.length_cons,List.length_map]at m;rw[List.length_cons,List.length_map,show#[" "].length=1 from rfl]at j;omega
theorem U7(r:Int×Int):(B4 r).cps.toList=(B8 r.1).cps.toList++43::(B8 r.2).cps.toList:=by
 unfold B4;rw[D2,D2,show#["+"].cps.toList=[43]by decide];simp
theorem Ur{b:Int}{e:List (Int×Int)}(j:0<=b/\b<10^100)(g:∀r∈e,(0<=r.1/\r.1<10^100)/\(0<=r.2/\r.2<10^100)):Txt.split (Hm b e) #[" "]=#["base"]::B8 b::e.map B4:=by
 refine M8 (by simp) (λw f=>?_) ?_
 ·rcases eH.mp f with rfl|f
  ·decide
  rcases eH.mp f with rfl|f
  ·exact(Bg j.1 j.2).HV
  ·obtain⟨r,h,rfl⟩:=ft.mp f;rw[U7];intro z;rcases fC.mp z with z|z
   ·exact(Bg (g r h).1.1 (g r h).1.2).HV z
   ·rcases eH.mp z with z|z
    ·cases z
    ·exact(Bg (g r h).2.1 (g r h).2.2).HV z
 ·unfold Hm;rw[show Txt.join #[" "] (#[29]::e.map B4)=Str.join #[" "] (#[29]::e.map B4)from StrLaws.glued_eq_join _ _,Jv]
  have i:#[29].cps.toList=#["base"].cps.toList++32::(B8 b).cps.toList:=by
   rw[D2,show#["base "].cps.toList=#["base"].cps.toList++[32]by decide];simp
  cases e with
  |nil=>
   show #[29].cps.toList=#["base"].cps.toList++32::(B8 b).cps.toList;exact i
  |cons r e=>
   show #[29].cps.toList++32::jn (((r::e).map B4).map λx=>x.cps.toList)=#["base"].cps.toList++32::((B8 b).cps.toList++32::jn (((r::e).map B4).map λx=>x.cps.toList));rw[i,List.append_assoc];rfl
theorem kd(a b:Str)(ws:List Str):F8 (a::b::ws) (some 2) none=ws:=by
 unfold F8;rw[HT.cV,show HT.bS (a::b::ws).length 0 (some 2)=min 2 (a::b::ws).length from HT.dC _ 0 2,List.length_cons,List.length_cons,show min 2 (ws.length+1+1)=2 by omega];simp
theorem zn{n:Int}(b:0<=n/\n<10^100):Ho (#["turn "]++B8 n) #["turn"] [n] none:=Hg b #[] #[] #[] #[] #[8]
theorem ms{x hd:Str}{ns:mY}(h:x.cps.toList=jn ((hd::(ns.map B8++Dw none)).map λx=>x.cps.toList))(b:32∉hd.cps.toList)(o:x.length<=100)(e:∀n∈ns,0<=n/\n<100)(m:Fy hd (ns.length:Int)=true)(g:ns.length<=300)(j:PyData.strOk hd=true):Ho x hd ns none:=
 Lg h b () (λn i=>by have:=e n i;omega) (λc f=>by cases f) m g j
theorem gm:Ho #["rank"] #["rank"] [] none:=ms #[8] #[] #[] #[] #[] #[] #[8]
def sy(H:Hp)(ws:mY)(calm:nf)(q:Int)(who:Int)(lost:Bool)(e f:Addr)(E:XK):Prop:=
 (¬(0<=who/\who<(ws.length:Int))/\∀b,A6 H b->E (.ref e) none b)\/((0<=who/\who<(ws.length:Int))/\lost=true/\¬(calm≠none/\q=0)/\∀b,A6 H b->E (.ref f) none b)
def A51(ws:mY)(b:nf):Prop:=ws.length<1\/8<ws.length\/(∃x∈ws,x<1)\/∃c,b=some c/\c<1
theorem Yl(ws:mY)(w:Int):Ls (ws.map V.int++[V.int w]) (-1)=some (.int w):=ba _ _
theorem Gx(ws:mY)(a w:Int):Ao a (ws++[w])=Ao a ws*w:=by
 induction ws generalizing a with
 |nil=>rfl
 |cons x ws b=>exact b (a*x)
theorem Hl{ws:mY}{a:Int}(h:∀w∈ws,1<=w)(b:1<=a):1<=Ao a ws:=mv b (Iv ws a () h)
theorem lh{a b:Int}:(if b<a then b else a)<=a/\(if b<a then b else a)<=b/\((if b<a then b else a)=a\/(if b<a then b else a)=b):=by
 split<;>omega
theorem Tt:∀{ls:mY},0<ls.length->∃j,j<ls.length/\∀y∈ls,ls.getD j 0<=y
 |[],h=>by cases h
 |[x],_=>⟨0,by simp,λy b=>by rw[List.mem_singleton.mp b];exact Int.le_refl _⟩
 |x::z::r,_=>by
  obtain⟨j,g,f⟩:=Tt (ls:=z::r) (by simp);by_cases c:x<=(z::r).getD j 0
  ·refine{0,by simp,λy b=>?_};show x<=y;rcases eH.mp b with e|e
   ·rw[e];exact Int.le_refl _
   ·have:=f y e;omega
  ·refine{j+1,by simpa using g,λy b=>?_};show(z::r).getD j 0<=y;rcases eH.mp b with e|e
   ·rw[e];omega
   ·exact f y e
theorem Sr{b e:mF}(h:∀k,Am b k=Am e k)(o:Option (mY×Int)):told b o=told e o:=by
 cases o with
 |none=>rfl
 |some k=>
  show Um (Am b k)=Um (Am e k);rw[h]
theorem A2m{b f:mF}(h:∀k,Am b k=Am f k)(ws ls:mY)(g:nf)(q:Int)(i:Nat):R4 b ws ls g q i=R4 f ws ls g q i:=by
 have e:told b=told f:=funext (Sr h);unfold R4;rw[e]
theorem ju{e f:mF}(h:∀k,Am e k=Am f k)(ws ls:mY)(b:nf)(q:Int)(i:Nat):Ej e ws ls b q i=Ej f ws ls b q i:=by
 unfold Ej;rw[Sr h,Sr h]
theorem fi{ws:mY}{f:nf}{b:mF}{k:mY×Int}(h:Ck ws f b):PyData.strOk (Es b k)=true:=by
 unfold Es;cases e:Am b k with
 |none=>decide+kernel
 |some v=>
  obtain⟨m,rfl,_⟩:=h.1.1 _ _ e;have:=Iw h e;exact Cr ()
def av(H:Hp)(p:Addr)(ws:mY)(calm:nf)(ls:mY)(q:Int):Prop:=∃a b,H p=some (.tup [.ref a,.ref b])/\An H a ws calm/\Cb H b ls q
theorem O3(xs:mY)(k:Nat):(xs.eraseIdx k).map V.int=(xs.take k).map V.int++(xs.drop (k+1)).map V.int:=by
 rw[List.eraseIdx_eq_take_drop_succ,List.map_append]
theorem Vt{n k:Nat}(h:k<n):¬(HT.bS n 0 none=0/\HT.bS n n (some (k:Int))=n):=by
 rw[HT.dC];omega
theorem Vu{n k:Nat}(h:k<n):¬(HT.bS n 0 (some ((k:Int)+1))=0/\HT.bS n n none=n):=by
 have e:((k:Int)+1)=((k+1:Nat):Int):=()
 rw[e,HT.dC];omega
theorem Fv(b:Bool)(s:Str):(if b=true then[s]else[]).length<=1:=by
 split<;>simp
abbrev KdT(b e f g h C:Addr)(k:Str):Prop:=(b=C/\k=#["hall"])\/(e=C/\k=#["listener"])\/(f=C/\k=#["loss"])\/(g=C/\k=#["many"])\/(h=C/\k=#["unsafe"])
abbrev A2t(A:Str->Str->Hp->Prop):VK:=λv b=>∃s,v=.str s/\A #["told"] s b
abbrev A2s(b e f g h:Addr)(A:Str->Str->Hp->Prop):XK:=λcls _ i=>∃C k,cls=.ref C/\KdT b e f g h C k/\A #["refused"] k i
def Fj(ws:mY)(b:nf):Prop:=D6 ws b/\Ao (qv b) ws<=40
theorem Ef{ws:mY}{b:nf}(h:(decide (0<ws.length)&&(decide (ws.length<=8)&&(ws.all (λw=>decide (1<=w/\w<=3000))&&(decide (Ao (qv b) ws<=40)&&(match b with|none=>true|some c=>decide (1<=c/\c<=3000))))))=true):Fj ws b:=by
 rw[Bool.and_eq_true,Bool.and_eq_true,Bool.and_eq_true,Bool.and_eq_true,decide_eq_true_iff,decide_eq_true_iff,decide_eq_true_iff,List.all_eq_true]at h;obtain⟨e,f,g,i,j⟩:=h;refine{{λw n=>of_decide_eq_true (g w n),λc m=>?_,e,f,()},i};subst m;exact of_decide_eq_true j
def Ce(hd:Str)(ns:mY):Str:=Txt.join #[" "] (hd::ns.map B8)
theorem jt{hd:Str}{ns:mY}:(Ce hd ns).cps.toList=jn ((hd::ns.map B8).map λx=>x.cps.toList):=by
 unfold Ce;rw[show Txt.join #[" "] (hd::ns.map B8)=Str.join #[" "] (hd::ns.map B8)from StrLaws.glued_eq_join _ _];exact Jv _
theorem Fh{hd x:Str}{ns:mY}(b:ns≠[])(e:x.cps.toList=hd.cps.toList++[32]):Ce hd ns=x++Fd ns:=by
 refine Kf ?_;rw[jt,D2,N4,List.map_cons,O9 (by simpa using b),e];simp
theorem R5{hd:Str}{ns:mY}(h:∀n∈ns,0<=n/\n<10^100)(m:ns.length<=30)(j:hd.length<=20):(Ce hd ns).length<=5000:=by
 unfold Ce;rw[show Txt.join #[" "] (hd::ns.map B8)=Str.join #[" "] (hd::ns.map B8)from StrLaws.glued_eq_join _ _];have f:=StrLaws.join_length_le #[" "] (hd::ns.map B8)
 have g:=sumLen_le_of_bound (λz:Str=>z) 100 (hd::ns.map B8) (λz i=>by
  rcases eH.mp i with b|b
  ·rw[b];show hd.length<=100;omega
  ·obtain⟨n,e,rfl⟩:=ft.mp b;exact(Bg (h n e).1 (h n e).2).len)
 rw[List.map_id',List.length_cons,List.length_map]at g;rw[List.length_cons,List.length_map,show#[" "].length=1 from rfl]at f;omega
theorem Us{hd:Str}{ns:mY}(h:∀n∈ns,0<=n/\n<10^100)(e:PyData.strOk hd=true):PyData.strOk (Ce hd ns)=true:=by
 unfold Ce;rw[show Txt.join #[" "] (hd::ns.map B8)=Str.join #[" "] (hd::ns.map B8)from StrLaws.glued_eq_join _ _];refine P7 #[8] λz g=>?_;rcases eH.mp g with b|b
 ·rw[b];exact e
 ·obtain⟨n,f,rfl⟩:=ft.mp b;exact Cr (h n f)
theorem Xj(q w:Int)(ws:mY):Ao w ws*q=Ao q (ws++[w]):=by
 have b:=Ld w ws 1;have e:=Ld q ws 1;rw[Int.mul_one]at b e;rw[Gx,b,e,Int.mul_comm (w*Ao 1 ws) q,Int.mul_comm w,<- Int.mul_assoc]
theorem fb(w:Int)(ws:mY):Ao w ws=Ao 1 (ws++[w]):=by
 have:=Xj 1 w ws;rw[Int.mul_one]at this;exact this
theorem E5{H:Hp}{p:Addr}{a b:Str}(h:H p=some (.tup [.str a,.str b]))(e:PyData.strOk a=true)(f:PyData.strOk b=true):Rp H (.tuple [.str a,.str b]) (.ref p):=by
 unfold Rp;refine{p,_,rfl,h,?_};unfold aO;refine{_,_,rfl,?_,?_}
 ·unfold Rp;exact{rfl,e}
 unfold aO;refine{_,_,rfl,?_,?_}
 ·unfold Rp;exact{rfl,f}
 unfold aO;rfl
theorem Gs{a b:Str}:PyData.eqv (.tuple [.str a,.str b]) (.tuple [.str a,.str b])=true:=by
 simp[PyData.eqv,PyData.eqvAll]
theorem Dn:PyData.strOk #["told"]=true:=by decide+kernel
theorem Eu:PyData.strOk #["refused"]=true:=by decide+kernel
def Lr(xs:mY)(b:Int):Prop:=(xs=[2,4,4]/\b=2)\/(xs=[3,6,6,6]/\b=3)\/(xs=[5]/\b=5)\/(xs=[2,4,8,8]/\b=2)
def lc(xs:mY):Int:=xs.foldl (λc n=>c/(Int.gcd c n:Nat)*n) 1
def cT(c:Int)(xs:mY):mY:=xs.map λn=>c/n
def stp(top:Int)(s:Int×Int×Int)(p:Int):Int×Int×Int:=(s.1+s.2.1/(top/p)*s.2.2,s.2.1%(top/p),p)
def jx(ls:mY)(top t:Int):Int×Int×Int:=ls.foldl (stp top) (0,t,1)
abbrev OkF(ls:mY)(top t:Int):Prop:=ls.length<=5/\Ls (ls.map V.int) (-1)=some (.int top)/\∀i,i<ls.length->0<ls.getD i 0/\ls.getD i 0<=8/\0<top/ls.getD i 0/\top/ls.getD i 0<=8/\0<=(jx (ls.take i) top t).2.1/(top/ls.getD i 0)/\(jx (ls.take i) top t).2.1/(top/ls.getD i 0)<=8
def EA(ls:mY)(p:Int):mY:=if ls.getLastD 1<p then ls++[p]else ls
def VA(s:mY×Int×mY)(p:Int):mY×Int×mY:=(EA s.1 p,s.2.1*(p/s.1.getLastD 1)+1,s.2.2++[(jx (EA s.1 p) p (s.2.1*(p/s.1.getLastD 1))).1])
def af(xs:mY):mY×Int×mY:=xs.foldl VA ([1],0,[])
abbrev OkR(s:mY×Int×mY)(p:Int):Prop:=Ls (s.1.map V.int) (-1)=some (.int (s.1.getLastD 1))/\0<s.1.getLastD 1/\s.1.getLastD 1<=8/\0<=s.2.1/\s.2.1<=8/\s.1.length<=4/\s.2.2.length<=4/\OkF (EA s.1 p) p (s.2.1*(p/s.1.getLastD 1))
abbrev Z8(xs:mY):List (Int×Int):=xs.zip (af xs).2.2
abbrev Dbl(b x:Int):Prop:=0<=((intBits (x/b):Nat):Int)-1/\((intBits b:Nat):Int)+(((intBits (x/b):Nat):Int)-1)<=100/\b*2^(((intBits (x/b):Nat):Int)-1).toNat=x
section
variable {xs:mY}{b:Int}
theorem Lr.a(h:Lr xs b):0<xs.length/\xs.length<=4/\(∀x∈xs,1<=x/\x<=8/\b<=x)/\xs[0]?=some b/\b∈xs/\1<=b/\b<=8/\xs.Pairwise (·<=·):=by
 rcases h with⟨rfl,rfl⟩|⟨rfl,rfl⟩|⟨rfl,rfl⟩|⟨rfl,rfl⟩<;>decide+kernel
theorem Lr.d(h:Lr xs b):∀x∈xs,(x=b\/x=2*b\/x=4*b)/\Dbl b x:=by
 rcases h with⟨rfl,rfl⟩|⟨rfl,rfl⟩|⟨rfl,rfl⟩|⟨rfl,rfl⟩<;>decide+kernel
theorem Lr.c(h:Lr xs b):∀i,i<xs.length-1->xs.getD (i+1) 0%xs.getD i 0=0:=by
 rcases h with⟨rfl,rfl⟩|⟨rfl,rfl⟩|⟨rfl,rfl⟩|⟨rfl,rfl⟩<;>decide+kernel
theorem Lr.l(h:Lr xs b):∀i,i<xs.length->0<=lc (xs.take i)/\0<((Int.gcd (lc (xs.take i)) (xs.getD i 0):Nat):Int)/\((Int.gcd (lc (xs.take i)) (xs.getD i 0):Nat):Int)<=24/\0<=lc (xs.take i)/((Int.gcd (lc (xs.take i)) (xs.getD i 0):Nat):Int)/\lc (xs.take i)/((Int.gcd (lc (xs.take i)) (xs.getD i 0):Nat):Int)<=24:=by
 rcases h with⟨rfl,rfl⟩|⟨rfl,rfl⟩|⟨rfl,rfl⟩|⟨rfl,rfl⟩<;>decide+kernel
theorem Lr.s(h:Lr xs b):0<=lc xs/\0<=(cT (lc xs) xs).sum/\0<((Int.gcd (cT (lc xs) xs).sum (lc xs):Nat):Int)/\((Int.gcd (cT (lc xs) xs).sum (lc xs):Nat):Int)<=24/\(cT (lc xs) xs).sum/((Int.gcd (cT (lc xs) xs).sum (lc xs):Nat):Int)<=lc xs/((Int.gcd (cT (lc xs) xs).sum (lc xs):Nat):Int):=by
 rcases h with⟨rfl,rfl⟩|⟨rfl,rfl⟩|⟨rfl,rfl⟩|⟨rfl,rfl⟩<;>decide+kernel
theorem Lr.r(h:Lr xs b):∀i,i<xs.length->OkR (af (xs.take i)) (xs.getD i 0):=by
 rcases h with⟨rfl,rfl⟩|⟨rfl,rfl⟩|⟨rfl,rfl⟩|⟨rfl,rfl⟩<;>decide+kernel
theorem Lr.w(h:Lr xs b):(Z8 xs).length=xs.length/\(Z8 xs).map Prod.fst=xs/\(af xs).2.2.length=xs.length/\(Z8 xs).Nodup/\(∀r∈Z8 xs,(1<=r.1/\r.1<=8)/\0<=r.2/\r.2<r.1)/\∀r∈Z8 xs,∀s∈Z8 xs,r=s\/(s.1%r.1=0/\s.2%r.1≠r.2)\/(r.1%s.1=0/\r.2%s.1≠s.2):=by
 rcases h with⟨rfl,rfl⟩|⟨rfl,rfl⟩|⟨rfl,rfl⟩|⟨rfl,rfl⟩<;>decide+kernel
end
theorem Jt{xs:mY}{i:Nat}{x:Int}(h:xs[i]?=some x):xs.getD i 0=x:=by rw[List.getD_eq_getElem?_getD,h];rfl
theorem l8{xs:mY}{i:Nat}{x:Int}(h:xs[i]?=some x):lc (xs.take (i+1))=lc (xs.take i)/((Int.gcd (lc (xs.take i)) x:Nat):Int)*x:=by
 unfold lc;rw[Ew h,List.foldl_append];rfl
theorem cj{xs:mY}{i:Nat}{x top t:Int}(h:xs[i]?=some x):jx (xs.take (i+1)) top t=stp top (jx (xs.take i) top t) x:=by
 unfold jx;rw[Ew h,List.foldl_append];rfl
theorem gp{xs:mY}{i:Nat}{x:Int}(h:xs[i]?=some x):af (xs.take (i+1))=VA (af (xs.take i)) x:=by
 unfold af;rw[Ew h,List.foldl_append];rfl
theorem U5{j:Type}{e f:List j}{ord:List Nat}{n:Nat}(h1:ord.Perm #[23])(q:e.length=n)(u:f.length=n)(h:∀(k o:Nat) (x:j),ord[k]?=some o->f[k]?=some x->e[o]?=some x):e.Perm f:=by
 subst q;have v:ord.length=e.length:=by rw[h1.length_eq,List.length_range]
 have m:ord.map (λo=>e[o]?)=f.map some:=by
  refine List.ext_getElem (by simp;omega) λk a b=>?_;rw[List.length_map]at a b;rw[List.getElem_map,List.getElem_map];exact h k _ _ (d3 a) (d3 b)
 have p:(List.range e.length).map (λo=>e[o]?)=e.map some:=by
  refine List.ext_getElem (by simp) λk a b=>?_;rw[List.length_map]at b;simp[b]
 have g:=h1.map λo=>e[o]?;rw[m,p]at g;have i:=g.symm.filterMap id;rw[List.filterMap_map,List.filterMap_map]at i;simpa using i
theorem Tn{xs:mY}{b:Int}{f:List (Int×Int)}(h:Lr xs b)(g:f.Perm (Z8 xs)):X0 f/\f.length=xs.length/\∀r∈f,(1<=r.1/\r.1<=8)/\0<=r.2/\r.2<r.1:=by
 obtain⟨E,F,-⟩:=h.a;obtain⟨A,_,_,B,C,D⟩:=h.w;have o:f.length=xs.length:=g.length_eq.trans A;have m:∀r∈f,(1<=r.1/\r.1<=8)/\0<=r.2/\r.2<r.1:=λr p=>C r (g.mem_iff.mp p);have G:(8:Int)<2^600:=by decide+kernel
 have H:(8:Int)<=2^200:=by decide+kernel
 refine{{λe=>?_,(),λr p=>?_,λi j r s t n v q u=>?_},o,m}
 ·rw[e]at o;exact absurd o.symm (by show xs.length≠0;omega)
 ·have:=m r p;exact{{this.1.1,(),this.2.1,this.2.2},()}
 ·have x:r=s:=by
   rcases D r (g.mem_iff.mp (cI n)) s (g.mem_iff.mp (cI v))with z|⟨z,y⟩|⟨z,y⟩
   ·exact z
   ·rw[<- u,Int.emod_emod_of_dvd _ (Int.dvd_of_emod_eq_zero z)]at y;exact absurd q y
   ·rw[<- q,Int.emod_emod_of_dvd _ (Int.dvd_of_emod_eq_zero z)]at y;exact absurd u y
  subst x;exact(List.getElem?_inj (b0.mp n).1 (g.nodup_iff.mpr B)).mp (n.trans v.symm)
def Ra(H:Hp)(w:V)(l:Addr)(b:List (Int×Int)):Prop:=∃(p:Addr) (e f:List V),w=.ref p/\H p=some (.lst e)/\Ap (Kl H) b e/\H l=some (.lst f)/\Ap (Kl H) b f/\X0 b
theorem Ra.same{H b:Hp}{w:V}{l:Addr}{e:List (Int×Int)}(s:A6 H b)(h:Ra H w l e):Ra b w l e:=by
 obtain⟨p,o,q,f,g,i,j,m,n⟩:=h;exact{p,o,q,f,s _ _ g,i.imp (λ_ _ z=>Kl.up (Az.of s) z),s _ _ j,m.imp (λ_ _ z=>Kl.up (Az.of s) z),n}
theorem Ra.but{x C i:Addr}{fs:List (Str×V)}{H f:Hp}{w:V}{l:Addr}{g:List (Int×Int)}(s:Bw x H f)(b:H x=some (.ins C i fs))(h:Ra H w l g):Ra f w l g:=by
 obtain⟨p,y,A,j,m,n,o,q,v⟩:=h;exact{p,y,A,j,s.lst b m,n.imp (λ_ _ ⟨u,e,z⟩=>{u,e,s.tup b z}),s.lst b o,q.imp (λ_ _ ⟨u,e,z⟩=>{u,e,s.tup b z}),v}
def Hz(b:List (Int×Int))(n:Int)(d:Str):Prop:=(d=#["nobody"]/\∀r∈b,n%r.1≠r.2)\/∃(j:Nat) (r:Int×Int),b[j]?=some r/\n%r.1=r.2/\d=B8 (j:Int)
theorem Hz.uniq{o:List (Int×Int)}{n:Int}{d e:Str}(h:X0 o)(a:Hz o n d)(b:Hz o n e):d=e:=by
 rcases a with⟨f,g⟩|⟨j,r,f,g,q⟩<;>rcases b with⟨i,m⟩|⟨k,p,i,m,u⟩
 ·rw[f,i]
 ·exact absurd m (g p (cI i))
 ·exact absurd g (m r (cI f))
 ·rw[q,u,h.2.2.2 j k r p n f i g m]
theorem Hz.ok{e:List (Int×Int)}{n:Int}{d:Str}(h:X0 e)(a:Hz e n d):PyData.strOk d=true:=by
 rcases a with⟨b,_⟩|⟨j,r,b,_,f⟩
 ·rw[b];decide+kernel
 ·rw[f];have:=(b0.mp b).1;have:=h.2.1;exact Cr ⟨(),()⟩
def nn(H:Hp)(f:Addr)(ws:mY)(e:nf)(ls:mY)(q:Int)(g:mF):Prop:=∃a b T,H f=some (.tup [.ref a,.ref b,.ref T])/\An H a ws e/\Cb H b ls q/\H T=some (.dT g)
theorem nn.same{H e:Hp}{g:Addr}{ws:mY}{f:nf}{ls:mY}{q:Int}{i:mF}(s:A6 H e)(h:nn H g ws f ls q i):nn e g ws f ls q i:=by
 obtain⟨a,b,T,j,m,n,o⟩:=h;exact{a,b,T,s _ _ j,m.same s,n.same s,s _ _ o}
theorem nn.but{x C m:Addr}{fs:List (Str×V)}{H f:Hp}{i:Addr}{ws:mY}{g:nf}{ls:mY}{q:Int}{j:mF}(s:Bw x H f)(e:H x=some (.ins C m fs))(h:nn H i ws g ls q j):nn f i ws g ls q j:=by
 obtain⟨a,b,T,n,o,p,u⟩:=h;exact{a,b,T,s.tup e n,o.but s e,p.but s e,s.dT e u}
def Sy(C:Addr)(H:Hp)(x g h:Addr)(w:V)(ws:mY)(b:nf)(ls:mY)(q:Int):Prop:=∃f e,B7 C H x g ws b ls q f w/\Ck ws b f/\nn H h ws b ls q e/\Ck ws b e/\Fj ws b/\(ls,q)∈Ba ws (qv b)
theorem Sy.same{C:Addr}{H b:Hp}{x f g:Addr}{w:V}{ws:mY}{e:nf}{ls:mY}{q:Int}(s:A6 H b)(h:Sy C H x f g w ws e ls q):Sy C b x f g w ws e ls q:=by
 obtain⟨u,i,j,m,n,o,p⟩:=h;exact{u,i,B7.same s j,m,n.same s,o,p}
theorem Vd{ws:mY}{e:nf}{f b:mF}(h:Ck ws e f)(h':Ck ws e b)(k:mY×Int):Fa f k=Fa b k:=by
 unfold Fa;rw[Ka h.1 h'.1]
theorem d4{ws:mY}{f:nf}{b:mF}(h:Ck ws f b)(k:mY×Int):PyData.strOk (Fa b k)=true:=by
 unfold Fa;cases e:Am b k with
 |none=>decide+kernel
 |some v=>
  obtain⟨m,rfl,_⟩:=h.1.1 _ _ e;have g:=Iw h e;exact Ea #[8] (Cr ⟨(),()⟩)
def zm(ws:mY)(b:nf):Str:=match b with
 |none=>Ce #["hall"] ws
 |some c=>Ce #["hall"] ws++#[" calm "]++B8 c
theorem mq{ws:mY}{b:nf}(h:D6 ws b):Ho (zm ws b) #["hall"] ws b:=by
 have e:ws≠[]:=λz=>by
  have:=h.2.2.1;rw[z]at this;cases this
 have:=gl h;unfold zm;cases b with
 |none=>
  rw[Fh e (x:=#["hall "]) #[]];exact this
 |some c=>
  rw[Fh e (x:=#["hall "]) #[]];exact this
theorem D6.qv{ws:mY}{b:nf}(h:D6 ws b):1<=qv b/\qv b<=3001:=by
 cases b with
 |none=>exact{Int.le_refl _,#[]}
 |some c=>
  have:=h.2.1 c rfl;show 1<=c+1/\c+1<=3001;omega
def sk(j i:Nat):Nat:=if i<j then i else i+1
theorem X7{xs:mY}{j i:Nat}:(xs.eraseIdx j).getD i 0=xs.getD (sk j i) 0:=by
 rw[List.getD_eq_getElem?_getD,List.getElem?_eraseIdx,List.getD_eq_getElem?_getD];unfold sk;split<;>rfl
theorem j6{xs:mY}{x:Int}{i:Nat}(h:i<(xs++[x]).length):(xs++[x]).getD i 0=if i<xs.length then xs.getD i 0 else x:=by
 rw[List.getD_eq_getElem?_getD];by_cases z:i<xs.length
 ·rw[if_pos z,List.getElem?_append_left z,List.getD_eq_getElem?_getD]
 ·rw[if_neg z,List.getElem?_append_right ()];rw[List.length_append,List.length_singleton]at h;rw[show i-xs.length=0 by omega];rfl
theorem Wl{ws ls:mY}{q n x:Int}(h:(ls,n)∈Ba ws q)(p:1<=x):(ls++[x],n)∈Ba (ws++[x]) q:=by
 obtain⟨f,g,j,m⟩:=Lp h;have o:ls.length=ws.length:=f;refine Kd (by show(ls++[x]).length=_;simp[o]) (λi b=>?_) j m;show 1<=(ls++[x]).getD i 0/\(ls++[x]).getD i 0<=(ws++[x]).getD i 0;have e:=b;rw[List.length_append,List.length_singleton]at e;rw[j6 b,j6 (by rw[List.length_append,List.length_singleton];omega)];by_cases z:i<ws.length
 ·rw[if_pos z,if_pos ()];exact g i z
 ·rw[if_neg z,if_neg ()];exact{p,Int.le_refl _}
theorem mh{ws:mY}(h:∀w∈ws,1<=w):∀(q:Int) (k:Nat),1<=q->Ao q (ws.eraseIdx k)<=Ao q ws:=by
 induction ws with
 |nil=>exact λq k _=>Int.le_refl _
 |cons w ws j=>
  intro q k g;have e:=h w (by simp);have b:∀x∈ws,1<=x:=λx i=>h x (by simp[i]);cases k with
  |zero=>
   show Ao q ws<=Ao (q*w) ws;have m:=Hl (a:=q) b g;have f:=Ld w ws q;rw[Int.mul_comm q w,f];have:=Int.mul_le_mul_of_nonneg_right e (show 0<=Ao q ws by omega);omega
  |succ k=>
   show Ao (q*w) (ws.eraseIdx k)<=Ao (q*w) ws;refine j b (q*w) k ?_;have:=i3 e (show 0<=q by omega);omega
theorem j9{ws ls:mY}{q n:Int}(k:Nat)(h:(ls,n)∈Ba ws q):(ls.eraseIdx k,n)∈Ba (ws.eraseIdx k) q:=by
 obtain⟨e,f,g,j⟩:=Lp h;have m:ls.length=ws.length:=e;refine Kd (by show(ls.eraseIdx k).length=(ws.eraseIdx k).length;rw[List.length_eraseIdx,List.length_eraseIdx,m]) (λi b=>?_) g j;show 1<=(ls.eraseIdx k).getD i 0/\(ls.eraseIdx k).getD i 0<=(ws.eraseIdx k).getD i 0;rw[X7,X7];refine f _ ?_;rw[List.length_eraseIdx]at b;unfold sk;split at b<;>split<;>omega
theorem Tp{ws:mY}{g:nf}(h:Fj ws g)(k:Nat)(j:k<ws.length)(h1:1<ws.length):Fj (ws.eraseIdx k) g:=by
 obtain⟨⟨a,b,c,d,e⟩,f⟩:=h;have m:1<=qv g:=(D6.qv ⟨a,b,c,d,e⟩).1;have o:=mh (λw i=>(a w i).1) (qv g) k m;have n:(ws.eraseIdx k).length=ws.length-1:=by rw[List.length_eraseIdx,if_pos j]
 exact{{λw i=>a w (List.mem_of_mem_eraseIdx i),b,(),(),()},()}
def Yj(H:Hp)(f:Addr)(ws:mY)(b:nf)(ls:mY)(q:Int):Prop:=∃e,nn H f ws b ls q e/\Ck ws b e
theorem Yj.same{H b:Hp}{f:Addr}{ws:mY}{e:nf}{ls:mY}{q:Int}(s:A6 H b)(h:Yj H f ws e ls q):Yj b f ws e ls q:=by
 obtain⟨j,g,i⟩:=h;exact{j,g.same s,i}
def nk(ws:mY)(h:nf)(ls:mY)(q i:Int)(f g:Str)(b e:mY):Prop:=
 ((i<1\/ws.length=8)/\f=#["refused"]/\g=#["hall"]/\b=ws/\e=ls)\/
 ((1<=i/\ws.length<8)/\((3000<Ao (qv h) (ws++[i])/\f=#["refused"]/\g=#["many"]/\b=ws/\e=ls)\/
  (Ao (qv h) (ws++[i])<=3000/\∃j,Ck (ws++[i]) h j/\(((Am j (ls++[i],q)).isSome=true/\f=#["refused"]/\g=#["unsafe"]/\b=ws/\e=ls)\/
   (Am j (ls++[i],q)=none/\f=#["told"]/\g=#["joined "]++B8 (ws.length:Nat)/\b=ws++[i]/\e=ls++[i])))))
def nl(ws ls:mY)(k:Nat)(f g:Str)(b e:mY):Prop:=
 (ws.length<=k/\f=#["refused"]/\g=#["listener"]/\b=ws/\e=ls)\/
 (k<ws.length/\((ws.length=1/\f=#["refused"]/\g=#["hall"]/\b=ws/\e=ls)\/
  (1<ws.length/\f=#["told"]/\g=#["gone "]++B8 (k:Int)/\b=ws.eraseIdx k/\e=ls.eraseIdx k)))
theorem Jl{ws:mY}{b:nf}(h:D6 ws b):(∀w∈ws,intBits w<=256)/\intBits (qv b)<=256:=
 ⟨λw e=>ea (Ct (n:=12) (by have:=h.1 w e;omega)) #[],ea (Ct (n:=12) (by have:=h.qv;omega)) #[]⟩
theorem Pz{ws:mY}{i:Int}(h:∀w∈ws,intBits w<=256)(b:intBits i<=256):∀w∈ws++[i],intBits w<=256:=λw e=>by
 rcases fC.mp e with z|z
 ·exact h w z
 ·rw[List.mem_singleton.mp z];exact b
theorem Gu{ws:mY}{b:nf}{i:Int}(h:D6 ws b)(h1:1<=i)(n:ws.length<8)(f:Ao (qv b) (ws++[i])<=3000):D6 (ws++[i]) b:=by
 have j:=Hl (a:=qv b) (λw e=>(h.1 w e).1) h.qv.1;have g:=f;rw[Gx]at g;have m:=Int.mul_le_mul_of_nonneg_right (show 1<=Ao (qv b) ws by omega) (show 0<=i by omega);refine{λw e=>?_,h.2.1,by simp,by rw[List.length_append,List.length_singleton];omega,f};rcases fC.mp e with z|z
 ·exact h.1 w z
 ·rw[List.mem_singleton.mp z];omega
theorem Vw:PyData.strOk #["listener"]=true:=by decide+kernel
theorem Xm:PyData.strOk #["loss"]=true:=by decide+kernel
def A2v(x hd:Str):Prop:=x.cps.toList=hd.cps.toList++[32]/\32∉hd.cps.toList/\x.length<=100/\Fy hd 1=true/\PyData.strOk hd=true/\Pd (.str hd) [.str "call",.str "lost",.str "answer",.str "join",.str "leave",.str "turn"]=true/\hd≠#["turn"]
theorem lf{b:nf}{n:Int}{lost:Bool}(h:N9 b n lost):lost∈eh b n:=by
 unfold eh;cases lost with
 |false=>split<;>simp
 |true=>
  obtain⟨e,f⟩:=h rfl;rw[if_pos (by unfold Jz;simp[e,f])];simp
theorem kq{ws ls:mY}{who i:Nat}{lost:Bool}(h1:∀w∈ws,1<=w)(b:who<ws.length)(f:i<ls.length):(decide (V.int (ls.getD i 0)=V.int 1)&&(lost|| !decide (V.int (0+(i:Int))=V.int (who:Int))))=decide ((Au ws ls who lost).getD i 0=0):=by
 have g:=h1 _ (L6 b);rw[Xi f,Int.zero_add,Bool.eq_iff_iff];simp only[Bool.and_eq_true,Bool.or_eq_true,Bool.not_eq_true',decide_eq_true_iff,decide_eq_false_iff_not,V.int.injEq];by_cases e:i=who/\lost=false
 ·rw[if_pos e];obtain⟨rfl,rfl⟩:=e;constructor
  ·rintro⟨_,z|z⟩
   ·cases z
   ·exact absurd rfl z
  ·intro z;omega
 ·rw[if_neg e];constructor
  ·rintro⟨z,_⟩;omega
  ·intro z;refine{(),?_};cases lost with
   |true=>exact .inl rfl
   |false=>exact .inr λy=>e ⟨(),rfl⟩
def sx(f:mF)(ws:mY)(g:nf)(ls:mY)(n:Int)(e b:Str):Prop:=
 (e=#["best"]/\∃j:Nat,Hw (λi=>R4 f ws ls g n i) ws.length j/\b=B8 (j:Int))\/(e=#["rank"]/\b=Es f (ls,n))\/
 ∃k:Nat,k<ws.length/\e=#["answer "]++B8 (k:Int)/\b=if Ej f ws ls g n k=true then #["lost"] else #["reached"]
def R7(H:Hp)(g:mF)(ws:mY)(f:nf)(ls:mY)(n:Int)(us:List V):Prop:=∀u∈us,∃p e b,u=.ref p/\H p=some (.tup [.str e,.str b])/\sx g ws f ls n e b
theorem R7.same{H f:Hp}{i:mF}{ws:mY}{g:nf}{ls:mY}{n:Int}{us:List V}(s:A6 H f)(h:R7 H i ws g ls n us):R7 f i ws g ls n us:=λu q=>by
 obtain⟨p,e,b,j,m,o⟩:=h u q;exact{p,e,b,j,s _ _ m,o}
theorem R7.put{H:Hp}{A:Addr}{vs x:List V}{j:mF}{ws:mY}{i:nf}{ls:mY}{n:Int}{us:List V}(q:H A=some (.lst vs))(h:R7 H j ws i ls n us):R7 (upd H A (.lst x)) j ws i ls n us:=λu v=>by
 obtain⟨p,g,b,m,f,o⟩:=h u v;refine{p,g,b,m,?_,o};rw[A9 (λe=>by subst e;rw[q]at f;cases f)];exact f
theorem sx.ok{g:mF}{ws:mY}{f:nf}{ls:mY}{n:Int}{e b:Str}(m:Ck ws f g)(o:ws.length<=8)(h:sx g ws f ls n e b):PyData.strOk b=true:=by
 rcases h with⟨_,j,i,rfl⟩|⟨_,rfl⟩|⟨k,_,_,rfl⟩
 ·have:=i.1;exact Cr ⟨(),()⟩
 ·exact fi m
 ·split<;>decide+kernel
theorem Yj.but{x C g:Addr}{fs:List (Str×V)}{H b:Hp}{f:Addr}{ws:mY}{e:nf}{ls:mY}{q:Int}(s:Bw x H b)(m:H x=some (.ins C g fs))(h:Yj H f ws e ls q):Yj b f ws e ls q:=by
 obtain⟨n,i,j⟩:=h;exact{n,i.but s m,j}
theorem Vk{ws ls:mY}{b:nf}{n:Int}{k:Nat}{j m:Str}{e i:mY}(f:Fj ws b)(g:(ls,n)∈Ba ws (qv b))(h:nl ws ls k j m e i)(q:k<100):Fj e b/\(i,n)∈Ba e (qv b)/\PyData.strOk j=true/\PyData.strOk m=true:=by
 rcases h with⟨_,rfl,rfl,rfl,rfl⟩|⟨o,⟨_,rfl,rfl,rfl,rfl⟩|⟨p,rfl,rfl,rfl,rfl⟩⟩
 ·exact{f,g,Eu,Vw}
 ·exact{f,g,Eu,by decide+kernel}
 ·exact{Tp f k o p,j9 k g,Dn,Ea #[8] (Cr {(),()})}
theorem Vi{ws ls:mY}{b:nf}{n i:Int}{o p:Str}{g m:mY}(e:Fj ws b)(f:(ls,n)∈Ba ws (qv b))(h:nk ws b ls n i o p g m)(v:¬(40<Ao (qv b) (ws++[i])/\Ao (qv b) (ws++[i])<=3000)):Fj g b/\(m,n)∈Ba g (qv b)/\PyData.strOk o=true/\PyData.strOk p=true:=by
 have u:=e.1.2.2.2.1;rcases h with⟨_,rfl,rfl,rfl,rfl⟩|⟨j,⟨_,rfl,rfl,rfl,rfl⟩|⟨q,x,_,⟨_,rfl,rfl,rfl,rfl⟩|⟨_,rfl,rfl,rfl,rfl⟩⟩⟩
 ·exact{e,f,Eu,by decide+kernel}
 ·exact{e,f,Eu,by decide+kernel}
 ·exact{e,f,Eu,by decide+kernel}
 ·exact{{Gu e.1 j.1 j.2 q,()},Wl f j.1,Dn,Ea #[8] (Cr {(),()})}
def EB(T:Addr)(H:Hp)(b h:Addr)(e:mY)(f:nf)(cs:mY)(w:V)(l:Addr):Prop:=(∃g,Ra H w l g)/\H T=some (.tab lamQ lamP)/\An H b e f/\H h=some (.lst (cs.map V.int))
theorem EB.but{T x C n:Addr}{fs:List (Str×V)}{H e:Hp}{g m:Addr}{i:mY}{j:nf}{cs:mY}{w:V}{l:Addr}(s:Bw x H e)(b:H x=some (.ins C n fs))(h:EB T H g m i j cs w l):EB T e g m i j cs w l:=by
 obtain⟨⟨u,o⟩,f,p,q⟩:=h;exact{{u,o.but s b},s _ _ (Bj f b HO.noConfusion) f,p.but s b,s.lst b q}
theorem Sy.ins{C:Addr}{H:Hp}{x g m:Addr}{w:V}{ws:mY}{j:nf}{ls:mY}{q:Int}(h:Sy C H x g m w ws j ls q):∃a b T,H x=some (.ins C g (Bb (.ref a) (.ref b) (.ref T) w))/\∀(f:Hp) (i:V),Bw x H f->f x=some (.ins C g (Bb (.ref a) (.ref b) (.ref T) i))->Sy C f x g m i ws j ls q:=by
 obtain⟨B,n,o,p,u,v⟩:=h;obtain⟨a,b,T,e,z,A,y⟩:=o;exact{a,b,T,e,λf i s D=>{B,n,{a,b,T,D,z.but s e,A.but s e,s.dT e y},p,u.but s e,v}}
theorem W5{r:Int×Int}(h1:0<=r.1/\r.1<10^100):Txt.partition (B4 r) #["+"]=(B8 r.1,#["+"],B8 r.2):=by
 unfold B4;rw[mf];exact fo (fh h1)
theorem kt{s:Str}{ss:List Str}(h:s∈ss):Pd (.str s) (ss.map V.str)=true:=by
 unfold Pd;rw[List.any_eq_true];exact{.str s,ft.mpr {s,h,rfl},by simp[jw]}
theorem Zc(ss:List Str):(ss.map V.str).all Hq=true:=by
 rw[List.all_eq_true];intro v b;obtain⟨s,_,rfl⟩:=ft.mp b;rfl
theorem A2x(a b:Str)(ws:List Str):F8 (a::b::ws) none (some 2)=[a,b]:=by
 unfold F8;rw[HT.cV,show HT.bS (a::b::ws).length (a::b::ws).length (some 2)=min 2 (a::b::ws).length from HT.dC _ _ 2,List.length_cons,List.length_cons,show min 2 (ws.length+1+1)=2 by omega];simp
theorem js:B0 [V.bB] [Value.none]:=.cons rfl .nil
theorem Ki:B0 [V.bl false] [Value.bool false]:=.cons rfl .nil
theorem Ws:B0 [V.bl false] [Value.bool false]:=.cons rfl .nil
seal Pc PS PE PT PA PI PG PW
section
variable {P:nP}{w:n4}{K:W.Frag}{mg:Str->Option nL}{base:Heap}{ad:PL}{aC aA aD aB aE aQ bE bC bG bJ bQ bD aF aG bK aY aX:Addr}
variable (T:Txt K mg ad aC aA aD aB aE aQ bE bC bG bJ bQ bD aF aG bK aY aX)
include T
def A1u(K:W.Frag):Sp:=λe H Q _=>Pt λ(a b:Int)=>Ed (e=[.int a,.int b]) (0<=a) (0<=b) (Q (.int (Int.gcd a b)) H)
def A0o(K:W.Frag):Sp:=λf H Q _=>Je λ(a:Addr) (e:mY) (b:Int)=>Ed (f=[.ref a]) (Ar K H a (e.map V.int)) (Lr e b) (Q (.int (lc e)) H)
def A1z(K:W.Frag):Sp:=λg H Q _=>Je λ(a:Addr) (f:mY) (b:Int)=>Ed (g=[.ref a]) (Ar K H a #[15]) (Lr f b) (∀(p:Addr) (t u:Int) (e:Hp),A6 H e->e p=some (.tup [.int t,.int u])->t<=u->Q (.ref p) e)
def A13(K:W.Frag):Sp:=λg H Q _=>Je λ(a:Addr) (f:mY) (b:Int)=>Ed (g=[.ref a]) (Ar K H a #[15]) (Lr f b) (∀(e:Hp),A6 H e->Q (.bl true) e)
def A14(K:W.Frag):Sp:=λg H Q _=>Je λ(a:Addr) (f:mY) (b:Int)=>Ed (g=[.ref a]) (Ar K H a #[15]) (Lr f b) (∀(e:Hp),A6 H e->Q (.bl true) e)
def A0w(K:W.Frag):Sp:=λe H Q _=>Ut λ(a:Addr) (b:mY) (top t:Int)=>Ed (e=[.ref a,.int t]) (Ar K H a #[37]) (OkF b top t) (Q (.int (jx b top t).1) H)
def A4j(K:W.Frag):Sp:=λg H Q _=>Je λ(a:Addr) (f:mY) (b:Int)=>Ed (g=[.ref a]) (H a=some (.lst #[15])) (Lr f b) (∀(D:Addr) (e:Hp),H D=none->A6 H e->e D=some (.lst ((af f).2.2.map V.int))->Q (.ref D) e)
def A0p(K:W.Frag)(aG:Addr):Sp:=λi H Q _=>Je λ(a:Addr) (f:mY) (b:Int)=>Dv (i=[.ref a]) (H a=some (.lst #[15])) (Lr f b) (H aG=some (.tab lamQ lamP)) (∀(p:Addr) (h:List V) (g:List (Int×Int)) (e:Hp),H p=none->A6 H e->e p=some (.lst h)->Ap (Kl e) g h->g.map Prod.fst=f->g.Perm (Z8 f)->Q (.ref p) e)
def A1f(K:W.Frag):Sp:=λe H Q _=>Pt λ(w b:Int)=>Dv (e=[.int w,.int b]) (0<b) (b<=8) (Dbl b w) (Q (.int w) H)
def A1v(K:W.Frag):Sp:=λg H Q _=>Je λ(a:Addr) (f:mY) (b:Int)=>Ed (g=[.ref a,.int b]) (H a=some (.lst #[15])) (Lr f b) (∀(p:Addr) (e:Hp),H p=none->A6 H e->e p=some (.lst #[15])->Q (.ref p) e)
def A0q(K:W.Frag):Sp:=λb H Q _=>Pt λ(w m:Int)=>Ed (b=[.int w,.int m]) (1<=m) ((w=m\/w=2*m\/w=4*m)) (Q (.int m) H)
def A15(K:W.Frag):Sp:=λg H Q _=>Je λ(a:Addr) (f:mY) (b:Int)=>Ed (g=[.ref a]) (H a=some (.lst #[15])) (Lr f b) (∀(e:Hp),A6 H e->Q (.int b) e)
def A16(K:W.Frag)(aG:Addr):Sp:=λi H Q _=>Je λ(a:Addr) (f:mY) (b:Int)=>Dv (i=[.ref a]) (H a=some (.lst #[15])) (Lr f b) (H aG=some (.tab lamQ lamP)) (∀(t p:Addr) (h:List V) (g:List (Int×Int)) (e:Hp),A6 H e->H t=none->H p=none->e t=some (.tup [.int b,.ref p])->e p=some (.lst h)->Ap (Kl e) g h->g.map Prod.fst=f->g.Perm (Z8 f)->Q (.ref t) e)
def A1w(K:W.Frag)(aC aA aD aB aE aF aG:Addr):Sp:=λg H Q E=>(Je λ(a:Addr) (b:mY) (e:nf)=>Pe (g=[.ref a,vO e]) (H a=some (.tup #[37])) (0<b.length) (b.length<=8) ((∀x∈b,1<=x)) ((∀c,e=some c->1<=c)) (∀(p:Addr) (f:Hp),A6 H f->An f p b e->Q (.ref p) f))\/(Je λ(a:Addr) (b:mY) (e:nf)=>Ed (g=[.ref a,vO e]) (H a=some (.tup #[37])) (A51 b e) (∀h,A6 H h->E (.ref aC) none h))\/(Je λ(a:Addr) (b:mY) (e:nf)=>Pe (g=[.ref a,vO e]) (H a=some (.lst #[37])) (0<b.length) (b.length<=8) ((∀x∈b,1<=x)) ((∀c,e=some c->1<=c)) (∀(p:Addr) (f:Hp),A6 H f->An f p b e->Q (.ref p) f))
def A17(K:W.Frag):Sp:=λg H Q _=>Je λ(a:Addr) (e:mY) (f:nf)=>J1 (g=[.ref a]) (An H a e f) (∀(p:Addr) (b:Hp),A6 H b->Cb b p e 0->Q (.ref p) b)
def A1g(K:W.Frag):Sp:=λg H Q _=>jy λ(a b:Addr) (h f:mY) (e:nf) (q:Int)=>Ed (g=[.ref a,.ref b]) (An H a h e) (Cb H b f q) (Q (.bl (!decide (e=none)&&decide (q=0))) H)
def A0r(K:W.Frag):Sp:=λg H Q _=>Ut λ(a:Addr) (f:mY) (e:nf) (b:Int)=>J1 (g=[.ref a,.int b]) (An H a f e) (Q (.bl (decide (0<=b/\b<f.length))) H)
def A4e(K:W.Frag)(aC aA aD aB aE aF aG:Addr):Sp:=λj H Q E=>(Yd λ(a b:Addr) (h i:mY) (e:nf) (q:Int) (g:Nat) (f:Bool)=>Hs (j=[.ref a,.ref b,.int g,.bl f]) (An H a h e) (Cb H b i q) (g<h.length) (N9 e q f) (Q .bB H))\/(Yd λ(a b:Addr) (h i:mY) (e:nf) (q:Int) (g:Int) (f:Bool)=>Ed (j=[.ref a,.ref b,.int g,.bl f]) (An H a h e) (Cb H b i q) (sy H h e q g f aA aD E))
def A0s(K:W.Frag)(aC aA aD aB aE aF aG:Addr):Sp:=λm H Q E=>(Yd λ(a b:Addr) (h i:mY) (f:nf) (q:Int) (g:Nat) (e:Bool)=>Yb #[26] (An H a h f) (Cb H b i q) (g<h.length) (i.length=h.length) (h.length<=8) (N9 f q e) (∀(l:Addr) (j:Hp),H l=none->A6 H j->j l=some (.lst ((Au h i g e).map V.int))->Q (.ref l) j))\/(Yd λ(a b:Addr) (h i:mY) (f:nf) (q:Int) (g:Int) (e:Bool)=>Ed #[26] (An H a h f) (Cb H b i q) (sy H h f q g e aA aD E))
def A0j(K:W.Frag):Sp:=λh H Q _=>nj λ(a b:Addr) (i g:mY) (e:nf) (q:Int) (f:Bool)=>Dv (h=[.ref a,.ref b,.bl f]) (An H a i e) (Cb H b g q) (N9 e q f) (Q (.int (Bl e q f)) H)
def A21(K:W.Frag)(aC aA aD aB aE aF aG:Addr):Sp:=λm H Q E=>(Yd λ(a b:Addr) (h i:mY) (f:nf) (q:Int) (g:Nat) (e:Bool)=>R6 #[26] (An H a h f) (Cb H b i q) (g<h.length) (i.length=h.length) (h.length<=8) (N9 f q e) (((0:Int)∈Au h i g e->∀j,A6 H j->Q .bB j)) (((0:Int)∉Au h i g e->∀(p:Addr) (j:Hp),A6 H j->Cb j p (Au h i g e) (Bl f q e)->Q (.ref p) j)))\/(Yd λ(a b:Addr) (h i:mY) (f:nf) (q:Int) (g:Int) (e:Bool)=>Ed #[26] (An H a h f) (Cb H b i q) (sy H h f q g e aA aD E))
def A0x(K:W.Frag):Sp:=λm H Q _=>Yd λ(a b:Addr) (f h:mY) (i:nf) (q w:Int) (e:Nat)=>Yb (m=[.ref a,.ref b,.int w]) (w=(e:Int)) (An H a f i) (Cb H b h q) (e<f.length) (h.length=f.length) (f.length<=8) (∀(l:Addr) (j:List V) (g:Hp),H l=none->A6 H g->g l=some (.lst j)->Ap (Jd g) (Bh f h i q e) j->Q (.ref l) g)
def A0t(K:W.Frag)(aC aA aD aB aE aF aG:Addr):Sp:=λm H Q E=>(Yd λ(a b:Addr) (h i:mY) (f:nf) (q:Int) (g:Nat) (e:Bool)=>Yb #[26] (An H a h f) (Cb H b i q) (g<h.length) (i.length=h.length) (h.length<=8) (N9 f q e) (∀(l:Addr) (j:Hp),H l=none->A6 H j->j l=some (.lst ((Bx (Au h i g e) h.length).map V.int))->Q (.ref l) j))\/(Yd λ(a b:Addr) (h i:mY) (f:nf) (q:Int) (g:Int) (e:Bool)=>Ed #[26] (An H a h f) (Cb H b i q) (sy H h f q g e aA aD E))
def A0k(K:W.Frag):Sp:=λe H Q _=>Je λ(a:Addr) (f:mY) (b:nf)=>J1 (e=[.ref a]) (An H a f b) (Q (.int (qv b)) H)
def A1h(K:W.Frag):Sp:=λf H Q _=>Je λ(a:Addr) (b:mY) (e:nf)=>Hs (f=[.ref a]) (An H a b e) #[28] (intBits (qv e)<=256) (b.length<=8) (Q (.int (Ao (qv e) b)) H)
def A1i(K:W.Frag):Sp:=λg H Q _=>Pt λ(t:Addr) (b:mY)=>Hs (g=[.ref t]) (H t=some (.tup #[37])) ((∀w∈b,1<=w)) (Ao 1 b<=3000) (b.length<=8) (∀(l:Addr) (f:List V) (e:Hp),H l=none->A6 H e->e l=some (.lst f)->Ap (Fk e) (Cd b) f->Q (.ref l) e)
def A18(K:W.Frag)(aC aA aD aB aE aF aG:Addr):Sp:=λi H Q E=>(Je λ(a:Addr) (b:mY) (e:nf)=>R6 (i=[.ref a]) (An H a b e) ((∀w∈b,1<=w)) (1<=qv e) #[28] (intBits (qv e)<=256) (b.length<=8) (Ao (qv e) b<=3000) (∀(l:Addr) (h:List V) (f:Hp),H l=none->A6 H f->f l=some (.lst h)->Ap (Lq f) (Ba b (qv e)) h->Q (.ref l) f))\/(Je λ(a:Addr) (b:mY) (e:nf)=>Pe (i=[.ref a]) (An H a b e) #[28] (intBits (qv e)<=256) (b.length<=8) (3000<Ao (qv e) b) (∀g,A6 H g->E (.ref aB) none g))
def A4f(K:W.Frag)(aC aA aD aB aE aF aG:Addr):Sp:=λi H Q E=>(Je λ(a:Addr) (e:mY) (f:nf)=>R6 (i=[.ref a]) (An H a e f) ((∀w∈e,1<=w)) (1<=qv f) ((∀w∈e,intBits w<=256)) (intBits (qv f)<=256) (e.length<=8) (Ao (qv f) e<=3000) (∀(D:Addr) (b:mF) (g:Hp),H D=none->A6 H g->g D=some (.dT b)->Cy e f g b->b.map (·.1)=Ba e (qv f)->N8 e f g b->(∀j∈b,∀c,j.2=.ref c->H c=none)->b.length<=3000->Q (.ref D) g))\/(Je λ(a:Addr) (e:mY) (f:nf)=>Pe (i=[.ref a]) (An H a e f) ((∀w∈e,intBits w<=256)) (intBits (qv f)<=256) (e.length<=8) (3000<Ao (qv f) e) (∀h,A6 H h->E (.ref aB) none h))
def A1x(K:PySem.W.Frag):Sp:=λm H Q _=>Ut λ(D:Addr) (b:mF) (j:mY) (i:nf)=>Dv (m=[.ref D]) (H D=some (.dT b)) (Cy j i H b) (b.length<=3000) (∀(W:Addr) (h:mF) (g:Hp),H W=none->A6 H g->g W=some (.dT h)->G8 j i H b 48000 g h->(∀k f e,Al H b k f->some e∈Bh j k.1 i k.2 f->Cj g h e k f)->h.length<=48000->Q (.ref W) g)
def A4d(K:PySem.W.Frag):Sp:=λq H Q _=>Sv λ(D W R:Addr) (b m:mF) (o:List V) (n:List (mY×Int)) (p:Hp) (j:mY) (i:nf)=>N7 (q=[.ref D,.ref W,.ref R]) (H D=some (.dT b)) (Cy j i H b) (H W=some (.dT m)) (G8 j i p b 48000 H m) ((∀k e f,Al H b k e->some f∈Bh j k.1 i k.2 e->Cj H m f k e)) (H R=some (.lst o)) (Ap (Lq H) n o) (Cs H b<=24000) (∀(B:Addr) (bs:List V) (h:List (mY×Int)) (g:Hp),H B=none->Fi b H g->Cy j i g b->g B=some (.lst bs)->Ap (Lq g) h bs->Cs g b+bs.length<=Cs H b->
  (∀k e,Al g b k e↔(Al H b k e/\∀f∈n,some f∉Bh j k.1 i k.2 e))->(∀k,k∈h↔((∃e,Al H b k e)/\∀e,¬Al g b k e))->Q (.ref B) g)
def A22(K:W.Frag)(aC aA aD aB aE aF aG:Addr):Sp:=λi H Q E=>(Je λ(a:Addr) (b:mY) (e:nf)=>R6 (i=[.ref a]) (An H a b e) ((∀w∈b,1<=w)) (1<=qv e) #[28] (intBits (qv e)<=256) (b.length<=8) (Ao (qv e) b<=3000) (∀(T:Addr) (f:mF) (g:Hp),H T=none->A6 H g->g T=some (.dT f)->F7 b e f->(f.map (·.1)).Nodup->f.length<=60000->Q (.ref T) g))\/(Je λ(a:Addr) (b:mY) (e:nf)=>Pe (i=[.ref a]) (An H a b e) #[28] (intBits (qv e)<=256) (b.length<=8) (3000<Ao (qv e) b) (∀h,A6 H h->E (.ref aB) none h))
def A23(K:W.Frag):Sp:=λg H Q _=>Ut λ(f:Addr) (v:V) (o:Option (mY×Int)) (b:mF)=>Dv (g=[.ref f,v]) (H f=some (.dT b)) (Jd H o v) (Uy b) (∀(p:Addr) (e:Hp),A6 H e->e p=some (.tup [.int (told b o).1,.int (told b o).2])->Q (.ref p) e)
def A0y(K:W.Frag):Sp:=λn H Q _=>Sv λ(a m b:Addr) (f g:mY) (j:nf) (q w:Int) (e:Nat) (h:mF)=>Ww (n=[.ref a,.ref m,.ref b,.int w]) (w=(e:Int)) (An H a f j) (Cb H b g q) (H m=some (.dT h)) (Uy h) (e<f.length) (g.length=f.length) (f.length<=8) ((∀x∈f,1<=x)) (∀(p:Addr) (i:Hp),A6 H i->i p=some (.tup [.int (R4 h f g j q e).1,.int (R4 h f g j q e).2])->Q (.ref p) i)
def A19(K:W.Frag):Sp:=λo H Q _=>Yd λ(a m b:Addr) (e f:mY) (n:nf) (q:Int) (g:mF)=>N7 (o=[.ref a,.ref m,.ref b]) (An H a e n) (Cb H b f q) (H m=some (.dT g)) (Uy g) (0<e.length) (f.length=e.length) (e.length<=8) ((∀x∈e,1<=x)) (∀(j:Nat) (h:Hp),A6 H h->Hw (λi=>R4 g e f n q i) e.length j->Q (.int (j:Int)) h)
def A0l(K:W.Frag)(aC aA aD aB aE aF aG:Addr):Sp:=λn H Q E=>(Sv λ(a i b:Addr) (f h:mY) (g:nf) (q w:Int) (e:Nat) (j:mF)=>N7 (n=[.ref a,.ref i,.ref b,.int w]) (w=(e:Int)) (An H a f g) (Cb H b h q) (H i=some (.dT j)) (Uy j) (e<f.length) (h.length=f.length) (f.length<=8) (∀(m:Hp),A6 H m->Q (.bl (Ej j f h g q e)) m))\/(Yd λ(a i b:Addr) (f h:mY) (g:nf) (q e:Int)=>Ed (n=[.ref a,.ref i,.ref b,.int e]) (An H a f g) (Cb H b h q) (sy H f g q e false aA aD E))
def A4k(K:W.Frag):Sp:=λh H Q _=>Ut λ(b:Addr) (g:mY) (q:Int) (e:Int)=>Ed (h=[.ref b,.int e]) (Cb H b g q) (g.length<=8) (∀(p:Addr) (f:Hp),A6 H f->Cb f p (g++[e]) q->Q (.ref p) f)
def A20(K:W.Frag)(aC aA aD aB aE aF aG:Addr):Sp:=λm H Q E=>(nj λ(a b:Addr) (g h:mY) (f:nf) (q:Int) (e:Int)=>R6 (m=[.ref a,.ref b,.int e]) (An H a g f) (Cb H b h q) (g.length<8) (h.length<=8) ((∀x∈g,1<=x)) ((∀c,f=some c->1<=c)) (1<=e) (∀(p:Addr) (i:Hp),A6 H i->av i p (g++[e]) f (h++[e]) q->Q (.ref p) i))\/(nj λ(a b:Addr) (g h:mY) (f:nf) (q:Int) (e:Int)=>Hs (m=[.ref a,.ref b,.int e]) (An H a g f) (Cb H b h q) (g.length<=8) ((e<1\/8<=g.length)) (∀j,A6 H j->E (.ref aC) none j))
def A0f(K:W.Frag):Sp:=λf H Q _=>Je λ(a:Addr) (b:mY) (k:Nat)=>Dv (f=[.ref a,.int k]) (H a=some (.tup #[37])) (k<b.length) (b.length<=8) (∀(p:Addr) (e:Hp),A6 H e->e p=some (.tup ((b.eraseIdx k).map V.int))->Q (.ref p) e)
def A1j(K:W.Frag)(aC aA aD aB aE aF aG:Addr):Sp:=λm H Q E=>(nj λ(a b:Addr) (g h:mY) (e:nf) (q:Int) (f:Nat)=>N7 (m=[.ref a,.ref b,.int f]) (An H a g e) (Cb H b h q) (f<g.length) (h.length=g.length) (1<g.length) (g.length<=8) ((∀x∈g,1<=x)) ((∀c,e=some c->1<=c)) (∀(p:Addr) (j:Hp),A6 H j->av j p (g.eraseIdx f) e (h.eraseIdx f) q->Q (.ref p) j))\/(nj λ(a b:Addr) (g h:mY) (e:nf) (q:Int) (f:Int)=>Dv (m=[.ref a,.ref b,.int f]) (An H a g e) (Cb H b h q) (¬(0<=f/\f<(g.length:Int))) (∀i,A6 H i->E (.ref aA) none i))\/(jy λ(a b:Addr) (g h:mY) (e:nf) (q:Int)=>Dv (m=[.ref a,.ref b,.int 0]) (An H a g e) (Cb H b h q) (g.length=1) (∀i,A6 H i->E (.ref aC) none i))
def A24(K:W.Frag):Sp:=λg H Q _=>Ut λ(D:Addr) (f:List V) (e:List (Int×Int)) (t:Int)=>Hs (g=[.ref D,.int t]) (H D=some (.lst f)) (Ap (Kl H) e f) ((∀r∈e,WF r.1 r.2)) (((∀r∈e,t%r.1≠r.2)->∀b,A6 H b->Q .bB b)) (∀(i:Nat) (r:Int×Int) (b:Hp),e[i]?=some r->t%r.1=r.2->A6 H b->Q (.int (i:Nat)) b)
def A1a(K:W.Frag):Sp:=λe H Q _=>∃(x:Str),J1 (e=[.str x]) (x.length<=100000) (∀b,A6 H b->Q (.bl (Jb x)) b)
def A0z(K:W.Frag):Sp:=λf H Q _=>Pt λ(a:Addr) (b:mY)=>Dv (f=[.ref a]) (H a=some (.lst ((b.map B8).map V.str))) ((∀n∈b,0<=n/\n<10^100)) (b.length<=300) (∀(l:Addr) (e:Hp),H l=none->A6 H e->e l=some (.lst #[37])->Q (.ref l) e)
def A25(K:W.Frag):Sp:=λb H Q _=>Pt λ(w:Str) (n:Int)=>b=[.str w,.int n]/\Q (.bl (Fy w n)) H
def A1k(K:W.Frag):Sp:=λh H Q _=>Ut λ(x f:Str) (g:mY) (e:nf)=>J1 (h=[.str x]) (Ho x f g e) (∀(p l:Addr) (b:Hp),A6 H b->b p=some (.tup [.str f,.ref l,vO e])->b l=some (.lst (g.map V.int))->Q (.ref p) b)
def A0m(K:W.Frag):Sp:=λf H Q _=>Pt λ(a:Addr) (b:mY)=>Dv (f=[.ref a]) ((H a=some (.lst #[37])\/H a=some (.tup #[37]))) ((∀n∈b,0<=n/\n<10^100)) (b.length<=300) (∀e,A6 H e->Q (.str (Fd b)) e)
def A10(K:W.Frag):Sp:=λb H Q _=>Pt λ(a:Addr) (r:Int×Int)=>Dv (b=[.ref a]) (H a=some (.tup [.int r.1,.int r.2])) ((0<=r.1/\r.1<10^100)) ((0<=r.2/\r.2<10^100)) (Q (.str (B4 r)) H)
def A0g(K:W.Frag)(aC aA aD aB aE aF aG:Addr):Sp:=λf H Q _=>Pt λ(x e:Addr)=>J1 (f=[.ref x]) (H x=some (.ins aF e [])) (∀b,Bw x H b->b x=some (.ins aF e (Bb .bB .bB .bB .bB))->Q .bB b)
def A4c(K:W.Frag)(aC aA aD aB aE aF aG:Addr):Sp:=λj H Q _=>nj λ(x g:Addr) (e h i f:V) (w:Str)=>Dv (j=[.ref x,.str w]) (H x=some (.ins aF g (Bb e h i f))) ((w=#["turn"]->f≠ .bB)) ((Pd (.str w) [.str "hall",.str "wheel",.str "turn"]=false->e≠ .bB)) (∀b,A6 H b->Q .bB b)
def A1l(K:W.Frag)(aC aA aD aB aE aF aG:Addr):Sp:=λm H Q _=>aq λ(x b:Addr) (h i j w e f g:V)=>J1 (m=[.ref x,e,f,g]) (H x=some (.ins aF b (Bb h i j w))) (Q .bB (upd H x (.ins aF b (Bb e f g w))))
def A0h(K:W.Frag)(aC aA aD aB aE aF aG:Addr):Sp:=λo H Q E=>(aq λ(x f a:Addr) (h i j w:V) (b:mY) (e:nf)=>Dv (o=[.ref x,.ref a]) (H x=some (.ins aF f (Bb h i j w))) (An H a b e) (D6 b e) (∀(m:mF) (g:Hp),Bw x H g->B7 aF g x f b e b 0 m w->Ck b e m->Q (.str (Fa m (b,0))) g))\/(aq λ(x f a:Addr) (h i j w:V) (b:mY) (e:nf)=>Yb (o=[.ref x,.ref a]) (H x=some (.ins aF f (Bb h i j w))) (An H a b e) #[28] (intBits (qv e)<=256) (b.length<=8) (3000<Ao (qv e) b) (∀n,A6 H n->E (.ref aB) none n))
def A4g(K:W.Frag)(aC aA aD aB aE aF aG:Addr):Sp:=λn H Q _=>A2o λ(x g:Addr) (h i j w:V) (t p:Addr) (b:Int) (m:List V) (e:List (Int×Int))=>R6 (n=[.ref x,.ref t]) (H x=some (.ins aF g (Bb h i j w))) (H t=some (.tup [.int b,.ref p])) (H p=some (.lst m)) (Ap (Kl H) e m) ((0<=b/\b<10^100)) (e.length<=300) ((∀r∈e,(0<=r.1/\r.1<10^100)/\(0<=r.2/\r.2<10^100))) (∀f,Bw x H f->f x=some (.ins aF g (Bb h i j (.ref p)))->Q (.str (Hm b e)) f)
def A4h(K:W.Frag)(aC aA aD aB aE aF aG:Addr):Sp:=λi H Q _=>Yd λ(x h:Addr) (g f:mY) (e:nf) (q:Int) (b:mF) (w:V)=>Ed (i=[.ref x]) (B7 aF H x h g e f q b w) (Ck g e b) (Q (.str (Es b (f,q))) H)
def A0i(K:W.Frag)(aC aA aD aB aE aF aG:Addr):Sp:=λo H Q E=>aq λ(x m:Addr) (b g:mY) (f:nf) (q:Int) (n:mF) (w:V) (i:Int)=>Dv (o=[.ref x,.int i]) (B7 aF H x m b f g q n w) (b.length<=8) (g.length<=8) (((D6 b f/\D6 (b++[i]) f/\g.length=b.length/\∀h,Ck (b++[i]) f h->((Am h (g++[i],q)).isSome=true->∀e,A6 H e->E (.ref aE) none e)/\(Am h (g++[i],q)=none->∀j,Bw x H j->B7 aF j x m (b++[i]) f (g++[i]) q h w->Q (.str (#["joined "]++B8 (b.length:Nat))) j))\/(b.length<8/\(∀x∈b,1<=x)/\(∀c,f=some c->1<=c)/\1<=i/\(∀w∈b++[i],intBits w<=256)/\intBits (qv f)<=256/\3000<Ao (qv f) (b++[i])/\∀e,A6 H e->E (.ref aB) none e)\/((i<1\/8<=b.length)/\∀e,A6 H e->E (.ref aC) none e)))
def A4i(K:W.Frag)(aC aA aD aB aE aF aG:Addr):Sp:=λp H Q E=>aq λ(x n:Addr) (e h:mY) (g:nf) (q:Int) (o:mF) (w:V) (i:Int)=>Dv (p=[.ref x,.int i]) (B7 aF H x n e g h q o w) (e.length<=8) (h.length<=8) (((∃b:Nat,i=(b:Int)/\b<e.length/\1<e.length/\h.length=e.length/\D6 e g/\D6 (e.eraseIdx b) g/\∀m j,Ck (e.eraseIdx b) g m->Bw x H j->B7 aF j x n (e.eraseIdx b) g (h.eraseIdx b) q m w->Q (.str (#["gone "]++B8 (b:Nat))) j)\/(¬(0<=i/\i<(e.length:Int))/\∀f,A6 H f->E (.ref aA) none f)\/(i=0/\e.length=1/\∀f,A6 H f->E (.ref aC) none f)))
def A0n(K:W.Frag)(aC aA aD aB aE aF aG:Addr):Sp:=λn H Q E=>(Sv λ(x i:Addr) (g h:mY) (f:nf) (q:Int) (j:mF) (w:V) (e:Nat) (b:Bool)=>Pe (n=[.ref x,.int e,.bl b]) (B7 aF H x i g f h q j w) (e<g.length) (D6 g f) ((h,q)∈Ba g (qv f)) (N9 f q b) (∀m,Bw x H m->B7 aF m x i g f (Jc g h f q e b).1 (Jc g h f q e b).2 j w->Q (.str (Pa g h f q e b)) m))\/(Sv λ(x i:Addr) (g h:mY) (f:nf) (q:Int) (j:mF) (w:V) (e:Int) (b:Bool)=>J1 (n=[.ref x,.int e,.bl b]) (B7 aF H x i g f h q j w) (sy H g f q e b aA aD E))
def rl(K:W.Frag)(aC aA aD aB aE aF aG:Addr):Sp:=λF H Q E=>Ut λ(x u:Addr) (v:Str) (i:Int)=>F=[.ref x,.str v,.int i]/\((∃(b h:mY) (f:nf) (q:Int) (o:mF) (w:V) (e:Nat) (g:Bool),v=Fg g/\i=(e:Int)/\B7 aF H x u b f h q o w/\e<b.length/\D6 b f/\(h,q)∈Ba b (qv f)/\N9 f q g/\
 ∀m,Bw x H m->B7 aF m x u b f (Jc b h f q e g).1 (Jc b h f q e g).2 o w->Q (.str (Pa b h f q e g)) m)\/(∃(b h:mY) (f:nf) (q:Int) (o:mF) (w:V) (g:Bool),v=Fg g/\B7 aF H x u b f h q o w/\sy H b f q i g aA aD E)\/(∃(b h:mY) (f:nf) (q:Int) (o:mF) (w:V) (e:Nat),v=#["answer"]/\i=(e:Int)/\B7 aF H x u b f h q o w/\Uy o/\e<b.length/\h.length=b.length/\b.length<=8/\∀m,A6 H m->Q (.str (if Ej o b h f q e=true then #["lost"] else #["reached"])) m)\/(∃(b h:mY) (f:nf) (q:Int) (o:mF) (w:V),v=#["answer"]/\B7 aF H x u b f h q o w/\¬(0<=i/\i<(b.length:Int))/\∀n,A6 H n->E (.ref aA) none n)\/(∃(B C D w:V),v=#["turn"]/\H x=some (.ins aF u (Bb B C D w))/\∃(p:Addr) (A:List V) (z:List (Int×Int)),w=.ref p/\H p=some (.lst A)/\Ap (Kl H) z A/\z.length<=300/\(∀r∈z,WF r.1 r.2)/\((∀r∈z,i%r.1≠r.2)->∀m,A6 H m->Q (.str #["nobody"]) m)/\∀(j:Nat) (r:Int×Int) (m:Hp),z[j]?=some r->i%r.1=r.2->A6 H m->Q (.str (B8 (j:Int))) m)\/(∃(b h:mY) (f:nf) (q:Int) (o:mF) (w:V),v=#["join"]/\B7 aF H x u b f h q o w/\b.length<=8/\h.length<=8/\((D6 b f/\D6 (b++[i]) f/\h.length=b.length/\∀y,Ck (b++[i]) f y->((Am y (h++[i],q)).isSome=true->∀n,A6 H n->E (.ref aE) none n)/\(Am y (h++[i],q)=none->∀m,Bw x H m->B7 aF m x u (b++[i]) f (h++[i]) q y w->Q (.str (#["joined "]++B8 (b.length:Nat))) m))\/(b.length<8/\(∀x∈b,1<=x)/\(∀c,f=some c->1<=c)/\1<=i/\(∀w∈b++[i],intBits w<=256)/\intBits (qv f)<=256/\3000<Ao (qv f) (b++[i])/\∀n,A6 H n->E (.ref aB) none n)\/((i<1\/8<=b.length)/\∀n,A6 H n->E (.ref aC) none n)))\/(∃(b h:mY) (f:nf) (q:Int) (o:mF) (w:V),v=#["leave"]/\B7 aF H x u b f h q o w/\b.length<=8/\h.length<=8/\((∃e:Nat,i=(e:Int)/\e<b.length/\1<b.length/\h.length=b.length/\D6 b f/\D6 (b.eraseIdx e) f/\∀y m,Ck (b.eraseIdx e) f y->Bw x H m->B7 aF m x u (b.eraseIdx e) f (h.eraseIdx e) q y w->Q (.str (#["gone "]++B8 (e:Nat))) m)\/(¬(0<=i/\i<(b.length:Int))/\∀n,A6 H n->E (.ref aA) none n)\/(i=0/\b.length=1/\∀n,A6 H n->E (.ref aC) none n))))
def j7(K:W.Frag)(aC aA aD aB aE aF aG:Addr):Sp:=λF H Q E=>Sv λ(x u:Addr) (v m:Str) (h:mY) (f:nf) (z B C w:V)=>Hs (F=[.ref x,.str v]) (H x=some (.ins aF u (Bb z B C w))) (Ho v m h f) ((m=#["turn"]->w≠ .bB)) ((Pd (.str m) [.str "hall",.str "wheel",.str "turn"]=false->z≠ .bB)) (((m=#["hall"]/\D6 h f/\∀(g:mF) (e:Hp),Bw x H e->B7 aF e x u h f h 0 g w->Ck h f g->Q (.str (Fa g (h,0))) e)\/(∃(n o:mY) (f:nf) (q:Int) (g:mF),m=#["best"]/\B7 aF H x u n f o q g w/\Uy g/\D6 n f/\o.length=n.length/\∀(j:Nat) (e:Hp),A6 H e->Hw (λi=>R4 g n o f q i) n.length j->Q (.str (B8 (j:Int))) e)\/(∃(n o:mY) (f:nf) (q:Int) (g:mF),m=#["rank"]/\B7 aF H x u n f o q g w/\Ck n f g/\∀e,A6 H e->Q (.str (Es g (o,q))) e)\/(∃b:Int,m=#["wheel"]/\Lr h b/\H aG=some (.tab lamQ lamP)/\
 ∀(p:Addr) (D:List V) (y:List (Int×Int)) (e:Hp),Bw x H e->H p=none->e x=some (.ins aF u (Bb z B C (.ref p)))->e p=some (.lst D)->Ap (Kl e) y D->y.map Prod.fst=h->y.Perm (Z8 h)->Q (.str (Hm b y)) e)\/(∃i:Int,h=[i]/\Pd (.str m) [.str "call",.str "lost",.str "answer",.str "join",.str "leave",.str "turn"]=true/\∀A,A6 H A->rl K aC aA aD aB aE aF aG [.ref x,.str m,.int i] A Q E)))
def A0u(K:W.Frag):Sp:=λe H Q _=>Je λ(a:Addr) (b:mY) (k:Int)=>Ed (e=[.ref a,.int k]) (Ar K H a #[37]) (0<=k) (Q (.int (Lu b k)) H)
def A1y(K:W.Frag):Sp:=λb H Q _=>∃(c:Int),J1 (b=[.int c]) (intBits c<=2^20+8) (∀r:Int,0<=r->r<2^200->Q (.int r) H)
def A1m(K:W.Frag):Sp:=λg H Q _=>∃(n:Int),J1 (g=[.int n]) (0<=n) (∀(p:Addr) (f:mY) (e:nf) (b:Hp),A6 H b->An b p f e->Fj f e->Q (.ref p) b)
def A1n(K:W.Frag):Sp:=λf H Q _=>Ut λ(a:Addr) (b:mY) (e:nf) (i:Int)=>Pe (f=[.ref a,.int i]) (An H a b e) #[28] (intBits (qv e)<=256) (b.length<=9) (intBits i<=256) (Q (.int (Ao (qv e) (b++[i]))) H)
def A1o(K:W.Frag)(aC aA aD aB aE aF aG:Addr):Sp:=λe H Q _=>Je λ(x C:Addr) (k:Str)=>Ed (e=[.ref x]) (H x=some (.ext (Fm x (.ref C)))) (KdT aC aA aD aB aE C k) (∀b,A6 H b->Q (.str k) b)
def A1p(K:W.Frag)(aC aA aD aB aE aF aG:Addr):Sp:=λj H Q _=>LV λ(x i:Addr) (b:Str) (fs:List (Str×V)) (A:Str->Str->Hp->Prop)=>Dv (j=[.ref x,.str b]) (H x=some (.ins aF i fs)) (fs.lookup #["told"]=none) (j7 K aC aA aD aB aE aF aG [.ref x,.str b] H (A2t A) (A2s aC aA aD aB aE A)) (∀(g h:Str) (e:Hp) (p:Addr) (f:Hp),A g h e->e p=none->A6 e f->f p=some (.tup [.str g,.str h])->Q (.ref p) f)
def A1b(K:W.Frag):Sp:=λg H Q _=>Je λ(e:Str) (a:Addr) (b:mY)=>Hs (g=[.str e,.ref a]) ((H a=some (.lst #[37])\/H a=some (.tup #[37]))) ((∀n∈b,0<=n/\n<10^100)) (b.length<=30) (e.length<=20) (∀f,A6 H f->Q (.str (Ce e b)) f)
def A1c(K:W.Frag)(aC aA aD aB aE aF aG:Addr):Sp:=λn H Q _=>nj λ(x e:Addr) (f h i w:V) (g:Int)=>Dv (n=[.ref x,.int g]) (0<=g) (H x=some (.ins aF e (Bb f h i w))) (H aG=some (.tab lamQ lamP)) (∀(l:Addr) (m:List (Int×Int)) (j:V) (b:Hp),Bw x H b->b x=some (.ins aF e (Bb f h i j))->Ra b j l m->Q (.ref l) b)
def A1q(K:W.Frag)(aC aA aD aB aE aF aG:Addr):Sp:=λj H Q _=>aq λ(x e:Addr) (f h i w:V) (l:Addr) (g:List (Int×Int)) (n:Int)=>Hs (j=[.ref x,.ref l,.int n]) (H x=some (.ins aF e (Bb f h i w))) (Ra H w l g) (0<=n) (n<10^100) (∀b,A6 H b->Q (.bl true) b)
def A1d(K:W.Frag)(aC aA aD aB aE aF aG:Addr):Sp:=λn H Q _=>aq λ(x g:Addr) (i j m w:V) (a:Addr) (e:mY) (f:nf)=>Dv (n=[.ref x,.ref a]) (H x=some (.ins aF g (Bb i j m w))) (An H a e f) (Fj e f) (∀(p h:Addr) (b:Hp),Bw x H b->b p=some (.lst [.bl true,.ref h])->Sy aF b x g h w e f e 0->Q (.ref p) b)
def A11(K:W.Frag):Sp:=λv H Q _=>jy λ(o:Addr) (f g:mY) (e:nf) (n i:Int)=>Hs (v=[.ref o,.int i]) (Yj H o f e g n) (Fj f e) (g.length=f.length) (intBits i<=256) (∀(p d h:Addr) (q u:Str) (j m:mY) (b:Hp),A6 H b->b p=some (.lst [.ref d,.ref h])->b d=some (.tup [.str q,.str u])->nk f e g n i q u j m->Yj b h j e m n->Q (.ref p) b)
def A1r(K:W.Frag):Sp:=λu H Q _=>jy λ(m:Addr) (e g:mY) (f:nf) (n:Int) (k:Nat)=>Hs (u=[.ref m,.int (k:Int)]) (Yj H m e f g n) (Fj e f) (g.length=e.length) (k<100) (∀(p d h:Addr) (o q:Str) (i j:mY) (b:Hp),A6 H b->b p=some (.lst [.ref d,.ref h])->b d=some (.tup [.str o,.str q])->nl e g k o q i j->Yj b h i f j n->Q (.ref p) b)
def A1e(K:W.Frag)(aC aA aD aB aE aF aG:Addr):Sp:=λj H Q _=>aq λ(x h f:Addr) (w:V) (m i:mY) (g:nf) (n b:Int)=>Dv (j=[.ref x,.ref f,.int b]) (0<=b) (b<2^200) (Sy aF H x h f w m g i n) (∀e,A6 H e->Q (.bl true) e)
def A12(K:W.Frag)(aC aA aD aB aE aF aG:Addr):Sp:=λu H Q _=>aq λ(x g i:Addr) (w:V) (j o:mY) (f:nf) (n e:Int)=>Dv (u=[.ref x,.ref i,.int e]) (0<=e) (e<2^200) (Sy aF H x g i w j f o n) (∀(p h:Addr) (m:mY) (q:Int) (b:Hp),Bw x H b->b p=some (.lst [.bl true,.ref h])->Sy aF b x g h w j f m q->Q (.ref p) b)
def A0v(K:W.Frag)(aC aA aD aB aE aF aG:Addr):Sp:=λj H Q _=>aq λ(x h f:Addr) (w:V) (m i:mY) (g:nf) (n b:Int)=>Dv (j=[.ref x,.ref f,.int b]) (0<=b) (b<2^200) (Sy aF H x h f w m g i n) (∀e,A6 H e->Q (.bl true) e)
def A1s(K:W.Frag)(aC aA aD aB aE aF aG:Addr):Sp:=λq H Q _=>aq λ(x g i:Addr) (w:V) (u o:mY) (f:nf) (n e:Int)=>Dv (q=[.ref x,.ref i,.int e]) (0<=e) (e<2^200) (Sy aF H x g i w u f o n) (∀(p h:Addr) (j m:mY) (b:Hp),Bw x H b->b p=some (.lst [.bl true,.ref h])->Sy aF b x g h w j f m n->Q (.ref p) b)
def A1t(K:W.Frag)(aC aA aD aB aE aF aG:Addr):Sp:=λv H Q _=>Sv λ(x g i:Addr) (w:V) (y q:mY) (f:nf) (n e j:Int)=>Dv (v=[.ref x,.ref i,.int e,.int j]) (0<=e) (e<2^200) (Sy aF H x g i w y f q n) (∀(p h:Addr) (m o:mY) (u:Int) (b:Hp),Bw x H b->b p=some (.lst [.bl true,.ref h])->Sy aF b x g h w m f o u->Q (.ref p) b)
def sp_law(K:W.Frag)(aG:Addr):Sp:=λf H Q _=>Pt λ(a:Addr) (b:mY)=>Hs (f=[.ref a]) (Ar K H a #[37]) (b.length<=63) ((∀z∈b,intBits z<=2^20)) (H aG=some (.tab lamQ lamP)) (∀e,e aG=some (.tab lamQ lamP)->Q (.bl true) e)
def A3c:List Prop->Nat->Prop
 |a::_,0=>a
 |_::l,n+1=>A3c l n
 |[],_=>True
def GT(P:nP)(w:n4)(K:W.Frag)(mg:Str->Option nL)(base:Heap)(ad:PL)(aC aA aD aB aE aF aG:Addr)(i:Nat):Prop:=A3c [Gk P w K mg base 1 "divisor" ad.wV ["one","other"] (A1u K),Gk P w K mg base 2 "least_round" ad.wW ["numbers"] (A0o K),Gk P w K mg base 3 "shares" ad.wX ["numbers"] (A1z K),Gk P w K mg base 1 "are_chain" ad.wY ["periods"] (A13 K),Gk P w K mg base 4 "have_room" ad.wZ ["periods"] (A14 K),Gk P w K mg base 1 "free_first" ad.xA ["levels","taken"] (A0w K),Gk P w K mg base 2 "rising_firsts" ad.IC ["periods"] (A4j K),Gk P w K mg base 5 "chain_wheel" ad.xB ["periods"] (A0p K aG),Gk P w K mg base 1 "doubling" ad.xC ["wait","base"] (A1f K),Gk P w K mg base 2 "doubled" ad.xD ["waits","base"] (A1v K),Gk P w K mg base 1 "halved_down" ad.xE ["wait","most"] (A0q K),Gk P w K mg base 5 "best_base" ad.xF ["waits"] (A15 K),Gk P w K mg base 6 "wheel_for" ad.xG ["waits"] (A16 K aG),Gd P w K mg base 1 "hall_of" ad.xH ["waits","calm"] (A1w K aC aA aD aB aE aF aG) (Value.none),Gk P w K mg base 1 "beginning" ad.xI ["hall"] (A17 K),Gk P w K mg base 1 "may_lose" ad.xJ ["hall","standing"] (A1g K),Gk P w K mg base 1 "is_listener" ad.xK ["hall","who"] (A0r K),Gk P w K mg base 2 "refuse_wrong_turn" ad.IE ["hall","standing","who","lost"] (A4e K aC aA aD aB aE aF aG),Gk P w K mg base 3 "left_behind" ad.xM ["hall","standing","who","lost"] (A0s K aC aA aD aB aE aF aG),Gk P w K mg base 1 "quiet_behind" ad.xN ["hall","standing","lost"] (A0j K),Gd P w K mg base 4 "after" ad.xO ["hall","standing","who","lost"] (A21 K aC aA aD aB aE aF aG) (Value.bool false),Gk P w K mg base 5 "all_behind" ad.xP ["hall","standing","who"] (A0x K),Gd P w K mg base 4 "broken_ones" ad.xQ ["hall","standing","who","lost"] (A0t K aC aA aD aB aE aF aG) (Value.bool false),Gk P w K mg base 1 "quiet_values" ad.xR ["hall"] (A0k K),Gk P w K mg base 2 "how_many" ad.xS ["hall"] (A1h K),Gk P w K mg base 1 "all_left" ad.xU ["waits"] (A1i K),Gk P w K mg base 3 "standings" ad.xV ["hall"] (A18 K aC aA aD aB aE aF aG),Gk P w K mg base 6 "calls_by_standing" ad.IG ["hall"] (A4f K aC aA aD aB aE aF aG),Gk P w K mg base 1 "ways_to" ad.xW ["pending"] (A1x K),Gk P w K mg base 1 "without_calls_left" ad.IH ["pending","ways","ranked"] (A4d K),Gk P w K mg base 7 "ranks" ad.xX ["hall"] (A22 K aC aA aD aB aE aF aG),Gk P w K mg base 1 "worth" ad.xY ["table","behind"] (A23 K),Gk P w K mg base 6 "call_worth" ad.xZ ["hall","table","standing","who"] (A0y K),Gk P w K mg base 7 "best_call" ad.yA ["hall","table","standing"] (A19 K),Gk P w K mg base 5 "worst_answer" ad.yB ["hall","table","standing","who"] (A0l K aC aA aD aB aE aF aG),Gk P w K mg base 1 "with_newcomer" ad.II ["standing","wait"] (A4k K),Gk P w K mg base 2 "joined" ad.yC ["hall","standing","wait"] (A20 K aC aA aD aB aE aF aG),Gk P w K mg base 1 "without_place" ad.yD ["row","place"] (A0f K),Gk P w K mg base 2 "left_out" ad.yE ["hall","standing","who"] (A1j K aC aA aD aB aE aF aG),Gk P w K mg base 1 "heard" ad.yF ["wheel","turn"] (A24 K),Gk P w K mg base 1 "is_number" ad.yG ["word"] (A1a K),Gk P w K mg base 2 "numbers_of" ad.yH ["words"] (A0z K),Gk P w K mg base 1 "takes" ad.yI ["word","size"] (A25 K),Gk P w K mg base 3 "row_read" ad.yJ ["row"] (A1k K),Gk P w K mg base 1 "numbers_text" ad.yK ["numbers"] (A0m K),Gk P w K mg base 1 "place_text" ad.yL ["place"] (A10 K),Gm P w K mg base 1 ad.rA ["self"] (A0g K aC aA aD aB aE aF aG),Gm P w K mg base 1 ad.IJ ["self","word"] (A4c K aC aA aD aB aE aF aG),Gm P w K mg base 1 ad.yM ["self","hall","standing","table"] (A1l K aC aA aD aB aE aF aG),Gm P w K mg base 8 ad.yN ["self","hall"] (A0h K aC aA aD aB aE aF aG),Gm P w K mg base 2 ad.IK ["self","found"] (A4g K aC aA aD aB aE aF aG),Gm P w K mg base 1 ad.IL ["self"] (A4h K aC aA aD aB aE aF aG),Gm P w K mg base 8 ad.yO ["self","wait"] (A0i K aC aA aD aB aE aF aG),Gm P w K mg base 8 ad.IM ["self","who"] (A4i K aC aA aD aB aE aF aG),Gm P w K mg base 5 ad.yP ["self","who","lost"] (A0n K aC aA aD aB aE aF aG),Gm P w K mg base 9 ad.IP ["self","word","number"] (rl K aC aA aD aB aE aF aG),Gm P w K mg base 10 ad.yQ ["self","row"] (j7 K aC aA aD aB aE aF aG),Gk P w K mg base 1 "_law_cell_at" ad.yR ["script","k"] (A0u K),Gk P w K mg base 1 "_law_big" ad.yS ["cell"] (A1y K),Gk P w K mg base 1 "_law_hall" ad.yT ["number"] (A1m K),Gk P w K mg base 1 "_law_many" ad.yU ["hall","wait"] (A1n K),Gk P w K mg base 1 "_law_kind" ad.yV ["e"] (A1o K aC aA aD aB aE aF aG),Gk P w K mg base 11 "_law_told" ad.yW ["desk","row"] (A1p K aC aA aD aB aE aF aG),Gk P w K mg base 1 "_law_words" ad.yX ["head","numbers"] (A1b K),Gk P w K mg base 12 "_law_wheel" ad.yY ["desk","number"] (A1c K aC aA aD aB aE aF aG),Gk P w K mg base 12 "_law_turn" ad.yZ ["desk","rows","turn"] (A1q K aC aA aD aB aE aF aG),Gk P w K mg base 12 "_law_begun" ad.zA ["desk","hall"] (A1d K aC aA aD aB aE aF aG),Gk P w K mg base 8 "_law_joined" ad.zB ["state","wait"] (A11 K),Gk P w K mg base 8 "_law_left" ad.zC ["state","who"] (A1r K),Gk P w K mg base 12 "_law_asked" ad.zD ["desk","state","first"] (A1e K aC aA aD aB aE aF aG),Gk P w K mg base 12 "_law_called" ad.zE ["desk","state","number"] (A12 K aC aA aD aB aE aF aG),Gk P w K mg base 12 "_law_refused" ad.zF ["desk","state","number"] (A0v K aC aA aD aB aE aF aG),Gk P w K mg base 12 "_law_deed" ad.zG ["desk","state","number"] (A1s K aC aA aD aB aE aF aG),Gk P w K mg base 13 "_law_done" ad.zH ["desk","state","number","deeds"] (A1t K aC aA aD aB aE aF aG)] i
theorem yj:{0}:=by
 refine T.IY.ok λF=>F.okN Sk (λO H Q E h=>?_) (λU A o s H O Q E Y h=>?_)
 ·rcases h with⟨a,b,rfl,p,u,q⟩<;>rfl
 ·obtain⟨a,b,rfl,p,u,q⟩:=h;refine{_,(A3 (Ox jG (pD K4 (pv 1) A5) (A3 (pS 2 Sk.nd (Ab B6 (pv 0) (pv 1))) (A3 (pS 0 Sk.nd (pv 1)) (A7 (pS 1 Sk.nd (pv 2)))))) (A7 (Aa (pv 0)))),?_};refine Pb (λf m=>Je λ(x y:Int) (r:Option V)=>Dv (f=[some (.int x),some (.int y),r]) (0<=x) (0<=y) (Int.gcd x y=Int.gcd a b) (m=H)) (λ(f:L2.St) (_:L2.Hp)=>match f[1]? with|some (some (V.int y))=>y.toNat|_=>0) ⟨a,b,none,rfl,p,u,rfl,rfl⟩ ?_ ?_
  ·rintro f m ⟨x,y,r,rfl,M,N,B,rfl⟩;refine{_,rfl,_,_,rfl,rfl,_,rfl,?_};refine Di (λn=>?_) (λn=>?_)
   ·have g:0<y:=by simpa using n
    have J:=Int.emod_nonneg x (show y≠0 by omega);have X:=Int.emod_lt_of_pos x g;refine{_,rfl,_,rfl,_,_,rfl,rfl,g,_,rfl,_,rfl,{y,x%y,_,rfl,N,J,(cr M g).trans B,rfl},?_};show(x%y).toNat<y.toNat;omega
   ·have g:¬0<y:=by simpa using n
    have e:y=0:=()
    subst e;refine{_,rfl,?_};rw[<- B,Int.gcd_zero,show((x.natAbs:Nat):Int)=x by omega]at q;exact q
  ·rintro f m R S L ⟨v,C,i,j,D,G,c,I,z⟩;exact{v,C,i,j,D,G,c,I,L _ _ z}
theorem wf(C:{0}):{1}:=by
 refine T.IZ.ok λF=>F.okN Sg (λD H Q E h=>?_) (λG A u s H D Q E B h=>?_)
 ·rcases h with⟨a,x,b,rfl,o,p,q⟩<;>rfl
 ·obtain⟨a,x,b,rfl,o,p,q⟩:=h;refine{_,(A3 (pS 1 Sg.nd A5) (A3 (Bt jG rfl (Cl (pv 0)) (pN 2 Sg.nd) (A7 (pS 1 Sg.nd (Ab Fp (Ab Ay (pv 1) (cN C B (A0 (pv 1) #[11]))) (pv 2))))) (A7 (Aa (pv 1))))),?_};refine{_,rfl,a,rfl,.inl {{_,o},?_}};refine D7 (K:=K) (a:=a) (xs:=x.map V.int) (λi j f=>∃(v:Option V),j=[some (.ref a),some (.int (lc (x.take i))),v]/\f=H) ⟨_,rfl,rfl⟩ (by rintro i j f _ ⟨_,_,e⟩;exact(by rw[e];exact o)) ?_ ?_
  ·rintro i y j f z ⟨v,rfl,rfl⟩;rw[List.getElem?_map]at z;obtain⟨n,g,rfl⟩:=dI.mp z;have I:=p.a.2.2.1 n (cI g);have m:=p.l i (b0.mp g).1;rw[Jt g]at m;refine{_,rfl,_,rfl,_,rfl,_,n,rfl,m.1,(),_,_,rfl,rfl,{m.2.1,()},_,rfl,_,_,rfl,rfl,N3 () (),some (.int n),?_,rfl};rw[l8 g];rfl
  ·rintro j f ⟨v,rfl,rfl⟩;refine{_,rfl,?_};rw[List.length_map,List.take_length];exact q
theorem yo(R:{1})(O:{0}):{2}:=by
 refine T.JA.ok λF=>F.okN Sl (λY H Q E h=>?_) (λaS A o s H Y Q E B h=>?_)
 ·rcases h with⟨a,f,b,rfl,m,e,q⟩<;>rfl
 ·obtain⟨a,f,b,rfl,m,e,q⟩:=h;refine{_,(A3 (pS 1 Sl.nd (cN R B #[4])) (A3 (pS 2 Sl.nd (Aq (Yx rfl) (by rfl) T.LM boot_sum (A0 (C8 (Cl (pv 0)) _ rfl Td rfl rfl (λ_ _ _ _=>(pN 0 U1)) #[17] (λ_ _ _ _=>(Ab Ay (pv 1) (pv 0)))) A4))) (A3 (pS 3 Sl.nd (cN O B (A0 (pv 2) #[12]))) (A7 (Aa (Ah (A0 (Ab Ay (pv 2) (pv 3)) (A0 (Ab Ay (pv 1) (pv 3)) A4)))))))),?_};refine{_,rfl,a,f,b,rfl,m,e,?_};obtain⟨X,N,u,L,G⟩:=e.s;refine{_,rfl,a,rfl,.inl {{_,m},λD x=>?_}};refine Cg (K:=K) (a:=a) (xs:=f.map V.int) (λi g j=>g=(cT (lc f) (f.take i)).map V.int/\j D=some (.lst g)/\A6 H j) ⟨rfl,A2,A6.upd x⟩ (by rintro i g j _ ⟨_,_,s⟩;exact s.seq m) ?_ ?_
  ·rintro i y g j C ⟨rfl,M,S⟩ Qe I;rw[List.getElem?_map]at C;obtain⟨n,z,rfl⟩:=dI.mp C;have h1:=e.a.2.2.1 n (cI z);refine{_,rfl,_,rfl,_,_,rfl,rfl,{(),()},?_};refine I _ _ M (Aj ?_) ⟨?_,A2,S.new x⟩
   ·have:=e.a.2.1;rw[List.length_map,cT,List.length_map,List.length_take];omega
   ·rw[cT,cT,Ew z,List.map_append,List.map_append];rfl
  rintro g Z ⟨rfl,v,U⟩;rw[List.length_map,List.take_length]at v;refine{D,_,rfl,Ar.of v,?_};refine{_,rfl,_,rfl,_,_,rfl,N,X,?_};refine{_,rfl,_,rfl,_,_,rfl,rfl,{u,()},_,rfl,_,rfl,_,_,rfl,rfl,{u,()},Af,λp J=>?_};exact q p _ _ _ (U.trans (A6.upd J)) A2 G
theorem xg:{3}:=by
 refine T.JB.ok λF=>F.okN iq #[0] (λaS A M s H vs Q E hr h=>?_)
 ·rcases h with⟨a,S,b,rfl,X,f,q⟩<;>rfl
 ·obtain⟨a,S,b,rfl,X,f,q⟩:=h;refine{_,(A3 (pS 1 iq.nd (Aq (Jq K) (by rfl) T.fX boot_sorted #[4])) (A7 (Aa (Aq (Kn rfl) (by rfl) T.rC boot_all (A0 (C8 (S9 (by rfl) T.rD (A0 (pv 1) (A0 (Ci (Ei K) (pv 1) (Cn A5) Dp) A4))) _ rfl Ni rfl rfl (λ_ _ _ _=>(Cm K (n:=2) rfl (Ai (pN 0 Ic) (Ai (pN 1 Ic) Bm)))) #[17] (λ_ _ _ _=>(pC Bk (Ab B6 (pv 1) (pv 0)) A5))) A4))))),?_};have EE:=f.a.2.1;refine{_,rfl,a,S,rfl,X,(),λR e hR cY oB=>?_};have ey:e=S:=List.Perm.eq_of_pairwise (le:=(·<=·)) (λa b _ _ x y=>Int.le_antisymm x y) oB f.a.2.2.2.2.2.2.2 cY;subst ey;exists H,R,hR,s1,m,B,(.lst (e.map V.int));refine{_,rfl,_,rfl,_,rfl,R,_,rfl,Ar.of m,λg qG=>?_}
  have vI:Ji (e.map V.int) (some 1) none=(e.drop 1).map V.int:=by
   rw[Q8];unfold V7;rw[HT.cV,show HT.bS e.length 0 (some 1)=min 1 e.length from HT.dC e.length 0 1,show min 1 e.length=1 by have:=f.a.1;omega,List.take_of_length_le (by rw[List.length_drop];omega)]
  rw[vI];exists B,g,qG,N,n,H2,(.lst ((e.drop 1).map V.int));have C:=N _ _ m;refine{false,false,R,g,rfl,{_,Ar.of C},{_,Ar.of n},λG U=>?_}
  refine Z0 (K:=K) (b1:=false) (b2:=false) (c:=R) (d:=g) (xs:=e.map V.int) (ys:=(e.drop 1).map V.int) (by rw[List.length_map,List.length_map,List.length_drop];omega)
   (λi p j=>p=(List.replicate i true).map V.bl/\j G=some (.lst p)/\A6 H2 j) ⟨rfl,A2,A6.upd U⟩ (by rintro i p j _ ⟨_,_,s⟩;exact{Ar.of (s _ _ C),Ar.of (s _ _ n)}) ?_ (λσ j Q1 Q2 J z=>J _ _ z) ?_ ?_
  ·rintro i x y T p D uD o ⟨rfl,I,O⟩ hT;rw[List.getElem?_map]at uD o;obtain⟨u,Z,rfl⟩:=dI.mp uD;obtain⟨w,L,rfl⟩:=dI.mp o;rw[List.getElem?_drop,Nat.add_comm]at L;have hi:=(b0.mp L).1;have vJ:=f.a.2.2.1 u (cI Z);have Y:=f.c i ();rw[Jt Z,Jt L]at Y;have s5:A6 D (upd D T (.tup [V.int u,V.int w])):=A6.upd hT;simp only[Pp,↓reduceIte];refine{_,rfl,_,rfl,_,_,rfl,rfl,(),rfl,s5 _ _ I,Aj (by rw[List.length_map,List.length_replicate];omega),?_,A2,(O.trans s5).new U};rw[List.replicate_succ',List.map_append,PV,Y];rfl
  ·rintro σ j Q1 Q2 J ⟨v,m,v',C,i1,j1,n,e3,c0,e4,z⟩;exact{v,m,v',C,i1,j1,n,e3,c0,e4,J _ _ z}
  rintro p D ⟨rfl,I,O⟩;refine{G,_,rfl,Ar.of I,?_};have:=q _ (s1.trans (N.trans O));simpa using this
theorem xi(v:{2}):{4}:=by
 refine T.JC.ok λF=>F.okN ir (λy H Q E h=>?_) (λz A f s H y Q E o h=>?_)
 ·rcases h with⟨a,n,b,rfl,j,m,q⟩<;>rfl
 ·obtain⟨a,n,b,rfl,j,m,q⟩:=h;refine{_,(A3 (pS 1 ir.nd (cN v o #[4])) (A7 (Aa (pC nz #[14] #[14])))),?_};refine{_,rfl,a,n,b,rfl,j,m,λp t u g x i e=>?_};refine{_,rfl,p,_,_,_,rfl,rfl,.inr (Ax.of i),rfl,_,rfl,p,_,_,_,rfl,rfl,.inr (Ax.of i),rfl,_,_,rfl,rfl,?_};show Q (V.bl (decide (t<=u))) g;rw[decide_eq_true e];exact q g x
theorem wu:{5}:=by
 refine T.JD.ok λF=>F.okN Ik (λJ H Q E h=>?_) (λL A u s H J Q E M h=>?_)
 ·rcases h with⟨a,b,top,t,rfl,g,n,q⟩<;>rfl
 ·obtain⟨a,b,top,t,rfl,g,n,q⟩:=h;refine{_,(A3 (pS 2 Ik.nd A5) (A3 (pS 3 Ik.nd A5) (A3 (Bt jG rfl (Cl (pv 0)) (pN 4 Ik.nd) (A3 (pS 5 Ik.nd (Ab Ay (pX K (pv 0) (M6 Il A5)) (pv 4))) (A3 (gc (i:=2) Ik.nd rfl (Or.inl rfl) (Ab Fp (Ab Ay (pv 1) (pv 5)) (pv 3)) df) (A3 (pS 1 Ik.nd (Ab B6 (pv 1) (pv 5))) (A7 (pS 3 Ik.nd (pv 4))))))) (A7 (Aa (pv 2)))))),?_};refine{_,rfl,a,rfl,.inl {{_,g},?_}};refine D7 (K:=K) (a:=a) (xs:=b.map V.int) (λi j f=>Pt λ(v x:Option V)=>j=[some (.ref a),some (.int (jx (b.take i) top t).2.1),some (.int (jx (b.take i) top t).1),some (.int (jx (b.take i) top t).2.2),v,x]/\f=H) ⟨none,none,rfl,rfl⟩ (by rintro i j f _ ⟨_,_,_,e⟩;exact(by rw[e];exact g)) ?_ ?_
  ·rintro i y j f B ⟨v,x,rfl,rfl⟩;rw[List.getElem?_map]at B;obtain⟨p,o,rfl⟩:=dI.mp B;obtain⟨z,C,m,D,G,I⟩:=n.2.2 i (b0.mp o).1;rw[Jt o]at z C m D G I;refine{_,rfl,_,rfl,a,_,_,_,rfl,rfl,.inl g,n.2.1,_,rfl,_,_,rfl,rfl,{z,()},?_};refine{_,rfl,_,rfl,_,rfl,_,_,rfl,rfl,{m,()},_,rfl,_,_,rfl,rfl,N3 () (),_,_,rfl,rfl,?_};refine{_,rfl,_,rfl,_,_,rfl,rfl,m,_,rfl,?_};refine{some (.int p),some (.int (top/p)),?_,rfl};rw[cj o];rfl
  ·rintro j f ⟨v,x,rfl,rfl⟩;refine{_,rfl,?_};rw[List.length_map,List.take_length];exact q
theorem A3l(rL:{5}):{6}:=by
 refine T.UP.ok λF=>F.okN P3 #[0] (λaS A S s H vs Q E hr h=>?_)
 ·rcases h with⟨a,m,b,rfl,O,hX,q⟩<;>rfl
 ·obtain⟨a,m,b,rfl,O,hX,q⟩:=h;refine{_,(A3 (pS 1 P3.nd (B1 #[27])) (A3 (pS 2 P3.nd A5) (A3 (pS 3 P3.nd (B1 A4)) (A3 (Bt jG rfl (Cl (pv 0)) (pN 4 P3.nd) (A3 (pS 2 P3.nd (Ab Fp (pv 2) (Ab Ay (pv 4) (pX K (pv 1) (M6 Il A5))))) (A3 (Cc (pD K4 (pv 4) (pX K (pv 1) (M6 Il A5))) (A7 (Bp (D9 PySem.F.plainAttrs_list PySem.F.slot_list_append PySem.F.type_list_append Br (pv 1) #[34]))) Ac) (A3 (Bp (D9 PySem.F.plainAttrs_list PySem.F.slot_list_append PySem.F.type_list_append Br (pv 3) (A0 (cN rL hr (A0 (pv 1) #[11])) A4))) (A7 (gc (i:=2) P3.nd rfl (Or.inl rfl) A5 df)))))) (A7 (Aa (pv 3))))))),?_};refine{Af,λL hL=>?_};exists H,L,hL,U,I,z,(.lst [.int 1]);refine{Af,λF C=>?_};exists z,F,C,X,e2,H2,(.lst []);have iG:=X _ _ I;have v:F≠L:=λe=>by rw[e,I]at C;cases C
  have u:H F=none:=U.free C;have bI:=U.trans X;refine{_,rfl,a,rfl,.inl {{_,Ar.of (bI _ _ O)},?_}}
  refine D7 (K:=K) (a:=a) (xs:=m.map V.int) (λi g x=>∃(Y:Option V),Ed (g=[some (.ref a),some (.ref L),some (.int (af (m.take i)).2.1),some (.ref F),Y]) (x L=some (.lst ((af (m.take i)).1.map V.int))) (x F=some (.lst ((af (m.take i)).2.2.map V.int))) (A6 H x))
   ⟨none,rfl,iG,e2,bI⟩ (by rintro i g x _ ⟨_,_,_,_,s⟩;exact Ar.of (s _ _ O)) ?_ ?_
  ·rintro i y g H3 hy ⟨Y,rfl,f,j,D⟩;rw[List.getElem?_map]at hy;obtain⟨p,R,rfl⟩:=dI.mp hy;have N:=hX.r i (b0.mp R).1;have es:=gp R;rw[Jt R]at N;rw[es];generalize af (m.take i)=s at N f j⊢;obtain⟨Z,bO,hq8,PX,ht8,PY,hf4,M⟩:=N;refine{_,rfl,_,rfl,_,rfl,_,rfl,L,_,_,_,rfl,rfl,.inl (Ar.of f),Z,_,_,rfl,rfl,{bO,()},_,_,rfl,rfl,N3 () (),?_};refine{_,rfl,_,rfl,_,rfl,L,_,_,_,rfl,rfl,.inl (Ar.of f),Z,_,_,rfl,rfl,_,rfl,(λg B=>g=[some (.ref a),some (.ref L),some (.int (s.2.1*(p/s.1.getLastD 1))),some (.ref F),some (.int p)]/\B L=some (.lst ((EA s.1 p).map V.int))/\B F=some (.lst (s.2.2.map V.int))/\A6 H B),λJ=>?_,λJ=>?_,?_}
   ·have G:s.1.getLastD 1<p:=by simpa using J
    refine{_,rfl,.inl {rfl,_,Ar.of f},_,rfl,L,_,_,rfl,rfl,f,Aj (by rw[List.length_map];omega),rfl,?_,by rw[A9 v];exact j,D.new hL};rw[A2,EA,if_pos G,List.map_append];rfl
   ·have G:¬s.1.getLastD 1<p:=by simpa using J
    refine{rfl,?_,j,D};rw[EA,if_neg G];exact f
   rintro g B ⟨rfl,o,n,s4⟩;refine{_,rfl,.inl {rfl,_,Ar.of n},_,rfl,_,rfl,L,_,p,_,rfl,Ar.of o,M,?_};refine{F,_,_,rfl,rfl,n,Aj (by rw[List.length_map];omega),?_};refine{_,rfl,_,_,rfl,rfl,?_};refine{_,rfl,by rw[A9 (Ne.symm v)];exact o,?_,s4.new u};rw[A2,VA,List.map_append];rfl
  ·rintro g H3 ⟨Y,rfl,f,j,D⟩;refine{_,rfl,?_};rw[List.length_map,List.take_length]at j;exact q F H3 u D j
theorem wg(hB:Su base mg)(rM:{3})(jU:{4})(CA:{6}):{7}:=by
 refine T.zM.ok λF=>F.okN P1 #[0] (λA outer s H vs Q E hr h=>?_)
 ·rcases h with⟨a,f,b,rfl,p,u,hT,q⟩<;>rfl
 ·obtain⟨a,f,b,rfl,p,u,hT,q⟩:=h;refine{_,(A3 (Av (Bd (Aq (Q0 rfl) (by rfl) T.zO boot_any (A0 (C8 (Cl (pv 0)) _ rfl Ks rfl rfl (λ_ _ _ _=>(pN 0 L9)) #[17] (λ_ _ _ _=>(pC Er (pv 0) A5))) A4))) (A7 D0) Ac) (A3 (Av (Da (Bd (cN rM hr #[4]))) (A7 D0) Ac) (A3 (Av (Da (Bd (cN jU hr #[4]))) (A7 D0) Ac) (A3 (pS 1 P1.nd (W3 (j:=0) (q:="chain_wheel.<locals>.<lambda>") hr (x:="number") (y:="periods") {{_,_,_,rfl},λ_ _ _ _ _ _ _=>rfl,rfl,rfl,rfl,by decide+kernel,rfl,rfl,#[],#[],#[]} (λcc h=>Tb rfl h) rfl rfl (.inr (.inl rfl)) rfl rfl F.tab (show(("chain_wheel":Str)++".<locals>.")++"<lambda>"=("chain_wheel.<locals>.<lambda>":Str)by decide+kernel) hB (by rfl) T.fX (A0 (D3 bg (by rfl) T.cA boot_range (A0 (pL K T.bM (pv 0)) A4)) A4))) (A3 (E7 (i:=2) P1.nd rfl (Cl (pv 0)) _ rfl Kt rfl rfl (λ_ _ _ _=>(pN 0 La)) #[17] (λ_ _ _ _=>(Ah (A0 (pv 0) #[27]))) rfl rfl) (A3 (Bt jG rfl (S9 (by rfl) T.rD (A0 (pv 1) (A0 (cN CA hr (A0 (Aq (Jq K) (by rfl) T.fX boot_sorted #[4]) A4)) A4))) (Cm K (n:=2) rfl (Ai (pN 3 P1.nd) (Ai (pN 4 P1.nd) Bm))) (A7 (Dr (Ah (A0 (pX K (pv 0) (pv 3)) #[34])) (g9 (pv 2) (pv 3) Ue)))) (A7 (Aa (pv 2))))))))),?_};have EE:=u.a.2.1;refine{_,rfl,a,rfl,.inl {{_,Ar.of p},λC hC=>?_}};refine Cg (K:=K) (a:=a) (xs:=f.map V.int) (λi B g=>B=(List.replicate i false).map V.bl/\g C=some (.lst B)/\A6 H g) ⟨rfl,A2,A6.upd hC⟩ (by rintro i B g _ ⟨_,_,s⟩;exact Ar.of (s _ _ p)) ?_ ?_
  ·rintro i y B g hy ⟨rfl,VC,s'⟩ Qe hQ;rw[List.getElem?_map]at hy;obtain⟨x,N,rfl⟩:=dI.mp hy;have h1:=u.a.2.2.1 x (cI N);have h2:=(b0.mp N).1;refine{_,rfl,_,_,rfl,rfl,hQ _ _ VC #[22] {?_,A2,s'.new hC}};rw[List.replicate_succ',List.map_append];show _++[V.bl (decide (x<1))]=_;rw[decide_eq_false (show¬x<1 by omega)];rfl
  rintro ys0 H1 ⟨rfl,VD,s1⟩;refine{C,_,rfl,Ar.of VD,_,rfl,?_};refine As (by simp) ?_;have e1:=s1 _ _ p;refine{_,rfl,a,f,b,rfl,Ar.of e1,u,λH2 s2=>?_};refine{_,rfl,As rfl ?_};have bI:=s1.trans s2;refine{_,rfl,a,f,b,rfl,Ar.of (bI _ _ p),u,λH3 s3=>?_};have mI:=bI.trans s3;have e3:=mI _ _ p;refine{_,rfl,As rfl ?_};have EG:=mI _ _ hT;refine{_,rfl,a,_,rfl,.inl (Ar.of e3),_,rfl,λrg hrg=>?_};have el:((#[15].length:Nat):Int)=((f.length:Nat):Int):=by rw[List.length_map]
  rw[el];exists H3,rg,hrg,s4,e4,H4,(.pZ 0 ((f.length:Nat):Int));have e34:=s4 _ _ e3;refine{rg,a,f,rfl,e4,rfl,Ar.of e34,(),s4 _ _ EG,λO n H5 s5 hO eO rN VE=>?_};have VF:=mI.trans (s4.trans s5);have e5:=VF _ _ p;refine{_,rfl,a,rfl,.inl {{_,Ar.of e5},λD hD=>?_}};refine Cg (K:=K) (a:=a) (xs:=f.map V.int) (λi m g=>Ap (Kl g) ((f.take i).map λx=>(x,0)) m/\g D=some (.lst m)/\A6 H5 g) ⟨Ap.nil,A2,A6.upd hD⟩ (by rintro i B g _ ⟨_,_,s⟩;exact Ar.of (s _ _ e5)) ?_ ?_
  ·rintro i y m g hy ⟨hA,iH,s'⟩ Qe hQ;rw[List.getElem?_map]at hy;obtain⟨x,N,rfl⟩:=dI.mp hy;refine{_,rfl,Af,λT VG=>?_};exists g,T,VG,st,et,H'',(.tup [.int x,.int 0]);have tl:=Az.lst (o:=.lst (m++[.ref T])) (st _ _ iH);refine hQ _ _ (st _ _ iH) (Aj (by rw[hA.1,List.length_map,List.length_take];omega)) ⟨?_,A2,(s'.trans st).new hD⟩;rw[Ew N,List.map_append];exact(hA.imp λr v z=>Kl.up ((Az.of st).trans tl) z).append (Ap.one ⟨T,rfl,tl _ _ et⟩)
  rintro TH H6 ⟨hA6,vK,s6⟩;rw[List.length_map,List.take_length]at hA6;have s16:=VF.trans s6;have e6:=s16 _ _ p;have eO6:=s6 _ _ eO;have uG:H D=none:=VF.free hD;refine{_,rfl,_,rfl,a,f,rfl,Ar.of e6,(),λR B hR cY oB=>?_};have ey:B=f:=List.Perm.eq_of_pairwise (le:=(·<=·)) (λa b _ _ x y=>Int.le_antisymm x y) oB u.a.2.2.2.2.2.2.2 cY;subst B;exists H6,R,hR,s7,e7,H7,(.lst #[15]);refine{R,f,b,rfl,e7,u,λF H8 hF s8 eF=>?_};obtain⟨w1,w2,w3,-⟩:=u.w;have zT:=s7.trans s8;have Y:=zT _ _ eO6;have VH:=zT _ _ vK;have s18:=s16.trans zT;have DX:n.length=f.length:=by rw[rN.length_eq,List.length_range]
  have vL:=Po cY oB rN (List.pairwise_map.mpr VE);have pM:n.Nodup:=rN.nodup_iff.mpr List.nodup_range;have nDO:D≠O:=λe=>by rw[e,eO]at hD;cases hD
  have nDF:D≠F:=λe=>by rw[<- e,s7 _ _ vK]at hF;cases hF
  have edn:(af f).2.2.map V.int=(Z8 f).map λx=>V.int x.2:=by
   have:=List.map_snd_zip (l₁:=f) (l₂:=(af f).2.2) ();rw[<- this,List.map_map];rfl
  rw[edn]at eF;generalize Z8 f=dn at w1 w2 eF q;refine{false,false,O,F,rfl,{_,Ar.of Y},{_,Ar.of eF},?_}
  refine Tm (K:=K) (b1:=false) (b2:=false) (c:=O) (d:=F) (xs:=n.map λ(k:Nat)=>V.int ((k:Nat):Int)) (ys:=dn.map λx=>V.int x.2) (by rw[List.length_map,List.length_map];omega)
   (λi σ g=>Ut λ(m:List V) (J:List (Int×Int)) (v3 v4:Option V)=>Yb (σ=[some (.ref a),some (.ref O),some (.ref D),v3,v4]) (g D=some (.lst m)) (Ap (Kl g) J m) (J.map Prod.fst=f) ((∀(j o:Nat) (x:Int×Int),j<i->n[j]?=some o->dn[j]?=some x->J[o]?=some x)) (g O=some (.lst (n.map λ(k:Nat)=>V.int ((k:Nat):Int)))) (g F=some (.lst (dn.map λx=>V.int x.2))) (A6 H g))
   ⟨TH,_,_,_,rfl,VH,hA6.imp λr v z=>Kl.up (Az.of zT) z,by rw[List.map_map];exact List.map_id f,(λj o x h=>absurd h ()),Y,eF,s18⟩ (by rintro i σ g _ ⟨_,_,_,_,_,_,_,_,_,h1,h2,_⟩;exact{Ar.of h1,Ar.of h2}) ?_ ?_
  ·rintro i xo yf T σ M ho0 hf0 ⟨m,J,v3,v4,rfl,VI,U,jD,gE,Z,X,s9⟩ VG;rw[List.getElem?_map]at ho0 hf0;obtain⟨o,I,rfl⟩:=dI.mp ho0;obtain⟨z,hz,rfl⟩:=dI.mp hf0;have hom:o<f.length:=mx.mp (rN.mem_iff.mp (cI I))
   have hxo:f[o]?=some z.1:=by
    have h1:f[i]?=some z.1:=by rw[<- w2,List.getElem?_map,hz];rfl
    rw[<- vL,List.getElem?_map,I]at h1;have h2:f.getD o 0=z.1:=by simpa using h1
    rw[List.getElem?_eq_getElem hom,<- h2,List.getD_eq_getElem?_getD,List.getElem?_eq_getElem hom];rfl
   exists M,T,VG,S,PZ,BA,(.tup [.int ((o:Nat):Int),.int z.2]);refine{T,_,rfl,Ax.of PZ,rfl,_,_,rfl,_,_,rfl,rfl,?_};have LZ:=s9.trans S;have vM:Ls #[15] ((o:Nat):Int)=some (.int z.1):=Et (by rw[List.getElem?_map,hxo];rfl);refine{_,rfl,_,rfl,a,_,_,_,rfl,rfl,.inl (Ar.of (LZ _ _ p)),vM,_,rfl,Af,λG CB=>?_};exists BA,G,CB,L,OM,SI,(.tup [.int z.1,.int z.2]);have MA:=L _ _ (S _ _ VI);have VJ:m.length=f.length:=by rw[U.1,<- jD,List.length_map]
   refine{_,rfl,_,rfl,D,_,_,_,rfl,rfl,MA,Xg (),?_};have tl:=Az.lst (o:=.lst (m.set o (.ref G))) MA;refine{m.set o (.ref G),J.set o z,_,_,rfl,A2,((U.imp λr v w=>Kl.up (((Az.of S).trans (Az.of L)).trans tl) w).set o {G,rfl,tl _ _ OM}),?_,λj o' x hj fN uD=>?_,by rw[A9 (Ne.symm nDO)];exact L _ _ (S _ _ Z),by rw[A9 (Ne.symm nDF)];exact L _ _ (S _ _ X),(LZ.trans L).new uG}
   ·rw[List.map_set,jD];refine List.ext_getElem? λj=>?_;rw[List.getElem?_set];split
    ·rename_i e;subst e;rw[hxo]
    ·rfl
   ·rw[List.getElem?_set];by_cases e:j=i
    ·subst e;rw[I]at fN;cases fN;rw[hz]at uD;cases uD;rw[if_pos rfl,if_pos (by rw[<- U.1];omega)]
    ·rw[if_neg λw=>e ?_]
     ·exact gE j o' x () fN uD
     ·subst w;have EH:=b0.mp fN;have jE:=b0.mp I;have hpn:=List.pairwise_iff_getElem.mp pM;rcases Nat.lt_or_gt_of_ne e with y|y
      ·exact absurd (EH.2.trans jE.2.symm) (hpn j i EH.1 jE.1 y)
      ·exact absurd (jE.2.trans EH.2.symm) (hpn i j jE.1 EH.1 y)
  ·rintro σ M ⟨m,J,v3,v4,rfl,VI,U,jD,gE,Z,X,s9⟩;refine{_,rfl,?_};rw[List.length_map]at gE;exact q D m J M uG s9 VI U jD (U5 rN (by rw[<- jD,List.length_map]) w1 λk o x I N=>gE k o x (b0.mp I).1 I N)
theorem xw:{8}:=by
 refine T.JE.ok λF=>F.okN ix (λi H Q E h=>?_) (λm A f s H i Q E n h=>?_)
 ·rcases h with⟨w,b,rfl,g,j,e,q⟩<;>rfl
 ·obtain⟨w,b,rfl,g,j,e,q⟩:=h;refine{_,(A3 (pS 2 ix.nd (Ab Ay (pv 0) (pv 1))) (A7 (Aa (Ab lr (pv 1) (Ab Vz (yx PySem.F.plainAttrs_int PySem.F.slot_int_bit_length PySem.F.type_int_bit_length Zq (pv 2)) A5))))),?_};refine{_,rfl,_,rfl,_,_,rfl,rfl,{g,()},?_};refine{_,rfl,_,rfl,rfl,_,rfl,rfl,_,_,rfl,rfl,_,_,rfl,rfl,{e.1,mv e.2.1 #[]},?_};show Q (.int (b*2^(((intBits (w/b):Nat):Int)-1).toNat)) H;rw[e.2.2];exact q
theorem yk(Y:{8}):{9}:=by
 refine T.JF.ok λF=>F.okN A07 #[0] (λaS A z s H vs Q E U h=>?_)
 ·rcases h with⟨a,p,b,rfl,o,n,q⟩<;>rfl
 ·obtain⟨a,p,b,rfl,o,n,q⟩:=h;refine{_,(A3 (Av (PW.pt (Oz (pD Er (pv 1) A5) (E8 (Bd (Aq (Q0 rfl) (by rfl) T.zO boot_any (A0 (C8 (Cl (pv 0)) _ rfl Ri rfl rfl (λ_ _ _ _=>(pN 0 Rz)) #[17] (λ_ _ _ _=>(pC Er (pv 0) (pv 1)))) A4)))))) (A7 D0) Ac) (A7 (Aa (C8 (Cl (pv 0)) _ rfl Rj rfl rfl (λ_ _ _ _=>(pN 0 S0)) #[17] (λ_ _ _ _=>(cN Y U (A0 (pv 0) #[12]))))))),?_};obtain⟨CC,EE,mJ,_,_,dX,zU,-⟩:=n.a;refine{_,rfl,_,_,rfl,rfl,_,rfl,(λd e=>A6 H e/\d=false),λL=>absurd (of_decide_eq_true L) (),λL=>?_,?_}
  ·refine{_,rfl,a,rfl,.inl {{_,Ar.of o},λC M=>?_}};refine Cg (K:=K) (a:=a) (xs:=p.map V.int) (λi f e=>f=(List.replicate i false).map V.bl/\e C=some (.lst f)/\A6 H e) ⟨rfl,A2,A6.upd M⟩ (by rintro i f e _ ⟨_,_,s⟩;exact Ar.of (s _ _ o)) ?_ ?_
   ·rintro i y f e j ⟨rfl,R,B⟩ O v;rw[List.getElem?_map]at j;obtain⟨x,g,rfl⟩:=dI.mp j;have h1:=n.a.2.2.1 x (cI g);have h2:=(b0.mp g).1;refine{_,rfl,_,rfl,_,_,rfl,rfl,v _ _ R #[22] {?_,A2,B.new M}};rw[List.replicate_succ',List.map_append];show _++[V.bl (decide (x<b))]=_;rw[decide_eq_false (show¬x<b by omega)];rfl
   rintro ys0 G ⟨rfl,S,m⟩;refine{C,_,rfl,Ar.of S,_,rfl,?_};exact{m,by simp}
  rintro d G ⟨m,rfl⟩;refine As rfl ?_;have J:=m _ _ o;refine{_,rfl,a,rfl,.inl {{_,Ar.of J},λD u=>?_}};refine Cg (K:=K) (a:=a) (xs:=p.map V.int) (λi f e=>f=(p.take i).map V.int/\e D=some (.lst f)/\A6 G e) ⟨rfl,A2,A6.upd u⟩ (by rintro i f e _ ⟨_,_,s⟩;exact Ar.of (s _ _ J)) ?_ ?_
  ·rintro i y f e j ⟨rfl,X,B⟩ O v;rw[List.getElem?_map]at j;obtain⟨x,g,rfl⟩:=dI.mp j;refine{_,rfl,_,rfl,_,_,rfl,(),zU,(n.d x (cI g)).2,v _ _ X (Aj (by rw[List.length_map,List.length_take];omega)) {?_,A2,B.new u}};rw[Ew g,List.map_append];rfl
  rintro f N ⟨rfl,I,Z⟩;rw[List.length_map,List.take_length]at I;exact q D N (m.free u) (m.trans Z) I
theorem wj:{10}:=by
 refine T.JG.ok λF=>F.okN ij (λL H Q E h=>?_) (λO A n s H L Q E U h=>?_)
 ·rcases h with⟨w,m,rfl,G,o,q⟩<;>rfl
 ·obtain⟨w,m,rfl,G,o,q⟩:=h;refine{_,(A3 (Ox jG (pD K4 (pv 0) (pv 1)) (A7 (pS 0 ij.nd (Ab Ay (pv 0) A5)))) (A7 (Aa (pv 0)))),?_};refine Pb (λb f=>∃(c:Int),J1 (b=[some (.int c),some (.int m)]) ((c=m\/c=2*m\/c=4*m)) (f=H)) (λ(b:L2.St) (_:L2.Hp)=>match b[0]? with|some (some (V.int y))=>y.toNat|_=>0) ⟨w,rfl,o,rfl⟩ ?_ ?_
  ·rintro b f ⟨c,rfl,S,rfl⟩;refine{_,rfl,_,rfl,_,_,rfl,rfl,_,rfl,Di (λg=>?_) (λg=>?_)}
   ·have R:m<c:=by simpa using g
    refine{_,rfl,_,_,rfl,rfl,{#[],#[]},{c/2,rfl,(),rfl},?_};show(c/2).toNat<c.toNat;omega
   ·have D:¬m<c:=by simpa using g
    have e:c=m:=()
    exact{_,rfl,e▸q}
  ·rintro b f M N C ⟨v,p,J,I,i,j,u,x,c,B,z⟩;exact{v,p,J,I,i,j,u,x,c,B,C _ _ z}
theorem xj(rP:{10})(jU:{4})(jV:{9}):{11}:=by
 refine T.JH.ok λF=>F.okN We #[0] #[2]
 ·rcases h with⟨a,L,b,rfl,o,C,q⟩<;>rfl
 ·obtain⟨a,L,b,rfl,o,C,q⟩:=h;refine{_,(A3 (Av (PW.pt (El (pD Bk (pL K T.bM (pv 0)) A5) (E8 (pD Er (Aq (Ga K rfl) (by rfl) T.iV boot_min #[4]) A5)))) (A7 D0) Ac) (A3 (pS 1 We.nd (Aq (Ga K rfl) (by rfl) T.iV boot_min #[4])) (A3 (E7 (i:=2) We.nd rfl (Cl (pv 0)) _ rfl Nj rfl rfl (λ_ _ _ _=>(pN 0 Og)) #[17] (λ_ _ _ _=>(cN rP hr (A0 (pv 0) #[12]))) rfl rfl) (A7 (Aa (lz rfl (by rfl) T.jR boot_max (A0 (C8 (Cl (W4 rfl (by rfl) T.fX (by rfl) T.LN #[11])) _ rfl Nk rfl rfl (λ_ _ _ _=>(pN 0 Oh)) (λ_ _ _ _=>(K8 (Bd (cN jU hr (A0 (cN jV hr (A0 (pv 1) #[4])) A4))))) (λ_ _ _ _=>(pv 0))) A4) B9)))))),?_};obtain⟨CC,EE,mJ,_,TL,dX,zU,-⟩:=C.a;refine{_,rfl,a,_,rfl,.inl (Ar.of o),rfl,_,rfl,false,λY Q' z=>?_,?_}
  ·refine{_,rfl,a,L,rfl,.inl (Ar.of o),CC,λm hm jI=>?_};refine{_,_,rfl,rfl,_,rfl,?_};rw[decide_eq_false (show¬m<1 by have:=mJ m hm;omega)];exact z
  refine As ?_ ?_
  ·rw[PV,decide_eq_false (by rw[List.length_map];omega)];rfl
  refine{_,rfl,a,L,rfl,.inl (Ar.of o),CC,λm hm jI=>?_};have em:m=b:=Int.le_antisymm (jI b TL) (mJ m hm).2.2;subst m;refine{_,rfl,a,rfl,.inl {{_,Ar.of o},λD hD=>?_}};refine Cg (K:=K) (a:=a) (xs:=L.map V.int) (λi n f=>n=(List.replicate i b).map V.int/\f D=some (.lst n)/\A6 H f) ⟨rfl,A2,A6.upd hD⟩ (by rintro i j f _ ⟨_,_,s⟩;exact Ar.of (s _ _ o)) ?_ ?_
  ·rintro i y n f u ⟨rfl,iH,N⟩ Qe B;rw[List.getElem?_map]at u;obtain⟨x,hx,rfl⟩:=dI.mp u;have hi:=(b0.mp hx).1;refine{_,rfl,_,rfl,x,b,rfl,dX,(C.d x (cI hx)).1,B _ _ iH #[22] {?_,A2,N.new hD}};rw[List.replicate_succ',List.map_append];rfl
  rintro n M ⟨rfl,fF,s1⟩;rw[List.length_map]at fF;refine{_,rfl,D,_,rfl,Ar.of fF,by rw[List.length_replicate];omega,λR j hR QA J VL=>?_};have g:∀y∈j,y=b:=λy u=>(List.mem_replicate.mp ((J y).mp u)).2;have EI:j=List.replicate j.length b:=List.eq_replicate_iff.mpr ⟨rfl,g⟩
  have bZ:j≠[]:=λe=>by
   have:=(J b).mpr (List.mem_replicate.mpr ⟨(),rfl⟩);rw[e]at this;cases this
  exists M,R,hR,s2,U,H2,(.lst (j.map V.int));have QB:=s1.trans s2;refine{R,rfl,.inl {{_,Ar.of U},λG hG=>?_}};refine V5 (K:=K) (a:=R) (xs:=j.map V.int) (λi n f=>n=(j.take i).map V.int/\f G=some (.lst n)/\A6 H2 f) ⟨rfl,A2,A6.upd hG⟩ (by rintro i n f _ ⟨_,_,s⟩;exact Ar.of (s _ _ U)) ?_ ?_ ?_ ?_
  ·rintro i y n f u ⟨rfl,Z,N⟩;rw[List.getElem?_map]at u;obtain⟨c,I,rfl⟩:=dI.mp u;have ec:=g c (cI I);subst c;have hi:=(b0.mp I).1;refine{_,rfl,_,rfl,a,L,b,rfl,N _ _ (QB _ _ o),C,λp H4 hp O e4=>?_};refine{p,_,b,rfl,Ar.of e4,C,λH5 s5=>?_};have s45:=N.trans (O.trans s5);refine{_,rfl,Di (λY=>?_) (λY=>absurd rfl Y)};refine{_,rfl,s5 _ _ (O _ _ Z),Aj (by rw[List.length_map,List.length_take];omega),?_,A2,s45.new hG};rw[Ew I,List.map_append];rfl
  ·rintro σ f Q1 Q2 B ⟨v1,X,v2,f2,a',SO,b',f3,g1,g2,hq⟩;refine{v1,X,v2,f2,a',SO,b',f3,g1,g2,λp S k1 k2 k3=>?_};obtain⟨a2,xs2,b2,l1,l2,l3,cB⟩:=hq p S k1 k2 k3;refine{a2,xs2,b2,l1,l2,l3,λH4 O=>?_};obtain⟨c,ec,dM⟩:=cB H4 O;exact{c,ec,B _ _ dM}
  ·rintro σ f Q1 Q2 B ⟨v1,X,z⟩;exact{v1,X,B _ _ z}
  rintro n S ⟨rfl,v,s3⟩;rw[List.length_map,List.take_length]at v;refine{G,_,rfl,rfl,Ar.of v,λrQ=>absurd rQ bZ,λc I _=>?_};rw[g c I];exact q S (QB.trans s3)
theorem xk(L:{11})(M:{7})(J:{9}):{12}:=by
 refine T.JI.ok λF=>F.okN iu (λS H Q E h=>?_) (λZ A m s H S Q E j h=>?_)
 ·rcases h with⟨a,g,b,rfl,i,f,u,q⟩<;>rfl
 ·obtain⟨a,g,b,rfl,i,f,u,q⟩:=h;refine{_,(A3 (pS 1 iu.nd (cN L j #[4])) (A3 (Av (pD Fw (pv 1) B9) (A7 D0) Ac) (A7 (Aa (Ah (A0 (pv 1) (A0 (cN M j (A0 (cN J j (A0 (pv 0) #[12])) A4)) A4))))))),?_};refine{_,rfl,a,g,b,rfl,i,f,λX y=>?_};refine{_,rfl,rfl,_,rfl,As rfl ?_};refine{_,rfl,_,rfl,_,rfl,a,g,b,rfl,y _ _ i,f,λp Y hp O C=>?_};have e:=y.trans O;refine{p,g,b,rfl,C,f,e _ _ u,λw R N o G B D all I U=>?_};refine{Af,λt x=>?_};have n:A6 o (upd o t (.tup [.int b,.ref w])):=A6.upd x;exact q t w R N _ (e.trans (B.trans n)) ((e.trans B).free x) (e.free G) A2 (n _ _ D) (all.imp λr v z=>Kl.up (Az.of n) z) I U
theorem yl:{13}:=by
 refine T.JJ.ok (λh s us G I=>by obtain⟨_,_,rfl⟩:=A2j ((Nat.add_zero _).symm.trans (List.length_append.symm.trans I));exact BindsTo.of_defaults rfl (G _ _ h) rfl rfl rfl) (λh s us G I=>by obtain⟨_,rfl⟩:=A2i (Nat.succ.inj (List.length_append.symm.trans I));exact BindsTo.of_defaults rfl (G _ _ h) rfl rfl rfl) λF=>F.jH A08 #[0] (λaS A J s H vs Q E hr h=>?_)
 ·rcases h with⟨a,f,i,rfl,g,y,D,o,u,q⟩|⟨a,f,i,rfl,g,n,B⟩|⟨a,f,i,rfl,g,y,D,o,u,q⟩<;>rfl
 ·obtain h:=h;refine{_,(A3 (Av (PW.pt (El (pD Er (pL K T.bM (pv 0)) A5) (E8 (pD K4 (pL K T.bM (pv 0)) (C9 (v:=.int 8) (by rfl) T.gI.choose_spec {_,rfl}))))) (A7 (Eh Ij rfl (by rfl) T.fW T.iX (A0 Ad A4))) Ac) (A3 (Av (pD Er (Aq (Ga K rfl) (by rfl) T.iV boot_min #[4]) A5) (A7 (Eh Ij rfl (by rfl) T.fW T.iX (A0 Ad A4))) Ac) (A3 (Av (PW.pt (Ev (pD Fq (pv 1) B9) (E3 (pD Er (pv 1) A5)))) (A7 (Eh Ij rfl (by rfl) T.fW T.iX (A0 Ad A4))) Ac) (A7 (Aa (Ah (A0 (D3 Fs (by rfl) T.kR boot_tuple #[4]) #[12]))))))),?_};rcases h with⟨a,f,i,rfl,g,y,D,o,u,q⟩|⟨a,f,i,rfl,g,n,B⟩|⟨a,f,i,rfl,g,y,D,o,u,q⟩
  ·refine{_,rfl,a,_,rfl,.inr (Ax.of g),_,_,rfl,rfl,_,rfl,false,λ_ j z=>{_,rfl,a,_,rfl,.inr (Ax.of g),_,_,rfl,rfl,_,rfl,?_},As ?_ ?_}
   ·have e:decide ((#[15].length:Int)>8)=false:=jJ (by rw[List.length_map];omega)
    first|(rw[e];exact z)|(rw[show decide ((8:Int)<(#[15].length:Int))=false from decide_eq_false (by rw[List.length_map];omega)];exact z)
   ·rw[decide_eq_false (show¬(#[15].length:Int)<1 by rw[List.length_map];omega)];rfl
   refine{_,rfl,a,f,rfl,.inr (Ax.of g),y,λm C _=>{_,_,rfl,rfl,_,rfl,As ?_ ?_}}
   ·have:=o m C;exact jJ ()
   refine{_,rfl,rfl,_,rfl,false,λe j z=>?_,As ?_ ?_}
   ·cases i with
    |none=>simp[vO]at e
    |some c=>
     have:=u c rfl;refine{_,rfl,_,_,rfl,rfl,_,rfl,?_};rw[decide_eq_false (show¬c<1 by omega)];exact z
   ·rw[Bool.and_false]
   refine{_,rfl,a,_,rfl,.inr {Ax.of g,{_,rfl,Af,λp v=>?_}}};exact q p _ (A6.upd v) ⟨a,A2,A6.upd v _ _ g⟩
  ·refine{_,rfl,a,_,rfl,.inr (Ax.of g),_,_,rfl,rfl,_,rfl,decide ((#[15].length:Int)>8),λ_ j z=>{_,rfl,a,_,rfl,.inr (Ax.of g),_,_,rfl,rfl,_,rfl,z},?_};refine Di (λ_=>⟨Fo,B⟩) (λL=>?_)
   have M:1<=f.length/\f.length<=8:=by
    rw[List.length_map]at L;simp only[Bool.or_eq_true,decide_eq_true_eq,not_or]at L;omega
   refine{_,rfl,a,f,rfl,.inr (Ax.of g),(),λm C Y=>{_,_,rfl,rfl,_,rfl,?_}};refine Di (λ_=>⟨Fo,B⟩) (λO=>?_);have S:¬m<1:=by simpa using O
   have R:∃c,i=some c/\c<1:=by
    rcases n with b|b|⟨x,X,mJ⟩|b
    ·omega
    ·omega
    ·have:=Y x X;omega
    ·exact b
   obtain⟨c,rfl,N⟩:=R;refine{_,rfl,rfl,_,rfl,true,λe j z=>{_,rfl,_,_,rfl,rfl,_,rfl,?_},Cz rfl {Fo,B}};rw[decide_eq_true N];exact z
  ·refine{_,rfl,a,_,rfl,.inl (Ar.of g),_,_,rfl,rfl,_,rfl,false,λ_ j z=>{_,rfl,a,_,rfl,.inl (Ar.of g),_,_,rfl,rfl,_,rfl,?_},As ?_ ?_}
   ·have e:decide ((#[15].length:Int)>8)=false:=jJ (by rw[List.length_map];omega)
    first|(rw[e];exact z)|(rw[show decide ((8:Int)<(#[15].length:Int))=false from decide_eq_false (by rw[List.length_map];omega)];exact z)
   ·rw[decide_eq_false (show¬(#[15].length:Int)<1 by rw[List.length_map];omega)];rfl
   refine{_,rfl,a,f,rfl,.inl (Ar.of g),y,λm C _=>{_,_,rfl,rfl,_,rfl,As ?_ ?_}}
   ·have:=o m C;exact jJ ()
   refine{_,rfl,rfl,_,rfl,false,λe j z=>?_,As ?_ ?_}
   ·cases i with
    |none=>simp[vO]at e
    |some c=>
     have:=u c rfl;refine{_,rfl,_,_,rfl,rfl,_,rfl,?_};rw[decide_eq_false (show¬c<1 by omega)];exact z
   ·rw[Bool.and_false]
   refine{_,rfl,a,_,rfl,.inl {Ar.of g,λt U=>?_}};have Z:A6 H (upd H t (.tup #[15])):=A6.upd U;refine{_,rfl,Af,λp v=>?_};exact q p _ (Z.trans (A6.upd v)) ⟨t,A2,A6.upd v _ _ A2⟩
theorem xl:{14}:=by
 refine T.JK.ok λF=>F.okN A02 (λj H Q E h=>?_) (λn A b s H j Q E o h=>?_)
 ·rcases h with⟨a,m,i,rfl,⟨t,e,g⟩,q⟩<;>rfl
 ·obtain⟨a,m,i,rfl,⟨t,e,g⟩,q⟩:=h;refine{_,(A7 (Aa (Ah (A0 #[9] #[27])))),?_};refine{_,rfl,a,_,_,_,rfl,rfl,.inr (Ax.of e),rfl,?_};exact{Af,λp f=>q p _ (A6.upd f) {t,A2,A6.upd f _ _ g}}
theorem xx:{15}:=by
 refine T.JL.ok λF=>F.okN A05 (λo H Q E h=>?_) (λx A f s H o Q E y h=>?_)
 ·rcases h with⟨a,b,p,m,e,n,rfl,⟨t,g,_⟩,⟨u,i,_⟩,q⟩<;>rfl
 ·obtain⟨a,b,p,m,e,n,rfl,⟨t,g,_⟩,⟨u,i,_⟩,q⟩:=h;refine{_,(A7 (Aa (K6 (pC Fq #[9] B9) (Ih (pC Bk #[14] A5))))),?_};refine{_,rfl,a,_,_,_,rfl,rfl,.inr (Ax.of g),rfl,rfl,_,decide (V.int n=V.int 0),rfl,λ_ v z=>{_,rfl,b,_,_,_,rfl,rfl,.inr (Ax.of i),rfl,rfl,z},?_};have j:decide (V.int n=V.int 0)=decide (n=0):=by simp
  rw[A2l,j];exact q
theorem wk:{16}:=by
 refine T.JM.ok λF=>F.okN zy (λm H Q E h=>?_) (λo A g s H m Q E p h=>?_)
 ·rcases h with⟨a,f,e,b,rfl,⟨t,i,j⟩,q⟩<;>rfl
 ·obtain⟨a,f,e,b,rfl,⟨t,i,j⟩,q⟩:=h;refine{_,(A7 (Aa (K6 (pC ny (pv 1) A5) (Ih (pC Er (pv 1) (pL K T.bM #[9])))))),?_};refine{_,rfl,_,_,rfl,rfl,_,decide (b<(f.length:Int)),rfl,λ_ n z=>{_,rfl,_,rfl,a,_,_,_,rfl,rfl,.inr (Ax.of i),rfl,t,_,rfl,.inr (Ax.of j),_,_,rfl,rfl,?_},?_}
  ·rw[List.length_map];exact z
  ·rw[show(decide (b>=0)&&decide (b<(f.length:Int)))=decide (0<=b/\b<(f.length:Int))by rw[Bool.decide_and]];exact q
theorem A3f(M:{16})(I:{15}):{17}:=by
 refine T.UQ.ok λF=>F.jH A47 (λN H Q E h=>?_) (λR A y s H N Q E C h=>?_)
 ·rcases h with⟨a,b,j,u,e,n,f,g,rfl,i,p,L,B,q⟩|⟨a,b,j,u,e,n,f,g,rfl,i,p,m⟩<;>rfl
 ·obtain h:=h;refine{_,(A3 (Av (Da (Bd (cN M C (A0 (pv 0) #[11])))) (A7 (Eh Ij rfl (by rfl) T.dZ T.fY (A0 Ad A4))) Ac) (A7 (Av (PW.pt (Ev (Bd (pv 3)) (E3 (Da (Bd (cN I C (A0 (pv 0) #[12]))))))) (A7 (Eh Ij rfl (by rfl) T.lS T.rE (A0 Ad A4))) Ac))),?_};rcases h with⟨a,b,j,u,e,n,f,g,rfl,i,p,L,B,q⟩|⟨a,b,j,u,e,n,f,g,rfl,i,p,m⟩
  ·obtain⟨t,S,U⟩:=id i;refine{_,rfl,_,rfl,a,j,e,(f:Int),rfl,i,_,rfl,As ?_ ?_}
   ·rw[decide_eq_true (show(0:Int)<=(f:Int)/\(f:Int)<(j.length:Int)by omega)];rfl
   refine{_,rfl,_,rfl,!(!decide (e=none)&&decide (n=0)),λ_ G z=>{_,rfl,_,rfl,a,b,j,u,e,n,rfl,i,p,_,rfl,z},As ?_ q};cases g with
   |false=>rfl
   |true=>
    obtain⟨o,v⟩:=B rfl;simp[o,v]
  ·rcases m with⟨o,x⟩|⟨o,v,J,x⟩
   ·refine{_,rfl,_,rfl,a,j,e,f,rfl,i,_,rfl,Cz ?_ {Fo,x}};rw[decide_eq_false o];rfl
   ·refine{_,rfl,_,rfl,a,j,e,f,rfl,i,_,rfl,As ?_ ?_}
    ·rw[decide_eq_true o];rfl
    refine{_,rfl,_,rfl,!(!decide (e=none)&&decide (n=0)),λ_ G z=>{_,rfl,_,rfl,a,b,j,u,e,n,rfl,i,p,_,rfl,z},Cz ?_ {Fo,x}};rw[v];by_cases D:e=none
    ·simp[D]
    ·have O:¬n=0:=λz=>J ⟨D,z⟩;simp[O]
theorem wl(Z:{17}):{18}:=by
 refine T.JN.ok λF=>F.jH ik #[0] (λaS A R s H vs Q E hr h=>?_)
 ·rcases h with⟨a,b,B,o,g,n,j,f,rfl,p,v,O,hl,h8,U,q⟩|⟨a,b,B,o,g,n,j,f,rfl,p,v,C⟩<;>rfl
 ·obtain h:=h;refine{_,(A3 (Bp (cE Z hr D8 (A0 (pv 0) (A0 (pv 1) (A0 (pv 2) #[35]))))) (A3 (E7 (i:=4) ik.nd rfl (Cl #[14]) _ rfl Ku rfl rfl (λ_ _ _ _=>(pN 0 Lb)) #[17] (λ_ _ _ _=>(Ab Vz (pv 0) A5)) rfl rfl) (A3 (Cc (Da (Bd (pv 3))) (A7 (Dr (pX K #[9] (pv 2)) (g9 (pv 4) (pv 2) Ue))) Ac) (A7 (Aa (pv 4)))))),?_};rcases h with⟨a,b,B,o,g,n,j,f,rfl,p,v,O,hl,h8,U,q⟩|⟨a,b,B,o,g,n,j,f,rfl,p,v,C⟩
  ·obtain⟨t,bP,bR⟩:=id p;obtain⟨u,dX,S⟩:=id v;refine{_,rfl,_,rfl,_,rfl,_,rfl,E,λ_ _ _ z=>z,.inl {a,b,B,o,g,n,j,f,rfl,p,v,O,U,?_}};refine{_,rfl,b,_,_,_,rfl,rfl,.inr (Ax.of dX),rfl,u,rfl,.inr {{_,Ax.of S},λD J=>?_}};refine Nh (K:=K) (a:=u) (xs:=o.map V.int) (λi G m=>G=((o.take i).map (λx=>x-1)).map V.int/\m D=some (.lst G)/\A6 H m) ⟨rfl,A2,A6.upd J⟩ (by rintro i G m _ ⟨_,_,s⟩;exact Ax.of (s _ _ S)) ?_ ?_
   ·rintro i x G m X ⟨rfl,iH,s'⟩ Qe hQ;rw[List.getElem?_map]at X;obtain⟨y,Y,rfl⟩:=dI.mp X;have hi:=(b0.mp Y).1;refine{_,rfl,_,_,rfl,rfl,hQ _ _ iH (Aj (by simp;omega)) {?_,A2,s'.new J}};rw[List.take_add_one,Y];simp
   rintro G H2 ⟨rfl,M,L⟩;rw[List.length_map,List.take_length]at M;refine{_,rfl,_,rfl,(λI m=>I=[some (.ref a),some (.ref b),some (.int (j:Nat)),some (.bl f),some (.ref D)]/\A6 H m/\m D=some (.lst ((Au B o j f).map V.int))),λe=>?_,λe=>?_,?_}
   ·have N:f=false:=by simpa using e
    subst N;refine{_,rfl,a,_,_,_,rfl,rfl,.inr (Ax.of (L _ _ bP)),rfl,_,rfl,t,_,_,_,rfl,rfl,.inr (Ax.of (L _ _ bR)),Rs O,?_};refine{_,rfl,_,rfl,D,_,_,_,rfl,rfl,M,Xg (by simp;omega),rfl,L.new J,?_};rw[A2];unfold Au;simp
   ·have N:f=true:=by simpa using e
    subst N;exact{rfl,L,M}
   ·rintro I m ⟨rfl,s3,e3⟩;exact{_,rfl,q D m J s3 e3}
  ·exact{_,rfl,_,rfl,_,rfl,_,rfl,E,λ_ _ _ z=>z,.inr {a,b,B,o,g,n,j,f,rfl,p,v,C}}
theorem w8:{19}:=by
 refine T.JO.ok λF=>F.okN zu (λv H Q E h=>?_) (λy A i s H v Q E z h=>?_)
 ·rcases h with⟨a,b,x,p,f,n,g,rfl,⟨t,j,_⟩,⟨u,m,_⟩,o,q⟩<;>rfl
 ·obtain⟨a,b,x,p,f,n,g,rfl,⟨t,j,_⟩,⟨u,m,_⟩,o,q⟩:=h;refine{_,(A3 (Av (Bd (pv 2)) (A7 (Aa #[9])) Ac) (A7 (Aa (Aq (Yp rfl) (by rfl) T.jR boot_max (A0 (Ab Vz #[14] A5) #[27]))))),?_};refine{_,rfl,_,rfl,?_};cases g with
  |true=>
   refine Cz rfl ?_;refine{_,rfl,a,_,_,_,rfl,rfl,.inr (Ax.of j),rfl,?_};cases f with
   |none=>exact absurd rfl (o rfl).1
   |some c=>exact q
  |false=>
   refine As rfl ?_;refine{_,rfl,b,_,_,_,rfl,rfl,.inr (Ax.of m),rfl,_,_,rfl,rfl,_,_,rfl,?_}
   have e:(if(0:Int)>n-1 then(0:Int)else n-1)=Bl f n false:=by
    unfold Bl;rw[if_neg Bool.false_ne_true];omega
   show Q (.int (if(0:Int)>n-1 then(0:Int)else n-1)) H;rw[e];exact q
theorem yq(X:{18})(Y:{19}):{20}:=by
 refine T.JP.ok (λh s Z B u=>by obtain⟨_,_,_,_,rfl⟩:=A2k ((Nat.add_zero _).symm.trans (List.length_append.symm.trans u));exact BindsTo.of_defaults rfl (B _ _ h) rfl rfl rfl) (λh s Z B u=>by obtain⟨_,_,_,rfl⟩:=ng (Nat.succ.inj (List.length_append.symm.trans u));exact BindsTo.of_defaults rfl (B _ _ h) rfl rfl rfl) λF=>F.jH j0 #[0] (λaS A G s H vs Q E M h=>?_)
 ·rcases h with⟨a,b,m,j,g,n,i,f,rfl,o,q,N,u,L,C,O,R⟩|⟨a,b,m,j,g,n,i,f,rfl,o,q,v⟩<;>rfl
 ·obtain h:=h;refine{_,(A3 (pS 4 j0.nd (cE X M D8 (A0 (pv 0) (A0 (pv 1) (A0 (pv 2) #[35]))))) (A3 (Av (Gy (S4 K) A5 (pv 4) rfl) (A7 (Aa B9)) Ac) (A7 (Aa (Ah (A0 (D3 Fs (by rfl) T.kR boot_tuple #[34]) (A0 (cN Y M (A0 (pv 0) (A0 (pv 1) #[35]))) A4))))))),?_};rcases h with⟨a,b,m,j,g,n,i,f,rfl,o,q,N,u,L,C,O,R⟩|⟨a,b,m,j,g,n,i,f,rfl,o,q,v⟩
  ·refine{_,rfl,_,rfl,_,rfl,_,rfl,E,λ_ _ _ z=>z,.inl {a,b,m,j,g,n,i,f,rfl,o,q,N,u,L,C,λl J HE I S=>?_}};refine{_,rfl,l,_,rfl,.inl (Ar.of S),rfl,Qb _,_,rfl,?_};rw[Tq];refine Di (λy=>?_) (λy=>?_)
   ·exact O (by simpa using y) J I
   ·refine{_,rfl,l,_,rfl,.inl {Ar.of S,λt U=>?_}};have x:A6 H (upd J t (.tup ((Au m j i f).map V.int))):=I.new (I.free U);refine{_,rfl,_,rfl,_,rfl,a,b,m,j,g,n,f,rfl,o.same x,q.same x,C,Af,λp D=>?_};refine R (by simpa using y) p _ (x.new (x.free D)) ⟨t,A2,?_⟩;rw[A9 (λe=>by rw[<- e,A2]at D;cases D),A2]
  ·exact{_,rfl,_,rfl,_,rfl,_,rfl,E,λ_ _ _ z=>z,.inr {a,b,m,j,g,n,i,f,rfl,o,q,v}}
theorem ww(dE:{20})(fZ:{15}):{21}:=by
 refine T.JQ.ok λF=>F.okN ip #[0] (λaS A outer s H vs Q E Y h=>?_)
 ·rcases h with⟨a,b,m,j,g,n,w0,e,rfl,rfl,J,M,Z,U,R,q⟩<;>rfl
 ·obtain⟨a,b,m,j,g,n,w0,e,rfl,rfl,J,M,Z,U,R,q⟩:=h;refine{_,(A3 (pS 3 ip.nd (B1 (A0 (W1 (cD dE Ki Y (A0 (pv 0) (A0 (pv 1) #[11])))) A4))) (A3 (Cc (Bd (cN fZ Y (A0 (pv 0) #[12]))) (A7 (Bp (D9 PySem.F.plainAttrs_list PySem.F.slot_list_append PySem.F.type_list_append Br (pv 3) (A0 (W1 (cN dE.o Y (A0 (pv 0) (A0 (pv 1) (A0 (pv 2) (A0 Gi A4)))))) A4)))) Ac) (A7 (Aa (pv 3))))),?_};refine{(λv B=>Jd B (G9 m j g n e false) v/\A6 H B),{_,rfl,_,rfl,_,rfl,.inl {a,b,m,j,g,n,e,false,rfl,J,M,Z,U,R,(λz=>nomatch z),(λi y f=>{by unfold G9;rw[if_pos i];rfl,f}),λi p y f O=>{by unfold G9;rw[if_neg i];exact{p,rfl,O},f}}},?_};rintro v G ⟨hv,s1⟩;refine{Af,λL S=>?_};exists G,L,S,f,I,y,(.lst [v]);have o:=s1.trans f;refine{_,rfl,_,rfl,a,b,m,j,g,n,rfl,J.same o,M.same o,_,rfl,(λD x=>∃(N:List V),Ed (D=[some (.ref a),some (.ref b),some (.int e),some (.ref L)]) (x L=some (.lst N)) (Ap (Jd x) (Bh m j g n e) N) (A6 H x)),λX=>?_,λX=>?_,?_}
  ·have u:Jz g n=true:=X
   have nG:N9 g n true:=λ_=>by
    unfold Jz at u;simp only[Bool.and_eq_true,Bool.not_eq_true',decide_eq_false_iff_not,decide_eq_true_eq]at u;exact u
   refine{_,rfl,.inl {rfl,_,Ar.of I},(λv B=>Jd B (G9 m j g n e true) v/\A6 y B),{_,rfl,_,rfl,_,rfl,.inl {a,b,m,j,g,n,e,true,rfl,J.same o,M.same o,Z,U,R,nG,(λi y f=>{by unfold G9;rw[if_pos i];rfl,f}),λi p y f O=>{by unfold G9;rw[if_neg i];exact{p,rfl,O},f}}},?_};rintro v2 H3 ⟨gS,s3⟩;have e3:=s3 _ _ I;have tt:Az H3 (upd H3 L (.lst ([v]++[v2]))):=Az.lst e3;refine{L,_,_,rfl,rfl,e3,Aj (by simp),[v]++[v2],rfl,A2,?_,(o.trans s3).new (s1.free S)};unfold Bh;rw[if_pos u];exact Ap.cons (hv.up (((Az.of f).trans (Az.of s3)).trans tt)) (Ap.one (gS.up tt))
  ·have u:¬Jz g n=true:=by
    rw[show Jz g n=false from X];exact fx
   refine{[v],rfl,I,?_,o};unfold Bh;rw[if_neg u];exact Ap.one (hv.up (Az.of f))
  rintro D x ⟨N,rfl,eL,C,s'⟩;exact{_,rfl,q L N x (s1.free S) s' eL C}
theorem wm(jX:{18}):{22}:=by
 refine T.JR.ok (λh s us X m=>by obtain⟨_,_,_,_,rfl⟩:=A2k ((Nat.add_zero _).symm.trans (List.length_append.symm.trans m));exact BindsTo.of_defaults rfl (X _ _ h) rfl rfl rfl) (λh s us X m=>by obtain⟨_,_,_,rfl⟩:=ng (Nat.succ.inj (List.length_append.symm.trans m));exact BindsTo.of_defaults rfl (X _ _ h) rfl rfl rfl) λF=>F.jH im #[0] (λaS A Z s H vs Q E hr h=>?_)
 ·rcases h with⟨a,b,j,o,f,n,g,e,rfl,C,G,hw,m,h8,hm,q⟩|⟨a,b,j,o,f,n,g,e,rfl,C,G,u⟩<;>rfl
 ·obtain h:=h;refine{_,(A3 (pS 4 im.nd (cE jX hr D8 (A0 (pv 0) (A0 (pv 1) (A0 (pv 2) #[35]))))) (A7 (Aa (C8 (U6 (by rfl) T.gT #[34]) _ rfl Kr rfl rfl (λ_ _ _ _=>(Cm K (n:=2) rfl (Ai (pN 0 Gg) (Ai (pN 1 Gg) Bm)))) (λ_ _ _ _=>(K8 (pD Bk (pv 1) A5))) (λ_ _ _ _=>(pv 0)))))),?_};rcases h with⟨a,b,j,o,f,n,g,e,rfl,C,G,hw,m,h8,hm,q⟩|⟨a,b,j,o,f,n,g,e,rfl,C,G,u⟩
  ·refine{_,rfl,_,rfl,_,rfl,_,rfl,E,λ_ _ _ z=>z,.inl {a,b,j,o,f,n,g,e,rfl,C,G,hw,m,h8,hm,λl H1 HE s1 vN=>?_}};have hL:(Au j o g e).length=j.length:=by rw[Dy];exact m
   generalize Au j o g e=L at vN hL⊢q;refine{_,rfl,false,l,rfl,{_,Ar.of vN},λD U=>?_};refine V3 (K:=K) (b1:=false) (c:=l) (xs:=L.map V.int) (λi I p=>I=(Bx L i).map V.int/\p D=some (.lst I)/\A6 H1 p) ⟨rfl,A2,A6.upd U⟩ (by rintro i I p _ ⟨_,_,s⟩;exact Ar.of (s _ _ vN)) ?_ ?_ ?_ ?_
   ·rintro i x T I J hx ⟨rfl,B,M⟩ hT;rw[List.getElem?_map]at hx;obtain⟨y,hy,rfl⟩:=dI.mp hx;have hi:=(b0.mp hy).1;have ey:L.getD i 0=y:=by rw[List.getD_eq_getElem?_getD,hy];rfl
    have N:A6 J (upd J T (.tup [V.int (i:Nat),V.int y])):=A6.upd hT;have zV:=Ec L i;refine{_,rfl,rfl,_,rfl,?_};refine Di (λR=>?_) (λR=>?_)
    ·have S:y=0:=by simpa using R
     refine{_,rfl,N _ _ B,Aj (by rw[List.length_map];omega),?_,A2,(M.trans N).new U};rw[Dt,ey,if_pos S,List.map_append];rfl
    ·have S:¬y=0:=by simpa using R
     refine{?_,N _ _ B,M.trans N};rw[Dt,ey,if_neg S,List.append_nil]
   ·rintro σ p Q1 Q2 Y ⟨v,O,e2,c,e3,z⟩;exact{v,O,e2,c,e3,Y _ _ z}
   ·rintro σ p Q1 Q2 Y ⟨v,O,z⟩;exact{v,O,Y _ _ z}
   ·rintro I J ⟨rfl,B,M⟩;rw[List.length_map,hL]at B;exact q D J (s1.free U) (s1.trans M) B
  ·exact{_,rfl,_,rfl,_,rfl,_,rfl,E,λ_ _ _ z=>z,.inr {a,b,j,o,f,n,g,e,rfl,C,G,u}}
theorem wa:{23}:=by
 refine T.JS.ok λF=>F.okN zw (λi H Q E h=>?_) (λm A e s H i Q E n h=>?_)
 ·rcases h with⟨a,j,f,rfl,⟨t,b,g⟩,q⟩<;>rfl
 ·obtain⟨a,j,f,rfl,⟨t,b,g⟩,q⟩:=h;refine{_,(A7 (Aa (Ou (pD Fw #[9] B9) A5 (Ab Cw #[9] A5)))),?_};cases f with
  |none=>exact{_,rfl,a,_,_,_,rfl,rfl,.inr (Ax.of b),rfl,rfl,_,rfl,Cz rfl q}
  |some c=>exact{_,rfl,a,_,_,_,rfl,rfl,.inr (Ax.of b),rfl,rfl,_,rfl,As rfl {_,rfl,a,_,_,_,rfl,rfl,.inr (Ax.of b),rfl,_,_,rfl,rfl,q}}
theorem xy(J:{23}):{24}:=by
 refine T.JT.ok λF=>F.okN Si (λL H Q E h=>?_) (λM A v s H L Q E I h=>?_)
 ·rcases h with⟨a,b,f,rfl,⟨t,n,j⟩,p,C,G,q⟩<;>rfl
 ·obtain⟨a,b,f,rfl,⟨t,n,j⟩,p,C,G,q⟩:=h;refine{_,(A3 (pS 1 Si.nd (cN J I #[4])) (A3 (Bt jG rfl (Cl #[9]) (pN 2 Si.nd) (A7 (pS 1 Si.nd (Ab Fp (pv 1) (pv 2))))) (A7 (Aa (pv 1))))),?_};refine{_,rfl,a,b,f,rfl,{t,n,j},?_};refine{_,rfl,a,_,_,_,rfl,rfl,.inr (Ax.of n),rfl,t,rfl,.inr {{_,Ax.of j},?_}};refine Rr (K:=K) (a:=t) (xs:=b.map V.int) (λi m g=>∃(z:Option V),m=[some (.ref a),some (.int (Ao (qv f) (b.take i))),z]/\g=H) ⟨none,rfl,rfl⟩ (by rintro i m g _ ⟨_,_,e⟩;exact(by rw[e];exact Ax.of j)) ?_ ?_
  ·rintro i y m g B ⟨z,rfl,o⟩;subst o;rw[List.getElem?_map]at B;obtain⟨x,u,rfl⟩:=dI.mp B;have N:=(b0.mp u).1;have D:=Iu C p i ();refine{_,rfl,_,rfl,_,_,rfl,rfl,Xk D (p x (cI u)) (),?_};refine{some (.int x),?_,rfl};have e:Ao (qv f) (b.take (i+1))=Ao (qv f) (b.take i)*x:=F0 _ _ _ u;rw[e];rfl
  ·rintro m g ⟨z,rfl,o⟩;subst o;rw[List.length_map,List.take_length];exact{_,rfl,q}
theorem xz:{25}:=by
 refine T.JU.ok λF=>F.okN Lj #[0] #[2]
 ·rcases h with⟨t,g,rfl,ht,X,hp,eC,q⟩<;>rfl
 ·obtain⟨t,g,rfl,ht,X,hp,eC,q⟩:=h;refine{_,(A3 (pS 1 Lj.nd (B1 (A0 (Ah A4) A4))) (A3 (Bt jG rfl (Cl (pv 0)) (pN 2 Lj.nd) (A3 (pS 3 Lj.nd (B1 A4)) (A3 (Bt jG rfl (Cl (pv 1)) (pN 4 Lj.nd) (A7 (Bp (D9 PySem.F.plainAttrs_list PySem.F.slot_list_extend PySem.F.type_list_extend Ql (pv 3) (A0 (C8 (Zz (by rfl) T.cA (A0 A5 (A0 (Ab Cw (pv 2) A5) A4))) _ rfl Pg rfl rfl (λ_ _ _ _=>(pN 0 Pl)) #[17] (λ_ _ _ _=>(Ab (K3 K) (pv 1) (Ah #[4])))) A4))))) (A7 (pS 1 Lj.nd (pv 3)))))) (A7 (Aa (pv 1))))),?_};refine{Af,λE0 hE0=>{Af,λM VN=>?_}};have s0:A6 H (upd H E0 (.tup [])):=A6.upd hE0;have e0:(upd H E0 (.tup [])) E0=some (.tup (([]:mY).map V.int)):=A2;generalize upd H E0 (.tup [])=R at s0 e0 VN⊢;have s1:A6 R (upd R M (.lst [.ref E0])):=A6.upd VN;have e1:(upd R M (.lst [.ref E0])) M=some (.lst [.ref E0]):=A2;have r1:Ap (Fk (upd R M (.lst [.ref E0]))) (Cd (g.take 0)) [.ref E0]:=Ap.one ⟨E0,rfl,s1 _ _ e0⟩;generalize upd R M (.lst [.ref E0])=H1 at s1 e1 r1⊢;have U:=s0.trans s1;refine{_,rfl,t,rfl,.inr {{_,Ax.of (U _ _ ht)},?_}}
  refine Rr (K:=K) (a:=t) (xs:=g.map V.int) (λi u b=>LV λ(L:Addr) (J:List V) (v2 v3 O:Option V)=>Dv (u=[some (.ref t),some (.ref L),v2,v3,O]) (b L=some (.lst J)) (A6 H b) (Ap (Fk b) (Cd (g.take i)) J) (H L=none))
   ⟨M,_,none,none,none,rfl,e1,U,r1,s0.free VN⟩ (by rintro i u b _ ⟨_,_,_,_,_,_,_,s,_,_⟩;exact Ax.of (s _ _ ht)) ?_ ?_
  ·rintro i y u x hy ⟨L,J,v2,v3,O,rfl,Y,s2,G,hL⟩;rw[List.getElem?_map]at hy;obtain⟨w,hw,rfl⟩:=dI.mp hy;have hwi:=X w (cI hw);have MB:=Qs X hp i;have oC:=Qs X hp (i+1);have CF:Cd (g.take (i+1))=Bz (Cd (g.take i)) w:=F0 _ _ _ hw;rw[CF,P6]at oC;have VO:=(b0.mp hw).1
   have VP:∀r∈Cd (g.take i),r.length<=8:=λr hr=>by
    have:=(Kc g i () r hr).1;omega
   generalize Cd (g.take i)=f at G MB oC CF VP;refine{Af,λD hD=>?_};have s3:A6 x (upd x D (.lst [])):=A6.upd hD;have e3:(upd x D (.lst [])) D=some (.lst []):=A2;have f3:=s3 _ _ Y;have g3:=G.imp λr v z=>Fk.up (Az.of s3) z;have VQ:L≠D:=Ag Y hD;generalize upd x D (.lst [])=H3 at s3 e3 f3 g3⊢;refine{_,rfl,L,rfl,.inl {{_,Ar.of f3},?_}}
   refine D7 (K:=K) (a:=L) (xs:=J) (λj u b=>Pt λ(o:List V) (O:Option V)=>Dv (u=[some (.ref t),some (.ref L),some (.int w),some (.ref D),O]) (b D=some (.lst o)) (b L=some (.lst J)) (A6 x b) (Ap (Fk b) (Bz (f.take j) w) o))
    ⟨[],O,rfl,e3,f3,s3,Ap.nil⟩ (by rintro j u b _ ⟨_,_,_,_,e,_⟩;exact Ar.of e) ?_ ?_
   ·rintro j y u H4 hy ⟨o,v4',rfl,Z,h2,s4,S⟩;have g4:=G.imp λr v z=>Fk.up (Az.of s4) z;obtain⟨r,jS,p,rfl,VR⟩:=g4.get hy;have hj:=(b0.mp jS).1;have hr8:=VP r (cI jS);have ezl:o.length=(f.take j).length*w.toNat:=by rw[S.1,P6]
    have EJ:o.length<=3000:=by
     rw[ezl];refine ea (Nat.mul_le_mul_right _ ?_) oC;rw[List.length_take];omega
    have hw3:w.toNat<=3000:=ea (Nat.le_mul_of_pos_left _ ()) oC;refine{_,rfl,.inl {rfl,_,Ar.of Z},_,rfl,_,_,rfl,rfl,1,w+1,rfl,(),λB hB=>?_};refine Gr (λm n b=>b B=some (.lst n)/\A6 H4 b/\Ap (Fk b) ((List.range m).map λt=>r++[1+((t:Nat):Int)]) n) ⟨A2,A6.upd hB,Ap.nil⟩ ?_ ?_
    ·rintro m n C hm ⟨k1,I,N⟩ Qe hQ;refine{_,rfl,_,rfl,Af,λP hP=>?_};have s6:A6 C (upd C P (.tup [.int (1+(m:Int))])):=A6.upd hP;refine{p,P,_,_,rfl,rfl,Ax.of (s6 _ _ (I _ _ VR)),A2,by simp,l7 (Go (by simp;omega)),λp' H6 s7 e7=>?_};generalize upd C P (.tup [.int (1+(m:Int))])=H5' at s6 s7;have VS:=s6.trans s7;have zW:=VS _ _ k1;have kl:n.length=m:=by rw[N.1];simp
     refine hQ _ _ zW (Go ()) ⟨A2,(I.trans VS).new hB,?_⟩;have tu:Az C (upd H6 B (.lst (n++[.ref p']))):=(Az.of VS).trans (Az.lst zW);rw[List.range_succ,List.map_append];refine(N.imp λr v z=>Fk.up tu z).append (Ap.one ⟨p',rfl,?_⟩);refine Az.lst zW _ _ ?_;rw[e7,List.map_append];rfl
    ·rintro n C ⟨k1,I,N⟩
     have eB:((List.range (w+1-1).toNat).map λt=>r++[1+((t:Nat):Int)])=Rt r w:=by
      rw[show w+1-1=w by omega];rfl
     rw[eB]at N;have uK:=I _ _ Z;have kl:n.length=w.toNat:=by rw[N.1,Tv]
     refine{D,B,_,_,rfl,rfl,uK,k1,l7 (Go ()),?_};have tu:Az C (upd C D (.lst (o++n))):=Az.lst uK;refine{o++n,_,rfl,A2,by rw[A9 VQ];exact I _ _ h2,(s4.trans I).new hD,?_};have e:Bz (f.take (j+1)) w=Bz (f.take j) w++Rt r w:=Qc _ _ jS;rw[e];exact(S.imp λr v z=>Fk.up ((Az.of I).trans tu) z).append (N.imp λr v z=>Fk.up tu z)
   ·rintro u H4 ⟨o,v4',rfl,Z,h2,s4,S⟩;rw[G.1,List.take_length]at S;refine{_,rfl,D,o,_,_,_,rfl,Z,s2.trans s4,?_,s2.free hD};rw[CF];exact S
  ·rintro u x ⟨L,J,v2,v3,O,rfl,Y,s2,G,hL⟩;rw[List.length_map,List.take_length]at G;exact{_,rfl,q L J x hL s2 Y G}
theorem xm(rV:{24})(rX:{25})(jY:{23}):{26}:=by
 refine T.JV.ok λF=>F.jH Wf #[0] #[2]
 ·rcases h with⟨a,b,f,rfl,⟨t,x,C⟩,G,bO,U,X,I,hp,q⟩|⟨a,b,f,rfl,_,_,_,_,_,_⟩<;>rfl
 ·obtain h:=h;refine{_,(A3 (Av (pD K4 (cN rV hr #[4]) (C9 (v:=.int 3000) (by rfl) T.gJ.choose_spec {_,rfl})) (A7 (Eh Ij rfl (by rfl) T.jQ T.pK (A0 Ad A4))) Ac) (A3 (pS 1 Wf.nd (B1 A4)) (A3 (Bt fk rfl (Cl (cN rX hr (A0 #[9] A4))) (pN 2 Wf.nd) (A7 (Bp (D9 PySem.F.plainAttrs_list PySem.F.slot_list_extend PySem.F.type_list_extend Ql (pv 1) (A0 (C8 (D4 (by rfl) T.cA (A0 (cN jY hr #[4]) A4)) _ rfl Np rfl rfl (λ_ _ _ _=>(pN 0 Oo)) #[17] (λ_ _ _ _=>(Ah (A0 (pv 1) #[4])))) A4))))) (A7 (Aa (pv 1)))))),?_};rcases h with⟨a,b,f,rfl,⟨t,x,C⟩,G,bO,U,X,I,hp,q⟩|⟨a,b,f,rfl,⟨t,x,C⟩,U,X,I,hp,he⟩
  ·have vP:Ao 1 b<=3000:=by
    have e:=Ld (qv f) b 1;rw[Int.mul_one]at e;have J:1<=Ao 1 b:=Iv b 1 #[] G;have S:=Int.mul_le_mul_of_nonneg_right bO (show 0<=Ao 1 b by omega);rw[Int.one_mul]at S;omega
   have dM:qv f<=3000:=mv (Iv b _ () G) hp;refine{_,rfl,a,b,f,rfl,{t,x,C},U,X,I,_,_,rfl,rfl,_,rfl,As (jJ ()) ?_};refine{Af,λD hD=>?_};exists H,D,hD,Z,e1,H1,(.lst []);refine{_,rfl,a,_,_,_,rfl,rfl,.inr (Ax.of (Z _ _ x)),rfl,t,b,rfl,Z _ _ C,G,vP,I,λL us H2 hL s2 f1 f2=>{L,rfl,.inl {{_,Ar.of f1},?_}}};have QB:=Z.trans s2;have e2:=s2 _ _ e1;have VQ:L≠D:=(Ag e1 hL).symm
   refine D7 (K:=K) (a:=L) (xs:=us) (λj σ g=>Pt λ(u:List V) (v2:Option V)=>Hs (σ=[some (.ref a),some (.ref D),v2]) (g D=some (.lst u)) (g L=some (.lst us)) (A6 H g) (Az H2 g) (Ap (Lq g) (((Cd b).take j).flatMap λr=>Gp r (qv f)) u))
    ⟨[],none,rfl,e2,f1,QB,Az.of (A6.refl _),Ap.nil⟩ (by rintro j σ g _ ⟨_,_,_,_,e,_⟩;exact Ar.of e) ?_ ?_
   ·rintro j y σ H4 hy ⟨u,v2,rfl,J,S,N,t4,M⟩;have g4:=f2.imp λr v z=>Fk.up t4 z;obtain⟨r,jS,p,rfl,VR⟩:=g4.get hy;have hj:=(b0.mp jS).1
    have EJ:u.length<=3000:=by
     have e:=Qw (ws:=b) (q:=qv f) G ();rw[M.1]
     have e2:Ba b (qv f)=(((Cd b).take j).flatMap λr=>Gp r (qv f))++(((Cd b).drop j).flatMap λr=>Gp r (qv f)):=by
      rw[<- List.flatMap_append,List.take_append_drop];rfl
     rw[e2,List.length_append]at e;omega
    refine{_,rfl,.inl {rfl,_,Ar.of J},_,rfl,a,b,f,rfl,{t,N _ _ x,N _ _ C},qv f,rfl,(),(),λB hB=>?_};refine Gr (λm i g=>g B=some (.lst i)/\A6 H4 g/\Ap (Lq g) ((List.range m).map λk=>(r,0+((k:Nat):Int))) i) ⟨A2,A6.upd hB,Ap.nil⟩ ?_ ?_
    ·rintro m i n hm ⟨k1,o,Y⟩ Qe hQ;refine{_,rfl,_,rfl,Af,λP hP=>?_};have O:A6 n (upd n P (.tup [.ref p,.int (0+(m:Int))])):=A6.upd hP;have e6:(upd n P (.tup [.ref p,.int (0+(m:Int))])) P=some (.tup [.ref p,.int (0+(m:Int))]):=A2;generalize upd n P (.tup [.ref p,.int (0+(m:Int))])=H6 at O e6;have zW:=O _ _ k1;have kl:i.length=m:=by rw[Y.1];simp
     refine hQ _ _ zW (Go ()) ⟨A2,(o.trans O).new hB,?_⟩;have R:Az n (upd H6 B (.lst (i++[.ref P]))):=(Az.of O).trans (Az.lst zW);rw[List.range_succ,List.map_append];refine(Y.imp λr v z=>Lq.up R z).append (Ap.one ⟨P,p,rfl,?_,?_⟩)
     ·exact Az.lst zW _ _ e6
     ·exact Az.lst zW _ _ (O _ _ (o _ _ VR))
    ·rintro i n ⟨k1,o,Y⟩;have uK:=o _ _ J;have k3:Ap (Lq n) (Gp r (qv f)) i:=Y;have kl:i.length=(qv f).toNat:=by rw[k3.1,Qy]
     refine{D,B,_,_,rfl,rfl,uK,k1,l7 (Go ()),?_};have R:Az n (upd n D (.lst (u++i))):=Az.lst uK;refine{u++i,_,rfl,A2,by rw[A9 VQ];exact o _ _ S,(N.trans o).new hD,(t4.trans (Az.of o)).trans R,?_};have e:(((Cd b).take (j+1)).flatMap λr=>Gp r (qv f))=(((Cd b).take j).flatMap λr=>Gp r (qv f))++Gp r (qv f):=Qc _ _ jS;rw[e];exact(M.imp λr v z=>Lq.up ((Az.of o).trans R) z).append (k3.imp λr v z=>Lq.up R z)
   ·rintro σ H4 ⟨u,v2,rfl,J,S,N,t4,M⟩;rw[f2.1,List.take_length]at M;exact{_,rfl,q D u H4 hD N J M}
  ·refine{_,rfl,a,b,f,rfl,{t,x,C},U,X,I,_,_,rfl,rfl,_,rfl,Cz (decide_eq_true ()) {Fo,he}}
theorem A3g(rY:{26})(jZ:{21}):{27}:=by
 refine T.UR.ok λF=>F.jH Qv #[0] #[2]
 ·rcases h with⟨a,m,g,rfl,Z,dA,bO,dX,cO,gM,hp,q⟩|⟨a,m,g,rfl,_,_,_,_,_,_⟩<;>rfl
 ·obtain h:=h;refine{_,(A3 (pS 1 Qv.nd Ot) (A3 (Bt fk rfl (Cl (cE rY hr D8 #[4])) (pN 2 Qv.nd) (A3 (pS 3 Qv.nd fu) (A3 (Bt fk rfl (D4 (by rfl) T.cA (A0 (pL K T.bM #[9]) A4)) (pN 4 Qv.nd) (A3 (pS 5 Qv.nd (cN jZ hr (A0 (pv 0) (A0 (pv 2) #[34])))) (A7 (Cc (Gy (Zx K hr) B9 (pv 5) rfl) (A7 (Sa (Gv hr) (pv 3) (pv 4) (pv 5) rfl)) Ac)))) (A7 (Sa (Gv hr) (pv 1) (pv 2) (pv 3) rfl))))) (A7 (Aa (pv 1))))),?_};rcases h with⟨a,m,g,rfl,Z,dA,bO,dX,cO,gM,hp,q⟩|⟨a,m,g,rfl,Z,J,iY,eC,hp,he⟩
  ·refine λD hD=>?_;exists H,D,hD,O,G,H1,(.dT []);refine{_,rfl,E,λ_ _ _ z=>z,.inl {a,m,g,rfl,Z.same O,dA,bO,dX,cO,gM,hp,λl us H2 hl s2 el VT=>{l,rfl,.inl {{_,Ar.of el},?_}}}}
   have hlen:us.length<=3000:=by
    have h1:=VT.1;have h2:=Qw dA (show 0<=qv g by omega);omega
   have bI:=O.trans s2;have eD2:=s2 _ _ G
   refine D7 (K:=K) (a:=l) (xs:=us) (λi I x=>LV λ(b:mF) (v2 v3 R S:Option V)=>R6 (I=[some (.ref a),some (.ref D),v2,v3,R,S]) (A6 H x) (LT H2 x) (x D=some (.dT b)) (Cy m g x b) ((∀C∈b,∀c,C.2=.ref c->H c=none)) (b.length<=i) (b.map (·.1)=(Ba m (qv g)).take i) (N8 m g x b))
    ⟨[],_,_,_,_,rfl,bI,⟨λ_ _ z=>z,λ_ _ z=>z⟩,eD2,⟨(λC z=>by cases z),List.Pairwise.nil,List.Pairwise.nil⟩,(λC z=>by cases z),de _,rfl,(λC z=>by cases z)⟩ (by rintro i I x _ ⟨_,_,_,_,_,_,_,t,_⟩;exact Ar.of (t.1 _ _ el)) ?_ ?_
   ·rintro i u I x hu ⟨b,v2,v3,R,S,rfl,s',t',iH,mK,lC,kP,Y,rZ⟩;have hi:=(b0.mp hu).1;obtain⟨z,hz,p,w,rfl,hz1,hz2⟩:=VT.get hu;obtain⟨m1,m2,m3,m4⟩:=Du (cI hz);have sE:Cb x p z.1 z.2:={w,t'.2 _ _ hz1,t'.2 _ _ hz2};refine λc hc=>?_;exists x,c,hc,s3,e3,H3,(.dK []);have vQ:=s'.trans s3;obtain⟨wt,bP,bR⟩:=id (Z.same vQ);refine{_,rfl,a,_,_,_,rfl,rfl,.inr (Ax.of bP),rfl,wt,_,rfl,.inr (Ax.of bR),_,rfl,(),by rw[List.length_map];omega,?_}
    refine Ge (n:=(m.map V.int).length) (λj I n=>Je λ(o:List (Ex×V)) (R S:Option V)=>Hs (I=[some (.ref a),some (.ref D),some (.ref p),some (.ref c),R,S]) (A6 x n) (n c=some (.dK o)) (Hx m g z n o) (o.length<=j) (∀f:Nat,f<j->none∉Bh m z.1 g z.2 f->(Am o (.inl (f:Int))).isSome=true))
     ⟨[],_,_,rfl,s3,e3,(λe z=>by cases z),de _,(λf z=>absurd z (l0 _))⟩ ?_ ?_
    ·rintro j I n hj ⟨o,R,S,rfl,B,QC,qY,lD,QD⟩;rw[List.length_map]at hj;have VU:=s'.trans B;refine{_,rfl,_,rfl,_,rfl,a,p,m,z.1,g,z.2,_,j,rfl,(),Z.same VU,sE.same B,hj,m1,gM,λL lF H5 hL s5 eL oS=>?_};refine{_,rfl,L,lF,.none,(Bh m z.1 g z.2 j).map ul,rfl,Ar.of eL,gn,Qt oS,#[],_,rfl,_,λJ=>?_,λJ=>?_,λ_ _ z=>z}
     ·rw[if_pos rfl,Rb]at J;have iL:none∉Bh m z.1 g z.2 j:=by simpa using J
      have N:=s5 _ _ QC;refine{_,rfl,_,rfl,_,rfl,c,_,rfl,.inl {o,.inl (j:Int),N,congrArg V.int (Int.zero_add _),Aj (),rfl},?_};have t6:LT H5 (upd H5 c (.dK (Cq o (.inl (j:Int)) (.ref L)))):=LT.dK N;refine{Cq o (.inl (j:Int)) (.ref L),_,_,rfl,(B.trans s5).new hc,A2,?_,ea (Eg _ _ _) (),λf eE M=>Vg ?_}
      ·have hold:Hx m g z (upd H5 c (.dK (Cq o (.inl (j:Int)) (.ref L)))) o:=qY.up ((LT.of s5).trans t6);intro e he;rcases gf he with y|y
       ·exact hold e y
       ·subst y;exact{j,L,lF,rfl,hj,iL,rfl,t6.1 _ _ eL,oS.imp λ_ _ y=>Jd.up t6.2 y}
      ·rcases iE f j with y|y
       ·exact .inl (QD f y M)
       ·have e:f=j:=()
        rw[e];exact .inr rfl
     ·rw[if_pos rfl,Rb]at J;have VV:none∈Bh m z.1 g z.2 j:=by simpa using J
      refine{o,_,_,rfl,B.trans s5,s5 _ _ QC,qY.up (LT.of s5),(),λf eE M=>?_};rcases iE f j with y|y
      ·exact QD f y M
      ·have e:f=j:=()
       rw[e]at M;exact absurd VV M
    rintro I n ⟨o,R,S,rfl,B,QC,qY,lD,QD⟩;rw[List.length_map]at lD;have VW:=B _ _ iH;refine{_,rfl,_,rfl,_,rfl,D,_,rfl,Yc.t VW (show Im n p z from sE.same B) (E9 ()),?_};have t5:LT n #[20]:=LT.dT VW
    have k5:∀U kY,n U=some (.dK kY)->#[20] U=some (.dK kY):=λU kY e=>by
     rw[A9 (Bj e VW (by intro z;cases z))];exact e
    have s05:=s'.trans B
    have hnz:Am b z=none:=by
     cases hv:Am b z with
     |none=>rfl
     |some v=>
      have:=List.mem_map_of_mem (f:=(·.1)) (Be hv);rw[Y]at this;exact absurd this (Qn (Ma _ _) hz)
    have ep:Cq b z (.ref c)=b++[(z,.ref c)]:=K9 _ hnz;have nH:Cy m g #[20] b:=(mK.keep (LT.of B) (λc o e=>B _ _ e)).keep t5 k5;have CG:N8 m g #[20] b:=(rZ.keep mK (λc o e=>B _ _ e)).keep (mK.keep (LT.of B) (λc o e=>B _ _ e)) k5;have N:=k5 _ _ QC;have CH:=qY.up t5;have sN:A6 H #[20]:=s05.new hD;have tN:LT H2 #[20]:=(t'.trans (LT.of B)).trans t5;have eN:#[20] D=some (.dT (Cq b z (.ref c))):=A2;rw[ep]at nH CG N CH sN tN eN⊢;generalize upd n D (.dT (b++[(z,.ref c)]))=H6 at nH CG N CH sN tN eN⊢
    have VX:∀C∈b,C.2≠ .ref c:=λC bU e=>by
     obtain⟨d,ds,G,X,_⟩:=mK.1 C bU;rw[e]at G;cases G;rw[hc]at X;cases X
    refine{b++[(z,.ref c)],_,_,_,_,rfl,sN,tN,eN,{Of nH.1 {c,o,rfl,N,(),CH},?_,?_},Of lC (λU e=>by cases e;exact s'.free hc),by rw[List.length_append,List.length_singleton];omega,?_,?_}
    ·rw[List.map_append];refine Fn nH.2.1 (λy=>?_);rw[Y]at y;exact Qn (Ma _ _) hz y
    ·rw[List.map_append];refine Fn nH.2.2 (λy=>?_);obtain⟨C,bU,e⟩:=ft.mp y;exact VX C bU e
    ·rw[List.map_append,Y,List.take_add_one,hz];rfl
    ·intro C bU U kY G X;rcases fC.mp bU with y|y
     ·exact CG C y U kY G X
     ·cases iT.mp y;cases G;rw[N]at X;cases X;exact λf hw M=>QD f (by rw[List.length_map];exact hw) M
   rintro I x ⟨b,v2,v3,R,S,rfl,s',t',iH,mK,lC,kP,Y,rZ⟩;rw[VT.1,List.take_length]at Y;exact{_,rfl,q D b x hD s' iH mK Y rZ lC ()}
  ·refine λD hD=>?_;have O:A6 H (upd H D (.dT [])):=A6.upd hD;generalize upd H D (.dT [])=H1 at O⊢;exact{_,rfl,E,λ_ _ _ z=>z,.inr {a,m,g,rfl,Z.same O,J,iY,eC,hp,λH2 s2=>he H2 (O.trans s2)}}
theorem ym:{28}:=by
 refine T.JW.ok λF=>F.okN Jp #[0] #[2]
 ·rcases h with⟨D,p,U,S,rfl,hD,lW,kP,q⟩<;>rfl
 ·obtain⟨D,p,U,S,rfl,hD,lW,kP,q⟩:=h;refine{_,(A3 (pS 1 Jp.nd Ot) (A3 (Sb (Bt jG rfl (Ov (pv 0)) (Cm K (n:=2) rfl (Ai (pN 2 Jp.nd) (Ai (pN 3 Jp.nd) Bm))) (A7 (Sb (Bt jG rfl (Ov (pv 3)) (Cm K (n:=2) rfl (Ai (pN 4 Jp.nd) (Ai (pN 5 Jp.nd) Bm))) (A7 (Bt jG rfl (Cl (pv 5)) (pN 6 Jp.nd) (A7 (Bp (D9 PySem.F.plainAttrs_list PySem.F.slot_list_append PySem.F.type_list_append Br (W1 (lw (Gv hr) (pv 1) (pv 6) (B1 A4) {rfl,rfl,rfl,rfl})) (A0 (Ah (A0 (pv 2) #[34])) A4))))))))))) (A7 (Aa (pv 1))))),?_};have mK:=lW.ok;refine λW hW=>?_;exists H,W,hW,s1,e1,H1,(.dT []);have fF:=s1 _ _ hD;have VY:W≠D:=(Ag hD hW).symm;refine{D,.dT p,trivial,fF,_,rfl,D,.dT p,rfl,trivial,fF,λo=>?_}
  refine Qd (d:=D) (o:=o) (u:=.dT p) (λi σ Y=>jy λ(I:mF) (v2 v3 v4 v5 v6:Option V)=>Pe (σ=[some (.ref D),some (.ref W),v2,v3,v4,v5,v6]) (Y D=some (.dG o (.dT p))) ((∀b C,b≠D->H b=some C->Y b=some C)) (Y W=some (.dT I)) (G8 U S H p (16*i) Y I) (I.length<=16*i) (∀k g f,(∃v,(k,v)∈p.take i)->Al H p k g->some f∈Bh U k.1 S k.2 g->Cj Y I f k g))
   ⟨[],_,_,_,_,_,rfl,A2,(λb C n e=>(A9 n).trans (s1 _ _ e)),(A9 VY).trans e1,⟨(λkv z=>by cases z),List.Pairwise.nil⟩,jN _,(λk g f z=>by obtain⟨v,z⟩:=z;rw[List.take_zero]at z;cases z)⟩ (by rintro i σ Y _ ⟨_,_,_,_,_,_,_,e,_⟩;exact e) ?_ ?_
  ·rintro i x y T σ Y hi hit ⟨I,v2,v3,v4,v5,v6,rfl,iH,k',zX,qH,mU,uI⟩ hT;have hi3:i<3000:=fy hi kP;obtain⟨L,bb,bU,rfl,VZ⟩:=hit;have fB:(L,y)∈p:=cI bU;obtain⟨kw,hkw⟩:=Mb fB;obtain⟨c,X,ey,hc,lD,qY⟩:=lW.1 _ fB;have GI:y=.ref c:=ey;subst GI;exists Y,T,hT,s2,e2,H2,(.tup [.ref bb,.ref c]);refine{T,_,rfl,Ax.of e2,rfl,_,_,rfl,_,_,rfl,rfl,?_};have FO:c≠D:=Bj hc hD (by intro z;cases z);have WA:c≠W:=Ag hc hW;have qD:=s2 _ _ (k' c _ FO hc);refine{c,.dK X,trivial,qD,_,rfl,c,.dK X,rfl,trivial,qD,λo2=>?_};have WB:LT H2 (upd H2 c (.dG o2 (.dK X))):=LT.dK qD
   refine Qd (d:=c) (o:=o2) (u:=.dK X) (λj σ O=>Ut λ(I:mF) (v4 v5 v6:Option V)=>N7 (σ=[some (.ref D),some (.ref W),some (.ref bb),some (.ref c),v4,v5,v6]) (O c=some (.dG o2 (.dK X))) (O D=some (.dG o (.dT p))) ((∀b C,b≠D->b≠c->H b=some C->O b=some C)) (Az H2 O) (O W=some (.dT I)) (G8 U S H p (16*i+2*j) O I) (I.length<=16*i+2*j) ((∀k g f,(∃v,(k,v)∈p.take i)->Al H p k g->some f∈Bh U k.1 S k.2 g->Cj O I f k g)) (∀g f,(∃e∈X.take j,e.1=.inl ((g:Nat):Int))->some f∈Bh U L.1 S L.2 g->Cj O I f L g))
    ⟨I,_,_,_,rfl,A2,(A9 FO.symm).trans (s2 _ _ iH),(λb C n1 n2 e=>(A9 n2).trans (s2 _ _ (k' b C n1 e))),WB.2,(A9 WA.symm).trans (s2 _ _ zX),qH.up ((LT.of s2).trans WB) (),(),(λk g f G B z3=>(uI k g f G B z3).up ((LT.of s2).trans WB)),(λg f z=>by obtain⟨e,z,_⟩:=z;rw[List.take_zero]at z;cases z)⟩ (by rintro j σ O _ ⟨_,_,_,_,_,e,_⟩;exact e) ?_ ?_
   ·rintro j x2 y2 T2 σ O hj WC ⟨WD,v4,v5,v6,rfl,MC,qI,k3,t3,EK,CI,MD,EC,CJ⟩ CB;have hj8:j<8:=fy hj lD;obtain⟨kk2,ME,rfl⟩:=WC;obtain⟨N,l,lF,ei,QE,WE,el,hl,CK⟩:=qY _ (cI ME)
    have uC:lF.length<=2:=by
     rw[CK.1];unfold Bh;split<;>simp
    have ei':kk2=.inl (N:Int):=ei;subst ei';have el':y2=.ref l:=el;subst el';exists O,T2,CB,s4,e4,H4,(.tup [kV (.inl (N:Int)),.ref l]);refine{T2,_,rfl,Ax.of e4,rfl,_,_,rfl,_,_,rfl,rfl,?_};have hlD:l≠D:=Bj hl hD (by intro z;cases z);have hlc:l≠c:=Bj hl hc (by intro z;cases z);refine{_,rfl,l,rfl,.inl {{_,Ar.of (s4 _ _ (k3 l _ hlD hlc hl))},?_}}
    refine D7 (K:=K) (a:=l) (xs:=lF) (λm σ J=>Pt λ(I:mF) (v6:Option V)=>Ww (σ=[some (.ref D),some (.ref W),some (.ref bb),some (.ref c),some (kV (.inl (N:Int))),some (.ref l),v6]) (J c=some (.dG o2 (.dK X))) (J D=some (.dG o (.dT p))) ((∀b C,b≠D->b≠c->H b=some C->J b=some C)) (Az H2 J) (J W=some (.dT I)) (G8 U S H p (16*i+2*j+m) J I) (I.length<=16*i+2*j+m) ((∀k g f,(∃v,(k,v)∈p.take i)->Al H p k g->some f∈Bh U k.1 S k.2 g->Cj J I f k g)) ((∀g f,(∃e∈X.take j,e.1=.inl ((g:Nat):Int))->some f∈Bh U L.1 S L.2 g->Cj J I f L g)) (∀f,some f∈(Bh U L.1 S L.2 N).take m->Cj J I f L N))
     ⟨WD,_,rfl,s4 _ _ MC,s4 _ _ qI,(λb C n1 n2 e=>s4 _ _ (k3 b C n1 n2 e)),t3.trans (Az.of s4),s4 _ _ EK,CI.up (LT.of s4) (de _),MD,(λk g f G B z3=>(EC k g f G B z3).up (LT.of s4)),(λg f G B=>(CJ g f G B).up (LT.of s4)),(λf z=>by rw[List.take_zero]at z;cases z)⟩ (by rintro m σ J _ ⟨_,_,_,_,_,k5,_⟩;exact Ar.of (k5 l _ hlD hlc hl)) ?_ ?_
    ·rintro m u σ J hu ⟨CL,v6,rfl,pO,lX,k5,t5,QF,nI,WG,ED,vR,vS⟩;have HS:m<2:=fy (b0.mp hu).1 uC;obtain⟨r0,kA,jS⟩:=CK.get hu
     obtain⟨lk,er⟩:∃lk,r0=some lk:=by
      cases r0 with
      |none=>exact absurd (cI kA) WE
      |some r=>exact{r,rfl}
     subst er;obtain⟨lb,rfl,vT⟩:=jS;have EL:Im H lb lk:=vT;have tH5:Az H J:=λb xs e=>k5 b _ (Bj e hD (by intro z;cases z)) (Bj e hc (by intro z;cases z)) e;have WH:=EL.up tH5
     have MF:∀E,J E=none->H E=none:=λE hE=>by
      cases hHE:H E with
      |none=>rfl
      |some C=>
       by_cases G:E=D
       ·rw[G,lX]at hE;cases hE
       by_cases B:E=c
       ·rw[B,pO]at hE;cases hE
       rw[k5 E C G B hHE]at hE;cases hE
     refine{(λv R=>Je λ(vU:mF) (Z:Addr) (CM:List V)=>ni (v=.ref Z) (Am vU lk=some (.ref Z)) (H Z=none) (R Z=some (.lst CM)) (CM.length<=16*i+2*j+m) ((∀u∈CM,R9 U S p R lk u)) (R c=some (.dG o2 (.dK X))) (R D=some (.dG o (.dT p))) ((∀b C,b≠D->b≠c->H b=some C->R b=some C)) (Az J R) (R W=some (.dT vU)) (G8 U S H p (16*i+2*j+m) R vU) (vU.length<=16*i+2*j+m+1) ((∀k g f,(∃v,(k,v)∈p.take i)->Al H p k g->some f∈Bh U k.1 S k.2 g->Cj R vU f k g)) ((∀g f,(∃e∈X.take j,e.1=.inl ((g:Nat):Int))->some f∈Bh U L.1 S L.2 g->Cj R vU f L g)) ((∀f,some f∈(Bh U L.1 S L.2 N).take m->Cj R vU f L N))),{_,rfl,W,rfl,.inr {CL,.inl QF},_,rfl,Af,λE hE=>?_},?_}
     ·exists J,E,hE,M,e6,H6,(.lst []);have WI:=M _ _ QF;refine{CL,lk,lb,rfl,WH.up (Az.of M),WI,E9 (),λv hv=>?_,λhv=>?_}
      ·obtain⟨Z,CM,e7,h0,h1,h2,h3⟩:=nI.1 _ (Be hv);have e7':v=.ref Z:=e7;exact{CL,Z,CM,e7,by rw[hv,e7'],h0,M _ _ h1,h2,(λu hu=>(h3 u hu).up (Az.of M)),M _ _ pO,M _ _ lX,(λb C n1 n2 e=>M _ _ (k5 b C n1 n2 e)),Az.of M,WI,nI.up (LT.of M) (de _),(),(λk g f G B z3=>(ED k g f G B z3).up (LT.of M)),(λg f G B=>(vR g f G B).up (LT.of M)),(λf z=>(vS f z).up (LT.of M))}
      ·have t7:LT H6 (upd H6 W (.dT (Cq CL lk (.ref E)))):=LT.dT WI;have nE:=MF E hE;have QG:=(LT.of M).trans t7;refine{Cq CL lk (.ref E),E,[],rfl,by rw[Kh,if_pos rfl],nE,t7.1 _ _ e6,jN _,(λu hu=>by cases hu),(A9 WA).trans (M _ _ pO),(A9 VY.symm).trans (M _ _ lX),(λb C n1 n2 e=>(A9 (Ag e hW)).trans (M _ _ (k5 b C n1 n2 e))),(Az.of M).trans t7.2,A2,?_,ea (Eg _ _ _) (),(λk g f G B z3=>((ED k g f G B z3).up QG).put hv),(λg f G B=>((vR g f G B).up QG).put hv),(λf z=>((vS f z).up QG).put hv)};refine{λkv bU=>?_,?_}
       ·rcases gf bU with y|y
        ·exact(nI.up QG (de _)).1 kv y
        ·subst y;exact{E,[],rfl,nE,t7.1 _ _ e6,jN _,λu hu=>by cases hu}
       ·rw[K9 _ hv,List.map_append];refine Fn nI.2 (λy=>?_);obtain⟨kv,bU,e⟩:=ft.mp y;obtain⟨l9,us9,e9,_,h9,_⟩:=nI.1 kv bU;have e':kv.2=.ref E:=e;rw[e']at e9;cases e9;rw[hE]at h9;cases h9
     rintro v R ⟨vU,Z,CM,rfl,hv7,n7,mL,WJ,MG,hc7,hD7,k7,t7,QH,WK,hwl7,hs7,WL,WM⟩;refine{.inl {rfl,_,Ar.of mL},_,rfl,_,rfl,Af,λT3 EG=>?_};exists R,T3,EG,s8,e8,H8,(.tup [.ref bb,kV (.inl (N:Int))]);have eC:=s8 _ _ mL;refine{Z,_,_,rfl,rfl,eC,E9 (),?_};have WN:Z≠D:=(Ag hD n7).symm;have WO:Z≠c:=(Ag hc n7).symm;have WQ:Z≠W:=Bj mL QH (by intro z;cases z);have MH:Im H8 bb L:=(((VZ.up (Az.of s2)).up t5).up t7).up (Az.of s8);have WR:R9 U S p H8 lk (.ref T3):={T3,bb,N,L,rfl,e8,MH,{kw,hkw},cI kA};refine{vU,_,rfl,(A9 WO.symm).trans (s8 _ _ hc7),(A9 WN.symm).trans (s8 _ _ hD7),(λb C n1 n2 e=>(A9 (Ag e n7)).trans (s8 _ _ (k7 b C n1 n2 e))),((t5.trans t7).trans (Az.of s8)).trans (Az.lst eC),(A9 WQ.symm).trans (s8 _ _ QH),?_,(),(λk g f G B z3=>((hs7 k g f G B z3).up (LT.of s8)).app eC),(λg f G B=>((WL g f G B).up (LT.of s8)).app eC),(λf z=>?_)}
     ·exact G8.app (WK.up (LT.of s8) (de _)) (Be hv7) eC WJ (λu hu=>(MG u hu).up (Az.of s8)) WR
     ·rw[List.take_add_one,kA]at z;rcases fC.mp z with y|y
      ·exact((WM f y).up (LT.of s8)).app eC
      ·have ey:f=lk:=by simpa using y
       subst ey;have tt:Az H8 (upd H8 Z (.lst (CM++[.ref T3]))):=Az.lst eC;exact{Z,_,T3,bb,hv7,A2,by simp,tt _ _ e8,MH.up tt}
    rintro σ J ⟨CL,v6,rfl,pO,lX,k5,t5,QF,nI,WG,ED,vR,vS⟩;refine{CL,_,_,_,rfl,pO,lX,k5,t5,QF,nI.up {λ_ _ z=>z,λ_ _ z=>z} (),(),ED,λg f G B=>?_};obtain⟨e,he,ew⟩:=G;rw[List.take_add_one,ME]at he;rcases fC.mp he with y|y
    ·exact vR g f ⟨e,y,ew⟩ B
    ·have ey:e=(.inl (N:Int),.ref l):=by simpa using y
     subst ey;have ew2:(N:Int)=(g:Int):=Sum.inl.inj ew;have ew3:N=g:=()
     subst ew3;refine vS f ?_;rw[CK.1,List.take_length];exact B
   rintro σ O ⟨WD,v4,v5,v6,rfl,MC,qI,k3,t3,EK,CI,MD,EC,CJ⟩;have hU:Dz (.dK X)<=8:=lD;have tz:LT O (upd O c (.dK X)):={λb xs e=>by rw[A9 (Bj e MC (by intro z;cases z))];exact e,λb xs e=>by rw[A9 (Bj e MC (by intro z;cases z))];exact e};refine{o2,MC,WD,_,_,_,_,_,rfl,(A9 FO.symm).trans qI,(λb C n1 e=>?_),(A9 WA.symm).trans EK,CI.up tz (show 16*i+2*Dz (.dK X)<=16*(i+1)by omega),(),λk g f G B z3=>?_}
   ·by_cases z:b=c
    ·subst z;rw[hc]at e;cases e;exact A2
    ·exact(A9 z).trans (k3 b C n1 z e)
   ·obtain⟨v,hv⟩:=G;rw[List.take_add_one,bU]at hv;rcases fC.mp hv with y|y
    ·exact(EC k g f ⟨v,y⟩ B z3).up tz
    ·have ey:(k,v)=(L,.ref c):=by simpa using y
     cases ey;obtain⟨c',kY,g1,g2,g3⟩:=B;rw[Ds lW.2.1 fB]at g1;cases g1;rw[hc]at g2;cases g2;obtain⟨w',BW⟩:=Option.isSome_iff_exists.mp g3;refine(CJ g f ⟨(.inl (g:Int),w'),?_,rfl⟩ z3).up tz;show _∈X.take X.length;rw[List.take_length];exact Be BW
  rintro σ Y ⟨I,v2,v3,v4,v5,v6,rfl,iH,k',zX,qH,mU,uI⟩;have WS:Dz (.dT p)<=3000:=kP;have tD:LT Y (upd Y D (.dT p)):={λb xs e=>by rw[A9 (Bj e iH (by intro z;cases z))];exact e,λb xs e=>by rw[A9 (Bj e iH (by intro z;cases z))];exact e};refine{o,iH,_,rfl,q W I _ hW (λb C e=>?_) ((A9 VY).trans zX) (qH.up tD (show 16*Dz (.dT p)<=48000 by omega)) (λk g f B z3=>?_) ()}
  ·by_cases z:b=D
   ·subst z;rw[hD]at e;cases e;exact A2
   ·exact(A9 z).trans (k' b C z e)
  ·obtain⟨c',kY,g1,g2,g3⟩:=id B;refine(uI k g f ⟨.ref c',?_⟩ B z3).up tD;show _∈p.take p.length;rw[List.take_length];exact Be g1
theorem A3e:{29}:=by
 refine T.US.ok λF=>F.okN Qu #[0] #[2]
 ·rcases h with⟨D,W,R,g,wv,rs,dD,H0,ws,Y,rfl,hD,lW,hW,qH,gZ,hR,jD,hle,q⟩<;>rfl
 ·obtain⟨D,W,R,g,wv,rs,dD,H0,ws,Y,rfl,hD,lW,hW,qH,gZ,hR,jD,hle,q⟩:=h;refine{_,(A3 (pS 3 Qu.nd (B1 A4)) (A3 (Bt jG rfl (Cl (pv 2)) (pN 4 Qu.nd) (A7 (Bt jG rfl (Cl (W1 (fq (Gv hr) (pv 1) (pv 4) (B1 A4) {rfl,rfl,rfl,rfl}))) (Cm K (n:=2) rfl (Ai (pN 5 Qu.nd) (Ai (pN 6 Qu.nd) Bm))) (A3 (pS 7 Qu.nd (Iq (Gv hr) (pv 0) (pv 5) (λ_ _=>rfl))) (A7 (Cc (Ii (Ig (Gv hr) (pv 6) (pv 7)) rfl) (A3 (Bp (fw (pv 7) (pv 6) {rfl,rfl,rfl,rfl})) (A7 (Cc (Da (Xq (pv 7))) (A7 (Bp (D9 PySem.F.plainAttrs_list PySem.F.slot_list_append PySem.F.type_list_append Br (pv 3) (A0 (pv 5) A4)))) Ac))) Ac)))))) (A7 (Aa (pv 3))))),?_};have mK:=lW.ok;refine{Af,λB hB=>?_};exists H,B,hB,s1,e1,H1,(.lst []);have c1:∀c I,H c=some (.dK I)->H1 c=some (.dK I):=λc I e=>s1 _ _ e;refine{_,rfl,R,rfl,.inl {{_,Ar.of (s1 _ _ hR)},?_}}
  refine D7 (K:=K) (a:=R) (xs:=rs) (λi σ M=>jy λ(bs:List V) (G:List (mY×Int)) (v4 v5 v6 v7:Option V)=>Ww (σ=[some (.ref D),some (.ref W),some (.ref R),some (.ref B),v4,v5,v6,v7]) (Fi g H M) (Cy ws Y M g) (M B=some (.lst bs)) (Ap (Lq M) G bs) (Cs M g+bs.length<=Cs H g) (Yi B M g) ((∀k f,Al M g k f->Al H g k f)) ((∀k f,Al H g k f->(∀m∈dD.take i,some m∉Bh ws k.1 Y k.2 f)->Al M g k f)) ((∀m∈dD.take i,∀k f,some m∈Bh ws k.1 Y k.2 f->¬Al M g k f)) ((∀k,k∈G↔((∃f,Al H g k f)/\∀f,¬Al M g k f))))
   ⟨[],[],_,_,_,_,rfl,Fi.of s1,lW.keep (LT.of s1) c1,e1,Ap.nil,by rw[Fc mK c1];exact de _,(Yi.start mK hB).keep mK c1,(λk f z=>(Al.keep lW c1).mp z),(λk f z _=>(Al.keep lW c1).mpr z),(λm z=>by rw[List.take_zero]at z;cases z),λk=>⟨(λz=>by cases z),λz=>?_⟩⟩ (by rintro i σ M _ ⟨_,_,_,_,_,_,_,ch,_⟩;exact Ar.of (ch.keep mK hR (λI z=>nomatch z))) ?_ ?_
  ·obtain⟨⟨f,L⟩,J⟩:=z;exact absurd ((Al.keep lW c1).mpr L) (J f)
  ·rintro i u σ M hu ⟨bs,G,v4,v5,v6,v7,rfl,ch,gN,QI,MI,WT,nb,l1,l2,l3,l4⟩;obtain⟨lk,vT,lb,lu,rfl,WU,WV⟩:=jD.get hu;have EL:Im H lb lk:={lu,WU,WV};have vV:=gN.ok;have lt':=ch.lt mK;have zX:=ch.keep mK hW (λI z=>nomatch z);have WW:=qH.up lt' (de _);refine{(λv S=>Pt λ(X:Addr) (lF:List V)=>Hs (v=.ref X) (S X=some (.lst lF)) (X≠B) ((∀u∈lF,R9 ws Y g S lk u)) ((∀lx,Am wv lk=some (.ref lx)->lx=X)) (A6 M S)),{_,rfl,W,rfl,.inr {wv,.inl zX},_,rfl,Af,λE hE=>?_},?_}
   ·have s6:A6 M (upd M E (.lst [])):=A6.upd hE;refine{_,E6.t (s6 _ _ zX) ((EL.up lt'.2).up (Az.of s6)),?_};cases hv:Am wv lk with
    |none=>exact{E,[],rfl,A2,(Ag QI hE).symm,(λu hu=>by cases hu),(λlx z=>by cases z),s6}
    |some v=>
     obtain⟨X,lF,e2,h0,h1,h2,h3⟩:=qH.1 _ (Be hv);obtain⟨lc,us3,e3,_,O,_,g3⟩:=WW.1 _ (Be hv);have e23:V.ref X=V.ref lc:=e2.symm.trans e3;cases e23;have e3':v=.ref X:=e3;exact{X,us3,e3,s6 _ _ O,Ag h1 hB,(λu hu=>(g3 u hu).up (Az.of s6)),(λlx z=>by rw[e3']at z;cases z;rfl),s6}
   rintro v S ⟨X,lF,rfl,EF,WX,WY,hlx,s7⟩;refine{X,rfl,.inl {{_,Ar.of EF},?_}};have c7:∀c I,M c=some (.dK I)->S c=some (.dK I):=λc I e=>s7 _ _ e;have WZ:=gN.keep (LT.of s7) c7;have lt7:LT H S:=lt'.trans (LT.of s7)
   refine D7 (K:=K) (a:=X) (xs:=lF) (λj σ C=>LV λ(bs:List V) (G:List (mY×Int)) (v5 v6 v7:Option V)=>nh (σ=[some (.ref D),some (.ref W),some (.ref R),some (.ref B),some (.ref lb),v5,v6,v7]) (Fi g H C) (Cy ws Y C g) (C B=some (.lst bs)) (Ap (Lq C) G bs) (Cs C g+bs.length<=Cs H g) (Yi B C g) ((∀k f,Al C g k f->Al H g k f)) ((∀k f,Al H g k f->(∀m∈dD.take (i+1),some m∉Bh ws k.1 Y k.2 f)->Al C g k f)) ((∀m∈dD.take i,∀k f,some m∈Bh ws k.1 Y k.2 f->¬Al C g k f)) ((∀k,k∈G↔((∃f,Al H g k f)/\∀f,¬Al C g k f))) (Az S C) (C X=some (.lst lF)) ((∀k f,Al C g k f->Al S g k f)) (∀t b f k,V.ref t∈lF.take j->S t=some (.tup [.ref b,.int ((f:Nat):Int)])->Im S b k->¬Al C g k f))
    ⟨bs,G,_,_,_,rfl,ch.trans (Fi.of s7),WZ,s7 _ _ QI,MI.imp (λ_ _ z=>Lq.up (Az.of s7) z),by rw[Fc vV c7];exact WT,nb.keep vV c7,(λk f z=>l1 k f ((Al.keep gN c7).mp z)),(λk f L J=>(Al.keep gN c7).mpr (l2 k f L λm U=>J m (List.take_subset_take_left _ (Nat.le_succ i) U))),(λm U k f L J=>l3 m U k f L ((Al.keep gN c7).mp J)),(λk=>(l4 k).trans ⟨λz=>⟨z.1,λf y=>z.2 f ((Al.keep gN c7).mp y)⟩,λz=>⟨z.1,λf y=>z.2 f ((Al.keep gN c7).mpr y)⟩⟩),(λ_ _ z=>z),EF,(λk f z=>z),(λt b f k z=>by rw[List.take_zero]at z;cases z)⟩ (by rintro j σ C _ ⟨_,_,_,_,_,_,_,_,_,_,_,_,_,_,_,_,_,e,_⟩;exact Ar.of e) ?_ ?_
   ·rintro j u σ C CN ⟨uL,kB,v5,v6,v7,rfl,EM,nJ,QJ,sH,CO,QK,m1,m2,m3,m4,EN,vW,m5,m6⟩;have hpo8:=nJ.ok;obtain⟨t,b,f,k,rfl,QL,hb7,⟨v,bU⟩,XA⟩:=WY u (cI CN);have ht:=EN _ _ QL;have hb:=hb7.up EN;refine{t,_,rfl,Ax.of ht,rfl,_,_,rfl,_,_,rfl,rfl,?_};have VH:=EM.keep mK hD (λI z=>nomatch z);have fB:=Be bU;obtain⟨c,I,ev,hc,lD,qY⟩:=nJ.1 _ fB;have ev':v=.ref c:=ev;subst ev'
    have taken:∀(HX:Hp),(∀p o,Al HX g p o->Al C g p o)->¬Al HX g k f->∀t' b' o p,V.ref t'∈lF.take (j+1)->S t'=some (.tup [.ref b',.int ((o:Nat):Int)])->Im S b' p->¬Al HX g p o:=λHX mJ bV t' b' o p L J z3 z4=>by
     rw[List.take_add_one,CN]at L;rcases fC.mp L with y|y
     ·exact m6 t' b' o p y J z3 (mJ _ _ z4)
     ·have e1:t'=t:=by simpa using y
      subst e1;rw[QL]at J;cases J;obtain⟨u1,f1,f2⟩:=hb7;obtain⟨u2,O,g2⟩:=z3;rw[f1]at O;injection O with O;injection O with O;injection O with XB MJ;injection MJ with MJ;injection XB with XB;injection MJ with MJ;subst XB;rw[f2]at g2
      have ek:k=p:=by
       have h1:k.1=p.1:=by
        have:=en g2;injection this with this;exact M3 this
       exact Prod.ext h1 MJ
      subst ek;exact bV z4
    refine{_,rfl,_,rfl,D,.ref c,rfl,(by rw[<- bU];exact E6.t VH hb),?_};refine{_,rfl,_,rfl,c,_,rfl,E6.k (k:=.inl (f:Int)) hc,_,rfl,_,λjK=>?_,λjK=>?_,λ_ _ z=>z}
    ·obtain⟨w',hw⟩:=Option.isSome_iff_exists.mp jK;have zY:Al C g k f:={c,I,bU,hc,by rw[hw];rfl};refine{_,rfl,c,rfl,.inl {I,.inl hc},_,rfl,I,.inl (f:Int),w',hc,rfl,hw,?_};have XC:Fi g C #[21]:=Fi.pop fB rfl;have sI:Cy ws Y #[21] g:=nJ.pop hc;have vX:LT C #[21]:=LT.dK hc;have QM:#[21] c=some (.dK (Bv I (.inl (f:Int)))):=A2;have QN:Yi B #[21] g:=QK.pop hc;have MK:=(Qj hc (kg hw) (kvs:=g)).2 ⟨_,fB,rfl⟩;have CP:∀p o,Al #[21] g p o↔Al C g p o/\¬(p=k/\o=f):=λp o=>Al.pop nJ bU hc;generalize upd C c (.dK (Bv I (.inl (f:Int))))=N at XC sI vX QM QN MK CP⊢;have ML:=sI.ok;have MM:=vX.1 _ _ QJ;have EO:=hb.up vX.2;have n1:∀p o,Al N g p o->Al H g p o:=λp o z=>m1 _ _ ((CP p o).mp z).1
     have n2:∀p o,Al H g p o->(∀m∈dD.take (i+1),some m∉Bh ws p.1 Y p.2 o)->Al N g p o:=λp o L J=>(CP p o).mpr ⟨m2 _ _ L J,λe=>by
      refine J lk ?_ (by rw[e.1,e.2];exact XA);rw[List.take_add_one,vT];simp⟩
     have n3:∀m∈dD.take i,∀p o,some m∈Bh ws p.1 Y p.2 o->¬Al N g p o:=λm U p o L J=>m3 m U p o L ((CP p o).mp J).1;have n5:∀p o,Al N g p o->Al C g p o:=λp o z=>((CP p o).mp z).1;have n6:=taken N n5 (λz=>((CP k f).mp z).2 ⟨rfl,rfl⟩);have Z:∀p,p≠k->((∀o,¬Al N g p o)↔∀o,¬Al C g p o):=λp lB=>⟨λz o y=>z o ((CP p o).mpr ⟨y,λe=>lB e.1⟩),λz o y=>z o (n5 _ _ y)⟩;have hkb:k∉kB:=λz=>((m4 k).mp z).2 f zY;refine{_,rfl,c,_,rfl,.inl QM,_,λhe=>?_,λhe=>?_,λ_ _ z=>z}
     ·have sJ:Bv I (.inl (f:Int))=[]:=by
       have:(Bv I (.inl (f:Int))).isEmpty=true:=by simpa using he
       exact List.isEmpty_iff.mp this
      have MN:∀o,¬Al N g k o:=λo z=>by
       obtain⟨c',kY,O,g2,g3⟩:=z;rw[bU]at O;cases O;rw[QM]at g2;cases g2;rw[sJ]at g3;cases g3
      refine{_,rfl,.inl {rfl,_,Ar.of MM},_,rfl,B,_,_,rfl,rfl,MM,E9 (),?_};have MO:Az N (upd N B (.lst (uL++[.ref b]))):=Az.lst MM
      have QO:∀c' kY,N c'=some (.dK kY)->(upd N B (.lst (uL++[.ref b]))) c'=some (.dK kY):=λc' kY e=>by
       rw[A9 (Bj e MM (by intro z;cases z))];exact e
      have kl:∀x xs,x≠B->N x=some (.lst xs)->(upd N B (.lst (uL++[.ref b]))) x=some (.lst xs):=λx xs n e=>(A9 n).trans e;have nK:∀p o,Al (upd N B (.lst (uL++[.ref b]))) g p o↔Al N g p o:=λp o=>Al.keep sI QO;obtain⟨ub,XD,XE⟩:=EO;refine{uL++[.ref b],kB++[k],_,_,_,rfl,(EM.trans XC).new hB,sI.LX QN MO kl QO,A2,(sH.imp λ_ _ z=>Lq.up MO (Lq.up vX.2 z)).append (Ap.one {b,ub,rfl,MO _ _ XD,MO _ _ XE}),?_,QN.keep ML QO,(λp o z=>n1 _ _ ((nK p o).mp z)),(λp o L J=>(nK p o).mpr (n2 _ _ L J)),(λm U p o L J=>n3 m U p o L ((nK p o).mp J)),(λp=>?_),(EN.trans vX.2).trans MO,kl _ _ WX (vX.1 _ _ vW),(λp o z=>m5 _ _ (n5 _ _ ((nK p o).mp z))),(λt' b' o p L J z3 z4=>n6 t' b' o p L J z3 ((nK p o).mp z4))}
      ·rw[Fc ML QO,List.length_append,List.length_singleton];omega
      ·have PZ:(∀o,¬Al (upd N B (.lst (uL++[.ref b]))) g p o)↔∀o,¬Al N g p o:={λz o y=>z o ((nK p o).mpr y),λz o y=>z o ((nK p o).mp y)};rw[PZ];by_cases lB:p=k
       ·subst lB;exact{λ_=>{{f,m1 _ _ zY},MN},λ_=>by simp}
       ·rw[Z p lB,<- m4 p];simp[lB]
     ·have bZ:Bv I (.inl (f:Int))≠[]:=λz=>by
       rw[z]at he;exact absurd he #[]
      refine{uL,kB,_,_,_,rfl,EM.trans XC,sI,MM,sH.imp (λ_ _ z=>Lq.up vX.2 z),(),QN,n1,n2,n3,(λp=>?_),EN.trans vX.2,vX.1 _ _ vW,(λp o z=>m5 _ _ (n5 _ _ z)),n6};by_cases lB:p=k
      ·subst lB;refine{λz=>absurd z hkb,λz=>?_};obtain⟨x,hx⟩:=List.exists_mem_of_ne_nil _ bZ;obtain⟨rG,l9,us9,O,_⟩:=qY x (O2 hx)
       have hs:(Am (Bv I (.inl (f:Int))) (.inl (rG:Int))).isSome=true:=by
        obtain⟨y,hy⟩:=Mb (k:=x.1) (v:=x.2) hx;rw[<- O,hy];rfl
       exact absurd ⟨c,_,bU,QM,hs⟩ (z.2 rG)
      ·rw[Z p lB];exact m4 p
    ·have iL:¬Al C g k f:=λz=>by
      obtain⟨c',kY,O,g2,g3⟩:=z;rw[bU]at O;cases O;rw[hc]at g2;cases g2;rw[jK]at g3;cases g3
     exact{uL,kB,_,_,_,rfl,EM,nJ,QJ,sH,CO,QK,m1,m2,m3,m4,EN,vW,m5,taken C (λ_ _ z=>z) iL}
   rintro σ C ⟨uL,kB,v5,v6,v7,rfl,EM,nJ,QJ,sH,CO,QK,m1,m2,m3,m4,EN,vW,m5,m6⟩;refine{uL,kB,_,_,_,_,rfl,EM,nJ,QJ,sH,CO,QK,m1,m2,(λm U k f L J=>?_),m4};rw[List.take_add_one,vT]at U;rcases fC.mp U with y|y
   ·exact m3 m y k f L J
   ·have e1:m=lk:=by simpa using y
    subst e1;obtain⟨lx,ux,tx,bx,f1,f2,f3,f4,f5⟩:=(gZ k f m (m1 _ _ J) L).up lt7;have ex:=hlx lx f1;subst ex;rw[EF]at f2;cases f2;refine m6 tx bx f k ?_ f4 f5 J;rw[List.take_length];exact f3
  rintro σ M ⟨bs,G,v4,v5,v6,v7,rfl,ch,gN,QI,MI,WT,nb,l1,l2,l3,l4⟩;rw[jD.1,List.take_length]at l2 l3;exact{_,rfl,q B bs G M hB ch gN QI MI WT (λk f=>{λz=>{l1 k f z,λm U y=>l3 m U k f y z},λz=>l2 k f z.1 z.2}) l4}
theorem yr(CQ:{27})(sM:{28})(CS:{29}):{30}:=by
 refine T.JX.ok λF=>F.jH Hj #[0] #[2]
 ·rcases h with⟨a,Y,X,rfl,ha,dA,bO,dX,cO,gM,hp,q⟩|⟨a,Y,X,rfl,_,_,_,_,_,_⟩<;>rfl
 ·obtain h:=h;refine{_,(A3 (pS 1 Hj.nd (cE CQ hr D8 #[4])) (A3 (pS 2 Hj.nd (cN sM hr #[12])) (A3 (pS 3 Hj.nd Ot) (A3 (pS 4 Hj.nd A5) (A3 (Sb (E7 (i:=5) Hj.nd rfl (Ov (pv 1)) _ rfl V6 rfl rfl (λ_ _ _ _=>(Cm K (n:=2) rfl (Ai (pN 0 On) (Ai (pN 1 On) Bm)))) (λ_ _ _ _=>(K8 (Da (Xq (pv 1))))) (λ_ _ _ _=>(pv 0)) rfl rfl)) (A3 (Ox fk (U8 (pv 5) (by intro _;rfl)) (A3 (Bt fk rfl (Cl (pv 5)) (pN 6 Hj.nd) (A7 (Sa (Gv hr) (pv 3) (pv 6) (pv 4) rfl))) (A3 (pS 5 Hj.nd (cN CS hr (A0 (pv 1) (A0 (pv 2) (A0 (pv 5) A4))))) (A7 (pS 4 Hj.nd (Ab Cw (pv 4) A5)))))) (A7 (Aa (pv 3))))))))),?_};rcases h with⟨a,Y,X,rfl,ha,dA,bO,dX,cO,gM,hp,q⟩|⟨a,Y,X,rfl,ha,hb,iY,eC,hp,he⟩
  ·refine{_,rfl,E,λ_ _ _ z=>z,.inl {a,Y,X,rfl,ha,dA,bO,dX,cO,gM,hp,λD f H1 hD s1 eD lW gX rZ lC kP=>?_}};have mK:=lW.ok;refine{_,rfl,D,f,Y,X,rfl,eD,lW,kP,λW wv H2 hW s2 eW qH GO mU=>?_};refine λT hT=>?_;exists H2,T,hT,s3,e3,H3,(.dT []);have mI:=s2.trans s3;have ER:=mI _ _ eD;have hTD:T≠D:=(Ag (s2 _ _ eD) hT).symm;refine{D,.dT f,trivial,ER,_,rfl,D,.dT f,rfl,trivial,ER,λo=>?_};have vY:=lW.keep (LT.of mI) (λc C e=>mI _ _ e);have XF:=vY.ok;have MP:=rZ.keep lW (λc C e=>mI _ _ e);have tF:LT H3 (upd H3 D (.dG o (.dT f))):=LT.dT ER
   have kF:∀c C,H3 c=some (.dK C)->(upd H3 D (.dG o (.dT f))) c=some (.dK C):=λc C e=>by
    rw[A9 (Bj e ER (by intro z;cases z))];exact e
   have bF:∀b I,b≠D->H3 b=some I->(upd H3 D (.dG o (.dT f))) b=some I:=λb I n e=>(A9 n).trans e;have dF:(upd H3 D (.dG o (.dT f))) D=some (.dG o (.dT f)):=A2;have vZ:=vY.keep tF kF;have zZ:=MP.keep vY kF;generalize upd H3 D (.dG o (.dT f))=HF at tF kF bF dF vZ zZ⊢;refine λR hR=>?_;refine V4 (K:=K) (d:=D) (o:=o) (u:=.dT f) (λi zs p=>∃(M:List (mY×Int)),Dv (p R=some (.lst zs)) (zs.length<=i) (Ap (Lq p) M zs) (A6 HF p) (∀k,k∈M↔∃v,(k,v)∈f.take i/\au HF v)) ⟨[],A2,de _,Ap.nil,A6.upd hR,λk=>⟨(λz=>by cases z),λ⟨v,z,_⟩=>by rw[List.take_zero]at z;cases z⟩⟩ (by rintro i zs p _ ⟨_,_,_,_,s,_⟩;exact s _ _ dF) ?_ ?_ ?_ ?_
   ·rintro i x y T2 zs p hi hit ⟨M,AA,EJ,uM,s',MQ⟩ CB;have hi3:i<3000:=fy hi kP;obtain⟨kk,bb,U,rfl,VZ⟩:=hit;obtain⟨c,C,ey,hc,lD,qY⟩:=vZ.1 _ (cI U);have GI:y=.ref c:=ey;subst GI;exists p,T2,CB,s4,e4,S,(.tup [.ref bb,.ref c]);have ES:=s4 _ _ AA;refine{_,rfl,c,C,rfl,.inl (s4 _ _ (s' _ _ hc)),?_};obtain⟨ku,GH,uV⟩:=VZ.up (Az.of s4);refine Di (λDW=>?_) (λDW=>?_)
    ·have sJ:C=[]:=by
      have:C.isEmpty=true:=by simpa using DW
      exact List.isEmpty_iff.mp this
     subst sJ;have tt:Az S (upd S R (.lst (zs++[.ref bb]))):=Az.lst ES;refine{_,rfl,ES,E9 (),M++[kk],A2,by rw[List.length_append,List.length_singleton];omega,(uM.imp λ_ _ z=>Lq.up tt (Lq.up (Az.of s4) z)).append (Ap.one {bb,ku,rfl,tt _ _ GH,tt _ _ uV}),(s'.trans s4).new hR,λk=>?_};rw[List.mem_append,MQ,List.mem_singleton,List.take_add_one,U];constructor
     ·rintro(⟨v,z1,Z⟩|z)
      ·exact{v,gy _ z1,Z}
      ·subst z;exact{.ref c,by simp,c,rfl,hc}
     ·rintro⟨v,z1,Z⟩;rcases fC.mp z1 with y|y
      ·exact .inl ⟨v,y,Z⟩
      ·have J:(k,v)=(kk,.ref c):=by simpa using y
       cases J;exact .inr rfl
    ·have bZ:C≠[]:=λz=>by
      rw[z]at DW;exact absurd DW #[]
     refine{M,ES,(),uM.imp λ_ _ z=>Lq.up (Az.of s4) z,s'.trans s4,λk=>?_};rw[MQ,List.take_add_one,U];constructor
     ·rintro⟨v,z1,Z⟩;exact{v,gy _ z1,Z}
     ·rintro⟨v,z1,Z⟩;rcases fC.mp z1 with y|y
      ·exact{v,y,Z}
      ·have J:(k,v)=(kk,.ref c):=by simpa using y
       cases J;obtain⟨c',O,e3⟩:=Z;cases O;rw[hc]at e3;cases e3;exact absurd rfl bZ
   ·rintro σ H1 Q1 Q2 hQ ⟨v,J,c,C,O,r,z⟩;exact{v,J,c,C,O,r,hQ _ _ z}
   ·rintro σ H1 Q1 Q2 hQ ⟨v,J,z⟩;exact{v,J,hQ _ _ z}
   rintro zs HG ⟨CT,hRG,EJ,uM,sG,AB⟩;rw[show f.take (Dz (.dT f))=f from List.take_length]at AB;have XG:=Hn.start vZ gX zZ AB;have MR:=sG _ _ dF;have WS:Dz (.dT f)<=3000:=kP;have tG:LT HG (upd HG D (.dT f)):={λb xs e=>by rw[A9 (Bj e MR (by intro z;cases z))];exact e,λb xs e=>by rw[A9 (Bj e MR (by intro z;cases z))];exact e}
   have pP:A6 H3 (upd HG D (.dT f)):=λb I e=>by
    by_cases z:b=D
    ·subst z;rw[ER]at e;cases e;exact A2
    ·exact(A9 z).trans (sG _ _ (bF b I z e))
   refine{o,MR,?_};have ES:=tG.1 _ _ hRG;have MS:Ap (Lq (upd HG D (.dT f))) CT zs:=uM.imp λ_ _ z=>Lq.up tG.2 z
   have cG:∀c C,HF c=some (.dK C)->(upd HG D (.dT f)) c=some (.dK C):=λc C e=>by
    rw[A9 (Bj (sG _ _ e) MR (by intro z;cases z))];exact sG _ _ e
   have hR3:H3 R=none:=by
    cases hx:H3 R with
    |none=>rfl
    |some I=>
     by_cases z:R=D
     ·rw[z,dF]at hR;cases hR
     ·rw[bF R I z hx]at hR;cases hR
   generalize upd HG D (.dT f)=S at tG pP ES MS cG⊢;clear tG hRG uM sG MR;have MT:=vY.keep (LT.of pP) (λc C e=>pP _ _ e);have CU:=MT.ok
   have XH:Hn Y X [] CT 1 (Al S f):=by
    have e:Al S f=Al HF f:=by
     funext k g;exact propext (Al.keep vZ cG)
    rw[e];exact XG
   have XI:∀k g G,Al S f k g->some G∈Bh Y k.1 X k.2 g->Cj S wv G k g:=λk g G z1 Z=>((GO k g G ((Al.keep lW (λc C e=>pP _ _ (mI _ _ e))).mp z1) Z).up (LT.of s3)).up (LT.of pP);have eD4:=pP _ _ ER;have eW4:=pP _ _ (s3 _ _ eW);have XJ:=pP _ _ e3;have XM:=qH.up ((LT.of s3).trans (LT.of pP)) (de _)
   have PY:Cs S f<=24000:=by
    have:=Ob CU;omega
   have hTv:∀L∈f,L.2≠ .ref T:=λL U z=>by
    obtain⟨c,C,J,O,_⟩:=XF L U;rw[z]at J;cases J;rw[e3]at O;cases O
   dsimp only
   refine Pb (λσ' p=>jy λ(R:Addr) (rs:List V) (M:List (mY×Int)) (tv:mF) (j:Int) (v6:Option V)=>N7 (σ'=[some (.ref a),some (.ref D),some (.ref W),some (.ref T),some (.int j),some (.ref R),v6]) ((∀b I,b≠T->S b=some I->(∀L∈f,L.2≠ .ref b)->p b=some I)) (Cy Y X p f) (p T=some (.dT tv)) ((tv.map (·.1)).Nodup) (p R=some (.lst rs)) (Ap (Lq p) M rs) (Hn Y X tv M j (Al p f)) ((∀k g,Al p f k g->Al S f k g)) (tv.length+rs.length+Cs p f<=27000))
    (λσ' p=>2*Cs p f+match σ' with
     |[_,_,_,_,_,some (.ref R),_]=>(match p R with
      |some (.lst [])=>0
      |_=>1)
     |_=>0) ⟨R,zs,CT,[],1,_,rfl,(λb I _ e _=>e),MT,XJ,List.Pairwise.nil,ES,MS,XH,(λ_ _ z=>z),by show 0+zs.length+_<=_;omega⟩ ?_ ?_
   ·rintro σ' p ⟨R,rs,M,tv,j,v6,rfl,kp,gN,AD,htv,AA,jD,mM,pA,hsum⟩;have vV:=gN.ok;refine{_,rfl,_,.inl {_,Ar.of AA,rfl},?_}
    have iH:=kp D _ hTD.symm eD4 (λL U z=>by
     obtain⟨c,C,J,O,_⟩:=CU L U;rw[z]at J;cases J;rw[eD4]at O;cases O)
    refine Di (λbZ=>?_) (λsJ=>?_)
    ·have XN:0<rs.length:=by
      cases rs with
      |nil=>exact absurd bZ #[]
      |cons x xs=>simp
     have hRT:R≠T:=Bj AA AD (by intro z;cases z)
     have mu0:(match p R with
      |some (.lst [])=>0
      |_=>1)=1:=by
      rw[AA];cases rs with
      |nil=>exact absurd XN #[]
      |cons x xs=>rfl
     refine{_,rfl,R,rfl,.inl {{_,Ar.of AA},?_}}
     refine D7 (K:=K) (a:=R) (xs:=rs) (λi σ N=>Pt λ(sO:mF) (v6:Option V)=>Pe (σ=[some (.ref a),some (.ref D),some (.ref W),some (.ref T),some (.int j),some (.ref R),v6]) ((∀b,b≠T->N b=p b)) (N T=some (.dT sO)) ((sO.map (·.1)).Nodup) ((∀L∈sO,∃n:Int,L.2=.int n/\1<=n/\n<j+1)) ((∀k,Am sO k=if k∈M.take i then some (.int j)else Am tv k)) (sO.length<=tv.length+i))
      ⟨tv,_,rfl,(λ_ _=>rfl),AD,htv,(λL U=>by obtain⟨n,J,O,e3⟩:=mM.2.1 L U;exact{n,J,O,()}),(λk=>by rw[List.take_zero,if_neg (by simp)]),de _⟩ (by rintro i σ N _ ⟨_,_,_,e,_⟩;exact Ar.of ((e R hRT).trans AA)) ?_ ?_
     ·rintro i u σ N hu ⟨sO,v6,rfl,k5,XO,CV,CW,wA,MU⟩;have hi:=(b0.mp hu).1;obtain⟨k,hk0,b,u1,rfl,dX,cO⟩:=jD.get hu;have hbk:Im N b k:={u1,(k5 b (Bj dX AD (by intro z;cases z))).trans dX,(k5 u1 (Bj cO AD (by intro z;cases z))).trans cO};refine{_,rfl,_,rfl,_,rfl,T,_,rfl,Yc.t XO hbk (E9 ()),?_};refine{Cq sO k (.int j),_,rfl,(λx n=>(A9 n).trans (k5 x n)),A2,vt CV,U9 (P:=λv=>∃n:Int,v=.int n/\1<=n/\n<j+1) CW {j,rfl,mM.1,()},(λk'=>?_),ea (Eg _ _ _) ()};rw[Kh,wA,List.take_add_one,hk0];by_cases z:k'=k
      ·rw[if_pos z,if_pos (by rw[z];simp)]
      ·rw[if_neg z];have e:(k'∈M.take i++(some k).toList)↔k'∈M.take i:=by simp[z]
       by_cases y:k'∈M.take i
       ·rw[if_pos y,if_pos (e.mpr y)]
       ·rw[if_neg y,if_neg (λx=>y (e.mp x))]
     rintro σ N ⟨sO,v65,rfl,k5,XO,CV,CW,wA,MU⟩;rw[jD.1,List.take_length]at wA;have c5:∀c C,p c=some (.dK C)->N c=some (.dK C):=λc C e=>(k5 c (Bj e AD (by intro z;cases z))).trans e;have t5:LT p N:={λb xs e=>(k5 b (Bj e AD (by intro z;cases z))).trans e,λb xs e=>(k5 b (Bj e AD (by intro z;cases z))).trans e};have MV:=gN.keep t5 c5;have nH:=MV.ok;have QP:∀k g,Al N f k g↔Al p f k g:=λk g=>Al.keep gN c5
     have XQ:Al N f=Al p f:=by
      funext k g;exact propext (QP k g)
     have hl5e:=Fc vV c5;have kp5:∀b I,b≠T->S b=some I->(∀L∈f,L.2≠ .ref b)->N b=some I:=λb I n e m=>(k5 b n).trans (kp b I n e m)
     have sP:∀b I,b≠T->S b=some I->(∀C,I≠ .dK C)->N b=some I:=λb I n e m=>kp5 b I n e λL U z=>by
      obtain⟨c,C,J,O,_⟩:=CU L U;rw[z]at J;cases J;rw[e]at O;exact m C (en O)
     have hWT:W≠T:=Ag eW hT;have t45:LT S N:={λb xs e=>sP b _ (Bj e XJ (by intro z;cases z)) e (λC z=>nomatch z),λb xs e=>sP b _ (Bj e XJ (by intro z;cases z)) e (λC z=>nomatch z)};refine{_,rfl,_,rfl,_,rfl,D,W,R,f,wv,rs,M,H1,Y,X,rfl,(k5 D hTD.symm).trans iH,MV,sP W _ hWT eW4 (λC z=>nomatch z),XM.up t45 (de _),(λk g G z1 Z=>(XI k g G (pA k g ((QP k g).mp z1)) Z).up t45),(k5 R hRT).trans AA,jD.imp (λ_ _ z=>Lq.up t5.2 z),ea (Ob nH) (),λB bs beta H6 hB ch6 XR hB6 XS MW MX XT=>?_};have XU:Hn Y X sO beta (j+1) (Al H6 f):=Hn.step mM wA CW (λk g=>by rw[MX,QP]) (λk=>by rw[XT,XQ]);have hT6:H6 T=some (.dT sO):=ch6 T _ XO hTv;refine{_,rfl,_,_,rfl,rfl,{B,bs,beta,sO,j+1,_,rfl,(λb I n e m=>ch6 b I (kp5 b I n e m) m),XR,hT6,CV,hB6,XS,XU,(λk g z=>pA k g ((QP k g).mp ((MX k g).mp z).1)),()},?_}
     show 2*Cs H6 f+(match H6 B with
      |some (.lst [])=>0
      |_=>1)<2*Cs p f+(match p R with
      |some (.lst [])=>0
      |_=>1)
     rw[mu0,hB6];cases bs with
     |nil=>
      show 2*Cs H6 f+0<_;have:Cs H6 f+0<=Cs N f:=MW;omega
     |cons x xs=>
      show 2*Cs H6 f+1<_;rw[List.length_cons]at MW;omega
    ·have XW:rs=[]:=by
      cases rs with
      |nil=>rfl
      |cons x xs=>exact absurd rfl sJ
     have MY:M=[]:=by
      have:=jD.1;rw[XW]at this;exact List.length_eq_zero_iff.mp this.symm
     rw[MY]at mM;refine{_,rfl,q T tv p (s1.free (s2.free hT)) (λb I e=>?_) AD mM.done htv ()};have e4:=pP _ _ (mI _ _ (s1 _ _ e));refine kp b I (λz=>?_) e4 (λL U z=>?_)
     ·have:=s1.free (s2.free hT);rw[z,this]at e;cases e
     ·rw[lC L U b z]at e;cases e
   ·intro σ H0 Q1 Q2 z h1;obtain⟨_,e,k,t,h2⟩:=h1;exact{_,e,k,t,z _ _ h2}
  ·exact{_,rfl,E,λ_ _ _ z=>z,.inr {a,Y,X,rfl,ha,hb,iY,eC,hp,he}}
theorem yt:{31}:=by
 refine T.JY.ok λF=>F.okN A0b (λI H Q E h=>?_) (λJ A x s H I Q E B h=>?_)
 ·rcases h with⟨g,v,o,f,rfl,u,b,C,q⟩<;>rfl
 ·obtain⟨g,v,o,f,rfl,u,b,C,q⟩:=h;refine{_,(A3 (Av (pD Fw (pv 1) B9) (A7 (Aa (Ah (A0 A5 #[27])))) Ac) (A3 (Av (Ii (Ig (Gv B) (pv 1) (pv 0)) rfl) (A7 (Aa (Ah (A0 A5 (A0 (Iq (Gv B) (pv 0) (pv 1) (λ_ _=>rfl)) A4))))) Ac) (A7 (Aa (Ah (A0 A5 #[27])))))),?_};cases o with
  |none=>
   have j:v=.bB:=b;subst j;exact{_,rfl,rfl,_,rfl,Cz rfl {Af,λp G=>q p _ (A6.upd G) A2}}
  |some k=>
   obtain⟨p,j,z⟩:=b;subst j;refine{_,rfl,rfl,_,rfl,As rfl ?_};refine{_,rfl,_,rfl,g,_,rfl,E6.t u (show Im H p k from z),_,rfl,Di (λi=>?_) (λi=>?_)}
   ·obtain⟨v,b⟩:=Option.isSome_iff_exists.mp i;obtain⟨m,e⟩:=C k v b;subst e
    have D:E6 H g (.ref p) (some (.int m)):=by
     rw[<- b];exact E6.t u z
    refine{_,rfl,_,rfl,g,_,rfl,D,Af,λy n=>q y _ (A6.upd n) ?_}
    have e:told f (some k)=(0,m):=by
     show Um (Am f k)=_;rw[b];rfl
    rw[e];exact A2
   ·refine{Af,λy n=>q y _ (A6.upd n) ?_}
    have e:told f (some k)=(1,0):=by
     show Um (Am f k)=_;cases b:Am f k with
     |none=>rfl
     |some v=>rw[b]at i;exact absurd rfl i
    rw[e];exact A2
theorem wx(iZ:{31})(jZ:{21}):{32}:=by
 refine T.JZ.ok λF=>F.okN A00 #[0] (λaS A S s H vs Q E N h=>?_)
 ·rcases h with⟨a,Y,b,m,g,f,n,w0,e,x,rfl,rfl,ha,hb,hT,mO,hw,hl,h8,dA,q⟩<;>rfl
 ·obtain⟨a,Y,b,m,g,f,n,w0,e,x,rfl,rfl,ha,hb,hT,mO,hw,hl,h8,dA,q⟩:=h;refine{_,(A7 (Aa (Aq (Yu K N rfl) (by rfl) T.iV boot_min (A0 (C8 (Cl (cN jZ N (A0 (pv 0) (A0 (pv 2) #[35])))) _ rfl Me rfl rfl (λ_ _ _ _=>(pN 0 Mq)) #[17] (λ_ _ _ _=>(cN iZ N (A0 (pv 1) #[4])))) A4)))),?_}
  have zV:(Bh m g f n e).length<=2:=by
   unfold Bh;split<;>simp
  refine{_,rfl,_,rfl,_,rfl,a,b,m,g,f,n,_,e,rfl,rfl,ha,hb,hw,hl,h8,λl us H1 vN s1 Z oS=>{l,rfl,.inl {{_,Ar.of Z},λW hW=>?_}}};have VJ:=oS.1;refine Cg (K:=K) (a:=l) (xs:=us) (λi z B=>z.length=i/\Uz B (λj=>told x ((Bh m g f n e).getD j none)) z/\B W=some (.lst z)/\A6 H1 B) ⟨rfl,(λj u h=>by simp at h),A2,A6.upd hW⟩ (by rintro i z B _ ⟨_,_,_,s⟩;exact Ar.of (s _ _ Z)) ?_ ?_
  ·rintro i y z B hy ⟨X,J,zX,U⟩ Qe hQ;obtain⟨o,ho,O⟩:=oS.get hy;have hi:=(b0.mp hy).1;refine{_,rfl,_,rfl,Y,y,o,x,rfl,(s1.trans U) _ _ hT,O.up (Az.of U),mO,λp C D L=>?_};have I:=D _ _ zX;have tt:Az C (upd C W (.lst (z++[.ref p]))):=Az.lst I;refine hQ _ _ I (Aj ()) ⟨by rw[List.length_append,List.length_singleton];omega,J.snoc ((Az.of D).trans tt) X (tt _ _ ?_),A2,(U.trans D).new hW⟩;have eo:(Bh m g f n e).getD i none=o:=by rw[List.getD_eq_getElem?_getD,ho];rfl
   show C p=some (.tup [.int (told x ((Bh m g f n e).getD i none)).1,.int (told x ((Bh m g f n e).getD i none)).2]);rw[eo];exact L
  rintro z C ⟨X,J,I,D⟩;have XX:z.length=(Bh m g f n e).length:=()
  have bI:=s1.trans D
  have dX:0<(Bh m g f n e).length:=by
   unfold Bh;simp
  refine{W,_,_,rfl,Ar.of I,J.rp XX,(),X3 _ _,X6 _ _,λv hv=>?_};obtain⟨p,e1,L⟩:=J _ v hv;subst e1;refine q p C bI ?_;rw[L]
  have R:told x ((Bh m g f n e).getD (Mw ((List.range (Bh m g f n e).length).map λi=>wd (told x ((Bh m g f n e).getD i none)))) none)=R4 x m g f n e:=by
   by_cases G:Jz f n=true
   ·have M:Bh m g f n e=[G9 m g f n e false,G9 m g f n e true]:=by
     unfold Bh;rw[if_pos G]
    rw[M];unfold R4 A39;rw[if_pos G]
    have MZ:Mw ((List.range [G9 m g f n e false,G9 m g f n e true].length).map λi=>wd (told x ([G9 m g f n e false,G9 m g f n e true].getD i none)))=if O6 (told x (G9 m g f n e false)) (told x (G9 m g f n e true))=true then 1 else 0:=by
     rw[<- f8];unfold Mw;rw[show((List.range [G9 m g f n e false,G9 m g f n e true].length).map λi=>wd (told x ([G9 m g f n e false,G9 m g f n e true].getD i none))).length-1=0+1 from rfl,Ey];rfl
    rw[MZ];by_cases y:O6 (told x (G9 m g f n e false)) (told x (G9 m g f n e true))=true
    ·rw[if_pos y,if_pos y];rfl
    ·rw[if_neg y,if_neg y];rfl
   ·have M:Bh m g f n e=[G9 m g f n e false]:=by
     unfold Bh;rw[if_neg G]
    rw[M];unfold R4;rw[if_neg G];rfl
  rw[<- R]
theorem xn(sR:{32}):{33}:=by
 refine T.KA.ok λF=>F.okN iw #[0] (λaS A J s H vs Q E I h=>?_)
 ·rcases h with⟨a,R,b,f,o,g,n,p,rfl,G,Z,Y,mO,vC,hl,U,S,q⟩<;>rfl
 ·obtain⟨a,R,b,f,o,g,n,p,rfl,G,Z,Y,mO,vC,hl,U,S,q⟩:=h;refine{_,(A3 (E7 (i:=3) iw.nd rfl (D4 (by rfl) T.cA (A0 (pL K T.bM #[9]) A4)) _ rfl Nl rfl rfl (λ_ _ _ _=>(pN 0 Oi)) #[17] (λ_ _ _ _=>(cN sR I (A0 (pv 1) (A0 (pv 2) (A0 (pv 3) #[4]))))) rfl rfl) (A7 (Aa (D9 PySem.F.plainAttrs_list PySem.F.slot_list_index PySem.F.type_list_index (Zr I) (pv 3) (A0 (Aq (Yq K I rfl) (by rfl) T.jR boot_max #[35]) A4))))),?_};obtain⟨wt,bP,bR⟩:=id G;refine{_,rfl,a,_,_,_,rfl,rfl,.inr (Ax.of bP),rfl,wt,_,rfl,.inr (Ax.of bR),_,rfl,(),by rw[List.length_map];omega,λD X=>?_};refine Gr (cnt:=(#[15].length:Int).toNat) (λj v B=>v.length=j/\Uz B (λi=>R4 p f o g n i) v/\B D=some (.lst v)/\A6 H B) ⟨rfl,(λi u h=>by simp at h),A2,A6.upd X⟩ ?_ ?_
  ·rintro j v M hj ⟨C,y,z,x⟩ Qe hQ;rw[List.length_map]at hj;have EH:j<f.length:=()
   refine{_,rfl,_,rfl,_,rfl,_,rfl,a,R,b,f,o,g,n,_,j,p,rfl,Int.zero_add _,G.same x,Z.same x,x _ _ Y,mO,EH,hl,U,S,λp2 N L e6=>?_};have vK:=L _ _ z;have tt:Az N (upd N D (.lst (v++[.ref p2]))):=Az.lst vK;exact hQ _ _ vK (Aj ()) ⟨by rw[List.length_append,List.length_singleton];omega,y.snoc ((Az.of L).trans tt) C (tt _ _ e6),A2,(x.trans L).new X⟩
  rintro v M ⟨C,y,z,x⟩
  have O:v.length=f.length:=by
   rw[C,List.length_map];omega
  refine{_,rfl,.inl {rfl,_,Ar.of z},_,rfl,D,_,_,rfl,Ar.of z,y.rp O,(),X3 _ _,X6 _ _,λvb qV=>?_};obtain⟨pb,QQ,QR⟩:=y _ vb qV;subst QQ;obtain⟨j,j1,j2,j3⟩:=least (Pr:=λm=>R4 p f o g n m=R4 p f o g n (Eb ((List.range f.length).map λi=>wd (R4 p f o g n i)))) _ rfl;have wB:Hw (λi=>R4 p f o g n i) f.length j:=Hw.of vC j1 j2 j3;refine{D,v,_,wd (R4 p f o g n (Eb ((List.range f.length).map λi=>wd (R4 p f o g n i)))),_,j,rfl,rfl,Ar.of z,Xw QR,y.rp O,O0 _,{_,kn _ wB.1,by rw[ce];exact decide_eq_true j2},(λm e hm he=>by rw[cw he,ce];exact jJ (j3 m hm)),?_};exact q j M x wB
theorem wb(iZ:{31})(Z:{20})(fZ:{15}):{34}:=by
 refine T.KC.ok λF=>F.jH ig #[0] (λaS A Y s H vs Q E D h=>?_)
 ·rcases h with⟨a,J,b,j,i,g,n,w0,f,o,rfl,rfl,x,y,O,X,U,R,N,q⟩|⟨a,J,b,j,i,g,n,f,rfl,x,y,L⟩<;>rfl
 ·obtain h:=h;refine{_,(A3 (pS 4 ig.nd (cN iZ D (A0 (pv 1) (A0 (W1 (cF Z Ki D D8 (A0 (pv 0) (A0 (pv 2) #[35])))) A4)))) (A3 (Av (Da (Bd (cN fZ D (A0 (pv 0) #[11])))) (A7 (Aa Gi)) Ac) (A7 (Aa (pC (yw D) (cN iZ D (A0 (pv 1) (A0 (W1 (cE Z.o D D8 (A0 (pv 0) (A0 (pv 2) (A0 (pv 3) (A0 Gi A4)))))) A4))) (pv 4)))))),?_};rcases h with⟨a,J,b,j,i,g,n,w0,f,o,rfl,rfl,x,y,O,X,U,R,N,q⟩|⟨a,J,b,j,i,g,n,f,rfl,x,y,L⟩
  ·refine{_,rfl,(λv I=>Jd I (G9 j i g n f false) v/\A6 H I),{_,rfl,_,rfl,_,rfl,E,λ_ _ _ z=>z,.inl {a,b,j,i,g,n,f,false,rfl,x,y,U,R,N,(λz=>nomatch z),(λB C m=>{by unfold G9;rw[if_pos B];rfl,m}),λB p C m M=>{by unfold G9;rw[if_neg B];exact{p,rfl,M},m}}},?_};rintro v H1 ⟨hv,s1⟩;refine{J,v,_,o,rfl,s1 _ _ O,hv,X,λp1 C m e2=>?_};have u:=s1.trans m;refine{_,rfl,_,rfl,a,b,j,i,g,n,rfl,x.same u,y.same u,_,rfl,?_};have em:(!decide (g=none)&&decide (n=0))=Jz g n:=rfl;rw[em];refine Di (λS=>?_) (λS=>?_)
   ·have G:Jz g n=false:=by simpa using S
    have e:Ej o j i g n f=false:=by
     unfold Ej;rw[G];rfl
    rw[<- e];exact q C u
   ·have G:Jz g n=true:=by simpa using S
    have nG:N9 g n true:=λ_=>by
     unfold Jz at G;simp only[Bool.and_eq_true,Bool.not_eq_true',decide_eq_false_iff_not,decide_eq_true_eq]at G;exact G
    refine{_,rfl,(λv I=>Jd I (G9 j i g n f true) v/\A6 C I),{_,rfl,_,rfl,_,rfl,E,λ_ _ _ z=>z,.inl {a,b,j,i,g,n,f,true,rfl,x.same u,y.same u,U,R,N,nG,(λB C m=>{by unfold G9;rw[if_pos B];rfl,m}),λB p C m M=>{by unfold G9;rw[if_neg B];exact{p,rfl,M},m}}},?_};rintro v3 H3 ⟨TU,s3⟩;refine{J,v3,_,o,rfl,s3 _ _ (u _ _ O),TU,X,λp4 H4 s4 e4=>?_};have pP:=s3.trans s4;refine{_,rfl,wd (told o (G9 j i g n f true)),wd (told o (G9 j i g n f false)),Xw e4,Xw (pP _ _ e2),bh _ _,ea (O0 _) #[],?_};rw[f8]
    have e:Ej o j i g n f=O6 (told o (G9 j i g n f false)) (told o (G9 j i g n f true)):=by
     unfold Ej;rw[G];rfl
    rw[<- e];exact q H4 (u.trans pP)
  ·exact{_,rfl,(λ_ _=>False),{_,rfl,_,rfl,_,rfl,E,λ_ _ _ z=>z,.inr {a,b,j,i,g,n,f,false,rfl,x,y,L}},λ_ _ z=>z.elim}
theorem A3m:{35}:=by
 refine T.UT.ok λF=>F.okN A4a (λC H Q E h=>?_) (λI A i s H C Q E J h=>?_)
 ·rcases h with⟨b,B,n,e,rfl,⟨u,g,j⟩,y,q⟩<;>rfl
 ·obtain⟨b,B,n,e,rfl,⟨u,g,j⟩,y,q⟩:=h;refine{_,(A7 (Aa (Ah (A0 (Ab (K3 K) #[9] (Ah #[12])) (A0 #[9] A4))))),?_};refine{_,rfl,b,_,_,_,rfl,rfl,.inr (Ax.of g),rfl,_,rfl,Af,λw z=>?_};exists H,w,z,f,m,D,(.tup [.int e]);refine{u,w,_,_,rfl,rfl,Ax.of (f _ _ j),m,by simp,E4 (by simp;omega),λt G v x=>?_};refine{_,rfl,b,_,_,_,rfl,rfl,.inr (Ax.of (v _ _ (f _ _ g))),rfl,Af,λp o=>?_};exact q p _ ((f.trans v).trans (A6.upd o)) ⟨t,A2,by rw[<- Gf];exact A6.upd o _ _ x⟩
theorem yp(gA:{13})(CY:{35}):{36}:=by
 refine T.KD.ok λF=>F.jH A0a #[0] (λaS A N s H vs Q E hr h=>?_)
 ·rcases h with⟨a,b,B,D,f,n,e,rfl,v,C,J,X,U,Y,y,q⟩|⟨a,b,B,D,f,n,e,rfl,v,C,J,m,Z⟩<;>rfl
 ·obtain h:=h;refine{_,(A7 (Aa (Ah (A0 (cE gA.o hr D8 (A0 (Ab (K3 K) #[9] (Ah #[11])) (A0 #[9] A4))) (A0 (cN CY hr (A0 (pv 1) #[11])) A4))))),?_};rcases h with⟨a,b,B,D,f,n,e,rfl,v,C,J,X,U,Y,y,q⟩|⟨a,b,B,D,f,n,e,rfl,v,C,J,m,Z⟩
  ·obtain⟨R,j,I⟩:=id v;refine{_,rfl,a,_,_,_,rfl,rfl,.inr (Ax.of j),rfl,_,rfl,Af,λw M=>?_};exists H,w,M,g,o,H1,(.tup [.int e]);refine{R,w,_,_,rfl,rfl,Ax.of (g _ _ I),o,by simp,E4 (by simp;omega),λt H2 O u=>?_};have i:=g.trans O;rw[Gf]at u;refine{_,rfl,a,_,_,_,rfl,rfl,.inr (Ax.of (i _ _ j)),rfl,E,λ_ _ _ z=>z,.inl {t,B++[e],f,rfl,u,by simp,by simp;omega,?_,Y,λhh S G hH=>?_}}
   ·intro x hx;rcases fC.mp hx with z|z
    ·exact U x z
    ·cases iT.mp z;exact y
   refine{_,rfl,_,rfl,b,D,n,e,rfl,(C.same i).same G,X,λss H4 s4 hS=>?_};refine{Af,λp L=>?_};exact q p _ (((i.trans G).trans s4).trans (A6.upd L)) ⟨hh,ss,A2,(hH.same s4).same (A6.upd L),hS.same (A6.upd L)⟩
  ·obtain⟨R,j,I⟩:=id v;refine{_,rfl,a,_,_,_,rfl,rfl,.inr (Ax.of j),rfl,_,rfl,Af,λw M=>?_};exists H,w,M,g,o,H1,(.tup [.int e]);refine{R,w,_,_,rfl,rfl,Ax.of (g _ _ I),o,by simp,E4 (by simp;omega),λt H2 O u=>?_};have i:=g.trans O;rw[Gf]at u;refine{_,rfl,a,_,_,_,rfl,rfl,.inr (Ax.of (i _ _ j)),rfl,E,λ_ _ _ z=>z,.inr (.inl {t,B++[e],f,rfl,u,?_,λS G=>Z S (i.trans G)})};rcases m with z|z
   ·exact .inr (.inr (.inl ⟨e,by simp,z⟩))
   ·exact .inr (.inl (by simp;omega))
theorem vx:{37}:=by
 refine T.KG.ok λF=>F.okN zr (λG H Q E h=>?_) (λJ A j s H G Q E L h=>?_)
 ·rcases h with⟨a,b,k,rfl,g,i,x,q⟩<;>rfl
 ·obtain⟨a,b,k,rfl,g,i,x,q⟩:=h;refine{_,(A7 (Aa (Ab (S3 K) (Ci (Iz K) (pv 0) Dp (Cn (pv 1))) (Ci (Iz K) (pv 0) (Cn (Ab Cw (pv 1) A5)) Dp)))),?_};refine{_,rfl,_,rfl,_,rfl,a,_,rfl,Ax.of g,Vt (by rw[List.length_map];exact i),λp B=>?_};rw[Rk () (by rw[List.length_map];omega),Int.toNat_natCast];exists H,p,B,m,o,f,(.tup (#[37].take k));refine{_,rfl,_,rfl,_,_,rfl,rfl,_,rfl,a,_,rfl,Ax.of (m _ _ g),Vu (by rw[List.length_map];exact i),λe z=>?_};rw[Kv () (by rw[List.length_map];omega),show((k:Int)+1).toNat=k+1 by omega];exists f,e,z,n,u,I,(.tup (#[37].drop (k+1)));refine{p,e,_,_,rfl,rfl,n _ _ o,u,E4 (by simp;omega),λC v D y=>?_};refine q C v ((m.trans n).trans D) ?_;rw[y,O3,List.map_take,List.map_drop]
theorem y6(jW:{16})(gA:{13})(oE:{37}):{38}:=by
 refine T.KH.ok λF=>F.jH iy #[0] (λaS A R s H vs Q E J h=>?_)
 ·rcases h with⟨a,b,g,j,e,n,f,rfl,i,m,I,hU,dA,gM,UY,gZ,q⟩|⟨a,b,g,j,e,n,f,rfl,i,m,Z,y⟩|⟨a,b,g,j,e,n,rfl,i,m,h1,y⟩<;>rfl
 ·obtain h:=h;refine{_,(A3 (Av (Da (Bd (cN jW J (A0 (pv 0) #[11])))) (A7 (Eh Ij rfl (by rfl) T.dZ T.fY (A0 Ad A4))) Ac) (A3 (pS 3 iy.nd (cE gA.o J D8 (A0 (cN oE J (A0 #[9] #[11])) (A0 #[9] A4)))) (A7 (Aa (Ah (A0 (pv 3) (A0 (Ah (A0 (cN oE J (A0 #[14] #[11])) (A0 #[14] A4))) A4))))))),?_};rcases h with⟨a,b,g,j,e,n,f,rfl,i,m,I,hU,dA,gM,UY,gZ,q⟩|⟨a,b,g,j,e,n,f,rfl,i,m,Z,y⟩|⟨a,b,g,j,e,n,rfl,i,m,h1,y⟩
  ·obtain⟨t,v,M⟩:=id i;obtain⟨u,dX,cO⟩:=id m;refine{_,rfl,_,rfl,a,g,e,(f:Int),rfl,i,_,rfl,As ?_ ?_}
   ·rw[decide_eq_true (show(0:Int)<=(f:Int)/\(f:Int)<(g.length:Int)by omega)];rfl
   refine{_,rfl,a,_,_,_,rfl,rfl,.inr (Ax.of v),rfl,_,rfl,t,g,f,rfl,M,I,gM,λS H1 C N=>?_};refine{_,rfl,a,_,_,_,rfl,rfl,.inr (Ax.of (C _ _ v)),rfl,E,λ_ _ _ z=>z,.inl {S,g.eraseIdx f,e,rfl,N,?_,?_,?_,gZ,λhh Y U hH=>?_}}
   ·rw[List.length_eraseIdx_of_lt I];omega
   ·rw[List.length_eraseIdx_of_lt I];omega
   ·exact λx hx=>UY x (List.mem_of_mem_eraseIdx hx)
   have G:=C.trans U;refine{_,rfl,_,rfl,b,_,_,_,rfl,rfl,.inr (Ax.of (G _ _ dX)),rfl,_,rfl,u,j,f,rfl,G _ _ cO,(),(),λB D X e3=>?_};refine{_,rfl,b,_,_,_,rfl,rfl,.inr (Ax.of (X _ _ (G _ _ dX))),rfl,Af,λo cR=>?_};exists D,o,cR,L,e4,H4,(.tup [.ref B,.int n]);refine{Af,λp O=>?_};have hS:Cb H4 o (j.eraseIdx f) n:={B,e4,L _ _ e3};exact q p _ (((G.trans X).trans L).trans (A6.upd O)) ⟨hh,o,A2,((hH.same X).same L).same (A6.upd O),hS.same (A6.upd O)⟩
  ·refine{_,rfl,_,rfl,a,g,e,f,rfl,i,_,rfl,Cz ?_ {Fo,y}};rw[decide_eq_false Z];rfl
  ·obtain⟨t,v,M⟩:=id i;refine{_,rfl,_,rfl,a,g,e,0,rfl,i,_,rfl,As ?_ ?_}
   ·rw[decide_eq_true (show(0:Int)<=0/\(0:Int)<(g.length:Int)by omega)];rfl
   refine{_,rfl,a,_,_,_,rfl,rfl,.inr (Ax.of v),rfl,_,rfl,t,g,0,rfl,M,(),(),λS H1 C N=>?_};refine{_,rfl,a,_,_,_,rfl,rfl,.inr (Ax.of (C _ _ v)),rfl,E,λ_ _ _ z=>z,.inr (.inl {S,g.eraseIdx 0,e,rfl,N,.inl ?_,λY U=>y Y (C.trans U)})};rw[List.length_eraseIdx_of_lt ()];omega
theorem yu:{39}:=by
 refine T.KI.ok λF=>F.okN Wh #[0] (λaS A B s H vs Q E M h=>?_)
 ·rcases h with⟨D,U,R,t,rfl,p,all,g,N,O⟩<;>rfl
 ·obtain⟨D,U,R,t,rfl,p,all,g,N,O⟩:=h;refine{_,(A3 (Bt jG rfl (U6 (by rfl) T.gT #[4]) (Cm K (n:=2) rfl (Ai (pN 2 Wh.nd) (Ai (pN 3 Wh.nd) Bm))) (A7 (Av (pD Bk (Ab B6 (pv 1) #[18]) #[18]) (A7 (Aa (pv 2))) Ac))) (A7 (Aa B9))),?_};refine{_,rfl,false,D,rfl,{_,Ar.of p},?_}
  refine Zd (K:=K) (b:=false) (c:=D) (xs:=U) (λi n L=>Pt λ(G I:Option V)=>J1 (n=[some (.ref D),some (.int t),G,I]) (A6 H L) (∀(j:Nat) (r:Int×Int),j<i->R[j]?=some r->t%r.1≠r.2))
   ⟨none,none,rfl,A6.refl H,λj r f=>absurd f (l0 j)⟩ (by rintro i n L _ ⟨_,_,_,s,_⟩;exact Ar.of (s _ _ p)) ?_ ?_
  ·rintro i y T n b hy ⟨G,I,rfl,C,q⟩ Z;obtain⟨r,v,u,rfl,hu⟩:=all.get hy;obtain⟨p1,p2,a1,a2⟩:=g r (cI v);have S:A6 b (upd b T (.tup [V.int (i:Nat),V.ref u])):=A6.upd Z;have m:=C.trans S;refine{T,_,rfl,Ax.of A2,rfl,_,_,rfl,_,_,rfl,rfl,?_};generalize upd b T (.tup [V.int (i:Nat),V.ref u])=Y at S m⊢;have J:=Ax.of (K:=K) (m _ _ hu);refine{_,rfl,_,rfl,u,_,_,_,rfl,rfl,.inr J,rfl,_,_,rfl,rfl,(),_,rfl,u,_,_,_,rfl,rfl,.inr J,rfl,rfl,_,rfl,?_};rw[PV];refine Di (λo=>⟨_,rfl,O i r Y v (by simpa using o) m⟩) (λo=>?_);refine{_,_,rfl,m,λj r' f x=>?_};rcases iE j i with z|z
   ·exact q j r' z x
   ·have e:j=i:=()
    subst e;rw[v]at x;cases x;simpa using o
  ·rintro n b ⟨G,I,rfl,C,q⟩;refine N (λr M=>?_) b C;obtain⟨j,f⟩:=List.getElem?_of_mem M;have X:=(b0.mp f).1;exact q j r (by rw[all.1];exact X) f
theorem xp:{40}:=by
 refine T.KJ.ok λF=>F.okN A03 (λU H Q E h=>?_) (λY A u s H U Q E hr h=>?_)
 ·rcases h with⟨x,rfl,C,q⟩<;>rfl
 ·obtain⟨x,rfl,C,q⟩:=h;refine{_,(A3 (Av (Da (Bd (Aq (Kn rfl) (by rfl) T.rC boot_all (A0 (C8 (za (pv 0)) _ rfl Nm rfl rfl (λ_ _ _ _=>(pN 0 Oj)) #[17] (λ_ _ _ _=>(S8 Zw (pv 0) (C9 (v:=.str "0123456789") (by rfl) T.pJ.choose_spec {_,rfl}) rfl))) A4)))) (A7 (Aa Gi)) Ac) (A3 (Av (PW.pt (El (pD Er (Aq Q6 (by rfl) T.bM PySem.boot_len #[4]) A5) (E8 (pD K4 (Aq Q6 (by rfl) T.bM PySem.boot_len #[4]) (C9 (v:=.int 100) (by rfl) T.iW.choose_spec {_,rfl}))))) (A7 (Aa Gi)) Ac) (A7 (Aa (g7 (pC Bk (pv 0) Ad) (Ih (pC U3 (o0 vg (pv 0) A5 (λ_ _=>rfl)) Ad))))))),?_};have y:x.cps.toList.length=x.length:=by simp[Str.length]
  refine{_,rfl,x,rfl,λD B=>?_};refine bn (λi n v=>n=((x.cps.toList.take i).map Z5).map V.bl/\v D=some (.lst n)/\A6 H v) ⟨rfl,A2,A6.upd B⟩ ?_ ?_
  ·rintro i c n g m ⟨rfl,j,f⟩ X O;have Z:=(b0.mp m).1;refine{_,rfl,_,_,rfl,rfl,?_};rw[vd];refine O _ _ j (A0e (by rw[List.length_map,List.length_map,List.length_take];omega)) ⟨?_,A2,f.new B⟩;rw[Pq m,List.map_append];rfl
  rintro n g ⟨rfl,j,f⟩;rw[List.take_length]at j;refine{D,_,rfl,Ar.of j,_,rfl,?_};have J:(x.cps.toList.map Z5).all id=x.cps.toList.all Z5:=by rw[List.all_map];rfl
  rw[J];cases b:x.cps.toList.all Z5 with
  |false=>
   refine Cz rfl ?_
   have e:Jb x=false:=by
    unfold Jb;rw[show(x.cps.toList.all λc=>decide (48<=c/\c<=57))=false from b];rfl
   have:=q g f;rw[e]at this;exact this
  |true=>
   refine As rfl ?_;have G:((x.length:Nat):Int)<2^63:=()
   refine{_,rfl,x,rfl,G,_,_,rfl,rfl,_,rfl,decide (((x.length:Nat):Int)>100),(λ_ I z=>{_,rfl,x,rfl,G,_,_,rfl,rfl,_,rfl,z}),?_};refine Di (λh=>?_) (λh=>?_)
   ·have e:Jb x=false:=by
     unfold Jb;rw[Bool.or_eq_true,decide_eq_true_iff,decide_eq_true_iff]at h;rw[decide_eq_false (show¬(1<=x.length/\x.length<=100)by omega)];simp
    have:=q g f;rw[e]at this;exact this
   ·have S:1<=x.length/\x.length<=100:=by
     rw[Bool.or_eq_true,decide_eq_true_iff,decide_eq_true_iff]at h;omega
    obtain⟨c,m,R⟩:=kr (xs:=x.cps.toList) (λz=>by rw[z]at y;simp at y;omega);refine{_,rfl,rfl,decide (x=#["0"]),decide (c≠48),?_,(λ_ I z=>{_,rfl,x,0,c,rfl,rfl,ea C #[],Et m,rfl,?_}),?_}
    ·rw[Rn];rfl
    ·have e:(!decide (V.str ⟨#[c]⟩=V.str #["0"]))=decide (c≠48):=by
      rw[Bool.eq_iff_iff,Bool.not_eq_true',decide_eq_false_iff_not,decide_eq_true_iff];have L:#["0"]=⟨#[48]⟩:=by decide
      rw[L];constructor
      ·intro o p;exact o (by rw[p])
      ·intro o p;injection p with M;injection M with N;exact o (by simpa using N)
     rw[e];exact z
    ·have e:Jb x=(decide (x=#["0"])||decide (c≠48)):=by
      unfold Jb;rw[show(x.cps.toList.all λc=>decide (48<=c/\c<=57))=true from b,decide_eq_true S,R];simp
     have:=q g f;rw[e]at this;exact this
theorem wy(sS:{40}):{41}:=by
 refine T.KL.ok λF=>F.okN A01 #[0] (λaS A M s H vs Q E Y h=>?_)
 ·rcases h with⟨a,g,rfl,y,C,X,q⟩<;>rfl
 ·obtain⟨a,g,rfl,y,C,X,q⟩:=h;refine{_,(A3 (Av (Da (Bd (Aq (Kn rfl) (by rfl) T.rC boot_all (A0 (C8 (Cl (pv 0)) _ rfl Mh rfl rfl (λ_ _ _ _=>(pN 0 Mt)) #[17] (λ_ _ _ _=>(cN sS Y #[4]))) A4)))) (A7 D0) Ac) (A7 (Aa (C8 (Cl (pv 0)) _ rfl Mi rfl rfl (λ_ _ _ _=>(pN 0 Mu)) #[17] (λ_ _ _ _=>(D3 Q4 (by rfl) T.lV boot_int #[4])))))),?_}
  have get:∀{i:Nat}{v:V},((g.map B8).map V.str)[i]?=some v->∃n,g[i]?=some n/\v=.str (B8 n)/\A2q (B8 n) n/\i<g.length:=λ{i v} p=>by
   rw[List.getElem?_map,List.getElem?_map]at p;obtain⟨w,Z,rfl⟩:=dI.mp p;obtain⟨n,m,rfl⟩:=dI.mp Z;have R:=C n (cI m);exact{n,m,rfl,Bg R.1 R.2,(b0.mp m).1}
  refine{_,rfl,a,rfl,.inl {{_,Ar.of y},λD O=>?_}};refine Cg (K:=K) (a:=a) (xs:=(g.map B8).map V.str) (λi f j=>f=(List.replicate i true).map V.bl/\j D=some (.lst f)/\A6 H j) ⟨rfl,A2,A6.upd O⟩ (by rintro i f j _ ⟨_,_,s⟩;exact Ar.of (s _ _ y)) ?_ ?_
  ·rintro i v f N p ⟨rfl,I,u⟩ S J;obtain⟨n,m,rfl,W,U⟩:=get p;refine{_,rfl,B8 n,rfl,ea W.len #[],λG x=>?_};rw[W.is];refine J _ _ (x _ _ I) #[22] ⟨?_,A2,(u.trans x).new O⟩;rw[List.replicate_succ',List.map_append];rfl
  rintro f N ⟨rfl,I,u⟩;refine{D,_,rfl,Ar.of I,_,rfl,?_};refine As (by rw[show(List.replicate ((g.map B8).map V.str).length true).all id=true from List.all_eq_true.mpr λb C=>by rw[List.eq_of_mem_replicate C];rfl];rfl) ?_;refine{_,rfl,a,rfl,.inl {{_,Ar.of (u _ _ y)},λL B=>?_}};refine Cg (K:=K) (a:=a) (xs:=(g.map B8).map V.str) (λi f j=>f=(g.take i).map V.int/\j L=some (.lst f)/\A6 N j) ⟨rfl,A2,A6.upd B⟩ (by rintro i f j _ ⟨_,_,s⟩;exact Ar.of (s _ _ (u _ _ y))) ?_ ?_
  ·rintro i v f G p ⟨rfl,z,x⟩ S J;obtain⟨n,m,rfl,W,U⟩:=get p;refine{_,rfl,B8 n,n,rfl,W.val,ea W.len #[],J _ _ z (Aj (by rw[List.length_map,List.length_take];omega)) {?_,A2,x.new B}};rw[List.take_add_one,m,List.map_append];rfl
  rintro f G ⟨rfl,z,x⟩;rw[List.length_map,List.length_map,List.take_length]at z;refine q L G ?_ (u.trans x) z;cases e:H L with
  |none=>rfl
  |some o=>rw[u _ _ e]at B;cases B
theorem yv:{42}:=by
 refine T.KN.ok λF=>F.okN A0c (λf H Q E h=>?_) (λi A e s H f Q E j h=>?_)
 ·rcases h with⟨w,n,rfl,q⟩<;>rfl
 ·obtain⟨w,n,rfl,q⟩:=h;refine{_,(A3 (Av (Gy (S4 K) (pv 0) (C9 (v:=.ref bK) (by rfl) T.kT rfl) rfl) (A7 (Aa (pC Bk (pv 1) A5))) Ac) (A3 (Av (Gy (S4 K) (pv 0) (C9 (v:=.ref aY) (by rfl) T.hV rfl) rfl) (A7 (Aa (pC Bk (pv 1) A5))) Ac) (A7 (Aa (K6 (S8 (S4 K) (pv 0) (C9 (v:=.ref aX) (by rfl) T.gK rfl) rfl) (Ih (pC K4 (pv 1) A5))))))),?_};unfold Fy at q;refine{_,rfl,bK,_,rfl,.inr (T.kU H),rfl,rfl,_,rfl,?_};refine Di (λh=>?_) (λh=>?_)
  ·have b:Pd (.str w) [.str "best",.str "rank"]=true:=h;rw[if_pos b]at q;exact{_,rfl,rfl,q}
  have b:¬Pd (.str w) [.str "best",.str "rank"]=true:=h;rw[if_neg b]at q;refine{_,rfl,aY,_,rfl,.inr (T.iA H),rfl,rfl,_,rfl,?_};refine Di (λh=>?_) (λh=>?_)
  ·have b:Pd (.str w) [.str "call",.str "lost",.str "answer",.str "join",.str "leave",.str "turn"]=true:=h;rw[if_pos b]at q;exact{_,rfl,rfl,q}
  have b:¬Pd (.str w) [.str "call",.str "lost",.str "answer",.str "join",.str "leave",.str "turn"]=true:=h;rw[if_neg b]at q;exact{_,rfl,aX,_,rfl,.inr (T.gL H),rfl,rfl,_,decide (n>0),rfl,(λ_ g z=>{_,rfl,_,_,rfl,rfl,z}),q}
theorem y8(oF:{41})(sT:{42}):{43}:=by
 refine T.KO.ok λF=>F.okN Lk #[0] (λaS A Y s H vs Q E S h=>?_)
 ·rcases h with⟨x,f,b,g,rfl,j,q⟩<;>rfl
 ·obtain⟨x,f,b,g,rfl,j,q⟩:=h;refine{_,(A3 (Av (Da (Bd (Aq (Q5 K) (by rfl) T.aR boot_isinstance (A0 (pv 0) (A0 (g8 (by rfl) T.bH boot_str) A4))))) (A7 D0) Ac) (A3 (pS 1 Lk.nd (D9 PySem.F.plainAttrs_str PySem.F.slot_str_split PySem.F.type_str_split U0 (pv 0) (A0 Ad A4))) (A3 (pS 2 Lk.nd B9) (A3 (Cc (PW.pt (Sc (pD Bk #[14] Ad) (E3 (pD (Ie S) (Ci (Ei K) (pv 1) (Cn (M6 Il A5)) (Cn (M6 Il A5))) (B1 (A0 Ad A4)))))) (A3 (pS 2 Lk.nd (pX K (cN oF S (A0 (Ci (Ei K) (pv 1) (Cn (M6 Il A5)) Dp) A4)) A5)) (A7 (pS 1 Lk.nd (Ci (Ei K) (pv 1) Dp (Cn (M6 Il A5)))))) Ac) (A3 (pS 3 Lk.nd (cN oF S (A0 (Ci (Ei K) (pv 1) (Cn A5) Dp) A4))) (A3 (Av (Da (Bd (cN sT S (A0 #[14] (A0 (pL K T.bM (pv 3)) A4))))) (A7 D0) Ac) (A7 (Aa (Ah (A0 #[14] (A0 (pv 3) #[11]))))))))))),?_};refine{_,rfl,_,"str","str",true,rfl,.str x,Oa,_,rfl,As rfl ?_};refine{_,rfl,rfl,x,_,rfl,rfl,#[],j.len,λW hW=>?_};rw[j.cut];exists H,W,hW,Z,O,D,(.lst ((f::(b.map B8++Dw g)).map V.str))
  have XZ:∀w∈f::(b.map B8++Dw g),PyData.strOk w=true:=λw J=>by
   rcases eH.mp J with z|z
   ·rw[z];exact j.ok
   ·rcases fC.mp z with z|z
    ·obtain⟨n,v,rfl⟩:=ft.mp z;exact Cr (j.big n v)
    ·cases g with
     |none=>cases z
     |some c=>
      rcases eH.mp z with z|z
      ·rw[z];decide+kernel
      ·rw[List.mem_singleton.mp z];exact Cr (j.calm c rfl).1
  refine{_,rfl,W,_,_,.str f,rfl,rfl,.inl (Ar.of O),PR,rfl,_,rfl,(λd N=>d=g.isSome/\A6 D N),λX=>?_,λX=>?_,?_}
  ·have bZ:f≠#["hall"]:=λz=>by simp[z]at X
   cases g with
   |none=>exact{rfl,A6.refl _}
   |some c=>exact absurd (j.calm c rfl).2 bZ
  ·have hh:f=#["hall"]:=by simpa using X
   refine{_,rfl,_,rfl,_,rfl,_,rfl,_,rfl,W,_,rfl,Ar.of O,λi L=>?_};rw[Ez];exists D,i,L,B,u,o,(.lst ((F8 (f::(b.map B8++Dw g)) (some (-2)) (some (-1))).map V.str));refine{Af,λcl lD=>?_};have m:A6 o (upd o cl (.lst [.str "calm"])):=A6.upd lD;refine{_,_,N5 (m _ _ u) (λw J=>XZ w (List.mem_of_mem_drop (List.mem_of_mem_take J))),N5 (ss:=[#["calm"]]) A2 (λw J=>by rw[List.mem_singleton.mp J];decide+kernel),Nz _,_,rfl,?_,B.trans m};show PyData.eqv _ _=_;rw[Tl];cases g with
   |none=>
    refine jJ (Z1 λz=>?_);rcases eH.mp z with z|z
    ·rw[hh]at z;exact absurd z #[]
    ·rcases fC.mp z with z|z
     ·obtain⟨n,v,e⟩:=ft.mp z;exact Zt (j.big n v) #[] e
     ·cases z
   |some c=>
    refine decide_eq_true ?_;show F8 ((f::b.map B8)++[#["calm"],B8 c]) _ _=_;exact(Te _ _ _).1
  rintro d o ⟨rfl,B⟩;have u:=B _ _ O;refine{(λM N=>∃(y:Addr),J1 (M=[some (.str x),some (.ref y),some (vO g),none]) (A6 H N) (N y=some (.lst ((f::b.map B8).map V.str)))),λU=>?_,λU=>?_,?_}
  ·obtain⟨c,rfl⟩:∃c,g=some c:=Option.isSome_iff_exists.mp U;have vI:=Te (f::b.map B8) #["calm"] (B8 c);refine{_,rfl,_,rfl,_,rfl,W,_,rfl,Ar.of u,λi L=>?_};rw[Ez,show F8 (f::(b.map B8++Dw (some c))) (some (-1)) none=[B8 c]from vI.2.1];exists o,i,L,m,I,G,(.lst ([B8 c].map V.str));refine{i,[c],rfl,I,(λn v=>by rw[List.mem_singleton.mp v];exact(j.calm c rfl).1),(by show 1<=300;decide),λl H4 hl C R=>?_};refine{l,_,_,_,rfl,rfl,.inl (Ar.of R),rfl,?_};refine{_,rfl,_,rfl,_,rfl,W,_,rfl,Ar.of (C _ _ (m _ _ u)),λW2 sQ=>?_};rw[Ez,show F8 (f::(b.map B8++Dw (some c))) none (some (-2))=f::b.map B8 from vI.2.2];exact{W2,rfl,(((Z.trans B).trans m).trans C).trans (A6.upd sQ),A2}
  ·have v:g=none:=by simpa using U
   subst v;refine{W,rfl,Z.trans B,?_};rw[show b.map B8++Dw none=b.map B8 from List.append_nil _]at u;exact u
  rintro M G ⟨y,rfl,m,I⟩;refine{_,rfl,_,rfl,y,_,rfl,Ar.of I,λi L=>?_};rw[Ez,bp];exists G,i,L,C,e4,H4,(.lst ((b.map B8).map V.str));refine{i,b,rfl,e4,j.big,j.lQ,λl H5 hl s5 R=>?_};have e5:=s5 _ _ (C _ _ I);refine{_,rfl,y,_,_,.str f,rfl,rfl,.inl (Ar.of e5),PR,_,rfl,l,_,rfl,.inl (Ar.of R),f,_,rfl,_,rfl,?_};refine As (by rw[List.length_map,j.tak];rfl) ?_;refine{_,rfl,y,_,_,.str f,rfl,rfl,.inl (Ar.of e5),PR,_,rfl,_,rfl,Af,λp hp=>?_};exact q p l _ (((m.trans C).trans s5).trans (A6.upd hp)) A2 ((A6.upd hp) _ _ R)
theorem wc:{44}:=by
 refine T.KP.ok λF=>F.okN zx (λM H Q E h=>?_) (λN A G s H M Q E O h=>?_)
 ·rcases h with⟨a,o,rfl,g,m,L,q⟩<;>rfl
 ·obtain⟨a,o,rfl,g,m,L,q⟩:=h;refine{_,(A7 (Aa (D9 PySem.F.plainAttrs_str PySem.F.slot_str_join PySem.F.type_str_join (N0 K) Ad (A0 (C8 (Cl (pv 0)) _ rfl Jr rfl rfl (λ_ _ _ _=>(pN 0 K1)) #[17] (λ_ _ _ _=>(pT T.bH (pv 0)))) A4)))),?_};rcases g with g|g
  ·refine{rfl,_,rfl,a,rfl,.inl {{_,Ar.of g},λD x=>?_}};refine Cg (K:=K) (a:=a) (xs:=o.map V.int) (λi e j=>e=((o.take i).map B8).map V.str/\j D=some (.lst e)/\A6 H j) ⟨rfl,A2,A6.upd x⟩ (by rintro i e j _ ⟨_,_,s⟩;exact Ar.of (s _ _ g)) ?_ ?_
   ·rintro i v e u y ⟨rfl,f,p⟩ I B;rw[List.getElem?_map]at y;obtain⟨n,b,rfl⟩:=dI.mp y;have J:=(b0.mp b).1;refine{_,rfl,n,rfl,B5 (m n (cI b)),B _ _ f #[7] {?_,A2,p.new x}};rw[List.take_add_one,b,List.map_append,List.map_append];rfl
   rintro e u ⟨rfl,f,p⟩;rw[List.length_map,List.take_length]at f;refine{_,D,o.map B8,rfl,rfl,Ar.of f,by rw[List.length_map];omega,(λz C=>?_),#[],q u p};obtain⟨n,b,rfl⟩:=ft.mp C;exact ea (Bg (m n b).1 (m n b).2).len #[]
  ·refine{rfl,_,rfl,a,rfl,.inr {{_,Ax.of g},λD x=>?_}};refine Nh (K:=K) (a:=a) (xs:=o.map V.int) (λi e j=>e=((o.take i).map B8).map V.str/\j D=some (.lst e)/\A6 H j) ⟨rfl,A2,A6.upd x⟩ (by rintro i e j _ ⟨_,_,s⟩;exact Ax.of (s _ _ g)) ?_ ?_
   ·rintro i v e u y ⟨rfl,f,p⟩ I B;rw[List.getElem?_map]at y;obtain⟨n,b,rfl⟩:=dI.mp y;have J:=(b0.mp b).1;refine{_,rfl,n,rfl,B5 (m n (cI b)),B _ _ f #[7] {?_,A2,p.new x}};rw[List.take_add_one,b,List.map_append,List.map_append];rfl
   rintro e u ⟨rfl,f,p⟩;rw[List.length_map,List.take_length]at f;refine{_,D,o.map B8,rfl,rfl,Ar.of f,by rw[List.length_map];omega,(λz C=>?_),#[],q u p};obtain⟨n,b,rfl⟩:=ft.mp C;exact ea (Bg (m n b).1 (m n b).2).len #[]
theorem wz:{45}:=by
 refine T.KQ.ok λF=>F.okN Wd (λi H Q E h=>?_) (λj A e s H i Q E m h=>?_)
 ·rcases h with⟨a,r,rfl,b,f,g,q⟩<;>rfl
 ·obtain⟨a,r,rfl,b,f,g,q⟩:=h;refine{_,(A3 (pS 1 Wd.nd #[9]) (A3 (pS 2 Wd.nd #[9]) (A7 (Aa (yy (pv 1) (pv 2)))))),?_};refine{_,rfl,a,_,_,_,rfl,rfl,.inr (Ax.of b),rfl,?_};refine{_,rfl,a,_,_,_,rfl,rfl,.inr (Ax.of b),rfl,?_};exact{_,rfl,r.1,rfl,B5 f,#[],_,rfl,r.2,rfl,B5 g,q}
theorem vy:{46}:=by
 obtain⟨g,F⟩:=T.IQ;refine{g,F.okN zt (λi H Q E h=>?_) (λj A e s H i Q E m h=>?_),F.binds (by trivial)}
 ·rcases h with⟨x,b,rfl,f,q⟩<;>rfl
 ·obtain⟨x,b,rfl,f,q⟩:=h;refine{_,(A3 (Fx (pv 0) B9 rfl) (A3 (Fx (pv 0) B9 rfl) (A3 (Fx (pv 0) B9 rfl) (A7 (Fx (pv 0) B9 rfl))))),?_};refine{_,rfl,x,_,b,_,rfl,f,T.aI,T.aM,(by show 0<1000;decide),?_};refine{_,rfl,x,_,b,_,rfl,A2,T.aI,T.aH,(by show 1<1000;decide),?_};refine{_,rfl,x,_,b,_,rfl,A2,T.aI,T.bL,(by show 2<1000;decide),?_};refine{_,rfl,x,_,b,_,rfl,A2,T.aI,T.cU,(by show 3<1000;decide),?_};rw[Kg,Kg,Kg];exact q _ Bw.ins A2
theorem A3d:{47}:=by
 refine T.IU.ok λF=>F.okN A46 (λD H Q E h=>?_) (λI A g s H D Q E J h=>?_)
 ·rcases h with⟨x,e,b,B,C,j,w,rfl,f,n,o,q⟩<;>rfl
 ·obtain⟨x,e,b,B,C,j,w,rfl,f,n,o,q⟩:=h;refine{_,(A3 (Av (PW.pt (Ev (pD Bk (pv 1) Ad) (E3 (pD Fw #[6] B9)))) (A7 D0) Ac) (A7 (Av (PW.pt (Ev (Gy (Qp K) (pv 1) (Ah (A0 Ad #[24])) rfl) (E3 (pD Fw #[6] B9)))) (A7 D0) Ac))),?_};refine{_,rfl,rfl,_,rfl,decide (j=.bB),(λ_ u z=>{_,rfl,x,_,e,_,j,rfl,f,T.aI,T.cU,rfl,rfl,_,rfl,z}),As ?_ ?_}
  ·rw[Bool.and_eq_false_iff,decide_eq_false_iff_not,decide_eq_false_iff_not];by_cases z:w=#["turn"]
   ·exact .inr (n z)
   ·exact .inl λy=>z (by injection y)
  refine{_,rfl,Af,λp v=>?_};exists H,p,v,i,m,G,(.tup [.str "hall",.str "wheel",.str "turn"]);refine{p,_,rfl,.inr (Ax.of m),rfl,rfl,_,rfl,decide (b=.bB),(λ_ u z=>{_,rfl,x,_,e,_,b,rfl,i _ _ f,T.aI,T.aM,rfl,rfl,_,rfl,z}),As ?_ (q _ i)};show(!Pd (.str w) [.str "hall",.str "wheel",.str "turn"]&&decide (b=.bB))=false;rw[Bool.and_eq_false_iff,Bool.not_eq_false',decide_eq_false_iff_not];cases z:Pd (.str w) [.str "hall",.str "wheel",.str "turn"]with
  |true=>exact .inl rfl
  |false=>exact .inr (o z)
theorem y9:{48}:=by
 refine T.nY.ok λF=>F.okN A06 (λp H Q E h=>?_) (λu A e s H p Q E v h=>?_)
 ·rcases h with⟨x,b,g,j,n,w,i,m,o,rfl,f,q⟩<;>rfl
 ·obtain⟨x,b,g,j,n,w,i,m,o,rfl,f,q⟩:=h;refine{_,(A3 (Fx (pv 0) (pv 1) rfl) (A3 (Fx (pv 0) (pv 2) rfl) (A7 (Fx (pv 0) (pv 3) rfl)))),?_};refine{_,rfl,_,rfl,x,_,b,_,rfl,f,T.aI,T.aM,(by show 4<1000;decide),?_};refine{_,rfl,_,rfl,x,_,b,_,rfl,A2,T.aI,T.aH,(by show 4<1000;decide),?_};refine{_,rfl,_,rfl,x,_,b,_,rfl,A2,T.aI,T.bL,(by show 4<1000;decide),?_};rw[Kg,Kg];exact q
theorem vz(cQ:{30})(U:{48})(kC:{14}):{49}:=by
 obtain⟨_,U,lY⟩:=U;refine T.zJ.ok λF=>F.jH ie #[0] (λaS A Z s H vs Q E u h=>?_)
 ·rcases h with⟨x,e,a,L,M,O,w,f,g,rfl,B,j,n,q⟩|⟨x,e,a,L,M,O,w,f,g,rfl,B,j,dX,cO,h8,hp,he⟩<;>rfl
 ·obtain h:=h;refine{_,(A3 (pS 2 ie.nd (cE cQ u D8 #[12])) (A3 (Bp (K7 (pv 0) T.aI T.nY.a U (u.mono #[]) lY .nil K5 (A0 (pv 1) (A0 (cN kC u #[12]) #[11])))) (A3 (Av (Ii (Ig (Gv u) #[6] (pv 2)) rfl) (A7 (Aa (Ab Aw Ad (pT T.bH (Iq (Gv u) (pv 2) #[6] (λ_ _=>rfl)))))) Ac) (A7 (Aa Ad))))),?_};rcases h with⟨x,e,a,L,M,O,w,f,g,rfl,B,j,n,q⟩|⟨x,e,a,L,M,O,w,f,g,rfl,B,j,dX,cO,h8,hp,he⟩
  ·have wC:1<=qv g/\qv g<=3001:=by
    cases g with
    |none=>exact{Int.le_refl _,#[]}
    |some c=>
     have:=n.2.1 c rfl;show 1<=c+1/\c+1<=3001;omega
   refine{_,rfl,E,λ_ _ _ z=>z,.inl {a,f,g,rfl,j,(λw Y=>(n.1 w Y).1),wC.1,(λw Y=>ea (Ct (n:=12) (by have:=n.1 w Y;omega)) #[]),ea (Ct (n:=12) ()) #[],n.2.2.2.1,n.2.2.2.2,λi R H1 hTB D eT qJ pM sU=>?_}};have cW:Ck f g R:={qJ,pM,sU};refine{_,rfl,x,e,_,rfl,D _ _ B,rfl,_,rfl,_,rfl,a,f,g,rfl,j.same D,λb G N hb=>?_};have I:=N _ _ (D _ _ B);refine{_,rfl,x,e,L,M,O,w,_,_,_,rfl,I,?_};have p:Bw x G (upd G x #[33]):=Bw.ins;have J:(upd G x #[33]) x=some #[33]:=A2;generalize upd G x #[33]=o at p J⊢;have X:=((j.same D).same N).but p I;have wD:=hb.but p I;have S:=p.dT I (N _ _ eT);have bb:=((Bw.of (x:=x) D).trans (Bw.of N)).trans p;have hD:B7 aF o x e f g f 0 R w:={a,b,i,J,X,wD,S};have C:=q R o bb hD cW;unfold Fa at C;refine{_,rfl,x,_,e,_,.ref b,rfl,J,T.aI,T.aH,rfl,_,rfl,i,_,rfl,E6.t S (show Im o b (f,0)from wD),_,rfl,?_};cases y:Am R (f,0)with
   |none=>
    refine As rfl ?_;rw[y]at C;exact C
   |some v=>
    obtain⟨m,rfl,_⟩:=qJ.1 _ _ y;have hm:=Iw cW y
    have dg:E6 o i (.ref b) (some (.int m)):=by
     rw[<- y];exact E6.t S (show Im o b (f,0)from wD)
    rw[y]at C;have hl:=(Bg (n:=m) () ()).len;refine Cz rfl ⟨_,rfl,_,rfl,x,_,e,_,.ref b,rfl,J,T.aI,T.aH,rfl,i,_,rfl,dg,m,rfl,B5 ⟨(),()⟩,_,_,rfl,rfl,?_,C⟩;show#["broken within "].length+(B8 m).length<=sizeLine;exact ea (i0 hl _) #[]
  ·exact{_,rfl,E,λ_ _ _ z=>z,.inr {a,f,g,rfl,j,dX,cO,h8,hp,he}}
theorem A3i(sV:{45}):{50}:=by
 refine T.IV.ok λF=>F.okN A48 #[0] #[2]
 ·rcases h with⟨x,j,I,N,O,w,t,p,b,us,f,rfl,J,Y,hp,all,S,hl,jS,q⟩<;>rfl
 ·obtain⟨x,j,I,N,O,w,t,p,b,us,f,rfl,J,Y,hp,all,S,hl,jS,q⟩:=h;refine{_,(A3 (Av (pD Fw (pv 1) B9) (A7 D0) Ac) (A3 (Fx (pv 0) #[14] rfl) (A7 (Aa (D9 PySem.F.plainAttrs_str PySem.F.slot_str_join PySem.F.type_str_join (N0 K) Ad (A0 (Ab Vx (B1 (A0 (Ab Aw Ad (pT T.bH #[14])) A4)) (C8 (Cl #[14]) _ rfl J2 rfl rfl (λ_ _ _ _=>(pN 0 J6)) #[17] (λ_ _ _ _=>(cN sV hr #[4])))) A4)))))),?_};refine{_,rfl,rfl,_,rfl,As rfl ?_};refine{_,rfl,t,_,_,_,rfl,rfl,.inr (Ax.of Y),rfl,_,rfl,x,_,j,_,rfl,J,T.aI,T.cU,(by show 4<1000;decide),?_};rw[W7];have C:Bw x H (upd H x (.ins aF j (Bb I N O (.ref p)))):=Bw.ins;have e1:(upd H x (.ins aF j (Bb I N O (.ref p)))) x=some (.ins aF j (Bb I N O (.ref p))):=A2;generalize upd H x (.ins aF j (Bb I N O (.ref p)))=o at C e1⊢;have CZ:=C.tup J Y;have vP:=C.lst J hp;have B:Ap (Kl o) f us:=all.imp λr v ⟨u,e,z⟩=>⟨u,e,C.tup J z⟩;have zV:=(Bg S.1 S.2).len;refine{rfl,_,rfl,t,_,_,_,rfl,rfl,.inr (Ax.of CZ),rfl,b,rfl,B5 S,_,_,rfl,rfl,ea (i0 zV _) #[],Af,λL hL=>?_};exists o,L,hL,g,e2,H2,(.lst [.str (#["base "]++Str.ofString (toString b))]);refine{_,rfl,t,_,_,_,rfl,rfl,.inr (Ax.of (g _ _ CZ)),rfl,p,rfl,.inl {{_,Ar.of (g _ _ vP)},λD hD=>?_}};refine Cg (K:=K) (a:=p) (xs:=us) (λi R X=>R=((f.take i).map B4).map V.str/\X D=some (.lst R)/\A6 H2 X) ⟨rfl,A2,A6.upd hD⟩ (by rintro i R X _ ⟨_,_,s⟩;exact Ar.of (s _ _ (g _ _ vP))) ?_ ?_
  ·rintro i v R y oV ⟨rfl,U,m⟩ Qe hQ;obtain⟨r,M,u,rfl,hu⟩:=B.get oV;have G:=jS r (cI M);have hi:=(b0.mp M).1;refine{_,rfl,u,r,rfl,m _ _ (g _ _ hu),G.1,G.2,hQ _ _ U #[7] {?_,A2,m.new hD}};rw[List.take_add_one,M,List.map_append,List.map_append];rfl
  rintro R y ⟨rfl,U,m⟩;rw[all.1,List.take_length]at U;refine{L,D,_,_,rfl,rfl,m _ _ e2,U,l7 (Aj (by simp only[List.length_append,List.length_map,List.length_singleton];omega)),λn DA=>?_};exists y,n,DA,s4,e4,H4,(.lst ([.str (#["base "]++Str.ofString (toString b))]++(f.map B4).map V.str));refine{_,n,#[29]::f.map B4,rfl,rfl,Ar.of e4,by rw[List.length_cons,List.length_map];omega,(λz Z=>?_),#[],q H4 (C.trans (Bw.of (g.trans (m.trans s4)))) (s4 _ _ (m _ _ (g _ _ e1)))};rcases eH.mp Z with rfl|Z
  ·rw[Co];exact ea (i0 zV _) #[]
  ·obtain⟨r,M,rfl⟩:=ft.mp Z;have G:=jS r M;exact ea (Lc G.1 G.2) #[]
theorem A3j:{51}:=by
 refine T.IW.ok λF=>F.okN A49 (λI H Q E h=>?_) (λL A p s H I Q E B h=>?_)
 ·rcases h with⟨x,f,J,j,D,n,C,w,rfl,u,o,q⟩<;>rfl
 ·obtain⟨x,f,J,j,D,n,C,w,rfl,u,o,q⟩:=h;refine{_,(A3 (Av (Ii (Ig (Gv B) #[6] #[6]) rfl) (A7 (Aa (pT T.bH (Iq (Gv B) #[6] #[6] (λ_ _=>rfl))))) Ac) (A7 (Aa Ad))),?_};obtain⟨a,b,e,i,M,z,y⟩:=u;unfold Es at q;refine{_,rfl,x,_,f,_,.ref b,rfl,i,T.aI,T.aH,rfl,_,rfl,x,_,f,_,.ref e,rfl,i,T.aI,T.bL,rfl,e,_,rfl,E6.t y (show Im H b (j,n)from z),_,rfl,?_};cases g:Am C (j,n)with
  |none=>
   rw[g]at q;exact As rfl q
  |some v=>
   obtain⟨m,rfl,_⟩:=o.1.1 _ _ g;have N:=Iw o g
   have G:E6 H e (.ref b) (some (.int m)):=by
    rw[<- g];exact E6.t y (show Im H b (j,n)from z)
   rw[g]at q;exact Cz rfl ⟨_,rfl,x,_,f,_,.ref e,rfl,i,T.aI,T.bL,rfl,_,rfl,x,_,f,_,.ref b,rfl,i,T.aI,T.aH,rfl,e,_,rfl,G,m,rfl,B5 ⟨(),()⟩,q⟩
theorem w6(sW:{36})(cQ:{30})(cZ:{48}):{52}:=by
 obtain⟨_,cZ,lY⟩:=cZ;refine T.zL.ok λF=>F.jH Sf #[0] (λaS A outer s H vs Q E X h=>?_)
 ·rcases h with⟨x,f,g,u,j,n,tv,w,i,rfl,hD,gM,eC,hk⟩<;>rfl
 ·obtain⟨x,f,g,u,j,n,tv,w,i,rfl,hD,gM,eC,hk⟩:=h;refine{_,(A3 (pS 2 Sf.nd (cE sW X D8 (A0 #[6] (A0 #[6] #[12])))) (A3 (pS 3 Sf.nd (cE cQ X D8 (A0 #[13] A4))) (A3 (Av (Ii (Ig (Gv X) #[13] (pv 3)) rfl) (A7 (Eh Ij rfl (by rfl) T.lU T.rF (A0 Ad A4))) Ac) (A3 (pS 4 Sf.nd (pL K T.bM (pX K #[6] A5))) (A3 (Bp (K7 (pv 0) T.aI T.nY.a cZ (X.mono #[]) lY .nil K5 (A0 #[13] (A0 #[13] #[35])))) (A7 (Aa (Ab Aw Ad (pT T.bH (pv 4)))))))))),?_};obtain⟨a,b,TB,B,S,hb,hT⟩:=hD;rcases hk with⟨Z,G,hU,q⟩|⟨h8,dA,VM,OZ,dX,cO,U,he⟩|⟨bad,he⟩
  ·have hw7:g.length<8:=by
    have:=G.2.2.2.1;rw[List.length_append]at this;simp only[List.length_singleton]at this;omega
   refine{_,rfl,x,_,f,_,.ref a,rfl,B,T.aI,T.aM,rfl,_,rfl,x,_,f,_,.ref b,rfl,B,T.aI,T.aH,rfl,_,rfl,E,λ_ _ _ z=>z,.inl {a,b,g,u,j,n,i,rfl,S,hb,hw7,eC,(λy hy=>(Z.1 y hy).1),(λc hc=>(Z.2.1 c hc).1),(G.1 i (by simp)).1,λp H1 s1 hj=>?_}};obtain⟨m,o,U,O,cO⟩:=hj
   have wC:1<=qv j/\qv j<=3001:=by
    cases j with
    |none=>exact{Int.le_refl _,#[]}
    |some c=>
     have:=Z.2.1 c rfl;show 1<=c+1/\c+1<=3001;omega
   refine{_,rfl,p,_,_,_,rfl,rfl,.inr (Ax.of U),rfl,E,λ_ _ _ z=>z,.inl {m,g++[i],j,rfl,O,(λw hw=>(G.1 w hw).1),wC.1,(λw hw=>ea (Ct (n:=12) (by have:=G.1 w hw;omega)) #[]),ea (Ct (n:=12) ()) #[],G.2.2.2.1,G.2.2.2.2,λI R C YB Y qL qJ pM sU=>?_}};have cW:Ck (g++[i]) j R:={qJ,pM,sU};obtain⟨q1,q2⟩:=q R cW;have M:=Y _ _ U;have wD:Im C o (u++[i],n):=cO.same Y;have N:=s1.trans Y;refine{_,rfl,p,_,_,_,rfl,rfl,.inr (Ax.of M),rfl,_,rfl,I,_,rfl,E6.t qL wD,_,rfl,?_};refine Di (λh=>⟨Fo,λJ s3=>q1 h J (N.trans s3)⟩) (λh=>?_)
   have hn:Am R (u++[i],n)=none:=by
    cases e:Am R (u++[i],n)with
    |none=>rfl
    |some v=>exact absurd (by rw[e];rfl) h
   have D:=N _ _ B;obtain⟨wt,wF,YC⟩:=id (S.same N);refine{_,rfl,x,_,f,_,.ref a,rfl,D,T.aI,T.aM,rfl,a,_,_,_,rfl,rfl,.inr (Ax.of wF),rfl,wt,_,rfl,.inr (Ax.of YC),?_};refine{_,rfl,x,f,_,rfl,D,rfl,_,rfl,p,_,_,_,rfl,rfl,.inr (Ax.of M),rfl,_,rfl,p,_,_,_,rfl,rfl,.inr (Ax.of M),rfl,_,rfl,x,f,_,_,_,w,_,_,_,rfl,D,?_};have L:Bw x C (upd C x #[31]):=Bw.ins;have e3:(upd C x #[31]) x=some #[31]:=A2;generalize upd C x #[31]=J at L e3⊢;have mL:((g.map V.int).length:Int)=(g.length:Nat):=by rw[List.length_map]
   refine{_,rfl,_,rfl,B5 {(),()},_,_,rfl,rfl,?_,?_}
   ·rw[mL];exact ea (i0 (Bg (n:=((g.length:Nat):Int)) () ()).len _) #[]
   ·dsimp only;rw[mL];exact q2 hn J ((Bw.of N).trans L) ⟨m,o,I,e3,(O.same Y).but L D,(show Cb C o (u++[i]) n from wD).but L D,L.dT D qL⟩
  ·refine{_,rfl,x,_,f,_,.ref a,rfl,B,T.aI,T.aM,rfl,_,rfl,x,_,f,_,.ref b,rfl,B,T.aI,T.aH,rfl,_,rfl,E,λ_ _ _ z=>z,.inl {a,b,g,u,j,n,i,rfl,S,hb,h8,eC,dA,VM,OZ,λp H1 s1 hj=>?_}};obtain⟨m,o,M,O,cO⟩:=hj;exact{_,rfl,p,_,_,_,rfl,rfl,.inr (Ax.of M),rfl,E,λ_ _ _ z=>z,.inr {m,g++[i],j,rfl,O,dX,(by assumption),(by rw[List.length_append];simp only[List.length_singleton];omega),U,λJ s3=>he J (s1.trans s3)}}
  ·exact{_,rfl,x,_,f,_,.ref a,rfl,B,T.aI,T.aM,rfl,_,rfl,x,_,f,_,.ref b,rfl,B,T.aI,T.aH,rfl,_,rfl,E,λ_ _ _ z=>z,.inr {a,b,g,u,j,n,i,rfl,S,hb,gM,bad,he}}
theorem A3k(sX:{38})(M:{48})(cQ:{30}):{53}:=by
 obtain⟨_,M,lY⟩:=M;refine T.IX.ok λF=>F.jH rk #[0] (λaS A Z s H vs Q E X h=>?_)
 ·rcases h with⟨x,e,o,I,f,n,tv,w,i,rfl,hD,gM,eC,hk⟩<;>rfl
 ·obtain⟨x,e,o,I,f,n,tv,w,i,rfl,hD,gM,eC,hk⟩:=h;refine{_,(A3 (pS 2 rk.nd (cE sX X D8 (A0 #[6] (A0 #[6] #[12])))) (A3 (Bp (K7 (pv 0) T.aI T.nY.a M (X.mono #[]) lY .nil K5 (A0 #[13] (A0 #[13] (A0 (cE cQ X D8 (A0 #[13] A4)) A4))))) (A7 (Aa (Ab Aw Ad (pT T.bH (pv 1))))))),?_};obtain⟨a,b,TB,j,O,R,hT⟩:=hD;rcases hk with⟨g,rfl,eE,N,hU,J,G,q⟩|⟨L,S⟩|⟨rfl,N,S⟩
  ·refine{_,rfl,x,_,e,_,.ref a,rfl,j,T.aI,T.aM,rfl,_,rfl,x,_,e,_,.ref b,rfl,j,T.aI,T.aH,rfl,_,rfl,E,λ_ _ _ z=>z,.inl {a,b,o,I,f,n,g,rfl,O,R,eE,hU,N,gM,(λy hy=>(J.1 y hy).1),(λc hc=>(J.2.1 c hc).1),λp H1 s1 hj=>?_}};obtain⟨m,u,U,bR,cO⟩:=hj
   have wC:1<=qv f/\qv f<=3001:=by
    cases f with
    |none=>exact{Int.le_refl _,#[]}
    |some c=>
     have:=J.2.1 c rfl;show 1<=c+1/\c+1<=3001;omega
   have mJ:=s1 _ _ j;refine{_,rfl,x,e,_,rfl,mJ,rfl,_,rfl,p,_,_,_,rfl,rfl,.inr (Ax.of U),rfl,_,rfl,p,_,_,_,rfl,rfl,.inr (Ax.of U),rfl,_,rfl,p,_,_,_,rfl,rfl,.inr (Ax.of U),rfl,E,λ_ _ _ z=>z,.inl {m,o.eraseIdx g,f,rfl,bR,(λw Y=>(G.1 w Y).1),wC.1,(λw Y=>ea (Ct (n:=12) (by have:=G.1 w Y;omega)) #[]),ea (Ct (n:=12) ()) #[],G.2.2.2.1,G.2.2.2.2,λB cP C YB s2 qL qJ pM sU=>?_}};have cW:Ck (o.eraseIdx g) f cP:={qJ,pM,sU};have bI:=s1.trans s2;have D:=bI _ _ j;refine{x,e,_,_,_,w,_,_,_,rfl,D,?_};have v:Bw x C (upd C x #[32]):=Bw.ins;have e3:(upd C x #[32]) x=some #[32]:=A2;generalize upd C x #[32]=H3 at v e3⊢;refine{_,rfl,_,rfl,B5 {(),()},_,_,rfl,rfl,?_,?_}
   ·exact ea (i0 (Bg (n:=((g:Nat):Int)) () ()).len _) #[]
   ·exact q cP H3 cW ((Bw.of bI).trans v) ⟨m,u,B,e3,(bR.same s2).but v D,(cO.same s2).but v D,v.dT D qL⟩
  ·exact{_,rfl,x,_,e,_,.ref a,rfl,j,T.aI,T.aM,rfl,_,rfl,x,_,e,_,.ref b,rfl,j,T.aI,T.aH,rfl,_,rfl,E,λ_ _ _ z=>z,.inr (.inl {a,b,o,I,f,n,i,rfl,O,R,L,S})}
  ·exact{_,rfl,x,_,e,_,.ref a,rfl,j,T.aI,T.aM,rfl,_,rfl,x,_,e,_,.ref b,rfl,j,T.aI,T.aH,rfl,_,rfl,E,λ_ _ _ z=>z,.inr (.inr {a,b,o,I,f,n,rfl,O,R,N,S})}
theorem we(sY:{22})(kC:{14})(oG:{44})(dE:{20}):{54}:=by
 refine T.zK.ok λF=>F.jH ii #[0] #[2]
 ·rcases h with⟨x,m,j,o,B,n,tv,w,g,f,rfl,hD,hw,U,oA,hm,q⟩|⟨x,m,j,o,B,n,tv,w,g,f,rfl,hD,Z⟩<;>rfl
 ·obtain h:=h;refine{_,(A3 (pS 3 ii.nd (cE sY.o hr D8 (A0 #[6] (A0 #[6] (A0 (pv 1) #[11]))))) (A3 (Av (U8 (pv 3) (by intro _;rfl)) (A3 (Fx (pv 0) (cN kC hr (A0 #[6] A4)) rfl) (A7 (Aa (Ab Aw Ad (cN oG hr #[35]))))) Ac) (A3 (Fx (pv 0) (cE dE.o hr D8 (A0 #[6] (A0 #[6] (A0 (pv 1) #[11])))) rfl) (A7 (Aa (Ab Aw (Ab Aw (Ab Aw Ad (cN oG hr (A0 (pX K #[6] A5) A4))) Ad) (pT T.bH (pX K #[6] A5)))))))),?_};rcases h with⟨x,m,j,o,B,n,tv,w,g,f,rfl,hD,hw,U,oA,hm,q⟩|⟨x,m,j,o,B,n,tv,w,g,f,rfl,hD,Z⟩
  ·obtain⟨a,b,C,X,O,hb,hT⟩:=hD;obtain⟨m1,m2,m3,m4⟩:=Du oA;have m1:o.length=j.length:=m1;have h8:=U.2.2.2.1;have hU:(Au j o g f).length=j.length:=(Dy _ _ _ _).trans m1;refine{_,rfl,x,_,m,_,.ref a,rfl,X,T.aI,T.aM,rfl,_,rfl,x,_,m,_,.ref b,rfl,X,T.aI,T.aH,rfl,_,rfl,_,rfl,E,λ_ _ _ z=>z,.inl {a,b,j,o,B,n,g,f,rfl,O,hb,hw,m1,h8,hm,λl H1 hl G el=>?_}};have rQ:=Ng (L:=Au j o g f) (i:=j.length) ();rw[show(Au j o g f).take j.length=Au j o g f from List.take_of_length_le ()]at rQ;have mJ:=G _ _ X;refine{_,rfl,_,.inl {_,Ar.of el,rfl},?_};refine Di (λwG=>?_) (λwG=>?_)
   ·have M:(0:Int)∈Au j o g f:=Classical.byContradiction λz=>by
     rw[rQ.mpr z]at wG;exact absurd wG #[]
    refine{_,rfl,x,_,m,_,.ref a,rfl,mJ,T.aI,T.aM,rfl,a,j,B,rfl,O.same G,λp J I cO=>?_};have D:=I _ _ mJ;refine{_,rfl,x,_,m,_,rfl,D,T.aI,T.aH,(by show 4<1000;decide),?_};rw[Oy];have v:Bw x J (upd J x #[5]):=Bw.ins;have N:(upd J x #[5]) x=some #[5]:=A2;generalize upd J x #[5]=H3 at v N⊢;have bb:=((Bw.of (x:=x) G).trans (Bw.of I)).trans v
    have NC:∀y∈Bx (Au j o g f) j.length,0<=y/\y<10^100:=λy L=>by
     unfold Bx at L;obtain⟨i,hi,e⟩:=List.mem_filterMap.mp L;have jE:=mx.mp hi;split at e
     ·have e':(i:Int)=y:=en e;omega
     ·cases e
    have zV:=Ec (Au j o g f) j.length;have R:=λY (s:A6 H3 Y)=>q Y (bb.trans (Bw.of s));unfold Jc Pa at R;rw[if_pos M,if_pos M]at R;refine{_,rfl,l,_,rfl,.inl (v.lst D (I _ _ el)),NC,(),λH4 S=>?_};refine{_,_,rfl,rfl,?_,R H4 S (B7.same S {a,p,C,N,((O.same G).same I).but v D,cO.but v D,v.dT D (I _ _ (G _ _ hT))})};exact ea (i0 (K2 NC ()) _) #[]
   ·have M:(0:Int)∉Au j o g f:=rQ.mp (by
     cases DB:Bx (Au j o g f) j.length with
     |nil=>rfl
     |cons a r=>exact absurd (by rw[DB];rfl) wG)
    have ET:∀y∈Au j o g f,0<=y/\y<10^100:=λy L=>by
     have key:0<=y/\y<=3000:=by
      have h1:∀y∈o.map (λx=>x-1),0<=y/\y<=3000:=λy L=>by
       obtain⟨z,M,rfl⟩:=ft.mp L;obtain⟨i,hi,e⟩:=List.getElem_of_mem M;have:=m2 i z j[i] (by rw[<- e];exact d3 hi) (d3 ());have:=U.1 j[i] (ml _);omega
      unfold Au at L;split at L
      ·exact h1 y L
      ·rcases List.mem_or_eq_of_mem_set L with z|z
       ·exact h1 y z
       ·rw[z,List.getD_eq_getElem?_getD,List.getElem?_eq_getElem hw];have:=U.1 j[g] (ml _);show 0<=j[g]/\j[g]<=3000;omega
     omega
    have iY:0<=Bl B n f/\Bl B n f<10^100:=by
     have h3:qv B<=3001:=by
      cases B with
      |none=>decide
      |some c=>
       have:=U.2.1 c rfl;show c+1<=3001;omega
     unfold Bl;split
     ·cases B with
      |none=>exact{Int.le_refl _,#[]}
      |some c=>
       have:=U.2.1 c rfl;show 0<=c/\c<_;omega
     ·simp only at m4;omega
    refine{_,rfl,x,_,m,_,.ref a,rfl,mJ,T.aI,T.aM,rfl,_,rfl,x,_,m,_,.ref b,rfl,mJ,T.aI,T.aH,rfl,_,rfl,_,rfl,E,λ_ _ _ z=>z,.inl {a,b,j,o,B,n,g,f,rfl,O.same G,hb.same G,hw,m1,h8,hm,(λz=>absurd z M),λ_ p J I cO=>?_}};have D:=I _ _ mJ;refine{_,rfl,x,_,m,_,rfl,D,T.aI,T.aH,(by show 4<1000;decide),?_};rw[Oy];have v:Bw x J (upd J x #[5]):=Bw.ins;have N:(upd J x #[5]) x=some #[5]:=A2;generalize upd J x #[5]=H3 at v N⊢;have bb:=((Bw.of (x:=x) G).trans (Bw.of I)).trans v;have R:=λY (s:A6 H3 Y)=>q Y (bb.trans (Bw.of s));unfold Jc Pa at R;rw[if_neg M,if_neg M]at R;have wD:=cO.but v D;obtain⟨u,pR,wH⟩:=id wD;refine{_,rfl,x,_,m,_,.ref p,rfl,N,T.aI,T.aH,rfl,p,_,_,_,rfl,rfl,.inr (Ax.of pR),rfl,u,_,rfl,.inr wH,ET,(),λH4 S=>?_};have PU:=K2 ET ();have YD:=(Bg iY.1 iY.2).len;refine{_,_,rfl,rfl,?_,_,_,rfl,rfl,?_,_,rfl,x,_,m,_,.ref p,rfl,S _ _ N,T.aI,T.aH,rfl,p,_,_,_,rfl,rfl,.inr (Ax.of (S _ _ pR)),rfl,_,rfl,B5 iY,_,_,rfl,rfl,?_,R H4 S (B7.same S {a,p,C,N,((O.same G).same I).but v D,wD,v.dT D (I _ _ (G _ _ hT))})}
    ·exact ea (i0 PU _) #[]
    ·rw[Co];exact ea (Nat.add_le_add_right (i0 PU _) _) #[]
    ·rw[Co,Co];exact ea (Nat.add_le_add (Nat.add_le_add_right (i0 PU _) _) YD) #[]
  ·obtain⟨a,b,C,X,O,hb,hT⟩:=hD;exact{_,rfl,x,_,m,_,.ref a,rfl,X,T.aI,T.aM,rfl,_,rfl,x,_,m,_,.ref b,rfl,X,T.aI,T.aH,rfl,_,rfl,_,rfl,E,λ_ _ _ z=>z,.inr {a,b,j,o,B,n,g,f,rfl,O,hb,Z}}
theorem A3h(sZ:{39})(kD:{34})(lZ:{52})(tE:{53})(mB:{54}):{55}:=by
 obtain⟨_,lZ,ND⟩:=lZ;obtain⟨_,tE,YE⟩:=tE;obtain⟨_,mB,NF⟩:=mB;refine T.IT.ok λF=>F.jH rj #[0] (λaS A outer s H vs Q E M h=>?_)
 ·rcases h with⟨x,g,hd,i,rfl,D⟩<;>rfl
 ·obtain⟨x,g,hd,i,rfl,D⟩:=h;refine{_,(A3 (Av (pD Bk (pv 1) Ad) (A3 (pS 3 rj.nd (cN sZ M (A0 #[6] #[11]))) (A7 (Aa (Ou (pD Fw (pv 3) B9) Ad (pT T.bH (pv 3)))))) Ac) (A3 (Av (pD Bk (pv 1) Ad) (A7 (Aa (Ou (Bd (cE kD M D8 (A0 #[6] (A0 #[6] (A0 #[6] #[11]))))) Ad Ad))) Ac) (A3 (Av (pD Bk (pv 1) Ad) (A7 (Aa (Gj (pv 0) T.aI T.zL.a lZ (M.mono #[]) ND .nil D8 #[11]))) Ac) (A3 (Av (pD Bk (pv 1) Ad) (A7 (Aa (Gj (pv 0) T.aI T.IX.a tE (M.mono #[]) YE .nil D8 #[11]))) Ac) (A7 (Aa (Gj (pv 0) T.aI T.zK.a mB (M.mono #[]) NF .nil D8 (A0 (pv 2) (A0 (pC Bk (pv 1) Ad) A4))))))))),?_};rcases D with⟨y,v,u,n,B,w,o,e,rfl,rfl,m,hw,aJ,oA,hm,q⟩|⟨y,v,u,n,B,w,e,rfl,m,R⟩|⟨y,v,u,n,B,w,o,rfl,rfl,m,mO,hw,hl,h8,q⟩|⟨y,v,u,n,B,w,rfl,m,iL,he⟩|⟨hv,sv,tb,w,rfl,f,p,us,rs,rfl,hp,all,hl,hwf,G,q1⟩|⟨y,v,u,n,B,w,rfl,m,Y,U,D⟩|⟨y,v,u,n,B,w,rfl,m,Y,U,D⟩
  ·obtain⟨a,b,C,f,J,L,O⟩:=id m;refine{_,rfl,rfl,_,rfl,As (by cases e<;>decide) ?_};refine{_,rfl,rfl,_,rfl,As (by cases e<;>decide) ?_};refine{_,rfl,rfl,_,rfl,As (by cases e<;>decide) ?_};refine{_,rfl,rfl,_,rfl,As (by cases e<;>decide) ?_};have X:decide (V.str (Fg e)=V.str #["lost"])=e:=by cases e<;>decide
   have S:[V.ref x,V.int (o:Int),V.bl (decide (V.str (Fg e)=V.str #["lost"]))]=[V.ref x,V.int (o:Int),V.bl e]:=by rw[X]
   exact{_,rfl,x,g,_,rfl,f,rfl,_,rfl,_,rfl,rfl,E,λ_ _ _ z=>z,.inl {x,g,y,v,u,n,B,w,o,e,S,m,hw,aJ,oA,hm,q}}
  ·obtain⟨a,b,C,f,J,L,O⟩:=id m;refine{_,rfl,rfl,_,rfl,As (by cases e<;>decide) ?_};refine{_,rfl,rfl,_,rfl,As (by cases e<;>decide) ?_};refine{_,rfl,rfl,_,rfl,As (by cases e<;>decide) ?_};refine{_,rfl,rfl,_,rfl,As (by cases e<;>decide) ?_};have X:decide (V.str (Fg e)=V.str #["lost"])=e:=by cases e<;>decide
   have S:[V.ref x,V.int i,V.bl (decide (V.str (Fg e)=V.str #["lost"]))]=[V.ref x,V.int i,V.bl e]:=by rw[X]
   exact{_,rfl,x,g,_,rfl,f,rfl,_,rfl,_,rfl,rfl,E,λ_ _ _ z=>z,.inr {x,g,y,v,u,n,B,w,i,e,S,m,R}}
  ·obtain⟨a,b,C,f,J,L,O⟩:=id m;refine{_,rfl,rfl,_,rfl,As #[] ?_};refine{_,rfl,rfl,_,rfl,Cz #[] ?_};refine{_,rfl,x,_,g,_,.ref a,rfl,f,T.aI,T.aM,rfl,_,rfl,x,_,g,_,.ref C,rfl,f,T.aI,T.bL,rfl,_,rfl,x,_,g,_,.ref b,rfl,f,T.aI,T.aH,rfl,_,rfl,E,λ_ _ _ z=>z,.inl {a,C,b,y,v,u,n,_,o,B,rfl,rfl,J,L,O,mO,hw,hl,h8,λI N=>{_,rfl,?_}}};have G:=q I N;cases qH:Ej B y v u n o with
   |true=>
    rw[qH]at G;exact Cz rfl G
   |false=>
    rw[qH]at G;exact As rfl G
  ·obtain⟨a,b,C,f,J,L,O⟩:=id m;refine{_,rfl,rfl,_,rfl,As #[] ?_};refine{_,rfl,rfl,_,rfl,Cz #[] ?_};exact{_,rfl,x,_,g,_,.ref a,rfl,f,T.aI,T.aM,rfl,_,rfl,x,_,g,_,.ref C,rfl,f,T.aI,T.bL,rfl,_,rfl,x,_,g,_,.ref b,rfl,f,T.aI,T.aH,rfl,_,rfl,E,λ_ _ _ z=>z,.inr {a,C,b,y,v,u,n,i,rfl,J,L,.inl {iL,he}}}
  ·refine{_,rfl,rfl,_,rfl,Cz #[] ?_};refine{_,rfl,x,_,g,_,.ref p,rfl,f,T.aI,T.cU,rfl,_,rfl,p,us,rs,i,rfl,hp,all,hwf,λiL I N=>?_,λj r I hj Z N=>?_}
   ·exact{_,rfl,rfl,_,rfl,Cz rfl (G iL I N)}
   ·have:=(b0.mp hj).1;exact{_,rfl,rfl,_,rfl,As rfl {_,rfl,j,rfl,B5 {(),()},q1 j r I hj Z N}}
  ·obtain⟨a,b,C,f,_⟩:=id m;refine{_,rfl,rfl,_,rfl,As #[] ?_};refine{_,rfl,rfl,_,rfl,As #[] ?_};refine{_,rfl,rfl,_,rfl,Cz #[] ?_};exact{_,rfl,x,g,_,rfl,f,rfl,_,rfl,E,λ_ _ _ z=>z,x,g,y,v,u,n,B,w,i,rfl,m,Y,U,D}
  ·obtain⟨a,b,C,f,_⟩:=id m;refine{_,rfl,rfl,_,rfl,As #[] ?_};refine{_,rfl,rfl,_,rfl,As #[] ?_};refine{_,rfl,rfl,_,rfl,As #[] ?_};refine{_,rfl,rfl,_,rfl,Cz #[] ?_};exact{_,rfl,x,g,_,rfl,f,rfl,_,rfl,E,λ_ _ _ z=>z,x,g,y,v,u,n,B,w,i,rfl,m,Y,U,D}
theorem xq(tH:{43})(tI:{47})(mC:{49})(gA:{13})(tJ:{50})(tK:{12})(kE:{33})(tL:{51})(tM:{55}):{56}:=by
 obtain⟨_,tI,YF⟩:=tI;obtain⟨_,mC,NG⟩:=mC;obtain⟨_,tJ,YG⟩:=tJ;obtain⟨_,tL,YH⟩:=tL;obtain⟨_,tM,YI⟩:=tM;refine T.zI.ok λF=>F.jH Sh #[0] (λaS A outer s H vs Q E o h=>?_)
 ·rcases h with⟨x,f,L,hd,J,N,R,Z,tb,w,rfl,S,fK,CZ,pU,hk⟩<;>rfl
 ·obtain⟨x,f,L,hd,J,N,R,Z,tb,w,rfl,S,fK,CZ,pU,hk⟩:=h;refine{_,(A3 (pS 2 Sh.nd (cN tH o #[12])) (A3 (pS 3 Sh.nd #[13]) (A3 (pS 4 Sh.nd #[13]) (A3 (Bp (K7 (pv 0) T.aI T.IU.a tI (o.mono #[]) YF .nil K5 #[35])) (A3 (Av (pD Bk (pv 3) Ad) (A7 (Aa (Gj (pv 0) T.aI T.zJ.a mC (o.mono #[]) NG .nil D8 (A0 (cE gA.o o D8 (A0 (pv 4) (A0 #[13] A4))) A4)))) Ac) (A3 (Av (pD Bk (pv 3) Ad) (A7 (Aa (K7 (pv 0) T.aI T.IV.a tJ (o.mono #[]) YG .nil K5 (A0 (cN tK o #[34]) A4)))) Ac) (A3 (Av (pD Bk (pv 3) Ad) (A7 (Aa (pT T.bH (cN kE o (A0 #[6] (A0 #[6] (A0 #[6] A4))))))) Ac) (A3 (Av (pD Bk (pv 3) Ad) (A7 (Aa (g0 (pv 0) T.aI T.IW.a tL (o.mono #[]) YH .nil K5))) Ac) (A7 (Aa (Gj (pv 0) T.aI T.IT.a tM (o.mono #[]) YI .nil D8 (A0 (pv 3) (A0 (pX K (pv 4) A5) A4))))))))))))),?_};refine{_,rfl,L,hd,J,N,rfl,fK,λp l H1 X O el=>?_};refine{_,rfl,p,_,_,_,rfl,rfl,.inr (Ax.of O),rfl,?_};refine{_,rfl,p,_,_,_,rfl,rfl,.inr (Ax.of O),rfl,?_};refine{_,rfl,x,f,_,rfl,X _ _ S,rfl,_,rfl,x,f,R,Z,tb,w,hd,rfl,X _ _ S,CZ,pU,λH2 Y=>?_};have g:=X.trans Y;have I:=g _ _ S;have ep2:=Y _ _ O;have MZ:=Y _ _ el;clear X Y O el;rcases hk with⟨rfl,m,q⟩|⟨ws,ls,NH,n,M,rfl,C,mO,m,hl,q⟩|⟨ws,ls,NH,n,M,rfl,C,cW,q⟩|⟨b,rfl,hX,hT,q1⟩|⟨i,rfl,U,YJ⟩
  ·refine{_,rfl,rfl,_,rfl,Cz #[] ?_};refine{_,rfl,x,f,_,rfl,I,rfl,_,rfl,_,rfl,p,_,_,_,rfl,rfl,.inr (Ax.of ep2),rfl,E,λ_ _ _ z=>z,.inr (.inr {l,J,N,rfl,MZ,m.2.2.1,m.2.2.2.1,(λy hy=>(m.1 y hy).1),(λc hc=>(m.2.1 c hc).1),λa H3 B ha=>?_})};exact{E,λ_ _ _ z=>z,.inl {x,f,a,R,Z,tb,w,J,N,rfl,B _ _ I,ha,m,λM H4 G C cW=>q M H4 ((Bw.of (g.trans B)).trans G) C cW}}
  ·obtain⟨a,b,TB,D,ha,hb,hT⟩:=B7.same g C;refine{_,rfl,rfl,_,rfl,As #[] ?_};refine{_,rfl,rfl,_,rfl,As #[] ?_};refine{_,rfl,rfl,_,rfl,Cz #[] ?_};refine{_,rfl,x,_,f,_,.ref a,rfl,D,T.aI,T.aM,rfl,_,rfl,x,_,f,_,.ref TB,rfl,D,T.aI,T.bL,rfl,_,rfl,x,_,f,_,.ref b,rfl,D,T.aI,T.aH,rfl,a,TB,b,ws,ls,NH,n,M,rfl,ha,hb,hT,mO,m.2.2.1,hl,m.2.2.2.1,(λy hy=>(m.1 y hy).1),λj H3 B wB=>?_};have hj:=wB.1;have h8:=m.2.2.2.1;exact{_,rfl,B5 {(),()},q j H3 (g.trans B) wB}
  ·refine{_,rfl,rfl,_,rfl,As #[] ?_};refine{_,rfl,rfl,_,rfl,As #[] ?_};refine{_,rfl,rfl,_,rfl,As #[] ?_};refine{_,rfl,rfl,_,rfl,Cz #[] ?_};obtain⟨a,b,TB,D,_⟩:=B7.same g C;exact{_,rfl,x,f,_,rfl,D,rfl,x,f,ws,ls,NH,n,M,w,rfl,B7.same g C,cW,q _ g}
  ·refine{_,rfl,rfl,_,rfl,As #[] ?_};refine{_,rfl,rfl,_,rfl,Cz #[] ?_};refine{_,rfl,x,f,_,rfl,I,rfl,_,rfl,l,J,b,rfl,MZ,hX,g _ _ hT,λt p' us rs H3 B ht hp et oU all jD wQ=>?_};obtain⟨_,PY,gY⟩:=Tn hX wQ;obtain⟨_,hn4,_,_,_,dX,zU,-⟩:=hX.a;have oH:=B _ _ I;exact{x,f,R,Z,tb,w,t,p',b,us,rs,rfl,oH,et,oU,all,{(),()},(),(λr iB=>by have:=gY r iB;exact{{(),()},(),()}),λH4 G AE=>q1 p' us rs H4 ((Bw.of (g.trans B)).trans G) (g.free hp) AE (G.lst oH oU) (all.imp λr v ⟨u,e,z⟩=>{u,e,G.tup oH z}) jD wQ}
  ·refine{_,rfl,rfl,_,rfl,As (jJ λz=>by injection z with z;subst z;exact absurd U #[]) ?_};refine{_,rfl,rfl,_,rfl,As (jJ λz=>by injection z with z;subst z;exact absurd U #[]) ?_};refine{_,rfl,rfl,_,rfl,As (jJ λz=>by injection z with z;subst z;exact absurd U #[]) ?_};refine{_,rfl,rfl,_,rfl,As (jJ λz=>by injection z with z;subst z;exact absurd U #[]) ?_};exact{_,rfl,x,f,_,rfl,I,rfl,_,rfl,_,rfl,l,_,_,_,rfl,rfl,.inl (Ar.of MZ),PR,E,λ_ _ _ z=>z,YJ _ g}
theorem wn:{57}:=by
 refine T.KR.ok λF=>F.okN zz (λm H Q E h=>?_) (λn A j s H m Q E o h=>?_)
 ·rcases h with⟨a,i,k,rfl,f,g,q⟩<;>rfl
 ·obtain⟨a,i,k,rfl,f,g,q⟩:=h;refine{_,(A3 (Av (pD Er (pv 1) (pL K T.bM (pv 0))) (A7 (Aa (pX K (pv 0) (pv 1)))) Ac) (A7 (Aa A5))),?_};refine{_,rfl,_,rfl,a,_,rfl,.inl f,_,_,rfl,rfl,_,rfl,?_};refine Di (λe=>?_) (λe=>?_)
  ·have b:k<i.length:=by simpa using e
   exact{_,rfl,_,rfl,a,_,_,_,rfl,rfl,.inl f,k9 g b,q}
  ·have b:¬k<i.length:=by simpa using e
   rw[Yy g b]at q;exact q
theorem yn:{58}:=by
 refine T.KS.ok λF=>F.okN A09 (λf H Q E h=>?_) (λg A b s H f Q E i h=>?_)
 ·rcases h with⟨c,rfl,e,q⟩<;>rfl
 ·obtain⟨c,rfl,e,q⟩:=h;refine{_,(A7 (Aa (Ab B6 (Ab Fp (pv 0) A5) (Ab S6 A5 A5)))),?_};refine{_,rfl,_,_,rfl,rfl,Xk e kc #[],_,_,rfl,rfl,{#[],#[],#[]},_,_,rfl,rfl,o4,?_};have h:=B3 (c*618033988749894848204586834365638117720309179805762862137) o4;exact q _ h.1 (Int.lt_trans h.2 A5e)
theorem ya:{59}:=by
 refine T.KU.ok λF=>F.okN Eo #[0] #[2]
 ·rcases h with⟨n,rfl,hn,q⟩<;>rfl
 ·obtain⟨n,rfl,hn,q⟩:=h;refine{_,(A3 (pS 1 Eo.nd (B1 (A0 (Ah (A0 (Ah (A0 A5 #[27])) (A0 B9 A4))) (A0 (Ah (A0 (Ah (A0 A5 #[27])) (A0 B9 A4))) (A0 (Ah (A0 (Ah #[27]) #[27])) (A0 (Ah (A0 (Ah #[27]) #[27])) A4)))))) (A3 (pS 1 Eo.nd (Ab Vx (pv 1) (B1 (A0 (Ah (A0 (Ah (A0 A5 #[27])) (A0 B9 A4))) (A0 (Ah (A0 (Ah (A0 A5 #[27])) (A0 B9 A4))) (A0 (Ah (A0 (Ah #[27]) #[27])) (A0 (Ah (A0 (Ah #[27]) (A0 B9 A4))) A4))))))) (A3 (Av (pD Bk (Ab B6 (pv 0) A5) A5) (A7 (Aa (Ah (A0 (Ah (A0 A5 (A0 A5 (A0 A5 (A0 A5 (A0 A5 (A0 A5 (A0 A5 (A0 (Ab Cw A5 (Ab B6 (Ab Ay (pv 0) A5) A5)) A4))))))))) (A0 B9 A4))))) Ac) (A3 (Av (pD Er (Ab B6 (pv 0) A5) A5) (A7 (Aa (pX K (pv 1) (Ab B6 (Ab Ay (pv 0) A5) A5)))) Ac) (A3 (pS 2 Eo.nd A5) (A3 (pS 3 Eo.nd B9) (A3 (Cc (pD Bk (Ab B6 (Ab Ay (pv 0) A5) A5) A5) (A3 (pS 3 Eo.nd (Ab Cw A5 (Ab B6 (Ab Ay (pv 0) A5) A5))) (A7 (pS 2 Eo.nd (Ab Ay (pv 2) (Ab Cw (pv 3) A5))))) Ac) (A3 (pS 4 Eo.nd (B1 A4)) (A3 (pS 0 Eo.nd (Ab Ay (pv 0) A5)) (A3 (Bt jG rfl (D4 (by rfl) T.cA (A0 (Ab Cw A5 (Ab B6 (pv 0) A5)) A4)) (pN 5 Eo.nd) (A3 (pS 0 Eo.nd (Ab Ay (pv 0) A5)) (A3 (Bp (D9 PySem.F.plainAttrs_list PySem.F.slot_list_append PySem.F.type_list_append Br (pv 4) (A0 (Aq (Yt rfl) (by rfl) T.iV boot_min (A0 (Ab Cw A5 (Ab B6 (pv 0) A5)) #[11])) A4))) (A7 (pS 2 Eo.nd (Ab Ay (pv 2) (pX K (pv 4) (M6 Il A5)))))))) (A7 (Aa (Ah (A0 (D3 Fs (by rfl) T.kR boot_tuple #[34]) #[35])))))))))))))),?_};refine{Af,λJ PX=>?_};exists H,J,PX,sa0,ea0,QT,(.tup [.int 3,.int 3]);refine{Af,λm DD=>?_};exists QT,m,DD,YK,eb0,G0,(.tup [.ref J,.bB]);have hh0:An G0 m [3,3] none:={J,eb0,YK _ _ ea0};have s0:=(sa0).trans YK;refine{Af,λM CZ=>?_};exists G0,M,CZ,sa1,ea1,QU,(.tup [.int 2,.int 4]);refine{Af,λo vJ=>?_};exists QU,o,vJ,YL,QQ,G1,(.tup [.ref M,.bB]);have hh1:An G1 o [2,4] none:={M,QQ,YL _ _ ea1};have s1:=(sa1).trans YL;refine{Af,λN pU=>?_};exists G1,N,pU,sa2,ea2,QV,(.tup [.int 4]);refine{Af,λv CN=>?_};exists QV,v,CN,YM,QR,G2,(.tup [.ref N,.int 1]);have QW:An G2 v [4] (some 1):={N,QR,YM _ _ ea2};have s2:=(sa2).trans YM;refine{Af,λO ht3=>?_};exists G2,O,ht3,sa3,ea3,QX,(.tup [.int 3]);refine{Af,λy hu3=>?_};exists QX,y,hu3,YN,eb3,G3,(.tup [.ref O,.int 2]);have hh3:An G3 y [3] (some 2):={O,eb3,YN _ _ ea3};have s3:=(sa3).trans YN;refine{Af,λL1 hL1=>?_};exists G3,L1,hL1,pV,NI,F1,(.lst [.ref m,.ref o,.ref v,.ref y]);have VU:=((s0.trans s1).trans s2).trans s3;refine{_,rfl,?_};refine{Af,λR ht4=>?_};exists F1,R,ht4,sa4,ea4,QY,(.tup [.int 4,.int 2]);refine{Af,λz hu4=>?_};exists QY,z,hu4,YO,eb4,G4,(.tup [.ref R,.bB]);have NJ:An G4 z [4,2] none:={R,eb4,YO _ _ ea4};have s4:=(sa4).trans YO;refine{Af,λS YQ=>?_};exists G4,S,YQ,sa5,ea5,QZ,(.tup [.int 4,.int 4]);refine{Af,λB hu5=>?_};exists QZ,B,hu5,YR,eb5,G5,(.tup [.ref S,.bB]);have hh5:An G5 B [4,4] none:={S,eb5,YR _ _ ea5};have s5:=(sa5).trans YR;refine{Af,λU EU=>?_};exists G5,U,EU,sa6,ea6,RA,(.tup [.int 5]);refine{Af,λC hu6=>?_};exists RA,C,hu6,YS,eb6,G6,(.tup [.ref U,.int 1]);have hh6:An G6 C [5] (some 1):={U,eb6,YS _ _ ea6};have s6:=(sa6).trans YS;refine{Af,λX QL=>?_};exists G6,X,QL,sa7,ea7,RB,(.tup [.int 6]);refine{Af,λD hu7=>?_};exists RB,D,hu7,YT,eb7,G7,(.tup [.ref X,.bB]);have hh7:An G7 D [6] none:={X,eb7,YT _ _ ea7};have s7:=(sa7).trans YT;refine{Af,λL2 hL2=>?_};exists G7,L2,hL2,G,NK,F2,(.lst [.ref z,.ref B,.ref C,.ref D]);have EV:=((s4.trans s5).trans s6).trans s7;have sF:=(VU.trans pV).trans (EV.trans G);refine{L1,L2,_,_,rfl,rfl,(EV.trans G) _ _ NI,NK,l7 (Aj (by simp)),λL hL=>?_};exists F2,L,hL,I,eL,Z,(.lst ([.ref m,.ref o,.ref v,.ref y]++[V.ref z,.ref B,.ref C,.ref D]));have YU:=sF.trans I;have k0:=(((s1.trans s2).trans s3).trans pV).trans ((EV.trans G).trans I);have k1:=((s2.trans s3).trans pV).trans ((EV.trans G).trans I);have k2:=(s3.trans pV).trans ((EV.trans G).trans I);have k3:=pV.trans ((EV.trans G).trans I);have k4:=(((s5.trans s6).trans s7).trans G).trans I;have k5:=((s6.trans s7).trans G).trans I;have k6:=(s7.trans G).trans I;have k7:=G.trans I
  have all:∀u∈[V.ref m,.ref o,.ref v,.ref y]++[V.ref z,.ref B,.ref C,.ref D],∃p j g,u=.ref p/\An Z p j g/\Fj j g:=λu hu=>by
   have:u=.ref m\/u=.ref o\/u=.ref v\/u=.ref y\/u=.ref z\/u=.ref B\/u=.ref C\/u=.ref D:=by simpa using hu
   rcases this with e|e|e|e|e|e|e|e
   ·exact{_,_,_,e,hh0.same k0,Ef #[]}
   ·exact{_,_,_,e,hh1.same k1,Ef #[]}
   ·exact{_,_,_,e,QW.same k2,Ef #[]}
   ·exact{_,_,_,e,hh3.same k3,Ef #[]}
   ·exact{_,_,_,e,NJ.same k4,Ef #[]}
   ·exact{_,_,_,e,hh5.same k5,Ef #[]}
   ·exact{_,_,_,e,hh6.same k6,Ef #[]}
   ·exact{_,_,_,e,hh7.same k7,Ef #[]}
  clear hh0 k0 hh1 k1 QW k2 hh3 k3 NJ k4 hh5 k5 hh6 k6 hh7 k7;refine{_,rfl,_,_,rfl,rfl,by simp,rfl,_,rfl,?_};refine Di (λ_=>?_) (λ_=>?_)
  ·have m6:=B3 (n/8) (show(0:Int)<6 by decide);refine{_,rfl,_,_,rfl,rfl,{#[],#[]},_,_,rfl,rfl,by simp,_,_,rfl,rfl,Af,λt ht=>?_};dsimp only;generalize Y:1+n/8%6=w;exists Z,t,ht,s8,e8,F4,(.tup [.int 1,.int 1,.int 1,.int 1,.int 1,.int 1,.int 1,.int w]);refine{Af,λp hp=>?_};refine q p [1,1,1,1,1,1,1,w] none _ ((YU.trans s8).trans (A6.upd hp)) ⟨t,A2,A6.upd hp _ _ e8⟩ ?_;refine{{λx hx=>?_,(λc hc=>by cases hc),by simp,by simp,?_},?_}
   ·have:x=1\/x=w:=by simpa using hx
    rcases this with e|e<;>omega
   ·show 1*1*1*1*1*1*1*1*w<=3000;omega
   ·show 1*1*1*1*1*1*1*1*w<=40;omega
  refine{_,rfl,_,_,rfl,rfl,by simp,_,_,rfl,rfl,_,rfl,?_};refine Di (λ_=>?_) (λ_=>?_)
  ·have m8:=B3 (n/8) (show(0:Int)<8 by decide);obtain⟨i,hi⟩:∃i:Nat,n/8%8=(i:Int):={(n/8%8).toNat,()};have pE:i<([V.ref m,.ref o,.ref v,.ref y]++[V.ref z,.ref B,.ref C,.ref D]).length:=by show i<8;omega
   obtain⟨p,j,g,e,hh,hs⟩:=all _ (ml pE);refine{_,rfl,_,rfl,_,_,rfl,rfl,{#[],#[]},_,_,rfl,rfl,by simp,L,_,_,.ref p,rfl,rfl,.inl (Ar.of eL),?_,q p j g Z YU hh hs};rw[hi];exact Et (by rw[List.getElem?_eq_getElem pE,e])
  have h2:=B3 (n/16) (show(0:Int)<2 by decide)
  have hJ:∀c:Int,1<=c->c<=2->1<=12/(c+1)/\12/(c+1)<=12/\(c+1)*(12/(c+1))<=12:=λc h1 h2=>by
   refine{?_,Int.ediv_le_self _ #[],Int.mul_ediv_self_le ()};rw[Int.le_ediv_iff_mul_le ()];omega
  refine{_,rfl,_,_,rfl,rfl,{#[],#[]},_,_,rfl,rfl,by simp,rfl,_,rfl,(λσ' H'=>Pt λ(g:nf) (b:Int)=>Hs (σ'=[some (.int n),some (.ref L),some (.int b),some (vO g),none,none]) (H'=Z) ((∀c,g=some c->1<=c/\c<=2)) (1<=b) (b<=12) (qv g*b<=12)),λe=>?_,λe=>?_,?_}
  ·have hj:=hJ (1+n/16%2) () ();exact{_,rfl,_,_,rfl,rfl,{#[],#[]},_,_,rfl,rfl,by simp,_,_,rfl,rfl,_,rfl,_,rfl,_,_,rfl,rfl,_,_,rfl,rfl,{(),()},some (1+n/16%2),_,rfl,rfl,(λc hc=>by cases hc;omega),hj.1,hj.2.1,hj.2.2}
  ·exact{none,12,rfl,rfl,(λc hc=>by cases hc),#[],#[],#[]}
  rintro σ' F4 ⟨g,NL,rfl,rfl,gZ,kA,jS,bW⟩
  have wC:1<=qv g:=by
   cases g with
   |none=>decide
   |some c=>
    have:=gZ c rfl;show 1<=c+1;omega
  refine{Af,λW hW=>?_};exists F4,W,hW,s5,e5,F5,(.lst []);refine{_,rfl,_,_,rfl,rfl,{#[],#[]},?_};have h3:=B3 (n/32) (show(0:Int)<3 by decide);refine{_,rfl,_,_,rfl,rfl,by simp,_,_,rfl,rfl,_,rfl,(),(),?_}
  refine Ge (n:=(1+n/32%3).toNat) (λi σ H'=>Ut λ(j:mY) (f b:Int) (v5:Option V)=>R6 (σ=[some (.int f),some (.ref L),some (.int b),some (vO g),some (.ref W),v5]) (0<=f) (j.length=i) ((∀w∈j,1<=w/\w<=12)) (1<=b) (b<=12) (Ao (qv g) j*b<=12) (H' W=some (.lst (j.map V.int))) (A6 F4 H'))
   ⟨[],n/32,NL,none,rfl,(),rfl,(λw Y=>by cases Y),kA,jS,bW,e5,s5⟩ ?_ ?_
  ·rintro i σ H2 hi ⟨j,f,b,v5,rfl,hnu,mU,dA,hro,NM,hpr,sQ,s2⟩;have hxm:=B3 (f/7) (show(0:Int)<6 by decide);refine{_,rfl,_,_,rfl,rfl,{#[],#[]},?_};refine{_,rfl,.inl {rfl,_,Ar.of sQ},_,rfl,_,_,rfl,rfl,by simp,_,_,rfl,rfl,_,rfl,_,_,rfl,W,_,_,rfl,rfl,sQ,Aj (by rw[List.length_map];omega),?_};have hmn:=lh (a:=1+f/7%6) (b:=b);have h4:(upd H2 W (.lst (j.map V.int++[V.int #[19]]))) W=some (.lst (j.map V.int++[V.int #[19]])):=A2;have QE:1<=#[19]/\#[19]<=b:=()
   have hq:1<=b/#[19]:=by
    rw[Int.le_ediv_iff_mul_le ()];omega
   refine{_,rfl,_,rfl,_,rfl,W,_,_,_,rfl,rfl,.inl (Ar.of h4),Yl _ _,_,_,rfl,rfl,{(),()},?_};refine{j++[if b<1+f/7%6 then b else 1+f/7%6],f/7,b/#[19],_,rfl,(),eg mU,Yk dA (),hq,mv (Int.ediv_le_self _ ()) NM,?_,h4.trans (congrArg some (congrArg HO.lst (Gf _ _))),s2.new hW};clear hmn;generalize #[19]=w at h4 hq QE⊢;rw[Gx];have hp0:=Hl (a:=qv g) (λw Y=>(dA w Y).1) wC;have h5:w*(b/w)<=b:=Int.mul_ediv_self_le ();have h6:Ao (qv g) j*(w*(b/w))<=Ao (qv g) j*b:=i3 h5 ();rw[Int.mul_assoc];omega
  rintro σ H2 ⟨j,f,b,v5,rfl,hnu,mU,dA,hro,NM,hpr,sQ,s2⟩;have hp0:=Hl (a:=qv g) (λw Y=>(dA w Y).1) wC
  have hpb:Ao (qv g) j<=12:=by
   have:Ao (qv g) j*1<=Ao (qv g) j*b:=i3 hro ();omega
  have aJ:D6 j g:={λw Y=>by have:=dA w Y;omega,λc hc=>by have:=gZ c hc;omega,(),(),()};refine{_,rfl,W,_,rfl,.inl {Ar.of sQ,λt ht=>?_}};have s9:A6 H2 (upd H2 t (.tup (j.map V.int))):=A6.upd ht;refine{_,rfl,Af,λp hp=>?_};exact q p j g _ (((YU.trans s2).trans s9).trans (A6.upd hp)) ⟨t,A2,A6.upd hp _ _ A2⟩ ⟨aJ,()⟩
theorem yb:{60}:=by
 refine T.KW.ok λF=>F.okN P2 (λN H Q E h=>?_) (λO A C s H N Q E S h=>?_)
 ·rcases h with⟨a,b,o,i,rfl,I,p,L,M,B,q⟩<;>rfl
 ·obtain⟨a,b,o,i,rfl,I,p,L,M,B,q⟩:=h;refine{_,(A3 (pS 2 P2.nd (pv 1)) (A3 (Bt jG rfl (Cl #[9]) (pN 3 P2.nd) (A7 (pS 2 P2.nd (Ab Fp (pv 2) (pv 3))))) (A3 (Cc (pD Fq #[9] B9) (A7 (pS 2 P2.nd (Ab Fp (pv 2) (Ab Cw #[9] A5)))) Ac) (A7 (Aa (pv 2)))))),?_};obtain⟨t,v,G⟩:=id I;refine{_,rfl,?_};refine{_,rfl,a,_,_,_,rfl,rfl,.inr (Ax.of v),rfl,t,rfl,.inr {{_,Ax.of G},?_}};refine Rr (K:=K) (a:=t) (xs:=b.map V.int) (λm u f=>∃(g:Option V),u=[some (.ref a),some (.int i),some (.int (Ao i (b.take m))),g]/\f=H) ⟨none,rfl,rfl⟩ (by rintro i u f _ ⟨_,_,e⟩;exact(by rw[e];exact Ax.of G)) ?_ ?_
  ·rintro m y u f J ⟨g,rfl,rfl⟩;rw[List.getElem?_map]at J;obtain⟨x,z,rfl⟩:=dI.mp J;have R:=(b0.mp z).1;have n:=Iu B p m ();refine{_,rfl,_,rfl,_,_,rfl,rfl,Xk n (p x (cI z)) (),?_};refine{some (.int x),?_,rfl};have e:Ao i (b.take (m+1))=Ao i (b.take m)*x:=F0 _ _ _ z;rw[e];rfl
  rintro u f ⟨g,rfl,rfl⟩;rw[List.length_map,List.take_length];have n:=Iu B p b.length (de _);rw[List.take_length]at n;refine{_,rfl,a,_,_,_,rfl,rfl,.inr (Ax.of v),rfl,rfl,_,rfl,(λj D=>j=[some (.ref a),some (.int i),some (.int (Ao (qv o) (b++[i]))),g]/\D=f),λh=>?_,λh=>?_,?_}
  ·cases o with
   |none=>exact absurd h #[]
   |some c=>
    refine{_,rfl,_,rfl,a,_,_,_,rfl,rfl,.inr (Ax.of v),rfl,_,_,rfl,rfl,_,_,rfl,rfl,Xk n L (),?_,rfl};rw[<- Xj];rfl
  ·cases o with
   |none=>
    refine{?_,rfl};show _=[some (V.ref a),some (V.int i),some (V.int (Ao 1 (b++[i]))),g];rw[<- fb]
   |some c=>exact absurd h (by simp[vO])
  rintro j D ⟨rfl,rfl⟩;exact{_,rfl,q}
theorem yc:{61}:=by
 refine T.KY.ok λF=>F.okN iz #[0] (λaS A J s H vs Q E hr h=>?_)
 ·rcases h with⟨x,C,k,rfl,f,Y,q⟩<;>rfl
 ·obtain⟨x,C,k,rfl,f,Y,q⟩:=h;refine{_,(A3 (Av (PW.pt (El (Bd (Aq (Cf K) (by rfl) T.aR boot_isinstance (A0 (pv 0) (A0 (C9 (v:=.ref bE) (by rfl) T.pF rfl) A4)))) (El (Bd (Aq (Cf K) (by rfl) T.aR boot_isinstance (A0 (pv 0) (A0 (C9 (v:=.ref bC) (by rfl) T.pG rfl) A4)))) (El (Bd (Aq (Cf K) (by rfl) T.aR boot_isinstance (A0 (pv 0) (A0 (C9 (v:=.ref bG) (by rfl) T.pH rfl) A4)))) (E8 (Bd (Aq (Cf K) (by rfl) T.aR boot_isinstance (A0 (pv 0) (A0 (C9 (v:=.ref bJ) (by rfl) T.rB rfl) A4))))))))) (A7 (Aa Ad)) Ac) (A3 (Av (PW.pt (El (Bd (Aq (Cf K) (by rfl) T.aR boot_isinstance (A0 (pv 0) (A0 (C9 (v:=.ref bQ) (by rfl) T.vF rfl) A4)))) (El (Bd (Aq (Cf K) (by rfl) T.aR boot_isinstance (A0 (pv 0) (A0 (C9 (v:=.ref bD) (by rfl) T.pI rfl) A4)))) (E8 (Da (Bd (Aq (Cf K) (by rfl) T.aR boot_isinstance (A0 (pv 0) (A0 (g8 (by rfl) T.kS PyProof.Rows.Boot.«ValueError») A4))))))))) (A7 (Aa Ad)) Ac) (A3 (pS 1 iz.nd (B1 A4)) (A3 (Cc (Bd (Aq (Cf K) (by rfl) T.aR boot_isinstance (A0 (pv 0) (A0 (C9 (v:=.ref aC) (by rfl) T.fW rfl) A4)))) #[3] Ac) (A3 (Cc (Bd (Aq (Cf K) (by rfl) T.aR boot_isinstance (A0 (pv 0) (A0 (C9 (v:=.ref aA) (by rfl) T.dZ rfl) A4)))) #[3] Ac) (A3 (Cc (Bd (Aq (Cf K) (by rfl) T.aR boot_isinstance (A0 (pv 0) (A0 (C9 (v:=.ref aD) (by rfl) T.lS rfl) A4)))) #[3] Ac) (A3 (Cc (Bd (Aq (Cf K) (by rfl) T.aR boot_isinstance (A0 (pv 0) (A0 (C9 (v:=.ref aB) (by rfl) T.jQ rfl) A4)))) #[3] Ac) (A3 (Cc (Bd (Aq (Cf K) (by rfl) T.aR boot_isinstance (A0 (pv 0) (A0 (C9 (v:=.ref aE) (by rfl) T.lU rfl) A4)))) #[3] Ac) (A7 (Aa (D9 PySem.F.plainAttrs_str PySem.F.slot_str_join PySem.F.type_str_join (N0 K) Ad #[12]))))))))))),?_}
  obtain⟨g,j,m,n,p,i,f1,f2,f3,f4,f5,f6,f7,g1,g2,g3,g4,g5,hk,kP,I⟩:∃(g j m n p:Bool),Sw K C/\W.kitOne K (.ref C) (.ref bE)=some false/\W.kitOne K (.ref C) (.ref bC)=some false/\W.kitOne K (.ref C) (.ref bG)=some false/\W.kitOne K (.ref C) (.ref bJ)=some false/\W.kitOne K (.ref C) (.ref bQ)=some false/\W.kitOne K (.ref C) (.ref bD)=some false/\W.kitOne K (.ref C) (.type "ValueError")=some true/\W.kitOne K (.ref C) (.ref aC)=some g/\W.kitOne K (.ref C) (.ref aA)=some j/\W.kitOne K (.ref C) (.ref aD)=some m/\W.kitOne K (.ref C) (.ref aB)=some n/\W.kitOne K (.ref C) (.ref aE)=some p/\#[25]++#[30]++(if m=true then[#["loss"]]else[])++(if n=true then[#["many"]]else[])++(if p=true then[#["unsafe"]]else[])=[k]/\k.length<=30000/\Txt.join #[" "] [k]=k:=by
   rcases Y with⟨rfl,rfl⟩|⟨rfl,rfl⟩|⟨rfl,rfl⟩|⟨rfl,rfl⟩|⟨rfl,rfl⟩
   ·exact{true,false,false,false,false,{T.aU.HW,T.aU.HY,T.aU.HZ,T.LO,T.LP,T.aU.IA,T.aU.IB},T.aU.dQ,T.aU.dR,T.aU.dU,T.aU.eY,T.aU.fV,T.aU.dW,T.aU.cM,T.aU.eU,T.aU.cL,T.aU.eV,T.aU.dN,T.aU.eX,rfl,#[],by decide+kernel}
   ·exact{false,true,false,false,false,{T.aL.HW,T.aL.HY,T.aL.HZ,T.LO,T.LP,T.aL.IA,T.aL.IB},T.aL.dQ,T.aL.dR,T.aL.dU,T.aL.eY,T.aL.fV,T.aL.dW,T.aL.cM,T.aL.eU,T.aL.cL,T.aL.eV,T.aL.dN,T.aL.eX,rfl,#[],by decide+kernel}
   ·exact{false,false,true,false,false,{T.aV.HW,T.aV.HY,T.aV.HZ,T.LO,T.LP,T.aV.IA,T.aV.IB},T.aV.dQ,T.aV.dR,T.aV.dU,T.aV.eY,T.aV.fV,T.aV.dW,T.aV.cM,T.aV.eU,T.aV.cL,T.aV.eV,T.aV.dN,T.aV.eX,rfl,#[],by decide+kernel}
   ·exact{false,false,false,true,false,{T.aP.HW,T.aP.HY,T.aP.HZ,T.LO,T.LP,T.aP.IA,T.aP.IB},T.aP.dQ,T.aP.dR,T.aP.dU,T.aP.eY,T.aP.fV,T.aP.dW,T.aP.cM,T.aP.eU,T.aP.cL,T.aP.eV,T.aP.dN,T.aP.eX,rfl,#[],by decide+kernel}
   ·exact{false,false,false,false,true,{T.aW.HW,T.aW.HY,T.aW.HZ,T.LO,T.LP,T.aW.IA,T.aW.IB},T.aW.dQ,T.aW.dR,T.aW.dU,T.aW.eY,T.aW.fV,T.aW.dW,T.aW.cM,T.aW.eU,T.aW.cL,T.aW.eV,T.aW.dN,T.aW.eX,rfl,#[],by decide+kernel}
  refine{_,rfl,x,C,_,_,_,rfl,f,(λ_ z=>z),i,f1,_,rfl,false,(λ_ Q1 S=>{_,rfl,x,C,_,_,_,rfl,f,(λ_ z=>z),i,f2,_,rfl,false,(λ_ Q2 U=>{_,rfl,x,C,_,_,_,rfl,f,(λ_ z=>z),i,f3,_,rfl,false,(λ_ Q3 z3=>{_,rfl,x,C,_,_,_,rfl,f,(λ_ z=>z),i,f4,_,rfl,z3}),U}),S}),As rfl ?_};refine{_,rfl,x,C,_,_,_,rfl,f,(λ_ z=>z),i,f5,_,rfl,false,(λ_ Q1 S=>{_,rfl,x,C,_,_,_,rfl,f,(λ_ z=>z),i,f6,_,rfl,false,(λ_ Q2 U=>{_,rfl,x,C,_,_,_,rfl,f,(λ_ z=>z),i,f7,_,rfl,U}),S}),As rfl ?_};refine{Af,λL o=>?_};have v:A6 H (upd H L (.lst [])):=A6.upd o;have u:(upd H L (.lst [])) L=some (.lst (([]:List Str).map V.str)):=A2;generalize upd H L (.lst [])=H0 at v u⊢;refine{_,rfl,x,C,_,_,_,rfl,(v _ _ f),(λ_ z=>z),i,g1,_,rfl,(λb e=>b=[some (.ref x),some (.ref L)]/\A6 H e/\e L=some (.lst ((#[25]).map V.str))),λh=>?_,λh=>{rfl,v,?_},?_}
  ·refine{_,rfl,.inl {rfl,_,Ar.of u},L,_,_,rfl,rfl,u,Aj #[],rfl,v.new o,?_};rw[A2,h];simp
  ·rw[h,u];simp
  rintro b H1 ⟨rfl,M,y⟩;refine{_,rfl,x,C,_,_,_,rfl,(M _ _ f),(λ_ z=>z),i,g2,_,rfl,(λb e=>b=[some (.ref x),some (.ref L)]/\A6 H e/\e L=some (.lst ((#[25]++#[30]).map V.str))),λh=>?_,λh=>{rfl,M,?_},?_}
  ·refine{_,rfl,.inl {rfl,_,Ar.of y},L,_,_,rfl,rfl,y,Aj (by rw[List.length_map];have:=Fv g #["hall"];omega),rfl,M.new o,?_};rw[A2,h];simp
  ·rw[h,y];simp
  rintro b H2 ⟨rfl,N,B⟩;refine{_,rfl,x,C,_,_,_,rfl,(N _ _ f),(λ_ z=>z),i,g3,_,rfl,(λb e=>b=[some (.ref x),some (.ref L)]/\A6 H e/\e L=some (.lst ((#[25]++#[30]++(if m=true then[#["loss"]]else[])).map V.str))),λh=>?_,λh=>{rfl,N,?_},?_}
  ·refine{_,rfl,.inl {rfl,_,Ar.of B},L,_,_,rfl,rfl,B,Aj (by rw[List.length_map];simp only[List.length_append];have:=Fv g #["hall"];have:=Fv j #["listener"];omega),rfl,N.new o,?_};rw[A2,h];simp
  ·rw[h,B];simp
  rintro b H3 ⟨rfl,O,D⟩;refine{_,rfl,x,C,_,_,_,rfl,(O _ _ f),(λ_ z=>z),i,g4,_,rfl,(λb e=>b=[some (.ref x),some (.ref L)]/\A6 H e/\e L=some (.lst ((#[25]++#[30]++(if m=true then[#["loss"]]else[])++(if n=true then[#["many"]]else[])).map V.str))),λh=>?_,λh=>{rfl,O,?_},?_}
  ·refine{_,rfl,.inl {rfl,_,Ar.of D},L,_,_,rfl,rfl,D,Aj (by rw[List.length_map];simp only[List.length_append];have:=Fv g #["hall"];have:=Fv j #["listener"];have:=Fv m #["loss"];omega),rfl,O.new o,?_};rw[A2,h];simp
  ·rw[h,D];simp
  rintro b H4 ⟨rfl,R,G⟩;refine{_,rfl,x,C,_,_,_,rfl,(R _ _ f),(λ_ z=>z),i,g5,_,rfl,(λb e=>b=[some (.ref x),some (.ref L)]/\A6 H e/\e L=some (.lst ((#[25]++#[30]++(if m=true then[#["loss"]]else[])++(if n=true then[#["many"]]else[])++(if p=true then[#["unsafe"]]else[])).map V.str))),λh=>?_,λh=>{rfl,R,?_},?_}
  ·refine{_,rfl,.inl {rfl,_,Ar.of G},L,_,_,rfl,rfl,G,Aj (by rw[List.length_map];simp only[List.length_append];have:=Fv g #["hall"];have:=Fv j #["listener"];have:=Fv m #["loss"];have:=Fv n #["many"];omega),rfl,R.new o,?_};rw[A2,h];simp
  ·rw[h,G];simp
  rintro b Z ⟨rfl,s5,X⟩;rw[hk]at X;refine{rfl,_,rfl,_,L,[k],rfl,rfl,Ar.of X,(by show 1<=500;decide),(λz hz=>by rw[List.mem_singleton.mp hz];exact kP),#[],?_};rw[I];exact q Z s5
theorem yd(g:{56})(J:{61}):{62}:=by
 obtain⟨_,g,G⟩:=g;refine T.KZ.ok λF=>F.okN Ll (λL H Q E h=>?_) (λN A i s H L Q E u h=>?_)
 ·rcases h with⟨x,n,j,fs,A,rfl,z,m,B,q⟩<;>rfl
 ·obtain⟨x,n,j,fs,A,rfl,z,m,B,q⟩:=h;refine{_,(A3 (pS 2 Ll.nd B9) (A3 (pS 3 Ll.nd B9) (A3 (mi K (i:=4) rfl rfl (λW O R b=>(A7 (pS 3 Ll.nd (W1 (Gj (pv 0) T.aI T.zI.a g (u.mono #[]) G .nil b #[12]))))) (by rfl) T.kQ T.kW T.kX Ll.nd rfl rfl (λA=>(A7 (pS 2 Ll.nd (pv 4))))) (A3 (Av (pD Fq (pv 2) B9) (A7 (Aa (Ah (A0 Ad (A0 (cN J u #[11]) A4))))) Ac) (A3 (Av (Bd (Aq (Q5 K) (by rfl) T.aR boot_isinstance (A0 (pv 3) (A0 (g8 (by rfl) T.bH boot_str) A4)))) (A7 (Aa (Ah (A0 Ad #[35])))) Ac) (A7 (Aa (Ah #[24])))))))),?_};refine{A2t A,{_,rfl,x,n,fs,rfl,z,m,_,rfl,(A2s aC aA aD aB aE A),?_,B},?_}
  ·rintro cls e ⟨C,k,rfl,o,f⟩;refine{C,rfl,by rcases o with⟨rfl,_⟩|⟨rfl,_⟩|⟨rfl,_⟩|⟨rfl,_⟩|⟨rfl,_⟩;exact T.aU.cK;exact T.aL.cK;exact T.aV.cK;exact T.aP.cK;exact T.aW.cK,λy I=>?_};refine{_,rfl,?_};refine{_,rfl,rfl,_,rfl,Cz rfl ?_};refine{_,rfl,y,C,k,rfl,I,o,λM D=>{Af,λp b=>?_}};exact q _ _ e p _ f (D.free b) (D.trans (A6.upd b)) A2
  ·rintro v e ⟨s,rfl,f⟩;refine{_,rfl,rfl,_,rfl,As rfl ?_};exact{_,rfl,_,"str","str",true,rfl,.str s,Oa,_,rfl,Cz rfl {_,rfl,Af,λp b=>q _ _ e p _ f b (A6.upd b) A2}}
theorem xr:{63}:=by
 refine T.LA.ok λF=>F.okN A04 #[0] (λaS A X s H vs Q E hr h=>?_)
 ·rcases h with⟨b,a,y,rfl,o,x,hl,Z,q⟩<;>rfl
 ·obtain⟨b,a,y,rfl,o,x,hl,Z,q⟩:=h;refine{_,(A7 (Aa (D9 PySem.F.plainAttrs_str PySem.F.slot_str_join PySem.F.type_str_join (N0 K) Ad (A0 (Ab Vx (B1 #[4]) (C8 (Cl (pv 1)) _ rfl No rfl rfl (λ_ _ _ _=>(pN 0 Om)) #[17] (λ_ _ _ _=>(pT T.bH (pv 0))))) A4)))),?_};rcases o with o|o
  ·refine{rfl,_,rfl,Af,λL N=>?_};exists H,L,N,j,G,M,(.lst [.str b]);refine{_,rfl,a,rfl,.inl {{_,Ar.of (j _ _ o)},λD I=>?_}};refine Cg (K:=K) (a:=a) (xs:=y.map V.int) (λi f u=>f=((y.take i).map B8).map V.str/\u D=some (.lst f)/\A6 M u) ⟨rfl,A2,A6.upd I⟩ (by rintro i f u _ ⟨_,_,s⟩;exact Ar.of (s _ _ (j _ _ o))) ?_ ?_
   ·rintro i v f C J ⟨rfl,g,m⟩ Y O;rw[List.getElem?_map]at J;obtain⟨n,e,rfl⟩:=dI.mp J;have hi:=(b0.mp e).1;refine{_,rfl,n,rfl,B5 (x n (cI e)),O _ _ g #[7] {?_,A2,m.new I}};rw[List.take_add_one,e,List.map_append,List.map_append];rfl
   rintro f C ⟨rfl,g,m⟩;rw[List.length_map,List.take_length]at g;have U:C L=some (.lst ([b].map V.str)):=m _ _ G;refine{L,D,_,_,rfl,rfl,U,g,l7 (Aj (by simp;omega)),λp R=>?_};rw[<- List.map_append];refine{_,p,b::y.map B8,rfl,rfl,Ar.of A2,by rw[List.length_cons,List.length_map];omega,(λz S=>?_),#[],q _ ((j.trans m).trans (A6.upd R))};rcases eH.mp S with B|B
   ·rw[B];omega
   ·obtain⟨n,e,rfl⟩:=ft.mp B;exact ea (Bg (x n e).1 (x n e).2).len #[]
  ·refine{rfl,_,rfl,Af,λL N=>?_};exists H,L,N,j,G,M,(.lst [.str b]);refine{_,rfl,a,rfl,.inr {{_,Ax.of (j _ _ o)},λD I=>?_}};refine Nh (K:=K) (a:=a) (xs:=y.map V.int) (λi f u=>f=((y.take i).map B8).map V.str/\u D=some (.lst f)/\A6 M u) ⟨rfl,A2,A6.upd I⟩ (by rintro i f u _ ⟨_,_,s⟩;exact Ax.of (s _ _ (j _ _ o))) ?_ ?_
   ·rintro i v f C J ⟨rfl,g,m⟩ Y O;rw[List.getElem?_map]at J;obtain⟨n,e,rfl⟩:=dI.mp J;have hi:=(b0.mp e).1;refine{_,rfl,n,rfl,B5 (x n (cI e)),O _ _ g #[7] {?_,A2,m.new I}};rw[List.take_add_one,e,List.map_append,List.map_append];rfl
   rintro f C ⟨rfl,g,m⟩;rw[List.length_map,List.take_length]at g;have U:C L=some (.lst ([b].map V.str)):=m _ _ G;refine{L,D,_,_,rfl,rfl,U,g,l7 (Aj (by simp;omega)),λp R=>?_};rw[<- List.map_append];refine{_,p,b::y.map B8,rfl,rfl,Ar.of A2,by rw[List.length_cons,List.length_map];omega,(λz S=>?_),#[],q _ ((j.trans m).trans (A6.upd R))};rcases eH.mp S with B|B
   ·rw[B];omega
   ·obtain⟨n,e,rfl⟩:=ft.mp B;exact ea (Bg (x n e).1 (x n e).2).len #[]
theorem xt(bT:{62})(fG:{63}):{64}:=by
 refine T.LB.ok λF=>F.okN Hh #[0] #[2]
 ·rcases h with⟨x,dx,hv,sv,tb,w,J,rfl,jB,hx,hT,q⟩<;>rfl
 ·obtain⟨x,dx,hv,sv,tb,w,J,rfl,jB,hx,hT,q⟩:=h;refine{_,(A3 (pS 2 Hh.nd (pX K (B1 (A0 (B1 (A0 A5 (A0 A5 #[27]))) (A0 (B1 (A0 A5 (A0 A5 (A0 A5 #[27])))) (A0 (B1 #[27]) (A0 (B1 (A0 A5 (A0 A5 (A0 A5 #[27])))) A4))))) (Ab B6 (pv 1) A5))) (A3 (Dr (cN bT hr (A0 (pv 0) (A0 (cN fG hr (A0 Ad #[11])) A4))) (Cm K (n:=2) rfl (Ai (pN 3 Hh.nd) (Ai (pN 4 Hh.nd) Bm)))) (A3 (pS 5 Hh.nd (D9 PySem.F.plainAttrs_str PySem.F.slot_str_split PySem.F.type_str_split U0 (pv 4) (A0 Ad A4))) (A3 (Av (PW.pt (Oz (pD U3 (pv 3) Ad) (Oz (pD (Vy hr) (Ci (Ei K) (pv 5) Dp (Cn A5)) (B1 (A0 Ad (A0 (pT T.bH #[13]) A4)))) (E8 (pD U3 (pL K T.bM (pv 5)) (Ab Cw A5 (pL K T.bM (pv 2)))))))) (A7 (Aa B9)) Ac) (A3 (pS 6 Hh.nd (B1 A4)) (A3 (Bt jG rfl (S9 (by rfl) T.rD (A0 (Ci (Ei K) (pv 5) (Cn A5) Dp) #[11])) (Cm K (n:=2) rfl (Ai (pN 7 Hh.nd) (Ai (pN 8 Hh.nd) Bm))) (A3 (pS 9 Hh.nd (pX K (D9 PySem.F.plainAttrs_str PySem.F.slot_str_partition PySem.F.type_str_partition Ry (pv 7) (A0 Ad A4)) A5)) (A3 (Av (PW.pt (Oz (Gy (Qp K) (pv 9) (C8 (D4 (by rfl) T.cA (A0 (pv 8) A4)) _ rfl Nn rfl rfl (λ_ _ _ _=>(pN 0 Ol)) #[17] (λ_ _ _ _=>(pT T.bH (pv 0)))) rfl) (E8 (pD U3 (pv 7) (Ab Aw (Ab Aw (pT T.bH (pv 8)) Ad) (pv 9)))))) (A7 (Aa B9)) Ac) (A7 (Bp (D9 PySem.F.plainAttrs_list PySem.F.slot_list_append PySem.F.type_list_append Br (pv 6) (A0 (Ah (A0 (pv 8) (A0 (D3 Q4 (by rfl) T.lV boot_int (A0 (pv 9) A4)) A4))) A4))))))) (A7 (Aa (pv 6))))))))),?_};refine{Af,λo HE=>?_};exists H,o,HE,s0,e0,G0,(.lst [.int 2,.int 4,.int 4]);refine{Af,λu vN=>?_};exists G0,u,vN,s1,e1,G1,(.lst [.int 3,.int 6,.int 6,.int 6]);refine{Af,λy uC=>?_};exists G1,y,uC,M,e2,G2,(.lst [.int 5]);refine{Af,λB hl3=>?_};exists G2,B,hl3,s3,e3,G3,(.lst [.int 2,.int 4,.int 8,.int 8]);refine{Af,λL hL=>?_};exists G3,L,hL,Z,eL,H1,(.lst [.ref o,.ref u,.ref y,.ref B]);have S1:=s1;have s1:=(((s0.trans s1).trans M).trans s3).trans Z
  obtain⟨l,C,b,gE,hl,hX⟩:∃(l:Addr) (C:mY) (b:Int),Ls [V.ref o,.ref u,.ref y,.ref B] (J%4)=some (.ref l)/\H1 l=some (.lst (C.map V.int))/\Lr C b:=by
   have h4:=B3 J (show(0:Int)<4 by decide);have:J%4=0\/J%4=1\/J%4=2\/J%4=3:=()
   rcases this with e|e|e|e<;>rw[e]
   ·exact{o,[2,4,4],2,rfl,Z _ _ (s3 _ _ (M _ _ (S1 _ _ e0))),.inl {rfl,rfl}}
   ·exact{u,[3,6,6,6],3,rfl,Z _ _ (s3 _ _ (M _ _ e1)),.inr (.inl {rfl,rfl})}
   ·exact{y,[5],5,rfl,Z _ _ (s3 _ _ e2),.inr (.inr (.inl {rfl,rfl}))}
   ·exact{B,[2,4,8,8],2,rfl,Z _ _ e3,.inr (.inr (.inr {rfl,rfl}))}
  refine{_,rfl,_,_,rfl,rfl,by simp,L,_,_,_,rfl,rfl,.inl (Ar.of eL),gE,?_};clear eL gE Z M s3 s0 e0 e1 e2 e3;obtain⟨EE,QS,mJ,wG,_,dX,zU,-⟩:=hX.a;have bZ:C≠[]:=List.length_pos_iff.mp EE;have OS:∀n∈C,0<=n/\n<10^100:=λn hn=>by have:=mJ n hn;omega
  refine{_,rfl,_,rfl,_,l,C,rfl,.inl hl,OS,(),#[],λH2 M=>?_};have bI:=s1.trans M;have bV:=bI _ _ hx;refine{x,dx,_,_,(λta NO m=>Bw x H2 m/\ta=#["told"]/\∃p us g,NO=Hm b g/\m x=some (.ins aF dx (Bb hv sv tb (.ref p)))/\m p=some (.lst us)/\Ap (Kl m) g us/\g.map Prod.fst=C/\g.Perm (Z8 C)),rfl,bV,rfl,{x,dx,_,#["wheel"],C,none,hv,sv,tb,w,rfl,bV,?_,#[16],#[16],.inr (.inr (.inr (.inl {b,rfl,hX,bI _ _ hT,λp us g H3 b3 hp oH YV all jD wQ=>{_,rfl,b3,rfl,p,us,g,rfl,oH,YV,all,jD,wQ}})))},λta AF H3 r H4 hA kA s4 er=>?_}
  ·rw[Fh bZ (x:=#["wheel "]) #[]];exact ae OS EE ()
  obtain⟨b3,rfl,p,us,g,rfl,oH,YV,all,jD,hw⟩:=hA;obtain⟨AG,VP,gY⟩:=Tn hX hw;have EO:0<=b/\b<10^100:=()
  have hrb:∀r∈g,(0<=r.1/\r.1<10^100)/\(0<=r.2/\r.2<10^100):=λr iB=>by
   have:=gY r iB;exact{{(),()},(),()}
  have PY:=s4 _ _ (b3.lst bV (M _ _ hl));refine{r,_,rfl,Ax.of er,rfl,_,_,rfl,_,_,rfl,rfl,?_};refine{_,rfl,rfl,Hm b g,_,rfl,rfl,#[],ak EO () hrb,λW hW=>?_};rw[Ur EO hrb];exists H4,W,hW,s5,eW,H5,(.lst ((#["base"]::B8 b::g.map B4).map V.str));have MU:=s5 _ _ PY;refine{_,rfl,rfl,_,rfl,(λd m=>d=false/\A6 H5 m),#[16],(λ_=>{_,rfl,_,rfl,W,_,rfl,Ar.of eW,λS hS=>?_}),?_}
  ·rw[Ez,A2x];exists H5,S,hS,X,eS,G,(.lst ([#["base"],B8 b].map V.str))
   have okS:∀s∈[#["base"],B8 b],PyData.strOk s=true:=λs hs=>by
    rcases eH.mp hs with rfl|hs
    ·decide+kernel
    ·rw[List.mem_singleton.mp hs];exact Cr EO
   refine{_,rfl,l,_,_,_,rfl,rfl,.inl (Ar.of (X _ _ MU)),(show Ls (C.map V.int) 0=some (.int b)from Et (j:=0) (by rw[List.getElem?_map,wG];rfl)),b,rfl,B5 EO,Af,λS2 wI=>?_};have s7:A6 G (upd G S2 (.lst ([#["base"],B8 b].map V.str))):=A6.upd wI;refine{_,_,N5 (s7 _ _ eS) okS,N5 (ss:=[#["base"],B8 b]) A2 okS,Nz _,?_};rw[if_pos rfl,Tl,decide_eq_true rfl];have Y:=X.trans s7;refine{_,rfl,(λd m=>d=false/\A6 H5 m),#[16],(λ_=>{_,rfl,W,_,rfl,.inl (Ar.of (Y _ _ eW)),_,rfl,l,_,rfl,.inl (Ar.of (Y _ _ MU)),_,_,rfl,rfl,rfl,_,rfl,?_,Y}),λd m z=>z};rw[PV,decide_eq_true ?_]
   ·rfl
   ·simp only[List.length_map,List.length_cons];omega
  rintro d G ⟨rfl,X⟩;refine As rfl ?_;have eW6:=X _ _ eW;have hl6:=X _ _ MU;refine{Af,λR hR=>?_};exists G,R,hR,s7,eR,H7,(.lst []);refine{_,rfl,_,rfl,W,_,rfl,Ar.of (s7 _ _ eW6),λN qG=>?_};rw[Ez,kd];have nRs:R≠N:=Ag eR qG;exists H7,N,qG,Y,e8,H8,(.lst ((g.map B4).map V.str));have s78:=s7.trans Y;have eC:=s78 _ _ hl6;rw[<- jD]at eC;have eR8:=Y _ _ eR;have nRl:R≠l:=Ne.symm (Ag hl6 hR);refine{_,rfl,false,false,N,l,rfl,{_,Ar.of e8},{_,Ar.of eC},?_};refine Tm (K:=K) (b1:=false) (b2:=false) (c:=N) (d:=l) (xs:=(g.map B4).map V.str) (ys:=(g.map Prod.fst).map V.int) (by simp) (λi σ m=>Ut λ(I:List V) (v7 v8 v9:Option V)=>Hs (σ=[some (.ref x),some (.int J),some (.ref l),some (.str #["told"]),some (.str (Hm b g)),some (.ref W),some (.ref R),v7,v8,v9]) (m R=some (.lst I)) (Ap (Kl m) (g.take i) I) (A6 G m) (m N=some (.lst ((g.map B4).map V.str))) (m l=some (.lst ((g.map Prod.fst).map V.int)))) ⟨[],_,_,_,rfl,eR8,Ap.nil,s78,e8,eC⟩ (by rintro i σ m _ ⟨_,_,_,_,_,_,_,_,z1,z2⟩;exact{Ar.of z1,Ar.of z2}) ?_ ?_
  ·rintro i u0 y0 T1 σ H9 DD zS ⟨I,v7,v8,v9,rfl,RC,tP,s9,YW,MK⟩ hT9;rw[List.getElem?_map,List.getElem?_map]at DD zS
   have hi:i<g.length:=by
    rcases iE i g.length with z|z
    ·exact z
    ·rw[List.getElem?_eq_none z]at DD;cases DD
   have mM:g[i]?=some (g[i]'hi):=d3 hi;generalize g[i]'hi=f at mM;rw[mM]at DD zS;have vJ:u0=.str (B4 f):=(en DD).symm;have hy1:y0=.int f.1:=(en zS).symm;subst vJ hy1;obtain⟨⟨k1,k2⟩,k3,k4⟩:=gY f (cI mM);have O:0<=f.1/\f.1<10^100:=()
   have U:0<=f.2/\f.2<10^100:=()
   exists H9,T1,hT9,sA,eA,HA,(.tup [V.str (B4 f),V.int f.1]);refine{T1,_,rfl,Ax.of eA,rfl,_,_,rfl,_,_,rfl,rfl,?_};refine{_,rfl,rfl,B4 f,_,rfl,rfl,#[],ea (Lc O U) #[],λP hP=>?_};rw[W5 O];exists HA,P,hP,sB,eB,HB,(.tup [.str (B8 f.1),.str #["+"],.str (B8 f.2)]);refine{P,_,_,_,rfl,rfl,.inr (Ax.of eB),rfl,?_};refine{_,rfl,_,rfl,f.1,rfl,(),(),λD hD=>?_};refine Gr (cnt:=f.1.toNat) (λi ys m=>ys=((List.range i).map λ(k:Nat)=>B8 (k:Int)).map V.str/\m D=some (.lst ys)/\A6 HB m) ⟨rfl,A2,A6.upd hD⟩ ?_ ?_
   ·rintro j ys HC hj ⟨rfl,DT,sC⟩ Qe hQ;refine{_,rfl,_,rfl,B5 {(),()},hQ _ _ DT (Aj (by rw[List.length_map,List.length_map,List.length_range];omega)) {?_,A2,sC.new hD}};rw[List.range_succ,List.map_append,List.map_append,Int.zero_add];rfl
   rintro ys HC ⟨rfl,DT,sC⟩;have fB:B8 f.2∈(List.range f.1.toNat).map λ(k:Nat)=>B8 (k:Int):=ft.mpr ⟨f.2.toNat,mx.mpr (),by rw[show((f.2.toNat:Nat):Int)=f.2 by omega]⟩;refine{D,_,rfl,.inl (Ar.of DT),rfl,Zc _,?_};rw[kt fB];refine{_,rfl,(λd m=>d=false/\m=HC),#[16],(λ_=>{_,rfl,_,rfl,_,rfl,B5 O,_,_,rfl,rfl,?_,_,rfl,_,_,rfl,rfl,?_,rfl,_,rfl,?_,rfl}),?_}
   ·exact ea (Nat.add_le_add_right (Bg O.1 O.2).len _) #[]
   ·rw[Co];exact ea (Nat.add_le_add (Nat.add_le_add_right (Bg O.1 O.2).len _) (Bg U.1 U.2).len) #[]
   ·show(!decide (V.str (B4 f)=V.str (B4 f)))=false;rw[decide_eq_true rfl];rfl
   rintro d RE ⟨rfl,rfl⟩;refine As rfl ?_;have s9C:=(sA.trans sB).trans sC;have hRC:=s9C _ _ RC;refine{_,rfl,.inl {rfl,_,Ar.of hRC},_,rfl,_,rfl,B8 f.2,f.2,rfl,(Bg U.1 U.2).val,ea (Bg U.1 U.2).len #[],Af,λt ht=>?_};exists RE,t,ht,sD,eD,HD,(.tup [.int f.1,.int f.2]);have NP:=s9C.trans sD;have hRD:=NP _ _ RC;have YX:Ap (Kl HD) (g.take i) I:=tP.imp λr v z=>Kl.up (Az.of NP) z;have DZ:I.length=(g.take i).length:=tP.1;refine{R,_,_,rfl,rfl,hRD,Aj (by rw[DZ,List.length_take];omega),?_};refine{I++[.ref t],_,_,_,rfl,A2,?_,(s9.trans NP).new hR,(A9 (Ne.symm nRs)).trans (NP _ _ YW),(A9 (Ne.symm nRl)).trans (NP _ _ MK)};rw[Ew mM];exact(YX.append (Ap.one (P:=Kl HD) (r:=f) (v:=.ref t) ⟨t,rfl,eD⟩)).imp λr v z=>Kl.up (Az.lst hRD) z
  rintro σ H9 ⟨I,v7,v8,v9,rfl,RC,tP,s9,_,_⟩;rw[List.length_map,List.length_map,List.take_length]at tP;have wJ:=(s5.trans X).trans s9;have nM:=s4.trans wJ;exact{_,rfl,q R g (.ref p) H9 (((Bw.of bI).trans b3).trans (Bw.of nM)) (nM _ _ oH) {p,us,I,rfl,nM _ _ YV,all.imp (λr v z=>Kl.up (Az.of nM) z),RC,tP,AG}}
theorem ye(bT:{62}):{65}:=by
 refine T.LC.ok λF=>F.okN Sj #[0] #[2]
 ·rcases h with⟨x,N,hv,sv,J,w,l,b,n,rfl,O,hW,vC,D,q⟩<;>rfl
 ·obtain⟨x,N,hv,sv,J,w,l,b,n,rfl,O,hW,vC,D,q⟩:=h;refine{_,(A3 (pS 3 Sj.nd Ad) (A3 (Bt jG rfl (D4 (by rfl) T.cA (A0 (pL K T.bM (pv 1)) A4)) (pN 4 Sj.nd) (A7 (Cc (pD Bk (Ab B6 (pv 2) (pX K (pX K (pv 1) (pv 4)) A5)) (pX K (pX K (pv 1) (pv 4)) A5)) (A7 (pS 3 Sj.nd (pT T.bH (pv 4)))) Ac))) (A7 (Aa (pC (Ie hr) (cN bT hr (A0 (pv 0) (A0 (Ab Aw Ad (pT T.bH (pv 2))) A4))) (Ah (A0 Ad #[35]))))))),?_};obtain⟨p,us,B,rfl,hp,all,hl,NQ,m⟩:=hW;have DZ:B.length=b.length:=NQ.1;have h63:=m.2.1;have R:0<=n/\n<10^100:={vC,D};refine{_,rfl,l,_,rfl,.inl (Ar.of hl),_,rfl,(),(),?_};refine Ge (n:=B.length) (λi σ o=>Pt λ(d:Str) (v4:Option V)=>J1 (σ=[some (.ref x),some (.ref l),some (.int n),some (.str d),v4]) (o=H) (((d=#["nobody"]/\∀(j:Nat) (r:Int×Int),j<i->b[j]?=some r->n%r.1≠r.2)\/∃(j:Nat) (r:Int×Int),b[j]?=some r/\n%r.1=r.2/\d=B8 (j:Int)))) ⟨_,_,rfl,rfl,.inl ⟨rfl,λj r h=>absurd h (l0 j)⟩⟩ ?_ ?_
  ·rintro i σ M hi ⟨d,v4,rfl,rfl,Z⟩;have U:i<b.length:=()
   have G:b[i]?=some (b[i]'U):=d3 U;generalize b[i]'U=f at G
   obtain⟨u1,X,S⟩:∃u,B[i]?=some (.ref u)/\M u=some (.tup [.int f.1,.int f.2]):=by
    have Y:B[i]?=some (B[i]'()):=d3 ();obtain⟨u,e,C⟩:=NQ.2 i f _ G Y;exact{u,by rw[Y,e],C}
   have vM:Ls B (0+(i:Int))=some (.ref u1):=by rw[Int.zero_add];exact Et X
   replace S:=Ax.of (K:=K) S;obtain⟨⟨y1,y2,y3,y4⟩,y5⟩:=m.2.2.1 f (cI G);refine{_,rfl,_,rfl,_,rfl,l,_,_,_,rfl,rfl,.inl (Ar.of hl),vM,u1,_,_,_,rfl,rfl,.inr S,rfl,_,_,rfl,rfl,(by show(0:Int)<f.1;omega),_,rfl,_,rfl,l,_,_,_,rfl,rfl,.inl (Ar.of hl),vM,u1,_,_,_,rfl,rfl,.inr S,rfl,rfl,_,rfl,(λL o=>∃(d:Str),J1 (L=[some (.ref x),some (.ref l),some (.int n),some (.str d),some (.int (0+(i:Int)))]) (o=M) (((d=#["nobody"]/\∀(j:Nat) (r:Int×Int),j<i+1->b[j]?=some r->n%r.1≠r.2)\/∃(j:Nat) (r:Int×Int),b[j]?=some r/\n%r.1=r.2/\d=B8 (j:Int)))),λz=>?_,λz=>?_,?_}
   ·have z':n%f.1=f.2:=by
     have:=of_decide_eq_true z;injection this
    exact{_,rfl,_,rfl,B5 {(),()},_,rfl,rfl,.inr {i,f,G,z',by rw[Int.zero_add];rfl}}
   ·have z':n%f.1≠f.2:=λe=>of_decide_eq_false z (by show V.int (n%f.1)=V.int f.2;rw[e]);refine{d,rfl,rfl,?_};rcases Z with⟨e,h⟩|h
    ·refine .inl ⟨e,λj' r' Y C=>?_⟩;rcases iE j' i with y|y
     ·exact h j' r' y C
     ·rw[show j'=i by omega,G]at C;cases C;exact z'
    ·exact .inr h
   ·rintro L o ⟨d',rfl,rfl,h⟩;exact{d',_,rfl,rfl,h}
  rintro σ M ⟨d,v4,rfl,rfl,Z⟩
  have hdt:Hz b n d:=by
   rcases Z with⟨e,h⟩|h
   ·refine .inl ⟨e,λr iB=>?_⟩;obtain⟨j,hj⟩:=gC.mp iB;exact h j r (by have:=(b0.mp hj).1;omega) hj
   ·exact .inr h
  refine{_,rfl,_,rfl,n,rfl,B5 R,_,_,rfl,rfl,ea (i0 (Bg R.1 R.2).len _) #[],x,N,_,_,(λta J o=>A6 M o/\ta=#["told"]/\Hz b n J),rfl,O,rfl,?_,λta AF H2 r H3 hA kA I er=>?_}
  ·refine{x,N,#["turn "]++B8 n,#["turn"],[n],none,hv,sv,J,_,rfl,O,zn R,#[36],#[16],.inr (.inr (.inr (.inr {n,rfl,#[],λH2 g=>?_})))};refine{x,N,_,n,rfl,.inr (.inr (.inr (.inr (.inl {hv,sv,J,_,rfl,g _ _ O,p,us,b,rfl,g _ _ hp,all.imp (λr v z=>Kl.up (Az.of g) z),(),(λr iB=>(m.2.2.1 r iB).1),(λh H3 I=>{_,rfl,g.trans I,rfl,.inl {rfl,h}}),λj r H3 a1 a2 I=>{_,rfl,g.trans I,rfl,.inr {j,r,a1,a2,rfl}}}))))}
  ·obtain⟨g,rfl,hs⟩:=hA;have es:=Hz.uniq m hdt hs;subst es;refine{_,rfl,Af,λr2 iI=>?_};refine{_,_,E5 ((A6.upd iI) _ _ er) Dn (hs.ok m),E5 A2 Dn (hs.ok m),(by show 1<=60;decide),?_};rw[if_neg #[],Gs];exact q _ ((g.trans I).trans (A6.upd iI))
theorem xu(cQ:{30})(fG:{63})(bT:{62}):{66}:=by
 refine T.LD.ok λF=>F.okN Jo #[0] (λaS A outer s H vs Q E J h=>?_)
 ·rcases h with⟨x,X,hv,sv,tb,w,a,e,j,rfl,Z,Y,hS,q⟩<;>rfl
 ·obtain⟨x,X,hv,sv,tb,w,a,e,j,rfl,Z,Y,hS,q⟩:=h;refine{_,(A3 (pS 2 Jo.nd (cN cQ J #[12])) (A3 (pS 3 Jo.nd (Ah (A0 #[14] #[27]))) (A3 (pS 4 Jo.nd Ad) (A3 (Cc (Ii (Ig (Gv J) (pv 3) (pv 2)) rfl) (A7 (pS 4 Jo.nd (Ab Aw Ad (pT T.bH (Iq (Gv J) (pv 2) (pv 3) (λ_ _=>rfl)))))) Ac) (A3 (pS 5 Jo.nd (cN fG J (A0 Ad (A0 #[14] A4)))) (A3 (Cc (pD Fq #[14] B9) (A7 (pS 5 Jo.nd (Ab Aw (Ab Aw (pv 5) Ad) (pT T.bH #[14])))) Ac) (A7 (Aa (B1 (A0 (pC (Ie J) (cN bT J (A0 (pv 0) (A0 (pv 5) A4))) (Ah (A0 Ad #[34]))) (A0 (Ah (A0 (pv 1) (A0 (pv 3) #[11]))) A4))))))))))),?_};have f:=hS.1;obtain⟨D,U,bR⟩:=id Y;have kZ:∀n∈e,0<=n/\n<10^100:=λn hn=>by have:=f.1 n hn;omega
  have h8:=f.2.2.2.1;refine{_,rfl,.inl {a,e,j,rfl,Y,(λw hw=>(f.1 w hw).1),f.qv.1,(λw hw=>ea (Ct (n:=12) (by have:=f.1 w hw;omega)) #[]),ea (Ct (n:=12) (by have:=f.qv;omega)) #[],f.2.2.2.1,f.2.2.2.2,λi y O hTB s1 eT qJ pM sU=>?_}};have L:Ck e j y:={qJ,pM,sU};refine{_,rfl,a,_,_,_,rfl,rfl,.inr (Ax.of (s1 _ _ U)),rfl,Af,λb hb=>?_};exists O,b,hb,s2,e2,H2,(.tup [.ref D,.int 0]);have S:=s1.trans s2;have cR:Im H2 b (e,0):={D,e2,S _ _ bR};have qL:=s2 _ _ eT;have DE:=E6.t qL cR;refine{_,rfl,_,rfl,i,_,rfl,DE,_,rfl,(λg G=>g=[some (.ref x),some (.ref a),some (.ref i),some (.ref b),some (.str (Fa y (e,0))),none]/\G=H2),λz=>?_,λz=>?_,?_}
  ·cases u:Am y (e,0)with
   |none=>
    rw[u]at z;cases z
   |some v=>
    obtain⟨m,rfl,_⟩:=L.1.1 _ _ u;have hm:=Iw L u;have hl:=(Bg (n:=m) () ()).len;rw[u]at DE;refine{_,rfl,_,rfl,i,_,rfl,DE,m,rfl,B5 {(),()},_,_,rfl,rfl,?_,?_,rfl}
    ·show#["broken within "].length+(B8 m).length<=sizeLine;exact ea (i0 hl _) #[]
    ·unfold Fa;rw[u];rfl
  ·cases u:Am y (e,0)with
   |some v=>
    rw[u]at z;cases z
   |none=>
    refine{?_,rfl};unfold Fa;rw[u];rfl
  rintro g H3 ⟨rfl,rfl⟩;refine{_,rfl,a,_,_,_,rfl,rfl,.inr (Ax.of (S _ _ U)),rfl,_,D,e,rfl,.inr (S _ _ bR),kZ,(),#[],λH4 s4=>?_};have o:=S.trans s4;have mU:=R5 (hd:=#["hall"]) kZ () #[];refine{_,rfl,a,_,_,_,rfl,rfl,.inr (Ax.of (o _ _ U)),rfl,rfl,_,rfl,(λg G=>g=[some (.ref x),some (.ref a),some (.ref i),some (.ref b),some (.str (Fa y (e,0))),some (.str (zm e j))]/\G=H4),λz=>?_,λz=>?_,?_}
  ·cases j with
   |none=>exact absurd z #[]
   |some c=>
    have hc:=f.2.1 c rfl;have lD:=(Bg (n:=c) () ()).len;refine{_,rfl,_,_,rfl,rfl,?_,_,rfl,a,_,_,_,rfl,rfl,.inr (Ax.of (o _ _ U)),rfl,c,rfl,B5 {(),()},_,_,rfl,rfl,?_,rfl,rfl}
    ·exact ea (Nat.add_le_add_right mU _) #[]
    ·rw[Co];exact ea (Nat.add_le_add (Nat.add_le_add_right mU _) lD) #[]
  ·cases j with
   |none=>exact{rfl,rfl}
   |some c=>exact absurd z (by simp[vO])
  rintro g H5 ⟨rfl,rfl⟩;refine{_,rfl,_,rfl,x,X,_,_,(λta tb G=>Bw x H5 G/\ta=#["told"]/\∃B,tb=Fa B (e,0)/\B7 aF G x X e j e 0 B w/\Ck e j B),rfl,o _ _ Z,rfl,{x,X,_,_,e,j,hv,sv,tb,w,rfl,o _ _ Z,mq f,#[16],#[16],.inl {rfl,f,λB H6 I vK N=>{_,rfl,I,rfl,B,rfl,vK,N}}},λta AF H6 r H7 hA kA s7 er=>?_};obtain⟨I,rfl,B,rfl,vK,N⟩:=hA;have hh:=Vd N L (e,0);have NR:=d4 L (e,0);rw[hh]at er;refine{_,rfl,Af,λr2 iI=>?_};have s8:A6 H7 (upd H7 r2 (.tup [.str #["told"],.str (Fa y (e,0))])):=A6.upd iI;refine{_,_,E5 (s8 _ _ er) Dn NR,E5 A2 Dn NR,(by show 1<=60;decide),?_};rw[if_neg #[],Gs];refine{_,rfl,_,rfl,_,rfl,Af,λC sE=>?_};generalize upd H7 r2 (.tup [.str #["told"],.str (Fa y (e,0))])=R at s8 sE⊢;exists R,C,sE,s9,e9,H9,(.tup [.ref a,.ref b,.ref i]);refine{Af,λp hp=>?_};have qP:A6 H9 (upd H9 p (.lst [.bl true,.ref C])):=A6.upd hp;have AE:=o _ _ Z;have M:=((s7.trans s8).trans s9).trans qP;have bb:Bw x H (upd H9 p (.lst [.bl true,.ref C])):=((Bw.of o).trans I).trans (Bw.of M);refine q p C _ bb A2 ⟨B,y,B7.same M vK,N,⟨a,b,i,qP _ _ e9,(((Y.same o).but I AE).same M),(Cb.but I AE (ls:=e) (q:=0) ⟨D,s4 _ _ e2,o _ _ bR⟩).same M,M _ _ (I.dT AE (s4 _ _ qL))⟩,L,hS,M9 f⟩
theorem xc(jC:{60})(cQ:{30}):{67}:=by
 refine T.LF.ok λF=>F.okN Jn #[0] #[2]
 ·rcases h with⟨st,f,D,o,n,i,rfl,lG,hS,hU,mP,q⟩<;>rfl
 ·obtain⟨st,f,D,o,n,i,rfl,lG,hS,hU,mP,q⟩:=h;refine{_,(A3 (Dr (pv 0) (Cm K (n:=3) rfl (Ai (pN 2 Jn.nd) (Ai (pN 3 Jn.nd) (Ai (pN 4 Jn.nd) Bm))))) (A3 (Av (PW.pt (El (pD Er (pv 1) A5) (E8 (pD Bk (pL K T.bM #[13]) A5)))) #[38] Ac) (A3 (pS 5 Jn.nd (Ah (A0 (Ab (K3 K) #[13] (Ah #[12])) (A0 #[13] A4)))) (A3 (pS 6 Jn.nd (Ah (A0 (Ab (K3 K) #[18] (Ah #[12])) (A0 #[18] A4)))) (A3 (Av (pD K4 (cN jC hr (A0 (pv 5) #[27])) A5) #[38] Ac) (A3 (pS 4 Jn.nd (cN cQ hr (A0 (pv 5) A4))) (A3 (Av (Ii (Ig (Gv hr) (pv 6) (pv 4)) rfl) #[38] Ac) (A7 (Aa (B1 (A0 (Ah (A0 Ad (A0 (Ab Aw Ad (pT T.bH (pL K T.bM #[13]))) A4))) (A0 (Ah (A0 (pv 5) (A0 (pv 6) #[34]))) A4)))))))))))),?_};obtain⟨tv0,h3,PX⟩:=id lG;obtain⟨a,b,TB,cR,ha,hb,hT⟩:=id h3;obtain⟨wt,bP,bR⟩:=id ha;obtain⟨ut,dX,cO⟩:=id hb;have aJ:=hS.1;have h8:=aJ.2.2.2.1;have sr:A6 H H:=λ_ _ z=>z;refine{_,rfl,st,_,rfl,Ax.of cR,rfl,_,_,rfl,_,_,rfl,_,_,rfl,rfl,?_};refine{_,rfl,_,_,rfl,rfl,_,rfl,_,(λ_ Q1 z1=>{_,rfl,a,_,_,_,rfl,rfl,.inr (Ax.of bP),rfl,wt,_,rfl,.inr (Ax.of bR),rfl,_,rfl,z1}),?_};refine Di (λhc=>?_) (λhc=>?_)
  ·have M:i<1\/f.length=8:=by
    simp at hc;omega
   refine{Af,λd N=>?_};exists H,d,N,j,u,Hd,(.tup [.str #["refused"],.str #["hall"]]);refine{_,rfl,Af,λp g=>?_};exact q p d st _ _ f D _ (sr.trans (j.trans (A6.upd g))) A2 (A6.upd g _ _ u) (.inl ⟨M,rfl,rfl,rfl,rfl⟩) (lG.same (sr.trans (j.trans (A6.upd g))))
  have M:1<=i/\f.length<8:=by
   simp at hc;omega
  refine{_,rfl,a,_,_,_,rfl,rfl,.inr (Ax.of bP),rfl,_,rfl,Af,λw hw=>?_};exists H,w,hw,B,I,H1,(.tup [.int i]);refine{wt,w,_,_,rfl,rfl,Ax.of (B _ _ bR),I,by simp,E4 (by simp;omega),λt H2 s2 J=>?_};have G:=B.trans s2;rw[Gf]at J;refine{_,rfl,a,_,_,_,rfl,rfl,.inr (Ax.of (G _ _ bP)),rfl,Af,λm YZ=>?_};exists H2,m,YZ,C,L,X,(.tup [.ref t,vO o]);have uN:An X m (f++[i]) o:={t,L,C _ _ J};have mI:=G.trans C;clear B s2 C I J L G;refine{_,rfl,b,_,_,_,rfl,rfl,.inr (Ax.of (mI _ _ dX)),rfl,_,rfl,Af,λw2 QE=>?_};exists X,w2,QE,B,I,H4,(.tup [.int i]);refine{ut,w2,_,_,rfl,rfl,Ax.of (B _ _ (mI _ _ cO)),I,by simp,E4 (by simp;omega),λt2 H5 s2 J=>?_};have G:=B.trans s2;rw[Gf]at J;refine{_,rfl,b,_,_,_,rfl,rfl,.inr (Ax.of (G _ _ (mI _ _ dX))),rfl,Af,λx ZA=>?_};exists H5,x,ZA,C,L,Y,(.tup [.ref t2,.int n]);have ZC:Im Y x (D++[i],n):={t2,L,C _ _ J};have AI:=G.trans C;have NS:=mI.trans AI
  replace uN:=uN.same AI;clear B s2 C I J L G mI AI;refine{_,rfl,m,f++[i],o,1,rfl,uN,Pz (Jl aJ).1 mP,(Jl aJ).2,by rw[List.length_append,List.length_singleton];omega,#[],_,_,rfl,rfl,_,rfl,?_};rw[Gx,Int.mul_one];refine Di (λg=>?_) (λg=>?_)
  ·have Z:3000<Ao (qv o) (f++[i]):=of_decide_eq_true g;refine{Af,λd N=>?_};exists Y,d,N,j,u,Hd,(.tup [.str #["refused"],.str #["many"]]);refine{_,rfl,Af,λp g=>?_};exact q p d st _ _ f D _ (NS.trans (j.trans (A6.upd g))) A2 (A6.upd g _ _ u) (.inr ⟨M,.inl ⟨Z,rfl,rfl,rfl,rfl⟩⟩) (lG.same (NS.trans (j.trans (A6.upd g))))
  have Z:Ao (qv o) (f++[i])<=3000:=by
   simp at g;exact g
  have U:=Gu aJ M.1 M.2 Z;refine{_,rfl,.inl {m,f++[i],o,rfl,uN,(λw hw=>(U.1 w hw).1),U.qv.1,(λw hw=>ea (Ct (n:=12) (by have:=U.1 w hw;omega)) #[]),ea (Ct (n:=12) (by have:=U.qv;omega)) #[],U.2.2.2.1,U.2.2.2.2,λO R y CB s7 qL qJ pM sU=>?_}};have cW:Ck (f++[i]) o R:={qJ,pM,sU};have NU:=NS.trans s7;have NV:Im y x (D++[i],n):=Cb.same s7 ZC;refine{_,rfl,_,rfl,O,_,rfl,E6.t qL NV,_,rfl,?_};refine Di (λh=>?_) (λh=>?_)
  ·refine{Af,λd N=>?_};exists y,d,N,j,u,Hd,(.tup [.str #["refused"],.str #["unsafe"]]);refine{_,rfl,Af,λp g=>?_};exact q p d st _ _ f D _ (NU.trans (j.trans (A6.upd g))) A2 (A6.upd g _ _ u) (.inr ⟨M,.inr ⟨Z,R,cW,.inl ⟨h,rfl,rfl,rfl,rfl⟩⟩⟩) (lG.same (NU.trans (j.trans (A6.upd g))))
  have hn:Am R (D++[i],n)=none:=by
   cases e:Am R (D++[i],n)with
   |none=>rfl
   |some v=>exact absurd (by rw[e];rfl) h
  have mL:(#[15].length:Int)=(f.length:Nat):=by rw[List.length_map]
  refine{_,rfl,a,_,_,_,rfl,rfl,.inr (Ax.of (NU _ _ bP)),rfl,wt,_,rfl,.inr (Ax.of (NU _ _ bR)),_,rfl,B5 {(),()},_,_,rfl,rfl,?_,Af,λd N=>?_}
  ·rw[mL];exact ea (i0 (Bg (n:=((f.length:Nat):Int)) () ()).len _) #[]
  rw[mL];exists y,d,N,j,u,H8,(.tup [.str #["told"],.str (#["joined "]++Str.ofString (toString ((f.length:Nat):Int)))]);refine{_,rfl,_,rfl,_,rfl,Af,λS nO=>?_};exists H8,S,nO,s9,e9,H9,(.tup [.ref m,.ref x,.ref O]);refine{Af,λp fM=>?_};have DF:=(j.trans s9).trans (A6.upd fM (o:=.lst [.ref d,.ref S]));exact q p d S _ _ _ _ _ (NU.trans DF) A2 (A6.upd fM _ _ (s9 _ _ u)) (.inr ⟨M,.inr ⟨Z,R,cW,.inr ⟨hn,rfl,rfl,rfl,rfl⟩⟩⟩) ⟨R,⟨m,x,O,A6.upd fM _ _ e9,uN.same (s7.trans DF),Cb.same DF NV,DF _ _ qL⟩,cW⟩
theorem yg(cQ:{30}):{68}:=by
 refine T.LG.ok λF=>F.okN Lm #[0] #[2]
 ·rcases h with⟨st,e,f,B,n,k,rfl,lG,hS,hU,hk,q⟩<;>rfl
 ·obtain⟨st,e,f,B,n,k,rfl,lG,hS,hU,hk,q⟩:=h;refine{_,(A3 (Dr (pv 0) (Cm K (n:=3) rfl (Ai (pN 2 Lm.nd) (Ai (pN 3 Lm.nd) (Ai (pN 4 Lm.nd) Bm))))) (A3 (Av (pD ny (pv 1) (pL K T.bM #[13])) #[38] Ac) (A3 (Av (pD Bk (pL K T.bM #[13]) A5) #[38] Ac) (A3 (pS 5 Lm.nd (Ah (A0 (Ab (S3 K) (Ci (Iz K) #[13] Dp (Cn (pv 1))) (Ci (Iz K) #[13] (Cn (Ab Cw (pv 1) A5)) Dp)) (A0 #[13] A4)))) (A3 (pS 6 Lm.nd (Ah (A0 (Ab (S3 K) (Ci (Iz K) #[18] Dp (Cn (pv 1))) (Ci (Iz K) #[18] (Cn (Ab Cw (pv 1) A5)) Dp)) (A0 #[18] A4)))) (A7 (Aa (B1 (A0 (Ah (A0 Ad (A0 (Ab Aw Ad (pT T.bH (pv 1))) A4))) (A0 (Ah (A0 (pv 5) (A0 (pv 6) (A0 (cN cQ hr (A0 (pv 5) A4)) A4)))) A4)))))))))),?_};obtain⟨tv0,h3,PX⟩:=id lG;obtain⟨a,b,TB,cR,ha,hb,hT⟩:=id h3;obtain⟨wt,Y,bR⟩:=id ha;obtain⟨ut,dX,cO⟩:=id hb;have aJ:=hS.1;have h8:=aJ.2.2.2.1;have sr:A6 H H:=λ_ _ z=>z;have mL:(e.map V.int).length=e.length:=List.length_map ..;refine{_,rfl,st,_,rfl,Ax.of cR,rfl,_,_,rfl,_,_,rfl,_,_,rfl,rfl,?_};refine{_,rfl,_,rfl,a,_,_,_,rfl,rfl,.inr (Ax.of Y),rfl,wt,_,rfl,.inr (Ax.of bR),_,_,rfl,rfl,_,rfl,?_};refine Di (λhc=>?_) (λhc=>?_)
  ·have Z:e.length<=k:=by
    have:=of_decide_eq_true hc;omega
   refine{Af,λd hd=>?_};exists H,d,hd,u,C,M,(.tup [.str #["refused"],.str #["listener"]]);refine{_,rfl,Af,λp g=>?_};exact q p d st _ _ e f _ (sr.trans (u.trans (A6.upd g))) A2 (A6.upd g _ _ C) (.inl ⟨Z,rfl,rfl,rfl,rfl⟩) (lG.same (sr.trans (u.trans (A6.upd g))))
  have Z:k<e.length:=by
   have:=of_decide_eq_false (Bool.eq_false_iff.mpr hc);omega
  refine{_,rfl,a,_,_,_,rfl,rfl,.inr (Ax.of Y),rfl,wt,_,rfl,.inr (Ax.of bR),rfl,_,rfl,?_};refine Di (λh1=>?_) (λh1=>?_)
  ·have uK:e.length=1:=by
    simp at h1;omega
   refine{Af,λd hd=>?_};exists H,d,hd,u,C,M,(.tup [.str #["refused"],.str #["hall"]]);refine{_,rfl,Af,λp g=>?_};exact q p d st _ _ e f _ (sr.trans (u.trans (A6.upd g))) A2 (A6.upd g _ _ C) (.inr ⟨Z,.inl ⟨uK,rfl,rfl,rfl,rfl⟩⟩) (lG.same (sr.trans (u.trans (A6.upd g))))
  have uK:1<e.length:=by
   simp at h1;omega
  refine{_,rfl,a,_,_,_,rfl,rfl,.inr (Ax.of Y),rfl,_,rfl,_,rfl,wt,_,rfl,Ax.of bR,Vt (by rw[List.length_map];omega),λp g=>?_};rw[Rk () (by rw[List.length_map];omega),Int.toNat_natCast];exists H,p,g,o,D,Ha,(.tup ((e.map V.int).take k));refine{_,rfl,a,_,_,_,rfl,rfl,.inr (Ax.of (o _ _ Y)),rfl,_,rfl,_,_,rfl,rfl,_,rfl,wt,_,rfl,Ax.of (o _ _ bR),Vu (by rw[List.length_map];omega),λj R=>?_};rw[Kv () (by rw[List.length_map];omega),show((k:Int)+1).toNat=k+1 by omega];exists Ha,j,R,x,G,Hb,(.tup ((e.map V.int).drop (k+1)));refine{p,j,_,_,rfl,rfl,x _ _ D,G,E4 (by simp;omega),λm Hc s3 I=>?_};rw[<- List.map_take,<- List.map_drop,<- O3]at I;have L:=(o.trans x).trans s3;clear o x s3 D G;refine{_,rfl,a,_,_,_,rfl,rfl,.inr (Ax.of (L _ _ Y)),rfl,Af,λi YZ=>?_};exists Hc,i,YZ,y,J,S,(.tup [.ref m,vO B]);have uN:An S i (e.eraseIdx k) B:={m,J,y _ _ I};have vQ:=L.trans y;have pR:=vQ _ _ dX;have wH:=vQ _ _ cO;clear L y I J;refine{_,rfl,b,_,_,_,rfl,rfl,.inr (Ax.of pR),rfl,_,rfl,_,rfl,ut,_,rfl,Ax.of wH,Vt (by rw[List.length_map];omega),λp g=>?_};rw[Rk () (by rw[List.length_map];omega),Int.toNat_natCast];exists S,p,g,o,D,M,(.tup (#[15].take k));refine{_,rfl,b,_,_,_,rfl,rfl,.inr (Ax.of (o _ _ pR)),rfl,_,rfl,_,_,rfl,rfl,_,rfl,ut,_,rfl,Ax.of (o _ _ wH),Vu (by rw[List.length_map];omega),λj R=>?_};rw[Kv () (by rw[List.length_map];omega),show((k:Int)+1).toNat=k+1 by omega];exists M,j,R,x,G,He,(.tup (#[15].drop (k+1)));refine{p,j,_,_,rfl,rfl,x _ _ D,G,E4 (by simp;omega),λm Hf s3 I=>?_};rw[<- List.map_take,<- List.map_drop,<- O3]at I;have L:=(o.trans x).trans s3;clear o x s3 D G;refine{_,rfl,b,_,_,_,rfl,rfl,.inr (Ax.of (L _ _ pR)),rfl,Af,λv ZA=>?_};exists Hf,v,ZA,y,J,U,(.tup [.ref m,.int n]);have ZC:Cb U v (f.eraseIdx k) n:={m,J,y _ _ I};have AI:=L.trans y;have NS:=vQ.trans AI
  replace uN:=uN.same AI;clear L y I J;have wI:=Tp hS k Z uK;have O:=wI.1;refine{_,rfl,_,rfl,B5 {(),()},_,_,rfl,rfl,?_,Af,λd hd=>?_}
  ·exact ea (i0 (Bg (n:=(k:Int)) () ()).len _) #[]
  exists U,d,hd,u,C,H7,(.tup [.str #["told"],.str (#["gone "]++Str.ofString (toString (k:Int)))]);refine{_,rfl,_,rfl,_,rfl,.inl {i,e.eraseIdx k,B,rfl,uN.same u,(λw hw=>(O.1 w hw).1),O.qv.1,(λw hw=>ea (Ct (n:=12) (by have:=O.1 w hw;omega)) #[]),ea (Ct (n:=12) (by have:=O.qv;omega)) #[],O.2.2.2.1,O.2.2.2.2,λX cP H8 CB s8 qL qJ pM sU=>?_}};have cW:Ck (e.eraseIdx k) B cP:={qJ,pM,sU};refine{Af,λN nO=>?_};exists H8,N,nO,s9,e9,H9,(.tup [.ref i,.ref v,.ref X]);refine{Af,λp R=>?_};have EW:=s9.trans (A6.upd R (o:=.lst [.ref d,.ref N]));have ZD:=(u.trans s8).trans EW;exact q p d N _ _ _ _ _ (NS.trans ZD) A2 (EW _ _ (s8 _ _ C)) (.inr ⟨Z,.inr ⟨uK,rfl,rfl,rfl,rfl⟩⟩) ⟨cP,⟨i,v,X,A6.upd R _ _ e9,uN.same ZD,ZC.same ZD,EW _ _ qL⟩,cW⟩
theorem xv(kE:{33})(kD:{34})(bT:{62}):{69}:=by
 refine T.LH.ok λF=>F.okN En #[0] #[2]
 ·rcases h with⟨x,dx,st,w,g,f,B,n,X,rfl,jB,lA,fE,q⟩<;>rfl
 ·obtain⟨x,dx,st,w,g,f,B,n,X,rfl,jB,lA,fE,q⟩:=h;refine{_,(A3 (Dr (pv 1) (Cm K (n:=3) rfl (Ai (pN 3 En.nd) (Ai (pN 4 En.nd) (Ai (pN 5 En.nd) Bm))))) (A3 (pS 6 En.nd Ad) (A3 (Cc (Ii (Ig (Gv hr) (pv 4) (pv 5)) rfl) (A7 (pS 6 En.nd (pT T.bH (Iq (Gv hr) (pv 5) (pv 4) (λ_ _=>rfl))))) Ac) (A3 (pS 7 En.nd (B1 (A0 (Ah (A0 Ad (A0 (pT T.bH (cN kE hr (A0 (pv 3) (A0 (pv 5) #[34])))) A4))) (A0 (Ah (A0 Ad (A0 (pv 6) A4))) A4)))) (A3 (Bt jG rfl (D4 (by rfl) T.cA (A0 (pL K T.bM #[18]) A4)) (pN 8 En.nd) (A3 (pS 9 En.nd (cN kD hr (A0 (pv 3) (A0 (pv 5) (A0 (pv 4) (A0 (pv 8) A4)))))) (A7 (Bp (D9 PySem.F.plainAttrs_list PySem.F.slot_list_append PySem.F.type_list_append Br (pv 7) (A0 (Ah (A0 (Ab Aw Ad (pT T.bH (pv 8))) (A0 (pX K (B1 #[24]) (D3 Ko (by rfl) T.lV boot_int (A0 (pv 9) A4))) A4))) A4)))))) (A3 (Bt jG rfl (D4 (by rfl) T.cA (A0 (pL K T.bM (pv 7)) A4)) (pN 10 En.nd) (A3 (Dr (pX K (pv 7) (Ab B6 (Ab Cw (pv 10) (pv 2)) (pL K T.bM (pv 7)))) (Cm K (n:=2) rfl (Ai (pN 11 En.nd) (Ai (pN 12 En.nd) Bm)))) (A7 (Av (pD (Vy hr) (cN bT hr (A0 (pv 0) (A0 (pv 11) A4))) (Ah (A0 Ad (A0 (pv 12) A4)))) (A7 (Aa Gi)) Ac)))) (A7 (Aa Gi)))))))),?_};obtain⟨tv,o,hD,ht,h3,qM,hS,hm⟩:=id fE;obtain⟨da,db,dT,hx,EZ,fO,BV⟩:=id hD;obtain⟨a,b,Z,cR,ha,hb,hT⟩:=id h3;obtain⟨wt,bP,bR⟩:=id ha;obtain⟨ut,dX,cO⟩:=id hb;have aJ:=hS.1;have h8:=aJ.2.2.2.1;have h0:=aJ.2.2.1;have hU:f.length=g.length:=(Du hm).1;have mL:(g.map V.int).length=g.length:=List.length_map ..;have heq:=Ka ht.1 qM.1;have MI:Im H b (f,n):=hb;have DE:=E6.t hT MI;refine{_,rfl,st,_,rfl,Ax.of cR,rfl,_,_,rfl,_,_,rfl,_,_,rfl,rfl,?_};refine{_,rfl,_,rfl,Z,_,rfl,DE,_,rfl,(λσ' N=>σ'=[some (.ref x),some (.ref st),some (.int X),some (.ref a),some (.ref b),some (.ref Z),some (.str (Es o (f,n))),none,none,none,none,none,none]/\N=H),λz=>?_,λz=>?_,?_}
  ·cases U:Am o (f,n)with
   |none=>
    rw[U]at z;cases z
   |some v=>
    obtain⟨m,rfl,_⟩:=qM.1.1 _ _ U;have hmm:=Iw qM U;rw[U]at DE;refine{_,rfl,_,rfl,Z,_,rfl,DE,m,rfl,B5 {(),()},?_,rfl};unfold Es;rw[U];rfl
  ·cases U:Am o (f,n)with
   |some v=>
    rw[U]at z;cases z
   |none=>
    refine{?_,rfl};unfold Es;rw[U];rfl
  rintro σ' H0 ⟨rfl,rfl⟩;refine{_,rfl,_,rfl,_,rfl,a,Z,b,g,f,B,n,o,rfl,ha,hb,hT,Kb qM.1,h0,hU,h8,(λy hy=>(aJ.1 y hy).1),λj1 Y D wB=>?_};have hj1:=wB.1;refine{_,rfl,B5 {(),()},Af,λI vP=>?_};exists Y,I,vP,t1,e1,G1,(.tup [.str #["best"],.str (Str.ofString (toString (j1:Int)))]);refine{_,rfl,Af,λJ fM=>?_};exists G1,J,fM,t2,e2,G2,(.tup [.str #["rank"],.str (Es o (f,n))]);refine{Af,λA hA=>?_};exists G2,A,hA,t3,e3,G3,(.lst [.ref I,.ref J]);have vQ:=((D.trans t1).trans t2).trans t3
  have tR:R7 G3 o g B f n [.ref I,.ref J]:=λu O=>by
   rcases eH.mp O with rfl|O
   ·exact{I,_,_,rfl,t3 _ _ (t2 _ _ e1),.inl {rfl,j1,wB,rfl}}
   ·rw[List.mem_singleton.mp O];exact{J,_,_,rfl,t3 _ _ e2,.inr (.inl {rfl,rfl})}
  have hAn:H0 A=none:=((D.trans t1).trans t2).free hA;clear e1 e2 t1 t2 D t3 hA;refine{_,rfl,a,_,_,_,rfl,rfl,.inr (Ax.of (vQ _ _ bP)),rfl,wt,_,rfl,.inr (Ax.of (vQ _ _ bR)),_,rfl,(),(),?_};refine Ge (n:=(g.map V.int).length) (λi σ N=>Je λ(C:List V) (v8 v9:Option V)=>Dv (σ=[some (.ref x),some (.ref st),some (.int X),some (.ref a),some (.ref b),some (.ref Z),some (.str (Es o (f,n))),some (.ref A),v8,v9,none,none,none]) (A6 H0 N) (N A=some (.lst C)) (C.length=i+2) (R7 N o g B f n C)) ⟨_,none,none,rfl,vQ,e3,rfl,tR⟩ ?_ ?_
  ·rintro i σ Y hi ⟨C,v8,v9,rfl,D,DA,VJ,tR⟩;have VO:i<g.length:=()
   have mE:0<=(0+(i:Int))/\(0+(i:Int))<10^100:=()
   refine{_,rfl,_,rfl,_,rfl,_,rfl,.inl {a,Z,b,g,f,B,n,_,i,o,rfl,Int.zero_add _,ha.same D,hb.same D,D _ _ hT,Kb qM.1,VO,hU,h8,λR M=>?_}};refine{_,rfl,.inl {rfl,_,Ar.of (M _ _ DA)},_,rfl,_,rfl,B5 mE,_,_,rfl,rfl,ea (i0 (Bg mE.1 mE.2).len _) #[],Af,λL hL=>?_};exists R,L,hL,G,e3,S,(.lst [.str #["reached"],.str #["lost"]]);refine{_,rfl,.inr {_,rfl,L,_,_,.str (if Ej o g f B n i=true then #["lost"] else #["reached"]),rfl,rfl,.inl (Ar.of e3),(by cases Ej o g f B n i<;>rfl),Af,λp hp=>?_}};exists S,p,hp,s4,e4,H4,(.tup [.str (#["answer "]++Str.ofString (toString (0+(i:Int)))),.str (if Ej o g f B n i=true then #["lost"] else #["reached"])]);have ZE:=(M.trans G).trans s4;have hA4:=ZE _ _ DA;refine{A,_,_,rfl,rfl,hA4,Aj (),C++[.ref p],_,_,rfl,(D.trans ZE).new hAn,A2,by simp;omega,R7.put hA4 λu O=>?_};rcases fC.mp O with O|O
   ·exact tR.same ZE u O
   ·rw[List.mem_singleton.mp O];refine{p,_,_,rfl,e4,.inr (.inr {i,VO,?_,rfl})};rw[Int.zero_add];rfl
  rintro σ Y ⟨C,v8,v9,rfl,D,DA,VJ,tR⟩;have hu10:C.length<=10:=()
  refine{_,rfl,A,_,rfl,.inl (Ar.of DA),_,rfl,(),(),?_};refine Ge (n:=C.length) (λi σ N=>Je λ(v10 v11 ZF:Option V)=>σ=[some (.ref x),some (.ref st),some (.int X),some (.ref a),some (.ref b),some (.ref Z),some (.str (Es o (f,n))),some (.ref A),v8,v9,v10,v11,ZF]/\A6 Y N) ⟨none,none,none,rfl,A6.refl _⟩ ?_ ?_
  ·rintro i σ R hi ⟨v10,v11,ZF,rfl,M⟩;have hmr:=B3 (0+(i:Int)+X) (show(0:Int)<(C.length:Int)by omega);obtain⟨k,hk⟩:∃k:Nat,(0+(i:Int)+X)%(C.length:Int)=k:={((0+(i:Int)+X)%(C.length:Int)).toNat,()};have kP:k<C.length:=()
   obtain⟨p,row,due,eu,ep,EG⟩:=tR.same M _ (ml kP)
   have gE:Ls C ((0+(i:Int)+X)%(C.length:Int))=some (.ref p):=by
    rw[hk];exact Et (by rw[List.getElem?_eq_getElem kP,eu])
   have hA2:=M _ _ DA;have bV:=M _ _ (D _ _ hx);have dB:=B7.same (D.trans M) hD;refine{_,rfl,_,rfl,_,rfl,_,_,rfl,rfl,_,rfl,A,_,rfl,.inl (Ar.of hA2),_,_,rfl,rfl,(by show(0:Int)<(C.length:Int);omega),A,_,_,_,rfl,rfl,.inl (Ar.of hA2),gE,p,_,rfl,Ax.of ep,rfl,_,_,rfl,_,_,rfl,rfl,?_};have okd:=EG.ok qM h8;refine{_,rfl,_,rfl,x,dx,_,_,(λta tb N=>A6 R N/\ta=#["told"]/\tb=due),rfl,bV,rfl,?_,λta AF S r H4 hA3 kA s4 er=>?_}
   ·rcases EG with⟨rfl,j,hj,rfl⟩|⟨rfl,rfl⟩|⟨k2,uV,rfl,rfl⟩
    ·refine{x,dx,_,#["best"],[],none,_,_,_,_,rfl,bV,gk,#[16],#[36],.inr (.inl {g,f,B,n,tv,rfl,dB,Kb ht.1,aJ,hU,λj2 S G GX=>{_,rfl,G,rfl,?_}})}
     have ej:j2=j:=Hw.uniq GX (by
      have e:(λi=>R4 tv g f B n i)=(λi=>R4 o g f B n i):=funext λi=>A2m heq g f B n i;simp only[e];exact hj)
     rw[ej]
    ·refine{x,dx,_,#["rank"],[],none,_,_,_,_,rfl,bV,gm,#[16],#[36],.inr (.inr (.inl {g,f,B,n,tv,rfl,dB,ht,λS G=>{_,rfl,G,rfl,?_}}))};unfold Es;rw[heq]
    ·have hkn:0<=(k2:Int)/\(k2:Int)<10^100:=()
     refine{x,dx,_,#["answer"],[(k2:Int)],none,_,_,_,_,rfl,bV,Hg hkn #[] #[] #[] #[] #[8],#[16],#[36],.inr (.inr (.inr (.inr {(k2:Int),rfl,#[],λS G=>?_})))};refine{x,dx,_,(k2:Int),rfl,.inr (.inr (.inl {g,f,B,n,tv,w,k2,rfl,rfl,B7.same G dB,Kb ht.1,uV,hU,h8,λH4 s4=>{_,rfl,G.trans s4,rfl,?_}}))};rw[ju heq]
   ·obtain⟨G,rfl,rfl⟩:=hA3;refine{_,rfl,Af,λr2 iI=>?_};refine{_,_,E5 (A6.upd iI _ _ er) Dn okd,E5 A2 Dn okd,(by show 1<=60;decide),?_};rw[if_pos rfl,Gs];exact{_,rfl,As rfl {_,_,_,rfl,(M.trans (G.trans s4)).trans (A6.upd iI)}}
  rintro σ R ⟨v10,v11,ZF,rfl,M⟩;exact q R (D.trans M)
theorem xf(bT:{62})(dE:{20})(fG:{63}):{70}:=by
 refine T.LI.ok λF=>F.okN Em #[0] #[2]
 ·rcases h with⟨x,dx,st,w,B,o,C,n,nu,rfl,jB,lA,fE,q⟩<;>rfl
 ·obtain⟨x,dx,st,w,B,o,C,n,nu,rfl,jB,lA,fE,q⟩:=h;refine{_,(A3 (Dr (pv 1) (Cm K (n:=3) rfl (Ai (pN 3 Em.nd) (Ai (pN 4 Em.nd) (Ai (pN 5 Em.nd) Bm))))) (A3 (pS 6 Em.nd (pX K (pv 4) A5)) (A3 (pS 7 Em.nd (Ab B6 #[10] (pL K T.bM (pv 6)))) (A3 (Cc (pD Er (Ab B6 (pv 2) A5) A5) (A7 (pS 7 Em.nd (Aq (Ga K rfl) (by rfl) T.iV boot_min (A0 (C8 (D4 (by rfl) T.cA (A0 (pL K T.bM (pv 6)) A4)) _ rfl Mf rfl rfl (λ_ _ _ _=>(pN 0 Mr)) (λ_ _ _ _=>(K8 (pD Bk (pX K (pv 1) (pv 0)) (Aq (Ga K rfl) (by rfl) T.iV boot_min #[12])))) (λ_ _ _ _=>(pv 0))) A4)))) Ac) (A3 (pS 8 Em.nd (K6 (pC Fq #[18] B9) (K6 (pC Bk (pX K (pv 4) A5) A5) (Ih (pC Bk (Ab B6 #[10] A5) A5))))) (A3 (pS 9 Em.nd (cN bT hr (A0 (pv 0) (A0 (Ab Aw (pX K (B1 #[24]) (D3 Ko (by rfl) T.lV boot_int (A0 (pv 8) A4))) (pT T.bH (pv 7))) A4)))) (A3 (pS 10 Em.nd (cN dE.o hr (A0 (pv 3) (A0 (pv 4) (A0 (pv 7) (A0 (pv 8) A4)))))) (A3 (Av (pD Fw (pv 10) B9) (A3 (E7 (i:=11) Em.nd rfl (D4 (by rfl) T.cA (A0 (pL K T.bM (pv 6)) A4)) _ rfl Mg rfl rfl (λ_ _ _ _=>(pN 0 Ms)) (λ_ _ _ _=>(K8 (PW.pt (Ev (pD Bk (pX K (pv 2) (pv 0)) A5) (E3 (PW.pt (El (Bd (pv 1)) (E8 (pD U3 (pv 0) (pv 3)))))))))) (λ_ _ _ _=>(pv 0)) rfl rfl) (A7 (Aa (B1 (A0 (pC (Ie hr) (pv 9) (Ah (A0 Ad (A0 (cN fG hr (A0 Ad (A0 (pv 11) A4))) A4)))) (A0 (Ah (A0 (pv 3) (A0 (Ah (A0 #[18] #[27])) (A0 (pv 5) A4)))) A4)))))) Ac) (A3 (pS 12 Em.nd (Ab Aw (Ab Aw (cN fG hr (A0 Ad (A0 (pX K (pv 10) A5) A4))) Ad) (pT T.bH (pX K (pv 10) A5)))) (A7 (Aa (B1 (A0 (pC (Ie hr) (pv 9) (Ah (A0 Ad (A0 (pv 12) A4)))) (A0 (Ah (A0 (pv 3) (A0 (pv 10) (A0 (pv 5) A4)))) A4)))))))))))))),?_};obtain⟨tv,cC,hD,ht,h3,qM,hS,hm⟩:=id fE;obtain⟨da,db,dT,hx,EZ,fO,BV⟩:=id hD;obtain⟨a,b,N,cR,ha,hb,hT⟩:=id h3;obtain⟨wt,bP,bR⟩:=id ha;obtain⟨ut,dX,cO⟩:=id hb;have aJ:=hS.1;have h8:=aJ.2.2.2.1;have h0:=aJ.2.2.1;have hU:o.length=B.length:=(Du hm).1;have mL:(B.map V.int).length=B.length:=List.length_map ..;have eC:(o.map V.int).length=o.length:=List.length_map ..;refine{_,rfl,st,_,rfl,Ax.of cR,rfl,_,_,rfl,_,_,rfl,_,_,rfl,rfl,?_};refine{_,rfl,b,_,_,_,rfl,rfl,.inr (Ax.of dX),rfl,?_};have hwm:=B3 (nu/5) (show(0:Int)<((o.map V.int).length:Int)by omega);refine{_,rfl,_,_,rfl,rfl,{#[],#[]},_,rfl,ut,_,rfl,.inr (Ax.of cO),_,_,rfl,rfl,(by show(0:Int)<_;omega),?_};dsimp only;generalize nu/5%((o.map V.int).length:Int)=vH at hwm⊢;refine{_,rfl,_,_,rfl,rfl,by simp,_,_,rfl,rfl,_,rfl,(λσ' I=>∃(g:Int),Ed (σ'=[some (.ref x),some (.ref st),some (.int nu),some (.ref a),some (.ref b),some (.ref N),some (.ref ut),some (.int g),none,none,none,none,none]) (A6 H I) (0<=g) (g<(B.length:Int))),λ_=>?_,λ_=>?_,?_}
  ·refine{_,rfl,ut,_,rfl,.inr (Ax.of cO),_,rfl,(),(),λD hD=>?_};refine Lv (cnt:=((o.map V.int).length:Int).toNat) (λi ys I=>∃(S:mY),Hs (ys=S.map V.int) (S.length<=i) ((∀k∈S,0<=k/\k<(o.length:Int))) ((∀j:Nat,j<i->(∀y∈o,o.getD j 0<=y)->S≠[])) (I D=some (.lst ys)) (A6 H I)) ⟨[],rfl,de _,(λ_ z=>nomatch z),(λj z=>by omega),A2,A6.upd hD⟩ ?_ ?_ ?_ ?_
   ·rintro i ys H1 hi ⟨S,rfl,kP,Z,bZ,fF,X⟩;rw[List.length_map]at hi;have pE:i<o.length:=()
    have ax:Ls (o.map V.int) (0+(i:Int))=some (.int (o.getD i 0)):=by rw[Int.zero_add];exact Rs pE
    refine{_,rfl,_,rfl,ut,_,_,_,rfl,rfl,.inr (Ax.of (X _ _ cO)),ax,_,rfl,ut,o,rfl,.inr (Ax.of (X _ _ cO)),(),λm hm jI=>{rfl,_,rfl,?_}};refine Di (λ_=>?_) (λhn=>?_)
    ·refine{_,rfl,fF,Aj (by rw[List.length_map];omega),S++[0+(i:Int)],by rw[List.map_append];rfl,by simp;omega,λk lB=>?_,λ_ _ _ z=>by simp at z,A2,X.new hD};rcases fC.mp lB with z|z
     ·exact Z k z
     ·rw[List.mem_singleton.mp z];omega
    ·refine{S,rfl,(),Z,λj hj hall=>?_,fF,X};by_cases e:j=i
     ·subst e;exfalso;have h1:=hall m hm;have h2:=jI (o.getD j 0) (by rw[List.getD_eq_getElem?_getD,List.getElem?_eq_getElem pE];exact ml pE);have h3:o.getD j 0=m:=()
      exact hn (by rw[h3];simp)
     ·exact bZ j () hall
   ·rintro σ I Q1 Q2 hQ ⟨v,e1,v2,e2,p,us,i,u,r1,J,sq,at',v3,e3,p2,ns2,r3,sq2,l2,z⟩;exact{v,e1,v2,e2,p,us,i,u,r1,J,sq,at',v3,e3,p2,ns2,r3,sq2,l2,λm hm jI=>let⟨y1,c,y2,y3⟩:=z m hm jI;{y1,c,y2,hQ _ _ y3}}
   ·rintro σ I Q1 Q2 hQ ⟨v,e1,z⟩;exact{v,e1,hQ _ _ z}
   rintro ys H1 ⟨S,rfl,kP,Z,bZ,fF,X⟩
   have ZG:0<S.length:=by
    obtain⟨j,hj,jI⟩:=Tt (ls:=o) ();refine List.length_pos_iff.mpr (bZ j (by rw[List.length_map];omega) jI)
   refine{D,S,rfl,.inl (Ar.of fF),ZG,λm iR _=>?_};have HS:=Z m iR;exact{m,rfl,X,(),()}
  ·exact{vH,rfl,A6.refl _,(),()}
  rintro σ' H1 ⟨g,rfl,X,zR,dA⟩;obtain⟨g,rfl⟩:∃k:Nat,g=k:={g.toNat,()};refine{_,rfl,a,_,_,_,rfl,rfl,.inr (Ax.of (X _ _ bP)),rfl,rfl,_,_,rfl,(λ_ Q1 z1=>{_,rfl,b,_,_,_,rfl,rfl,.inr (Ax.of (X _ _ dX)),rfl,rfl,_,_,rfl,(λ_ Q2 z2=>{_,rfl,_,_,rfl,rfl,{#[],#[]},_,_,rfl,rfl,by simp,rfl,z2}),z1}),?_};dsimp only;generalize AJ:(!decide (vO C=V.bB)&&(decide (V.int n=V.int 0)&&decide (V.int (nu/40%3)=V.int 0)))=f
  have nG:N9 C n f:=λe=>by
   rw[<- AJ]at e;cases C with
   |none=>exact absurd e (by simp[vO])
   |some c=>exact{by simp,by simp at e;exact e.2.1}
  have UD:=lf nG;clear AJ;have eE:g<B.length:=()
  have kZ:0<=(g:Int)/\(g:Int)<10^100:=()
  refine{_,rfl,Af,λL hL=>?_};exists H1,L,hL,t2,e2,G2,(.lst [.str #["call "],.str #["lost "]]);have bI:=X.trans t2;have bV:=bI _ _ hx;refine{_,rfl,.inr {f,rfl,L,_,_,.str (if f=true then #["lost "] else #["call "]),rfl,rfl,.inl (Ar.of e2),(by cases f<;>rfl),_,rfl,_,rfl,B5 kZ,_,_,rfl,rfl,?_,x,dx,_,_,(λta tb I=>Bw x G2 I/\ta=#["told"]/\tb=Pa B o C n g f/\B7 aF I x dx B C (Jc B o C n g f).1 (Jc B o C n g f).2 tv w),rfl,bV,rfl,{x,dx,_,Fg f,[(g:Int)],none,_,_,_,_,rfl,bV,Uc kZ f,(λz=>absurd z (by cases f<;>decide)),#[36],.inr (.inr (.inr (.inr {(g:Int),rfl,by cases f<;>decide,λH2 s2=>{x,dx,_,(g:Int),rfl,.inl {B,o,C,n,tv,w,g,f,rfl,rfl,B7.same (bI.trans s2) hD,eE,aJ,hm,nG,λH5 b5 lX=>{_,rfl,(Bw.of s2).trans b5,rfl,rfl,lX}}}})))},λta AF H2 r H3 hA kA s3 er=>?_}}
  ·have:=(Bg kZ.1 kZ.2).len;have h5:(if f=true then #["lost "] else #["call "]).length<=5:=by cases f<;>decide
   exact ea (Nat.add_le_add h5 this) #[]
  obtain⟨b2,rfl,rfl,dB⟩:=hA;have RF:=(An.but b2 bV (ha.same bI)).same s3;have TV:=(Cb.but b2 bV (hb.same bI)).same s3;have PJ:=s3 _ _ (b2.dT bV (bI _ _ hT));have hut:=s3 _ _ (b2.tup bV (bI _ _ cO));have wF:=s3 _ _ (b2.tup bV (bI _ _ bP));have bb:=((Bw.of bI).trans b2).trans (Bw.of s3);refine{_,rfl,_,rfl,_,rfl,_,rfl,.inl {a,b,B,o,C,n,g,f,rfl,RF,TV,eE,hU,h8,nG,λz H4 s4=>?_,λz p H4 s4 hp=>?_}}
  ·refine{_,rfl,rfl,_,rfl,Cz rfl ?_};have NW:=s4 _ _ hut;have ET:(Au B o g f).length=o.length:=Dy _ _ _ _;have zV:=Ec (Au B o g f);refine{_,rfl,ut,_,rfl,.inr (Ax.of NW),_,rfl,(),(),λG hG=>?_};refine Lv (cnt:=((o.map V.int).length:Int).toNat) (λi ys I=>ys=(Bx (Au B o g f) i).map V.int/\I G=some (.lst ys)/\A6 H4 I) ⟨rfl,A2,A6.upd hG⟩ ?_ ?_ ?_ ?_
   ·rintro i ys H5 hi ⟨rfl,NX,s5⟩;rw[List.length_map]at hi;have pE:i<o.length:=()
    have ax:Ls (o.map V.int) (0+(i:Int))=some (.int (o.getD i 0)):=by rw[Int.zero_add];exact Rs pE
    have wB:=zV i;have hle:=kq (ws:=B) (lost:=f) (who:=g) (λw hw=>(aJ.1 w hw).1) eE pE;refine{_,rfl,_,rfl,ut,_,_,_,rfl,rfl,.inr (Ax.of (s5 _ _ NW)),ax,rfl,_,rfl,_,(λ_ Q1 z1=>{_,rfl,_,rfl,_,(λ_ Q2 z2=>{_,rfl,_,rfl,rfl,_,rfl,z2}),z1}),?_};rw[hle];refine Di (λz=>?_) (λz=>?_)
    ·refine{_,rfl,NX,Aj (by rw[List.length_map];omega),?_,A2,s5.new hG};rw[Dt,if_pos (of_decide_eq_true z),List.map_append,Int.zero_add];rfl
    ·have e:Bx (Au B o g f) (i+1)=Bx (Au B o g f) i:=by rw[Dt,if_neg (λe=>z (decide_eq_true e)),List.append_nil]
     exact{by rw[e],NX,s5}
   ·rintro σ I Q1 Q2 hQ ⟨v,e1,v2,e2,p,us,i,u,r1,J,sq,at',y1,c,y2,d,z,q⟩;exact{v,e1,v2,e2,p,us,i,u,r1,J,sq,at',y1,c,y2,d,z,hQ _ _ q}
   ·rintro σ I Q1 Q2 hQ ⟨v,e1,z⟩;exact{v,e1,hQ _ _ z}
   rintro ys H5 ⟨rfl,NX,s5⟩;rw[show((o.map V.int).length:Int).toNat=B.length by omega]at NX;have hbw:=zV B.length
   have NC:∀y∈Bx (Au B o g f) B.length,0<=y/\y<10^100:=λy hy=>by
    unfold Bx at hy;obtain⟨k,Z,e⟩:=List.mem_filterMap.mp hy;rw[List.mem_range]at Z;split at e
    ·cases e;omega
    ·cases e
   have bZ:Bx (Au B o g f) B.length≠[]:=λe=>by
    rw[Ng (),List.take_of_length_le ()]at e;exact e z
   have eT:Pa B o C n g f=Ce #["broken"] (Bx (Au B o g f) B.length):=by
    rw[Fh bZ (x:=#["broken "]) #[]];exact if_pos z
   have eK:Jc B o C n g f=(B,0):=if_pos z;rw[eT]at er;rw[eK]at dB;have NY:=Us (hd:=#["broken"]) NC #[8];refine{_,rfl,_,rfl,_,G,_,rfl,.inl NX,NC,(),#[],λH6 s6=>{Af,λJ iI=>?_}};have AI:=(s4.trans s5).trans s6;exists H6,J,iI,s7,e7,O,(.tup [.str #["told"],.str (Ce #["broken"] (Bx (Au B o g f) B.length))]);have EX:=AI.trans s7;refine{_,_,E5 (EX _ _ er) Dn NY,E5 e7 Dn NY,(by show 1<=60;decide),?_};rw[if_neg #[],Gs];refine{_,rfl,_,rfl,a,_,_,_,rfl,rfl,.inr (Ax.of (EX _ _ wF)),rfl,Af,λY zU=>?_};exists O,Y,zU,s8,e8,H8,(.tup [.ref wt,.int 0]);refine{_,rfl,Af,λM nO=>?_};exists H8,M,nO,s9,e9,H9,(.tup [.ref a,.ref Y,.ref N]);refine{Af,λp hp=>?_};have EW:=s9.trans (A6.upd hp (o:=.lst [.bl true,.ref M]));have U:=(EX.trans s8).trans EW;obtain⟨wt',R,ZH⟩:=id RF;rw[wF]at R;injection R with R;injection R with R;injection R with R;injection R with R;subst R;exact q p M B 0 _ (bb.trans (Bw.of U)) A2 ⟨tv,cC,B7.same (s3.trans U) dB,ht,⟨a,Y,N,A6.upd hp _ _ e9,RF.same U,⟨wt,EW _ _ e8,U _ _ ZH⟩,U _ _ PJ⟩,qM,hS,M9 aJ⟩
  ·refine{_,rfl,rfl,_,rfl,As rfl ?_};obtain⟨u4,vP,fM⟩:=id hp;have ET:(Au B o g f).length=o.length:=Dy _ _ _ _;have jK:(Au B o g f,Bl C n f)∈Ba B (qv C):=ue (k:=(o,n)) (λw hw=>(aJ.1 w hw).1) hm eE UD (if_neg z);obtain⟨g1,g2,g3,g4⟩:=Du jK;have wC:=aJ.qv
   have iY:0<=Bl C n f/\Bl C n f<10^100:=by
    have g3':0<=Bl C n f:=g3;have g4':Bl C n f<qv C:=g4;omega
   have DG:∀y∈Au B o g f,0<=y/\y<10^100:=λy hy=>by
    obtain⟨k,Z⟩:=gC.mp hy;have kP:=(b0.mp Z).1;have hwk:B[k]?=some (B[k]'()):=d3 ();have:=g2 k y _ Z hwk;have:=aJ.1 _ (cI hwk);omega
   have bZ:Au B o g f≠[]:=λe=>by
    rw[e]at ET;simp at ET;omega
   have eT:Pa B o C n g f=Ce #["left"] (Au B o g f)++#[" quiet "]++B8 (Bl C n f):=by
    rw[Fh bZ (x:=#["left "]) #[]];exact if_neg z
   have eK:Jc B o C n g f=(Au B o g f,Bl C n f):=if_neg z;rw[eT]at er;rw[eK]at dB;have okW:=Us (hd:=#["left"]) DG #[8];have NY:PyData.strOk (Ce #["left"] (Au B o g f)++#[" quiet "]++B8 (Bl C n f))=true:=Ea (Ea okW #[8]) (Cr iY);have mU:=R5 (hd:=#["left"]) DG () #[];have YD:=(Bg iY.1 iY.2).len;refine{_,rfl,p,_,_,_,rfl,rfl,.inr (Ax.of vP),rfl,_,u4,_,rfl,.inr fM,DG,(),#[],λH5 s5=>{_,_,rfl,rfl,ea (Nat.add_le_add_right mU _) #[],_,rfl,p,_,_,_,rfl,rfl,.inr (Ax.of (s5 _ _ vP)),rfl,_,rfl,B5 iY,_,_,rfl,rfl,?_,?_}}
   ·rw[Co];exact ea (Nat.add_le_add (Nat.add_le_add_right mU _) YD) #[]
   refine{_,rfl,_,rfl,Af,λJ iI=>?_};have s35:=s4.trans s5;exists H5,J,iI,s7,e7,O,(.tup [.str #["told"],.str (Ce #["left"] (Au B o g f)++#[" quiet "]++Str.ofString (toString (Bl C n f)))]);have EX:=s35.trans s7
   replace e7:O J=some (.tup [.str #["told"],.str (Ce #["left"] (Au B o g f)++#[" quiet "]++B8 (Bl C n f))]):=e7;refine{_,_,E5 (EX _ _ er) Dn NY,E5 e7 Dn NY,(by show 1<=60;decide),?_};rw[if_neg #[],Gs];refine{_,rfl,_,rfl,_,rfl,Af,λM nO=>?_};exists O,M,nO,s9,e9,H9,(.tup [.ref a,.ref p,.ref N]);refine{Af,λp9 pW=>?_};have DF:=s9.trans (A6.upd pW (o:=.lst [.bl true,.ref M]));have U:=EX.trans DF;exact q p9 M _ _ _ (bb.trans (Bw.of U)) A2 ⟨tv,cC,B7.same (s3.trans U) dB,ht,⟨a,p,N,A6.upd pW _ _ e9,RF.same U,hp.same ((s5.trans s7).trans DF),U _ _ PJ⟩,qM,hS,jK⟩
theorem wo(bT:{62}):{71}:=by
 refine T.LJ.ok λF=>F.okN Li #[0] (λaS A outer s H vs Q E U h=>?_)
 ·rcases h with⟨x,o,st,w,j,C,u,n,g,rfl,jB,lA,fE,q⟩<;>rfl
 ·obtain⟨x,o,st,w,j,C,u,n,g,rfl,jB,lA,fE,q⟩:=h;refine{_,(A3 (Dr (pv 1) (Cm K (n:=3) rfl (Ai (pN 3 Li.nd) (Ai (pN 4 Li.nd) (Ai (pN 5 Li.nd) Bm))))) (A3 (pS 6 Li.nd (Ab Cw (pL K T.bM #[18]) (Ab B6 (Ab Ay (Ab Fp (Ab B6 #[10] A5) (pv 2)) A5) (Ab S6 A5 A5)))) (A3 (pS 7 Li.nd (Ab Aw (pX K (B1 (A0 Ad (A0 Ad #[24]))) (Ab B6 (pv 2) A5)) (pT T.bH (pv 6)))) (A3 (Av (pD (Vy U) (cN bT U (A0 (pv 0) (A0 (pv 7) A4))) (Ah #[24])) (A7 (Aa Gi)) Ac) (A3 (Av (PW.pt (Ev (pD Fq #[18] B9) (E3 (pD Bk (pX K (pv 4) A5) A5)))) (A7 (Aa Gi)) Ac) (A7 (Aa (pC (Ie U) (cN bT U (A0 (pv 0) (A0 (Ab Aw Ad (pT T.bH (Ab B6 #[10] (pL K T.bM #[18])))) A4))) (Ah #[24]))))))))),?_};obtain⟨O,cC,hD,ht,h3,qM,hS,hm⟩:=id fE;obtain⟨da,db,dT,X,EZ,fO,BV⟩:=id hD;obtain⟨a,b,TB,cR,ha,hb,hT⟩:=id h3;obtain⟨wt,bP,bR⟩:=id ha;obtain⟨ut,dX,cO⟩:=id hb;have aJ:=hS.1;have h8:=aJ.2.2.2.1;have h0:=aJ.2.2.1;have hU:C.length=j.length:=(Du hm).1;have mL:(j.map V.int).length=j.length:=List.length_map ..;refine{_,rfl,st,_,rfl,Ax.of cR,rfl,_,_,rfl,_,_,rfl,_,_,rfl,rfl,?_};have h42:=B3 (g/4) (show(0:Int)<2 by decide);have h49:=B3 (g/4%2*g/8) (show(0:Int)<10^(9:Int).toNat by decide);have PM:(10:Int)^(9:Int).toNat=1000000000:=by decide
  refine{_,rfl,a,_,_,_,rfl,rfl,.inr (Ax.of bP),rfl,wt,_,rfl,.inr (Ax.of bR),_,rfl,_,_,rfl,rfl,{#[],#[]},_,_,rfl,rfl,by simp,_,rfl,_,_,rfl,rfl,N3 () (),_,_,rfl,rfl,{#[],#[]},_,_,rfl,rfl,{#[],#[],#[]},_,_,rfl,rfl,(by show(0:Int)<10^Int.toNat 9;decide),_,_,rfl,rfl,?_};dsimp only;generalize eE:((j.map V.int).length:Int)+g/4%2*g/8%10^(9:Int).toNat=f;have dA:(j.length:Int)<=f/\f<10^100:=()
  refine{Af,λL hL=>?_};exists H,L,hL,J,e1,H1,(.lst [.str #["call "],.str #["lost "],.str #["answer "],.str #["leave "]])
  obtain⟨xh,B,hh,gE,v⟩:∃xh B:Str,(B=Fg false\/B=Fg true\/B=#["answer"]\/B=#["leave"])/\Ls [V.str #["call "],.str #["lost "],.str #["answer "],.str #["leave "]] (g%4)=some (.str xh)/\A2v xh B:=by
   have h4:=B3 g (show(0:Int)<4 by decide);have:g%4=0\/g%4=1\/g%4=2\/g%4=3:=()
   rcases this with e|e|e|e<;>rw[e]
   ·exact{_,_,.inl rfl,rfl,#[],#[],#[],#[],by decide+kernel,#[],#[]}
   ·exact{_,_,.inr (.inl rfl),rfl,#[],#[],#[],#[],by decide+kernel,#[],#[]}
   ·exact{_,_,.inr (.inr (.inl rfl)),rfl,#[],#[],#[],#[],by decide+kernel,#[],#[]}
   ·exact{_,_,.inr (.inr (.inr rfl)),rfl,#[],#[],#[],#[],by decide+kernel,#[],#[]}
  have I:0<=f/\f<10^100:=()
  refine{_,rfl,_,_,rfl,rfl,by simp,L,_,_,_,rfl,rfl,.inl (Ar.of e1),gE,_,rfl,f,rfl,B5 I,_,_,rfl,rfl,?_,?_}
  ·have:=(Bg I.1 I.2).len;have:=v.2.2.1;exact ea (Nat.add_le_add this (Bg I.1 I.2).len) #[]
  have Y:¬(0<=f/\f<(j.length:Int)):=()
  refine{_,rfl,_,rfl,x,o,_,_,(λN tb H'=>A6 H1 H'/\N=#["refused"]/\tb=#["listener"]),rfl,J _ _ X,rfl,{x,o,_,B,[f],none,_,_,_,_,rfl,J _ _ X,Hg I v.1 v.2.1 v.2.2.1 v.2.2.2.1 v.2.2.2.2.1,(λz=>absurd z (v.2.2.2.2.2.2)),#[36],.inr (.inr (.inr (.inr {f,rfl,v.2.2.2.2.2.1,λH2 m=>?_})))},λN AF H2 r y hA kA i S=>?_}
  ·have R:=B7.same (J.trans m) hD;rcases hh with rfl|rfl|rfl|rfl
   ·exact{x,o,_,f,rfl,.inr (.inl {j,C,u,n,O,w,false,rfl,R,.inl {Y,λy i=>{_,_,rfl,.inr (.inl {rfl,rfl}),m.trans i,rfl,rfl}}})}
   ·exact{x,o,_,f,rfl,.inr (.inl {j,C,u,n,O,w,true,rfl,R,.inl {Y,λy i=>{_,_,rfl,.inr (.inl {rfl,rfl}),m.trans i,rfl,rfl}}})}
   ·exact{x,o,_,f,rfl,.inr (.inr (.inr (.inl {j,C,u,n,O,w,rfl,R,Y,λy i=>{_,_,rfl,.inr (.inl {rfl,rfl}),m.trans i,rfl,rfl}})))}
   ·exact{x,o,_,f,rfl,.inr (.inr (.inr (.inr (.inr (.inr ({j,C,u,n,O,w,rfl,R,h8,(),.inr (.inl {Y,λy i=>{_,_,rfl,.inr (.inl {rfl,rfl}),m.trans i,rfl,rfl}})}))))))}
  obtain⟨m,rfl,rfl⟩:=hA;refine{Af,λr2 G=>?_};have p:=(J.trans (m.trans i)).trans (A6.upd G (o:=.tup [.str #["refused"],.str #["listener"]]));refine{_,_,E5 (A6.upd G _ _ S) Eu Vw,E5 A2 Eu Vw,(by show 1<=60;decide),?_};rw[if_pos rfl,Gs];refine{_,rfl,As rfl ?_};generalize upd y r2 (.tup [.str #["refused"],.str #["listener"]])=H4 at p⊢;clear J e1 m i S G kA;refine{_,rfl,a,_,_,_,rfl,rfl,.inr (Ax.of (p _ _ bP)),rfl,rfl,_,rfl,_,(λ_ Q1 z1=>{_,rfl,b,_,_,_,rfl,rfl,.inr (Ax.of (p _ _ dX)),rfl,rfl,_,rfl,z1}),?_};refine Di (λhc=>q _ p) (λhc=>?_)
  have eG:¬(u≠none/\n=0):=by
   rintro⟨z1,z2⟩;refine hc ?_;cases u with
   |none=>exact absurd rfl z1
   |some c=>
    subst z2;rfl
  have M:=B3 (g/8) (show(0:Int)<(j.length:Int)by omega);refine{_,rfl,_,rfl,_,_,rfl,rfl,{#[],#[]},_,rfl,a,_,_,_,rfl,rfl,.inr (Ax.of (p _ _ bP)),rfl,wt,_,rfl,.inr (Ax.of (p _ _ bR)),_,_,rfl,rfl,(by rw[mL];omega),?_};dsimp only;rw[mL];generalize g/8%(j.length:Int)=D at M⊢;have Z:0<=D/\D<10^100:=()
  refine{D,rfl,B5 Z,_,_,rfl,rfl,ea (i0 (Bg Z.1 Z.2).len _) #[],x,o,_,_,(λN tb H'=>A6 H4 H'/\N=#["refused"]/\tb=#["loss"]),rfl,p _ _ X,rfl,{x,o,_,Fg true,[D],none,_,_,_,_,rfl,p _ _ X,Uc Z true,#[16],#[36],.inr (.inr (.inr (.inr {D,rfl,#[],λH2 m=>{x,o,_,D,rfl,.inr (.inl {j,C,u,n,O,w,true,rfl,B7.same (p.trans m) hD,.inr {M,rfl,eG,λy i=>{_,_,rfl,.inr (.inr (.inl {rfl,rfl})),m.trans i,rfl,rfl}}})}})))},λN AF H2 r y hA kA i S=>?_};obtain⟨s5,rfl,rfl⟩:=hA;refine{Af,λr2 G=>?_};refine{_,_,E5 (A6.upd G _ _ S) Eu Xm,E5 A2 Eu Xm,(by show 1<=60;decide),?_};rw[if_neg #[],Gs];exact q _ ((p.trans (s5.trans i)).trans (A6.upd G))
theorem yh(tS:{68})(bT:{62})(jC:{60})(tT:{67}):{72}:=by
 refine T.LK.ok λF=>F.okN Hi #[0] (λaS A outer s H vs Q E R h=>?_)
 ·rcases h with⟨x,J,st,w,g,S,m,n,j,rfl,jB,lA,fE,q⟩<;>rfl
 ·obtain⟨x,J,st,w,g,S,m,n,j,rfl,jB,lA,fE,q⟩:=h;refine{_,(A3 (pS 3 Hi.nd #[14]) (A3 (pS 4 Hi.nd (pX K (B1 (A0 (Aq (Kp K rfl) (by rfl) T.jR boot_max (A0 #[18] A4)) (A0 (Aq (Kp K rfl) (by rfl) T.jR boot_max (A0 #[18] A4)) (A0 (Aq (Kp K rfl) (by rfl) T.jR boot_max (A0 #[18] A4)) (A0 (Ab B6 #[10] A5) A4))))) (Ab B6 (pv 2) A5))) (A3 (Cc (pD Bk (Ab B6 #[10] A5) A5) (A7 (pS 4 Hi.nd (Ab Cw A5 (Ab B6 #[10] (Ab S6 A5 A5))))) Ac) (A3 (Av (pD Bk (Ab B6 #[10] A5) A5) (A3 (pS 5 Hi.nd (Ab B6 #[10] (Ab Cw (pL K T.bM #[18]) (Ab B6 #[10] A5)))) (A3 (Dr (cN tS R (A0 (pv 1) (A0 (pv 5) A4))) (Ir K (n:=2) rfl (Ai (pN 6 Hi.nd) (Ai (pN 1 Hi.nd) Bm)))) (A7 (Aa (B1 (A0 (pC (Ie R) (cN bT R (A0 (pv 0) (A0 (Ab Aw Ad (pT T.bH (pv 5))) A4))) (pv 6)) #[12])))))) Ac) (A3 (Av (PW.pt (Ev (pD Er A5 (cN jC R (A0 (pv 3) #[34]))) (E3 (pD nz (cN jC R (A0 (pv 3) #[34])) A5)))) (A7 (Aa (B1 (A0 Gi #[12])))) Ac) (A3 (Dr (cN tT R (A0 (pv 1) #[34])) (Ir K (n:=2) rfl (Ai (pN 6 Hi.nd) (Ai (pN 1 Hi.nd) Bm)))) (A7 (Aa (B1 (A0 (pC (Ie R) (cN bT R (A0 (pv 0) (A0 (Ab Aw Ad (pT T.bH (pv 4))) A4))) (pv 6)) #[12])))))))))),?_};obtain⟨tv,cC,O,ht,h3,qM,hS,hm⟩:=id fE;obtain⟨da,db,dT,hx,EZ,fO,BV⟩:=id O;obtain⟨a,b,TB,cR,ha,hb,hT⟩:=id h3;obtain⟨wt,bP,bR⟩:=id ha;obtain⟨ut,dX,cO⟩:=id hb;have B:=hS.1;have h8:=B.2.2.2.1;have h0:=B.2.2.1;have hU:S.length=g.length:=(Du hm).1;have mL:(g.map V.int).length=g.length:=List.length_map ..;refine{_,rfl,st,_,_,_,rfl,rfl,.inr (Ax.of cR),rfl,?_};refine{_,rfl,a,_,_,_,rfl,rfl,.inr (Ax.of bP),rfl,wt,g,rfl,.inr (Ax.of bR),h0,λm1 hm1 _=>{_,rfl,a,_,_,_,rfl,rfl,.inr (Ax.of bP),rfl,wt,g,rfl,.inr (Ax.of bR),h0,λm2 HS _=>{_,rfl,a,_,_,_,rfl,rfl,.inr (Ax.of bP),rfl,wt,g,rfl,.inr (Ax.of bR),h0,λm3 hm3 _=>{_,rfl,_,_,rfl,rfl,{#[],#[]},_,_,rfl,rfl,by simp,Af,λL hL=>?_}}}};have h89:=B3 (j/8) (show(0:Int)<9 by decide);dsimp only;generalize j/8%9=m4 at h89 hL⊢;exists H,L,hL,G,e1,H1,(.lst [.int m1,.int m2,.int m3,.int m4])
  obtain⟨w0,gE,hw00,hw01⟩:∃w0:Int,Ls [V.int m1,.int m2,.int m3,.int m4] (j%4)=some (.int w0)/\0<=w0/\w0<=3000:=by
   have:=B.1 m1 hm1;have:=B.1 m2 HS;have:=B.1 m3 hm3;have h4:=B3 j (show(0:Int)<4 by decide);have:j%4=0\/j%4=1\/j%4=2\/j%4=3:=()
   rcases this with e|e|e|e<;>rw[e]
   ·exact{m1,rfl,(),()}
   ·exact{m2,rfl,(),()}
   ·exact{m3,rfl,(),()}
   ·exact{m4,rfl,(),()}
  refine{_,rfl,_,_,rfl,rfl,by simp,L,_,_,_,rfl,rfl,.inl (Ar.of e1),gE,?_};have h69:=B3 (j/640) (show(0:Int)<10^(9:Int).toNat by decide);have PM:(10:Int)^(9:Int).toNat=1000000000:=by decide
  refine{_,rfl,_,_,rfl,rfl,{#[],#[]},_,_,rfl,rfl,by simp,rfl,_,rfl,(λσ' X=>∃(i:Int),Ed (σ'=[some (.ref x),some (.ref st),some (.int j),some (.ref a),some (.int i),none,none]) (X=H1) (0<=i) (i<10000000000)),λ_=>?_,λ_=>?_,?_}
  ·refine{_,rfl,_,_,rfl,rfl,{#[],#[]},_,_,rfl,rfl,{#[],#[],#[]},_,_,rfl,rfl,(by show(0:Int)<10^Int.toNat 9;decide),_,_,rfl,rfl,_,rfl,rfl,(),()}
  ·exact{w0,rfl,rfl,(),()}
  rintro σ' H1' ⟨i,rfl,rfl,hi0,OZ⟩;clear e1 gE hL
  replace cO:=G _ _ cO
  replace bP:=G _ _ bP
  replace bR:=G _ _ bR;have HL:=ha.same G;have mP:intBits i<=256:=ea (Ct (n:=40) ()) #[];have mE:0<=i/\i<10^100:=()
  have lG:Yj H1' st g m S n:={cC,h3.same G,qM};refine{_,rfl,_,_,rfl,rfl,{#[],#[]},_,_,rfl,rfl,by simp,rfl,_,rfl,?_};refine Di (λ_=>?_) (λ_=>?_)
  ·have h32:=B3 (j/320) (show(0:Int)<2 by decide);have NZ:(0:Int)<((g.map V.int).length:Int)+j/320%2:=()
   have hkr:=B3 (j/12) NZ;refine{_,rfl,_,_,rfl,rfl,{#[],#[]},_,rfl,a,_,_,_,rfl,rfl,.inr (Ax.of bP),rfl,wt,_,rfl,.inr (Ax.of bR),_,rfl,_,_,rfl,rfl,{#[],#[]},_,_,rfl,rfl,by simp,_,_,rfl,rfl,_,_,rfl,rfl,NZ,?_};obtain⟨k,hk⟩:∃k:Nat,j/12%(((g.map V.int).length:Int)+j/320%2)=k:={(j/12%(((g.map V.int).length:Int)+j/320%2)).toNat,()};dsimp only;rw[hk];have AK:k<100:=()
   have wK:0<=(k:Int)/\(k:Int)<10^100:=()
   refine{_,rfl,_,rfl,st,g,S,m,n,k,rfl,lG,hS,hU,AK,λp d cS ta tb Z pY G2 g2 ep ed hJ wI=>?_};have D:=G.trans g2;have I:=D _ _ hx;have v:=Vk hS hm hJ AK;refine{p,_,rfl,Ar.of ep,rfl,_,_,rfl,_,_,rfl,rfl,?_};refine{_,rfl,_,rfl,_,rfl,B5 wK,_,_,rfl,rfl,ea (i0 (Bg wK.1 wK.2).len _) #[],x,J,_,_,(λZI NO X=>Bw x G2 X/\ZI=ta/\NO=tb/\∃u,B7 aF X x J Z m pY n u w/\Ck Z m u),rfl,I,rfl,{x,J,_,#["leave"],[(k:Int)],none,_,_,_,_,rfl,I,Hg wK #[] #[] #[] #[] #[8],#[16],#[36],.inr (.inr (.inr (.inr {(k:Int),rfl,#[],λH2 o=>?_})))},λta AF H2 r C hA kA f er=>?_}
   ·have dB:=B7.same (D.trans o) O;refine{x,J,_,(k:Int),rfl,.inr (.inr (.inr (.inr (.inr (.inr ({g,S,m,n,tv,w,rfl,dB,h8,(),?_}))))))};rcases hJ with⟨z,rfl,rfl,rfl,rfl⟩|⟨N,⟨z,rfl,rfl,rfl,rfl⟩|⟨z,rfl,rfl,rfl,rfl⟩⟩
    ·exact .inr (.inl ⟨(),λC f=>⟨_,_,rfl,.inr (.inl ⟨rfl,rfl⟩),Bw.of (o.trans f),rfl,rfl,tv,B7.same ((D).trans (o.trans f)) O,ht⟩⟩)
    ·exact .inr (.inr ⟨(),z,λC f=>⟨_,_,rfl,.inl ⟨rfl,rfl⟩,Bw.of (o.trans f),rfl,rfl,tv,B7.same ((D).trans (o.trans f)) O,ht⟩⟩)
    ·exact .inl ⟨k,rfl,N,z,hU,B,v.1.1,λu H5 YQ b5 lX=>⟨_,rfl,(Bw.of o).trans b5,rfl,rfl,u,lX,YQ⟩⟩
   obtain⟨Y,rfl,rfl,u,qI,U⟩:=hA;have wJ:∀{M:Addr},C M=none->A6 C (upd C M (.lst [.bl true,.ref cS])):=λh=>A6.upd h;refine{_,rfl,_,_,E5 er v.2.2.1 v.2.2.2,E5 (f _ _ (Y.tup I ed)) v.2.2.1 v.2.2.2,(by show 1<=60;decide),?_};rw[if_neg #[],Gs];refine{_,rfl,Af,λM pW=>?_};obtain⟨ZJ,ZK,DH⟩:=((Yj.but Y I wI).same f).same (wJ pW);exact q M cS Z pY _ (((Bw.of D).trans Y).trans (Bw.of (f.trans (wJ pW)))) A2 ⟨u,ZJ,B7.same (f.trans (wJ pW)) qI,U,ZK,DH,v.1,v.2.1⟩
  have kG:(∀w∈g,intBits w<=256)/\intBits (qv m)<=256:=Jl B;refine{_,rfl,_,rfl,a,g,m,i,rfl,HL,kG.1,kG.2,(),mP,_,_,rfl,rfl,_,rfl,_,(λ_ Q1 z1=>{_,rfl,_,rfl,a,g,m,i,rfl,HL,kG.1,kG.2,(),mP,_,_,rfl,rfl,_,rfl,z1}),?_};refine Di (λ_=>?_) (λhc=>?_)
  ·exact{_,rfl,Af,λp hp=>q p st g S _ (Bw.of (G.trans (A6.upd hp))) A2 (fE.same (G.trans (A6.upd hp)))}
  have ZL:¬(40<Ao (qv m) (g++[i])/\Ao (qv m) (g++[i])<=3000):=λz=>hc (by rw[decide_eq_true z.1,decide_eq_true z.2];rfl);refine{_,rfl,_,rfl,st,g,S,m,n,i,rfl,lG,hS,hU,mP,λp d cS ta tb Z pY G2 g2 ep ed hJ wI=>?_};have D:=G.trans g2;have I:=D _ _ hx;have v:=Vi hS hm hJ ZL;refine{p,_,rfl,Ar.of ep,rfl,_,_,rfl,_,_,rfl,rfl,?_};refine{_,rfl,_,rfl,_,rfl,B5 mE,_,_,rfl,rfl,ea (i0 (Bg mE.1 mE.2).len _) #[],x,J,_,_,(λZI NO X=>Bw x G2 X/\ZI=ta/\NO=tb/\∃u,B7 aF X x J Z m pY n u w/\Ck Z m u),rfl,I,rfl,{x,J,_,#["join"],[i],none,_,_,_,_,rfl,I,Hg mE #[] #[] #[] #[] #[8],#[16],#[36],.inr (.inr (.inr (.inr {i,rfl,#[],λH2 o=>?_})))},λta AF H2 r C hA kA f er=>?_}
  ·have dB:=B7.same (D.trans o) O;refine{x,J,_,i,rfl,.inr (.inr (.inr (.inr (.inr (.inl {g,S,m,n,tv,w,rfl,dB,h8,(),?_})))))};rcases hJ with⟨z,rfl,rfl,rfl,rfl⟩|⟨N,⟨z,rfl,rfl,rfl,rfl⟩|⟨z,tvj,htj,⟨y,rfl,rfl,rfl,rfl⟩|⟨y,rfl,rfl,rfl,rfl⟩⟩⟩
   ·exact .inr (.inr ⟨(),λC f=>⟨_,_,rfl,.inl ⟨rfl,rfl⟩,Bw.of (o.trans f),rfl,rfl,tv,B7.same ((D).trans (o.trans f)) O,ht⟩⟩)
   ·exact .inr (.inl ⟨N.2,(λy hy=>(B.1 y hy).1),(λc hc=>(B.2.1 c hc).1),N.1,Pz kG.1 mP,kG.2,z,λC f=>⟨_,_,rfl,.inr (.inr (.inr (.inl ⟨rfl,rfl⟩))),Bw.of (o.trans f),rfl,rfl,tv,B7.same ((D).trans (o.trans f)) O,ht⟩⟩)
   ·refine .inl ⟨B,Gu B N.1 N.2 z,hU,λu U=>⟨λ_ C f=>⟨_,_,rfl,.inr (.inr (.inr (.inr (⟨rfl,rfl⟩)))),Bw.of (o.trans f),rfl,rfl,tv,B7.same ((D).trans (o.trans f)) O,ht⟩,λhn=>?_⟩⟩;rw[<- Ka U.1 htj.1,hn]at y;cases y
   ·refine .inl ⟨B,Gu B N.1 N.2 z,hU,λu U=>⟨λhs=>?_,λ_ H5 b5 lX=>⟨_,rfl,(Bw.of o).trans b5,rfl,rfl,u,lX,U⟩⟩⟩;rw[Ka U.1 htj.1,y]at hs;cases hs
  obtain⟨Y,rfl,rfl,u,qI,U⟩:=hA;have wJ:∀{M:Addr},C M=none->A6 C (upd C M (.lst [.bl true,.ref cS])):=λh=>A6.upd h;refine{_,rfl,_,_,E5 er v.2.2.1 v.2.2.2,E5 (f _ _ (Y.tup I ed)) v.2.2.1 v.2.2.2,(by show 1<=60;decide),?_};rw[if_neg #[],Gs];refine{_,rfl,Af,λM pW=>?_};obtain⟨ZJ,ZK,DH⟩:=((Yj.but Y I wI).same f).same (wJ pW);exact q M cS Z pY _ (((Bw.of D).trans Y).trans (Bw.of (f.trans (wJ pW)))) A2 ⟨u,ZJ,B7.same (f.trans (wJ pW)) qI,U,ZK,DH,v.1,v.2.1⟩
theorem yi(Z:{70})(tU:{71})(tV:{72})(kI:{69}):{73}:=by
 refine T.LL.ok λF=>F.okN Wg #[0] (λaS A L s H vs Q E B h=>?_)
 ·rcases h with⟨x,i,u,w,b,m,g,n,o,X,rfl,Y,lA,j,q⟩<;>rfl
 ·obtain⟨x,i,u,w,b,m,g,n,o,X,rfl,Y,lA,j,q⟩:=h;refine{_,(A3 (Av (PW.pt (Oz (pD Er (Ab B6 (pv 2) A5) A5) (E8 (PW.pt (Sc (pD Er (Ab B6 (pv 2) A5) A5) (E3 (pD K4 (pv 3) A5))))))) (A7 (Aa (cN Z B (A0 (pv 0) (A0 (pv 1) (A0 #[10] A4)))))) Ac) (A3 (Av (pD Bk (Ab B6 (pv 2) A5) A5) (A7 (Aa (B1 (A0 (cN tU B (A0 (pv 0) (A0 (pv 1) (A0 #[10] A4)))) #[12])))) Ac) (A3 (Dr (cN tV B (A0 (pv 0) (A0 (pv 1) (A0 #[10] A4)))) (Ir K (n:=2) rfl (Ai (pN 4 Wg.nd) (Ai (pN 1 Wg.nd) Bm)))) (A7 (Aa (B1 (A0 (S7 (pv 4) (Ih (cN kI B (A0 (pv 0) (A0 (pv 1) (A0 #[10] A4)))))) #[12]))))))),?_};refine{_,rfl,_,_,rfl,rfl,by simp,_,_,rfl,rfl,_,rfl,(λ_ f=>f=H),(λ_=>rfl),(λ_=>{_,rfl,_,_,rfl,rfl,by simp,_,_,rfl,rfl,_,rfl,(λ_ f=>f=H),(λ_=>rfl),(λ_=>{_,rfl,_,_,rfl,rfl,_,rfl,rfl}),λd S e=>e}),λd S e=>?_};subst e;refine Di (λ_=>?_) (λ_=>?_)
  ·exact{_,rfl,_,rfl,_,rfl,_,_,rfl,rfl,{#[],#[]},x,i,u,w,b,m,g,n,o/8,rfl,(),(),j,λp y D n2 v I J C=>q p y b D n2 v I J C}
  refine{_,rfl,_,_,rfl,rfl,by simp,rfl,_,rfl,?_};refine Di (λ_=>?_) (λ_=>?_)
  ·refine{_,rfl,_,rfl,_,rfl,_,_,rfl,rfl,{#[],#[]},x,i,u,w,b,m,g,n,o/8,rfl,(),(),j,λv R=>{_,rfl,Af,λp M=>?_}};exact q p u b m n _ (Bw.of (R.trans (A6.upd M))) A2 (j.same (R.trans (A6.upd M)))
  refine{_,rfl,_,rfl,_,rfl,_,_,rfl,rfl,{#[],#[]},x,i,u,w,b,m,g,n,o/8,rfl,(),(),j,λp y N D v I J C=>{p,_,rfl,Ar.of J,rfl,_,_,rfl,_,_,rfl,rfl,?_}};refine{_,rfl,true,(λd f=>d=true/\A6 v f),rfl,(λz=>nomatch z),(λ_=>{_,rfl,_,rfl,_,rfl,_,_,rfl,rfl,{#[],#[]},x,i,y,w,N,D,g,n,o/24,rfl,(),(),C,λU G=>{true,rfl,rfl,G}}),?_};rintro d U ⟨rfl,G⟩;refine{_,rfl,Af,λp9 O=>?_};exact q p9 y N D n _ (I.trans (Bw.of (G.trans (A6.upd O)))) A2 (C.same (G.trans (A6.upd O)))
theorem vw{fd:nZ}(F:Uw K "law" "law" Xy ad.jP fd)(mG:{46})(oM:{58})(tW:{57})(oN:{59})(oO:{64})(oP:{66})(tX:{73})(oQ:{65})(kI:{69})(kH:{70}):Ee P w K mg base (CX1 P w) 14 ad.jP fd ["script"] (sp_law K aG):=by
 obtain⟨_,mG,OA⟩:=mG;refine F.okN D5 #[0] (λaS A outer s H vs Q E j h=>?_)
 ·rcases h with⟨a,ns,rfl,hS,hlen,pQ,hT,q⟩<;>rfl
 ·obtain⟨a,ns,rfl,hS,hlen,pQ,hT,q⟩:=h;refine{_,(A3 (pS 1 D5.nd (fz T.vG mG (j.mono #[]) (by rfl) T.BX OA .nil K5)) (A3 (pS 2 D5.nd (cN oM j (A0 (Ab Cw (cN tW j (A0 (pv 0) #[27])) A5) A4))) (A3 (pS 3 D5.nd (cN oN j #[11])) (A3 (pS 4 D5.nd (cN oO j (A0 (pv 1) (A0 #[10] A4)))) (A3 (Dr (cN oP j (A0 (pv 1) #[35])) (Ir K (n:=2) rfl (Ai (pN 5 D5.nd) (Ai (pN 6 D5.nd) Bm)))) (A3 (pS 7 D5.nd A5) (A3 (pS 8 D5.nd A5) (A3 (Bt jG rfl (Cl (Ci (Ei K) (pv 0) (Cn A5) (Cn A5))) (pN 9 D5.nd) (A3 (pS 2 D5.nd (cN oM j (A0 (pv 9) A4))) (A3 (Av (PW.pt (El (Da (Bd (pv 5))) (E8 (pD Fw (pv 4) B9)))) (A7 (Aa Gi)) Ac) (A3 (Cc (PW.pt (Ev (pD Bk (Ab B6 (pv 2) A5) A5) (Ev (pD Bk (Ab B6 #[10] A5) A5) (E3 (pD Bk (pv 8) A5))))) (A3 (pS 8 D5.nd A5) (A7 (Dr (cN oP j (A0 (pv 1) (A0 (pX K (B1 (A0 (pv 3) (A0 (cN oN j (A0 #[10] A4)) A4))) (Ab B6 #[10] A5)) A4))) (Ir K (n:=2) rfl (Ai (pN 5 D5.nd) (Ai (pN 6 D5.nd) Bm)))))) (A7 (Cc (pD Bk (Ab B6 (pv 2) A5) A5) (A7 (pS 4 D5.nd (cN oO j (A0 (pv 1) (A0 #[10] A4))))) (A3 (Dr (cN tX j (A0 (pv 1) (A0 (pv 6) (A0 (pv 2) (A0 (pv 7) A4))))) (Ir K (n:=2) rfl (Ai (pN 5 D5.nd) (Ai (pN 6 D5.nd) Bm)))) (A7 (pS 7 D5.nd (Ab Cw (pv 7) (D3 Ko (by rfl) T.lV boot_int (A0 (g7 (pC Bk (Ab B6 (pv 2) A5) A5) (Ih (pC Bk (Ab B6 (pv 2) A5) A5))) A4))))))))) (A7 (Av (PW.pt (Sc (pD Fq (pv 4) B9) (E3 (Da (Bd (cN oQ j (A0 (pv 1) (A0 (pv 4) (A0 (Ab B6 #[10] (Ab S6 A5 A5)) A4))))))))) (A7 (Aa Gi)) Ac)))))) (A3 (Av (PW.pt (El (Da (Bd (pv 5))) (E8 (pD Fw (pv 4) B9)))) (A7 (Aa Gi)) Ac) (A7 (Aa (S7 (cN kI j (A0 (pv 1) (A0 (pv 6) #[27]))) (S7 (pX K (cN kH j (A0 (pv 1) (A0 (pv 6) #[27]))) A5) (Ih (cN oQ j (A0 (pv 1) (A0 (pv 4) #[27]))))))))))))))))),?_};refine λx y CC OB ZM=>⟨x,y,rfl,A2,λH1 b1 e1=>⟨rfl,?_⟩⟩;have s1:A6 H H1:=λb o e=>b1 b o (Ag e CC) (by rw[A9 (Ag e CC),A9 (Ag e OB)];exact e);clear b1 CC OB ZM;have vA:=s1 _ _ hT;have fL:=s1.seq hS;have wG:=Ym (a:=Lu ns 0) (b:=1) (m:=2^20) (V2 pQ) #[];refine{_,rfl,a,ns,0,rfl,fL,#[],_,_,rfl,rfl,_,rfl,ea wG #[],λr kA jS=>?_};refine{_,rfl,r,rfl,kA,λB qF rH H2 Y hh hS0=>?_};have bV:=Y _ _ e1;refine{_,rfl,_,rfl,_,_,rfl,rfl,{#[],#[]},x,y,_,_,_,_,r/512,rfl,(),bV,Y _ _ vA,λl rs w H3 b3 oH EK=>?_};refine{_,rfl,_,rfl,x,y,_,_,_,w,B,qF,rH,rfl,oH,hh.but b3 bV,hS0,λp f H4 b4 X v=>{p,_,rfl,Ar.of X,rfl,_,_,rfl,_,_,rfl,rfl,?_}};have hS4:=b4.seq oH (b3.seq bV (Y.seq fL));refine{_,rfl,_,rfl,_,rfl,a,_,rfl,hS4,λR qG=>?_};rw[Q8];have hcb:∀c∈V7 ns (some 1) (some 31),intBits c<=2^20:=λc hc=>pQ c (bo hc);generalize V7 ns (some 1) (some 31)=U at hcb⊢;exists H4,R,qG,s5,e5,H5,(.lst (U.map V.int));have AE:=v.ins;obtain⟨a4,b4',T4,AE,_⟩:=v.ins;have hW4:=(EK.but b4 oH).same s5;have hT4:H5 aG=some (.tab lamQ lamP):=s5 _ _ (b4 _ _ (Bj (b3 _ _ (Bj (Y _ _ vA) bV HO.noConfusion) (Y _ _ vA)) oH HO.noConfusion) (b3 _ _ (Bj (Y _ _ vA) bV HO.noConfusion) (Y _ _ vA)));have NJ:=((hh.but b3 bV).but b4 oH).same s5;refine{R,rfl,.inl {{_,Ar.of e5},?_}};refine D7 (K:=K) (a:=R) (xs:=U.map V.int) (λi σ g=>jy λ(D:Int) (l f:Addr) (I J:Int) (v9:Option V)=>σ=[some (.ref a),some (.ref x),some (.int D),some (.ref B),some (.ref l),some (.bl true),some (.ref f),some (.int I),some (.int J),v9]/\∃(w:V) (G:mY) (m:nf) (C:mY) (n:Int),Sy aF g x y f w G m C n/\EB aG g B R qF rH U w l) ⟨r,l,f,0,0,none,rfl,w,qF,rH,qF,0,v.same s5,⟨rs,hW4⟩,hT4,NJ,e5⟩ (by rintro i σ g _ ⟨_,_,_,_,_,_,_,_,_,_,_,_,_,_,_,_,e⟩;exact Ar.of e) ?_ ?_
  ·clear AE hW4 hT4 NJ e5 s5 v hS4 X b4 oH EK b3 bV hh Y e1 vA fL kA jS wG;rintro i u σ H6 hu ⟨nu0,l,f,I,J,v9,rfl,w,G,m,C,n,v,O⟩;rw[List.getElem?_map]at hu;obtain⟨c,hc,rfl⟩:=dI.mp hu;refine{_,rfl,c,rfl,ea (hcb c (cI hc)) #[],λD kA jS=>?_};refine{_,rfl,_,rfl,_,(λ_ Q1 z1=>{_,rfl,rfl,_,rfl,z1}),As rfl ?_};obtain⟨a6,b6,T6,S,hwh⟩:=v.ins;refine{_,rfl,_,_,rfl,rfl,by simp,rfl,_,rfl,_,(λ_ Q1 z1=>{_,rfl,_,_,rfl,rfl,{#[],#[]},_,_,rfl,rfl,by simp,rfl,_,rfl,_,(λ_ Q2 z2=>{_,rfl,rfl,_,rfl,z2}),z1}),(λM g=>Ut λ(l f:Addr) (I J:Int)=>M=[some (.ref a),some (.ref x),some (.int D),some (.ref B),some (.ref l),some (.bl true),some (.ref f),some (.int I),some (.int J),some (.int c)]/\∃(w:V) (G:mY) (m:nf) (C:mY) (n:Int),Sy aF g x y f w G m C n/\EB aG g B R qF rH U w l),λ_=>?_,λ_=>?_,?_}
   ·refine{_,rfl,_,rfl,_,rfl,_,_,rfl,rfl,{#[],#[]},D/48,rfl,(),λh2 oJ NH N s7 QW wI=>{Af,λL hL=>?_}};exists N,L,hL,Z,e8,H8,(.lst [.ref B,.ref h2]);have zT:=s7.trans Z
    obtain⟨hq,wq,cq,gE,hhq,hSq⟩:∃hq wq cq,Ls [V.ref B,.ref h2] (D/24%2)=some (.ref hq)/\An H8 hq wq cq/\Fj wq cq:=by
     have h2':=B3 (D/24) (show(0:Int)<2 by decide);have:D/24%2=0\/D/24%2=1:=()
     rcases this with e|e<;>rw[e]
     ·exact{B,qF,rH,rfl,O.2.2.1.same zT,hS0}
     ·exact{h2,oJ,NH,rfl,QW.same Z,wI}
    refine{_,rfl,_,_,rfl,rfl,{#[],#[]},_,_,rfl,rfl,by simp,L,_,_,_,rfl,rfl,.inl (Ar.of e8),gE,x,y,_,_,_,w,hq,wq,cq,rfl,zT _ _ S,hhq,hSq,λp cS H9 b9 X ZN=>{p,_,rfl,Ar.of X,rfl,_,_,rfl,_,_,rfl,rfl,?_}};exact{l,cS,I,1,rfl,w,wq,cq,wq,0,ZN,O.but ((Bw.of zT).trans b9) S}
   ·refine{_,rfl,_,_,rfl,rfl,by simp,rfl,_,rfl,(λM g=>Ut λ(l f:Addr) (I J:Int)=>M=[some (.ref a),some (.ref x),some (.int D),some (.ref B),some (.ref l),some (.bl true),some (.ref f),some (.int I),some (.int J),some (.int c)]/\∃(w:V) (G:mY) (m:nf) (C:mY) (n:Int),Sy aF g x y f w G m C n/\EB aG g B R qF rH U w l),λ_=>?_,λ_=>?_,?_}
    ·refine{_,rfl,_,rfl,_,_,rfl,rfl,{#[],#[]},x,y,_,_,_,_,D/8,rfl,(),S,O.2.1,λl2 rs2 w2 N b7 EY QH=>?_};obtain⟨_,r2,r3,r4⟩:=O.but b7 S;exact{l2,f,I,J,rfl,w2,G,m,C,n,hwh N w2 b7 EY,{rs2,QH},r2,r3,r4}
    ·refine{_,rfl,_,rfl,_,rfl,_,rfl,x,y,f,w,G,C,m,n,D,I,rfl,kA,jS,v,λp cS oJ pY n2 N b7 X DI=>{p,_,rfl,Ar.of X,rfl,_,_,rfl,_,_,rfl,rfl,?_}};refine{_,rfl,_,rfl,_,_,rfl,rfl,by simp,rfl,_,_,rfl,(λ_ Q1 z1=>{_,rfl,_,_,rfl,rfl,by simp,rfl,z1}),.inr {_,rfl,_,_,rfl,rfl,?_}};exact{l,cS,_,J,rfl,w,oJ,m,pY,n2,DI,O.but b7 S}
    ·exact λM g z=>z
   rintro M N ⟨l,f,I,J,rfl,w,G,m,C,n,v,O⟩;obtain⟨a7,b7,T7,EY,_⟩:=v.ins;obtain⟨⟨rs,hW⟩,_⟩:=id O;have h30:=B3 (D/3) (show(0:Int)<10^(30:Int).toNat by decide);refine{_,rfl,rfl,_,rfl,(λd g=>d=false/\A6 N g),(λz=>nomatch z),(λ_=>{_,rfl,_,rfl,_,rfl,_,_,rfl,rfl,{#[],#[]},_,_,rfl,rfl,{#[],#[],#[]},_,_,rfl,rfl,(by show(0:Int)<10^Int.toNat 30;decide),x,y,_,_,_,w,l,rs,_,rfl,EY,hW,h30.1,Int.lt_trans h30.2 #[],λH8 Z=>{_,rfl,rfl,Z}}),?_};rintro d H8 ⟨rfl,Z⟩;exact As rfl ⟨D,l,f,I,J,_,rfl,w,G,m,C,n,v.same Z,O.but (Bw.of Z) EY⟩
  rintro σ H6 ⟨nu0,l,f,I,J,v9,rfl,w,G,m,C,n,v,O⟩;refine{_,rfl,_,rfl,_,(λ_ Q1 z1=>{_,rfl,rfl,_,rfl,z1}),As rfl ?_};refine{_,rfl,_,rfl,x,y,f,w,G,C,m,n,0,rfl,#[],#[],v,λN s7=>?_};obtain⟨a6,b6,T6,S,_⟩:=v.ins;have DI:=v.same s7;have EY:=s7 _ _ S;have hR7:=O.but (Bw.of s7) S;refine{true,(λd g=>d=true/\g aG=some (.tab lamQ lamP)),rfl,(λz=>nomatch z),(λ_=>?_),?_}
  ·refine{_,rfl,_,rfl,x,y,f,w,G,C,m,n,0,rfl,#[],#[],DI,λp cS pY n2 H8 b8 X ZO=>?_};have hR8:=hR7.but b8 EY;obtain⟨a8,b8',T8,QS,_⟩:=ZO.ins;obtain⟨⟨rs,hW⟩,hT8,_⟩:=id hR8;refine{p,_,_,_,rfl,rfl,.inl (Ar.of X),rfl,true,(λd g=>d=true/\g aG=some (.tab lamQ lamP)),rfl,(λz=>nomatch z),(λ_=>{_,rfl,_,rfl,x,y,_,_,_,w,l,rs,0,rfl,QS,hW,#[],#[],λH9 s9=>{true,rfl,rfl,s9 _ _ hT8}}),?_};exact λd H9 z=>⟨d,rfl,z⟩
  ·rintro d H9 ⟨rfl,h⟩;exact q H9 h
theorem uf(M:Su base mg){m:nZ}(F:Uw K "law" "law" Xy ad.jP m):Ee P w K mg base (CX1 P w) 14 ad.jP m ["script"] (sp_law K aG):=by
 have p:{0}:=yj T;have rJ:{1}:=wf T p;have rK:{2}:=yo T rJ p;have rM:{3}:=xg T;have q:{4}:=xi T rK;have rL:{5}:=wu T;have G:{6}:=A3l T rL;have rS:{7}:=wg T M rM q G;have rO:{8}:=xw T;have u:{9}:=yk T rO;have rP:{10}:=wj T;have rR:{11}:=xj T rP q u;have tK:{12}:=xk T rR rS u;have j:{13}:=yl T;have A:{14}:=xl T;have i:{15}:=xx T;have v:{16}:=wk T;have H:{17}:=A3f T v i;have x:{18}:=wl T H;have rT:{19}:=w8 T;have f:{20}:=yq T x rT;have z:{21}:=ww T f i;have sY:{22}:=wm T x;have y:{23}:=wa T;have rV:{24}:=xy T y;have rX:{25}:=xz T;have rY:{26}:=xm T rV rX y;have I:{27}:=A3g T rY z;have sM:{28}:=ym T;have J:{29}:=A3e T;have e:{30}:=yr T I sM J;have n:{31}:=yt T;have sR:{32}:=wx T n z;have C:{33}:=xn T sR;have B:{34}:=wb T n f i;have L:{35}:=A3m T;have sW:{36}:=yp T j L;have U:{37}:=vx T;have sX:{38}:=y6 T v j U;have sZ:{39}:=yu T;have sS:{40}:=xp T;have X:{41}:=wy T sS;have sT:{42}:=yv T;have tH:{43}:=y8 T X sT;have Y:{44}:=wc T;have sV:{45}:=wz T;have S:{46}:=vy T;have tI:{47}:=A3d T;have g:{48}:=y9 T;have Q:{49}:=vz T e g A;have tJ:{50}:=A3i T sV;have tL:{51}:=A3j T;have N:{52}:=w6 T sW e g;have tE:{53}:=A3k T sX g e;have O:{54}:=we T sY A Y f;have tM:{55}:=A3h T sZ B N tE O;have R:{56}:=xq T tH tI Q j tJ tK C tL tM;have tW:{57}:=wn T;have Z:{58}:=yn T;have oN:{59}:=ya T;have o:{60}:=yb T;have tO:{61}:=yc T;have b:{62}:=yd T R tO;have h:{63}:=xr T;have oO:{64}:=xt T b h;have oQ:{65}:=ye T b;have oP:{66}:=xu T e h b;have tT:{67}:=xc T o e;have tS:{68}:=yg T e;have E:{69}:=xv T C B b;have D:{70}:=xf T b f h;have tU:{71}:=wo T b;have tV:{72}:=yh T tS b o tT;have tX:{73}:=yi T D tU tV E;exact vw T F S Z tW oN oO oP tX oQ E D
end
theorem all_mk{l:W.OpenLaw}{w:n4}{K:W.Frag}{mg:Str->Option nL}{g:Addr}(h:mg "law"=some (.ref g)){ad:PL}{n j o m p u B z C D G A q b E y x:Addr}(T:Txt K mg ad n j o m p u B z C D G A q b E y x):
  (K.lookup b=none/\∃c,W.codeHdIn K c b=true)/\∃f:nZ,(∀(s:nB) (v:nL),BindsTo s f ⟨[v],[]⟩ [("script",v)])/\∀base:Heap,K.In base->base.Ns mainGlobals mg->Su base mg->Ee l.prog w K mg base (CX1 l.prog w) 14 g f ["script"] (sp_law K b):=by
 have e:some (Value.ref g)=some (Value.ref ad.jP):=h.symm.trans T.zN.m;cases e;obtain⟨f,F⟩:=T.zN.e;obtain⟨_,_,i⟩:=T.zM.e;refine{{T.BZ,_,i.tab},f,λs v=>?_,λbase _ _ H=>uf T H F};obtain⟨_,_,_,_,_,_,_,_,_,rfl,_⟩:=F.ex;exact .of_eq rfl
end Law
structure PySem.W.Fast:Prop where(tw8888080882244755660 tw10906808090061347715 tw11417981188501913070 tw1492956509732977712 tw10923259601913118915 tw4616552886330180862 tw6405430661107264103 tw13229368238520704634 tw11941851073319860953 tw11074624151390606424 tw4674263910162508592 tw13479636222322321193 tw11644164011888877945 tw4137142097963765498 tw3851777080253722660 tw6807253182456449752 tw12741440720816980361 tw10889764525441480691 tw15489797494495380542 tw4785326917168388378 tw9476366894908109623 tw8105938401786462026 tw13796332715353091593 tw9160551537441537681 tw13118306033487408376 tw5818577322381133166 tw16480773156371181785 tw11646631529933767291 tw17066224808572450469 tw3345987081849107687 tw5063171923347432816 tw5651264433506127302 tw11418159817815620181 tw9299244987769413548 tw12689467078083328018 tw7549544344166032540 tw7198268917601742149 tw16277283220709613514 tw17462950676471231244 tw5099914745681143965 tw546723208420303108 tw16976248017692786279 tw7394945567825208641 tw10024824238270101079 tw10002703569468350985 tw9466735233719617124 tw8404612800266156171 tw7756862449122948065 tw5718772890323714790 tw2430554034285890013 tw2827854145179376132 tw6253140132542440094 tw857018680735558709 tw799601510989056603 tw7789517969367852105 tw15409595800394508860 tw9935440631312416141 tw5266490612046567538 tw891711049451350871 tw7656400398600127315 tw2647482245871012579 tw6223736068327195920 tw1130185178242048313 tw696669203397043542 tw18308017505109123407 tw16520423356202061584 tw8203140134128268278 tw5084671334757822529 tw12981422730528631382 tw6122621530198414569 tw8650658514979476590 tw16075417182204127402 tw2013799165378757153 tw3439650166211699258 tw803939721997695724 tw276010250397576704 tw12855660027558585633 tw13782023487912733382 tw12299912285758542639 tw3242409404909291826 tw1077534417568698827 tw2874111519231205189 tw9625569279654157996 tw11397512435928915738 tw9126862808764373597 tw5604237012434756513 tw17435524557418559243 tw12022288486043821799 tw4171258675239065344 tw7906916750649983393 tw1325921985981469084 tw12547071740181810033 tw8821982664902157576 tw12732534982835581358 tw16537966017675444764 tw12714280177783818040 tw1022751420536415536 tw1077046596702058731 tw3136356931235853891 tw6719807958732589377 tw671456536986754719 tw13909080451669455176 tw13900449267045952465 tw2896103440353239134 tw7612904118242598818 tw12077730855455826821 tw6970307902970753535 tw8474088186541427820 tw1763306909468244479 tw5211001618138699474 tw12552529424969451425 tw6810225531005346148 tw16225979513480001795 tw17759904696580606497 tw15149198735835375139 tw7549482926872751115 tw15011921445266543785 tw10468937337653595575 tw8105480071303365269 tw363367333033255258 tw2245263969797872953 tw15315708662055092423 tw11219026615801713766 tw123273996742828429 tw464662585512376035 tw10467186146756722013 tw5728830368054127686 tw1604331390629957949 tw221791220771272319 tw17930189777023710864 tw8117527557577877539 tw13460743484952469584 tw10202165956778128946 tw10339087724530872604 tw6198967769104687098 tw13874210537432910327 tw13708999693576384445 tw5758736863124662659 tw17574062188373009114 tw14700765919285492062 tw11847864030233261334 tw13669341128153600084 tw16977089907632650889 tw5576895588189933231 tw17498507195947086432 tw16447737654408192088 tw16054445633043896032 tw360569595591686645 tw14425731804404662509 tw2903729566641395611 tw17313448301303718290 tw6705851731511243188 tw9649043387103639587 tw11376003940193275411 tw8672450760393026143 tw11725291852990193188 tw2374799914842806531 tw18127960108090349215 tw8044692873306679379 tw2763388972704670771 tw17638896243473952988 tw5720265511845771733 tw17169407359821164782 tw13933177855246197706 tw9221724629584399523 tw8127924160127746808 tw7176637653665095155 tw192787233955529849 tw7315311429613219131 tw5221837087415689559 tw4491315529728251034 tw4282286848170719380 tw424049135951837217 tw7206261613146490782 tw10384436060714106492 tw18004423091507966006 tw11239726468031896093 tw2101462944551790097 tw11608124433326806429 tw14463367031051165007 tw3367646453874013729 tw15011905088179739968 tw9174772375223785408 tw17845929389396769156 tw2728143162337282192 tw16402767190770897811 tw14998320725217744063 tw883601359145081935 tw13162742768452076693 tw99765188129755444 tw15178213733218780099 tw18212053127397987906 tw8597899122385884154 tw4233373832841482094 tw5765705389489027205 tw17775170996343099478 tw11544359151990865809 tw14383937071622486412 tw5699538558706372587 tw15176226958932660655 tw8828930346656203973 tw3546278404482735718 tw18272009752233155391 tw12463556883501327036 tw8676729727260496112 tw7507799560693224300 tw13722327085277225268 tw3030523878060684189 tw11908474217158115795 tw3259057251092461392 tw9098551676866648075 tw13260148748640536414 tw15865245479899623889 tw17963280276346527706 tw9722206165077206297 tw14893978537417511342 tw11854195670269378886 tw1767894202817120703 tw8630297773413045631 tw14190034089336805401 tw2832336484936956274 tw6023576310718215806 tw16445914381900012016 tw8481989046960684372 tw8056398458537876832 tw6981802750196873017 tw3263265025903980137 tw2457837106042025107 tw2333117691382743383 tw16304067643509423414 tw16144035963309741521 tw12635712609585287319 tw11949196218688035744 tw2494409785818635918 tw7773735901760866926 tw15454610272667724454 tw375403049962534004 tw6122865671158374496 tw1933553598241612517 tw3565702213988587970 tw1296553602232126103 tw18183603411849269042 tw13175677015861315742 tw3035437201944160218 tw8842157794437898494 tw12204751110127031630 tw11329535146861483918 tw10865324332226390206 tw6561053798435970224 tw11774603556052670416 tw11439469546432295149 tw17020532357243142474 tw1248186170408190131 tw11973787771405905123 tw17711038794893745737 tw2209291846888746376 tw171539838425023918 tw4272113784141188887 tw3681199924849452253 tw3111772311604463425 tw353222615061298386 tw17410342237569195557 tw13549318658304097842 tw10573072337272346211 tw9406400665348967578 tw17197664710981936408 tw9839518403912815576 tw13773387951408850644 tw12034862264339326091 tw14468711205633610982 tw10140078775750469250 tw16972250539178367653 tw6207743117617816180 tw2416537569929237110 tw10782987409788861565 tw14741984430375648213 tw1257401049189394781 tw14449938736172804921 tw15838489650527165697 tw6151820793018656516 tw7723895712418825564 tw103076738465435860 tw9204919205876425227 tw6069421968376840089 tw6025495819685221925 tw11305047607576629281 tw9315604818023732188 tw16530089241335833447 tw16010365293609080258 tw8937298506407125110 tw16339451614260169439 tw15575206933184828398 tw13113208575999203928 tw9274768298353645265 tw3736234745303553392 tw2241419218573369781 tw8548990632638173015 tw7876026869799596036 tw6012951282030732547 tw17335193945561538542 tw871665206305628405 tw7185468478772257980 tw691371931732304457 tw4759162780702878406 tw4032272083672825940 tw18116566500068581037 tw17941840753667504625 tw14034208252189018889 tw504438640359015925 tw11815304682875960428 tw9476272394842649214 tw3673841682564534618 tw1426269515873851556 tw11939418664350974029 tw10005334775876758617 tw8892587241974743746 tw4183566819267352118 tw13690697210525933198 tw6130872038470244460 tw9035227658780141760 tw7297044312981977015 tw5815810828730447113 tw4566422279190757522 tw142216298088376933 tw10873171459801474423 tw767799395584857585 tw12151445291268229518 tw424670810787738426 tw2205065275863870931 tw2088354651838606335 tw18335715955323869666 tw2059902626606348878 tw15826833386430370323 tw13273235179761993575 tw6075387813168457226 tw4118755563244827239 tw8076846201876123866 tw806664872190176944 tw16177541269350061861 tw15384889772997800783 tw18307983967813143200 tw3902301729922663706 tw1642041396286408829 tw11345380474563411127 tw18189404412906564486 tw16373354628257373618 tw9692899621060370911 tw7215554379212622630 tw16285630606091885303 tw15566350229706180291 tw9786752357930352222 tw10359200566415610689 tw9347979491312391420 tw5642011435298262231 tw1062738348679621934 tw5093657151643552190 tw10612003456627448854 tw8911957211880685820 tw2411427494916639220 tw6386598123143280571 tw3311601047904473526 tw17530699016898901299 tw8164129091025546949 tw16745431487577955536 tw2842109047603397581 tw10713754383591310519 tw465925096906666771 tw6462245686688512485 tw15990599889605494692 tw10234911431565544844 tw3983627816899602764 tw7878843898728292080 tw18418770551679848479 tw11621768354985213218 tw3400111677031506798 tw13075071616439990148 tw13044446458020345879 tw8805528475378719264 tw18369266942066872280 tw17890616912084302509 tw17057279277865929125 tw12940938027344902489 tw3810742663237197439 tw7890680215617508768 tw11600568245581587078 tw10753016017341595840 tw9736273580878418976 tw5568871659129173531 tw9556907963060276051 tw9277909187633977522 tw7691142823447121356 tw9453075695760048595 tw4871425926672521181 tw8347404601335084366 tw4539182580980523594 tw8173097651844401158 tw5180816146794099800 tw3623409923220740152 tw3569268406500948360 tw3455364503138524807 tw2246201948188078638 tw1796786937159771765 tw15711189934861038024 tw1370956113599524250 tw13483497222662670145 tw13293040429453240585 tw12922889268612040811 tw11485542420859155885 tw9047693057907151016 tw18011611745248004850 tw9491873377036131061 tw3412845562653420775 tw15901447757962826532 tw14532261272886866099 tw14427388055526779239 tw1734107966202450870 tw10087912444027047747 tw10077239083593709133 tw7246230717413724484 tw2687355424202915707 tw4347304240804641553 tw17575017837031695081 tw5265640094974972300 tw17841711875091086723 tw5435133057765086329 tw320567124859401929 tw12557913647994556412 tw9658337717761481456 tw4736836828579444734 tw13682569035006149216 tw7451514990547404557 tw9284221951943953365 tw8674705337543464904 tw3073839034950707509 tw2507320187855187486 tw18297136451759567159 tw18039048402372875983 tw14042225066770154084 tw13739253926241445268 tw13605581583043950383 tw12773444223275831742 tw11829585902069060527 tw11686894983282688045 tw10900642294784430241 tw8330798487988164355 tw5925371214895262193 tw5277923112967890888 tw4395153325503081166 tw3488567814382058226 tw2399694876521185228 tw18102986543542514192 tw17228775121213547465 tw1638412803772649873 tw12417721849035625935 tw119369966231265366 tw11127407871224590428 tw10091054754199347626 tw1997402076580297611:True)
open PySem PySem.W PyProof.Rows
set_option maxRecDepth 100000 in
set_option maxHeartbeats 0 in
theorem PySem.Challenge.cw_roundcall_k94_join_and_leave_holds : PySem.Challenge.rw_roundcall_k94_join_and_leave.Holds := by
 w_on; o_law; km_head; (case hw=>w_witness2)
 k_fill
 refine L2.walk_ofT (l:=PySem.Challenge.rw_roundcall_k94_join_and_leave) (n:=63) (k:=14) (x := "script") (CX:=fun w=>L2.CX1 PySem.Challenge.rw_roundcall_k94_join_and_leave.prog w) (sp:=fun w=>Law.sp_law _ _) (lq:=Law.lamQ) (lpos:=Law.lamP) rfl (by decide) rfl ⟨rfl,by decide,by decide⟩ (fun w h Y=>PySem.W.km_in_of Y) (fun w h Y=>PySem.W.km_tabs_of Y _ List.mem_cons_self) ?F (fun _ _ a ns hl hb hP hS=>⟨a,ns,rfl,hS,hl,hb,hP,fun _ e=>⟨rfl,e⟩⟩) (fun _ _ _ _ _ ⟨_,_,_,_,_,_,_,_,q⟩=>q)
 case F =>
  intro w mg fa h KX G hmg
  refine' Law.all_mk (ad:=⟨?_,?_,?_,?_,?_,?_,?_,?_,?_,?_,?_,?_,?_,?_,?_,?_,?_,?_,?_,?_,?_,?_,?_,?_,?_,?_,?_,?_,?_,?_,?_,?_,?_,?_,?_,?_,?_,?_,?_,?_,?_,?_,?_,?_,?_,?_,?_,?_,?_,?_,?_,?_,?_,?_,?_,?_,?_,?_,?_,?_,?_,?_,?_,?_,?_,?_,?_,?_,?_,?_,?_,?_,?_,?_,?_⟩) hmg ?T
  case T =>
   constructor
   all_goals try first | refine' mg_none_of KX G ?_ | refine' mg_of KX G ?_ | refine' ⟨_,mg_of KX G ?_⟩ | refine' Law.Df.m0 KX G ?_ ?_ ?_ ?_ | refine' Law.Dm.m1 ?_ ?_ ?_ ?_ ?_ | refine' Law.Dd.m2 KX G ?_ ?_ ?_ ?_ ?_ | refine' Law.Dl.m3 KX G ?_ ?_ ?_ ?_ ?_ ?_ | refine' ⟨_,L2.fun_mk ?_ ?_ ?_⟩ | refine' Law.qt_2 ?_ | refine' Law.qt_6 ?_ | refine' L2.Cls.mk ?_ ?_ ?_ ?_ | refine' L2.Mk.mk ?_ ?_ ?_ ?_ | refine' Law.Kx.mk ?_ ?_ ?_ ?_ ?_ ?_ ?_ ?_ ?_ ?_ ?_ ?_ ?_ ?_ ?_ ?_ ?_ ?_ | unfold L2.NoAttr | unfold L2.ExcC
   all_goals try dsimp only
   all_goals try k_is
   all_goals try first | kit_is | k_exc | rfl | kernel_rfl
