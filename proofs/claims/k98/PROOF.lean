import PyProof.Rows.All
import Wide.All
import OpenK.AllK
import Wide.FinOn
import Lean
import PyProof.EqAt
import PyProof.EqKinds
import PyProof.TupleCall
import PySem.Challenge.RW_roundcall_k98_whole_wheels_and_standings
/-! THE HAND LAYER, for ints, bools, texts, own classes, LISTS and tuples (index, slices, in, append, pop ..), calls, loops. Paste it whole ahead of your own text; what your proof does not reach may be deleted. -/
set_option Elab.async false
set_option linter.all false
set_option maxRecDepth 100000
set_option maxHeartbeats 4000000
set_option bootstrap.genMatcherCode false
namespace L2
local macro_rules | `(tactic| omega) => `(tactic| lia)
open PySem PySem.Spec PyProof.Rows
abbrev a0:=@wpAny_bind
abbrev bc:=@wpAny_pure
abbrev bG:=@List.getElem?_eq_some_iff
abbrev bZ:=@Heap.get?_push_of_some
abbrev cb:=@List.mem_of_getElem?
abbrev cI:=@Heap.get?_push_size
abbrev cL:=@List.mem_cons_self
abbrev da:=@Nat.le_refl
abbrev dg:=@Heap.lt_size
abbrev dm:=@Option.map_eq_some_iff
abbrev dr:=@List.mem_cons_of_mem
abbrev dt:=@List.getElem?_eq_getElem
abbrev dI:=@Nat.le_trans
abbrev d0:=@Option.some.inj
abbrev d3:=@List.mem_cons
abbrev ea:=@Heap.get?_update_other
abbrev ed:=@Nat.ne_of_lt
abbrev eH:=@List.mem_map
abbrev eI:=@Bool.false_ne_true
abbrev eT:=@Nat.lt_of_lt_of_le
abbrev fe:=@List.mem_append
abbrev ft:=@wpAny_holding
abbrev fC:=@wpAny_seqItems
abbrev gd:=@List.mem_append_right
abbrev gv:=@List.mem_append_left
abbrev gy:=@List.mem_iff_getElem?
abbrev g0:=@Heap.get?_update_self
abbrev g6:=@wpAny_newObj_type
abbrev hH:=@wpAny_call_entry
abbrev hX:=@Heap.SameBut.update
abbrev ia:=@wpAny_mono
abbrev ib:=@wpAny_truthy_bool
abbrev il:=@Nat.lt_or_ge
abbrev iv:=@List.mem_singleton
abbrev iB:=@Int.mul_le_mul_of_nonneg_left
abbrev iQ:=@Int.lt_of_le_of_lt
abbrev iT:=@Array.getElem?_eq_some_iff
abbrev i0:=@PassesOwn.never
abbrev jE:=@decide_eq_false
abbrev jT:=@Nat.zero_le
abbrev jU:=@W.mg_of
abbrev jV:=@W.mg_none_of
abbrev jW:=@Int.le_of_dvd
abbrev jZ:=@Int.ediv_nonneg
abbrev ka:=@wpAny_isInstance
abbrev kb:=@wpAny_rule
abbrev kA:=@plainId_quiet
abbrev kE:=@Nat.not_lt_zero
abbrev kG:=@Nat.le_of_lt
abbrev kH:=@Nat.lt_of_le_of_lt
abbrev kI:=@List.getElem_mem
abbrev kM:=@wpAny_callSpecial?_slot
abbrev kQ:=@wpAny_attempt
abbrev la:=@Int.le_trans
abbrev ll:=@Int.emod_nonneg
abbrev lP:=@List.mem_range
abbrev l7:=@List.mem_filter
abbrev me:=@Int.emod_lt_of_pos
abbrev mr:=Value->Shared->Prop
abbrev mv:=List Int
abbrev mx:=Option Int
abbrev mI:=Shared
abbrev mK:=Value
abbrev m8:=Program
abbrev nf:=Around
abbrev nr:=FuncData
abbrev nP:=World
abbrev nX:=PyData
abbrev Dz:=Sum Int Str
def Jg:Dz->mK->Bool
 | .inl k,v=>Value.isInt k v
 | .inr x,v=>Value.isStrOf x v
def A0v(w:nP):Dz->Int
 | .inl k=>hashInt k
 | .inr x=>hashStr w x
theorem C7:∀{k:Dz}{v:mK},Jg k v=true->(∃i t,k=Sum.inl i/\v=Value.int i t)\/(∃x t,k=Sum.inr x/\v=Value.str x t)
 | .inl i,v,h=>by
  obtain⟨t,e⟩:=Value.isInt_shape (k:=i) (v:=v) h;exact .inl ⟨i,t,rfl,e⟩
 | .inr x,v,h=>by
  obtain⟨t,e⟩:=Value.isStrOf_shape (x:=x) (v:=v) h;exact .inr ⟨x,t,rfl,e⟩
theorem Yl(i:Int)(t:Tok):Jg (.inl i) (.int i t)=true:=by simp[Jg,Value.isInt]
theorem Ym(x:Str)(t:Tok):Jg (.inr x) (.str x t)=true:=by simp[Jg,Value.isStrOf]
theorem r9(a b:Int):decide ((Sum.inl a:Dz)=Sum.inl b)=(a==b):=by
 by_cases e:a=b
 ·subst e;simp
 ·have h:¬(Sum.inl a:Dz)=Sum.inl b:=λq=>e (Sum.inl.inj q);rw[decide_eq_false h];exact(beq_eq_false_iff_ne.mpr e).symm
theorem rh(a b:Str):decide ((Sum.inr a:Dz)=Sum.inr b)=decide (a=b):=by
 by_cases e:a=b
 ·subst e;simp
 ·have h:¬(Sum.inr a:Dz)=Sum.inr b:=λq=>e (Sum.inr.inj q);rw[decide_eq_false h,decide_eq_false e]
theorem re(a:Int)(b:Str):decide ((Sum.inl a:Dz)=Sum.inr b)=false:=jE (λq=>nomatch q)
theorem rf(a:Str)(b:Int):decide ((Sum.inr a:Dz)=Sum.inl b)=false:=jE (λq=>nomatch q)
def Dc(prog:m8)(w:nP):PySem.KeyKind prog w Dz where
 is:=Jg
 hash:=A0v w
 inj:=λv a b g f=>by
  rcases C7 g with⟨i,t,rfl,rfl⟩|⟨x,t,rfl,rfl⟩
  ·rcases C7 f with⟨j,u,rfl,e⟩|⟨y,u,rfl,e⟩
   ·injection e with c _;rw[c]
   ·exact nomatch e
  ·rcases C7 f with⟨j,u,rfl,e⟩|⟨y,u,rfl,e⟩
   ·exact nomatch e
   ·injection e with c _;rw[c]
 byValue:=λk v h=>by
  rcases C7 h with⟨i,t,rfl,rfl⟩|⟨x,t,rfl,rfl⟩<;>rfl
 pyHash:=λd h=>by
  rcases C7 d with⟨i,t,rfl,rfl⟩|⟨x,t,rfl,rfl⟩
  ·exact wpAny_pyHash_int h
  ·exact wpAny_pyHash_str h
 eqBool:=λl d h=>by
  rcases C7 l with⟨i,t,rfl,rfl⟩|⟨x,t,rfl,rfl⟩
  ·rcases C7 d with⟨j,u,rfl,rfl⟩|⟨y,u,rfl,rfl⟩
   ·rw[r9]at h;exact wpAny_eqBool_int h
   ·rw[re]at h;exact SeqAt.EqAt.int_str i t y u _ _ _ _ h
  ·rcases C7 d with⟨j,u,rfl,rfl⟩|⟨y,u,rfl,rfl⟩
   ·rw[rf]at h;exact SeqAt.EqAt.str_int x t j u _ _ _ _ h
   ·rw[rh]at h;exact wpAny_eqBool_str h
 «strs»:=λk x t v h=>by
  rcases C7 h with⟨i,u,rfl,e⟩|⟨y,u,rfl,e⟩
  ·exact nomatch e
  ·injection e with c _;subst c;cases v<;>rfl
theorem Sw(prog:m8)(w:nP)(i:Int)(t:Tok):(Dc prog w).is (.inl i) (.int i t)=true:=Yl i t
theorem Sx(prog:m8)(w:nP)(x:Str)(t:Tok):(Dc prog w).is (.inr x) (.str x t)=true:=Ym x t
inductive V where
 |aP|bl (b:Bool)|int (i:Int)|str (x:Str)|pD (b:Array UInt8)|GW (b:UInt64)|ref (a:Addr)|ty (n:String)
 deriving DecidableEq
def B0:V->mK->Prop
 | .aP,u=>u=Value.none
 | .bl b,u=>u=Value.bool b
 | .int i,u=>∃t,u=Value.int i t
 | .str x,u=>∃t,u=Value.str x t
 | .pD b,u=>∃t,u=Value.bytes b t
 | .GW b,u=>∃t,u=Value.float b t
 | .ref a,u=>u=Value.ref a
 | .ty n,u=>u=Value.type n
abbrev Ay:List V->List mK->Prop:=Paired B0
theorem Ay.length(r:Ay xs a):xs.length=a.length:=Paired.length r
theorem Ay.get:∀{xs:List V}{a:List mK}{i:Nat}{x:V},Ay xs a->xs[i]?=some x->∃u,a[i]?=some u/\B0 x u
 |_,_,_,_,.nil,e=>by simp at e
 |_,_,0,_,.cons r _,e=>by simp at e;subst e;exact⟨_,rfl,r⟩
 |_,_,i+1,x,.cons _ t,e=>by
  obtain⟨u,b,c⟩:=Ay.get (i:=i) (x:=x) t (by simpa using e);exact⟨u,by simpa using b,c⟩
theorem Ay.set(r:B0 x u):∀{xs:List V}{a:List mK} (i:Nat),Ay xs a->Ay (xs.set i x) (a.set i u)
 |_,_,_,.nil=>.nil
 |_,_,0,.cons _ t=>.cons r t
 |_,_,i+1,.cons q t=>.cons q (Ay.set r i t)
theorem Ay.append(h:Ay xs a)(s:Ay ys ws):Ay (xs++ys) (a++ws):=by
 induction h with
 |nil=>exact s
 |cons r t b=>exact .cons r b
theorem Ay.take:∀{xs:List V}{a:List mK} (n:Nat),Ay xs a->Ay (xs.take n) (a.take n)
 |_,_,0,_=>.nil
 |_,_,_+1,.nil=>.nil
 |_,_,n+1,.cons r t=>.cons r (Ay.take n t)
theorem Ay.drop:∀{xs:List V}{a:List mK} (n:Nat),Ay xs a->Ay (xs.drop n) (a.drop n)
 |_,_,0,r=>r
 |_,_,_+1,.nil=>.nil
 |_,_,n+1,.cons _ t=>Ay.drop n t
def J0:Option V->Option mK->Prop
 |some v,some u=>B0 v u
 |none,none=>True
 |_,_=>False
def KV:List (κ×V)->List (κ×mK)->Prop:=Paired λ(p:κ×V) (q:κ×mK)=>p.1=q.1/\B0 p.2 q.2
def kV:Dz->V
 | .inl i=>.int i
 | .inr x=>.str x
section
variable {prog:m8}{w:nP}
def Cv(prog:m8)(w:nP)(h:Heap)(k:mv×Int)(a:Addr):Prop:=
 ∃o n u t,h.get? a=some o/\o.cls=.type "tuple"/\o.data=.seq #[.ref u,.int k.2 t] n/\IsTupleKey (intKind prog w) h k.1 u
theorem Cv.typeIs{s:mI}{k:mv×Int}{a:Addr}(x:Cv prog w s.heap k a):s.TypeIs (.ref a) "tuple":=let⟨o,_,_,_,c,b,_⟩:=x;⟨o,c,b⟩
theorem Cv.inj(l:Cv prog w h x a)(m:Cv prog w h y a):x=y:=by
 obtain⟨o,n,u,t,j,_,g,i⟩:=l;obtain⟨p,q,s,r,d,_,b,e⟩:=m;obtain rfl:o=p:=d0 (j.symm.trans d);rw[g]at b;injection b with c _;simp only[Array.mk.injEq,List.cons.injEq,Value.ref.injEq,Value.int.injEq,and_true]at c;obtain⟨rfl,f,_⟩:=c;exact Prod.ext (i.inj e) f
theorem Cv.keeps{k:mv×Int}{es ep}(x:Cv prog w h k a)(f:h.get? d=some o)(e:o.data=.dict es ep)(g:Heap.SameBut d h h'):Cv prog w h' k a:=by
 obtain⟨i,n,u,t,c,l,b,m⟩:=x
 have j:a≠d:=by
  rintro rfl;obtain rfl:i=o:=d0 (c.symm.trans f);rw[e]at b;exact nomatch b
 exact⟨i,n,u,t,(g.2 a j).trans c,l,b,m.keeps f e g⟩
def Kr(prog:m8)(w:nP)(k:mv×Int):Int:=reduceHash (Builtin.Tuple.tupleHashOf [tupleKeyHash (intKind prog w) k.1,(intKind prog w).hash k.2])
theorem Vq{A:nf}{E:mr}{s:mI}{k:mv×Int}{a:Addr}{Q:Int->mI->Prop}(l:A.units+8<cLine)(d:Cv prog w s.heap k a)(h:Q (Kr prog w k) {s with toks:=s.toks+(k.1.length+3) }):
  wpAny (model prog w) A (pyHash (.ref a)) Q E s:=by
 have b:=d.typeIs;obtain⟨o,n,u,t,i,_,f,g⟩:=d;unfold pyHash
 first|unfold pyHashByItsType|skip
 first|refine a0 (wpAny_cRoomFor_or (.inr (by omega)) ?_)|skip
 refine a0 (wpAny_specialOf b F.slot_tuple_hash.lookup ?_);show wpAny _ _ (if(some (Value.builtin "tuple.__hash__")==some Value.none)=true then _ else _) Q E s;rw[if_neg (by rw[beq_builtin_none];exact Bool.false_ne_true)];refine a0 (wpAny_specialOf b F.slot_tuple_hash.lookup ?_);show wpAny _ _ (callSpecialIfBoundUnlessNone? (.ref a) "__hash__" _>>=_) Q E s;refine a0 (wpAny_callSpecialIfBoundUnlessNone?_slot b F.slot_tuple_hash (hH F.slot_tuple_hash b F.entry_tuple_hash ?_ (F.args_tuple_hash_1 _)));show wpAny _ _ (Builtin.Tuple.tupleItemsOf (.ref a)>>=_) _ _ s;refine a0 (wpAny_tupleItemsOf i f ?_);refine a0 ?_;rw[<- Array.forIn_toList];show wpAny _ _ (forIn [Value.ref u,Value.int k.2 t] _ _) _ _ _;rw[List.forIn_cons]
 have j:A.in1.units<cLine:=by
  first|(show A.units+1<cLine;omega)|(show A.units<cLine;omega)|(simp only[Around.in1];omega)
 refine a0 (a0 (wpAny_pyHash_tuple (knd:=intKind prog w) j g ?_));refine bc ?_;show wpAny _ _ (forIn [Value.int k.2 t] _ _) _ _ _;rw[List.forIn_cons];refine a0 (a0 ((intKind prog w).pyHash (k:=k.2) (by simp[intKind,Value.isInt]) ?_));refine bc ?_;show wpAny _ _ (forIn [] _ _) _ _ _;rw[List.forIn_nil];refine bc ?_;show wpAny _ _ (retInt (Builtin.Tuple.tupleHashOf [tupleKeyHash (intKind prog w) k.1,(intKind prog w).hash k.2])) _ _ _;refine wpAny_ret_mkInt ?_;generalize e:Builtin.Tuple.tupleHashOf [tupleKeyHash (intKind prog w) k.1,(intKind prog w).hash k.2]=z;show wpAny _ _ (if(decide (-(2:Int)^63<=z)&&decide (z<2^63))=true then _ else _) Q E _;unfold Kr reduceHash at h;rw[e]at h;by_cases c:(decide (-(2:Int)^63<=z)&&decide (z<2^63))=true
 ·rw[if_pos c];rw[if_pos c]at h;exact bc (by simpa[Nat.add_assoc]using h)
 ·rw[if_neg c];rw[if_neg c]at h;exact a0 (kb (bc (by simpa[Nat.add_assoc]using h)))
theorem iz{A:nf}{E:mr}{s:mI}{x y:mv×Int}{a b:Addr}{Q:Bool->mI->Prop}(D:A.units+8<cLine)(f:Cv prog w s.heap x a)(g:Cv prog w s.heap y b)(h:Q (decide (x=y)) s):
  wpAny (model prog w) A (eqBool (.ref a) (.ref b)) Q E s:=by
 unfold eqBool
 try with_reducible refine ft ?_
 show wpAny _ _ (if(Value.ref a==Value.ref b)=true then _ else _) Q E s;by_cases i:(Value.ref a==Value.ref b)=true
 ·rw[if_pos i];have e:a=b:=by have:=eq_of_beq i;injection this
  subst e;obtain rfl:=f.inj g;exact a0 (kb (bc (by simpa using h)))
 ·rw[if_neg i]
  refine a0 (wpAny_richCompare_same_room (op:=.Eq) f.typeIs g.typeIs F.slot_tuple_eq
   (hH F.slot_tuple_eq f.typeIs F.entry_tuple_eq ?_ (F.args_tuple_eq_2 _ _)) (by omega))
  have j:=g.typeIs;obtain⟨I,G,B,o,m,_,l,r⟩:=f;obtain⟨J,H,C,p,n,_,v,q⟩:=g;show wpAny _ _ (isInstance (.ref b) (.type "tuple")>>=_) _ _ s;refine a0 (ka j isSubtype_tuple_tuple ?_);simp only[Bool.not_true,Bool.false_eq_true,if_false];refine a0 (wpAny_tupleItemsOf m l ?_);refine a0 (wpAny_tupleItemsOf n v ?_);refine a0 ?_;show wpAny _ _ (forIn [(Value.ref B,Value.ref C),(Value.int x.2 o,Value.int y.2 p)] _ _) _ _ _;rw[List.forIn_cons]
  have u:A.in1.units<cLine:=by
   first|(show A.units+1<cLine;omega)|(show A.units<cLine;omega)|(simp only[Around.in1];omega)
  refine a0 (a0 (wpAny_eqBool_tuple (knd:=intKind prog w) u r q ?_));by_cases c:x.1=y.1
  ·rw[decide_eq_true c];simp only[Bool.not_true,Bool.false_eq_true,if_false];refine bc ?_;show wpAny _ _ (forIn [(Value.int x.2 o,Value.int y.2 p)] _ _) _ _ _;rw[List.forIn_cons];refine a0 (a0 ((intKind prog w).eqBool (a:=x.2) (b:=y.2) (by simp[intKind,Value.isInt]) (by simp[intKind,Value.isInt]) ?_));by_cases d:x.2=y.2
   ·rw[decide_eq_true d];simp only[Bool.not_true,Bool.false_eq_true,if_false];refine bc ?_;show wpAny _ _ (forIn [] _ _) _ _ _;rw[List.forIn_nil];refine bc ?_;have e:decide (x=y)=true:=decide_eq_true (Prod.ext c d);rw[e]at h;exact bc ⟨_,rfl,(λe=>nomatch e),ib h⟩
   ·rw[decide_eq_false d];simp only[Bool.not_false,if_true];have e:decide (x=y)=false:=jE λz=>d (by rw[z]);rw[e]at h;exact a0 (bc (bc (bc (bc ⟨_,rfl,(λe=>nomatch e),ib h⟩))))
  ·rw[decide_eq_false c];simp only[Bool.not_false,if_true];have e:decide (x=y)=false:=jE λz=>c (by rw[z]);rw[e]at h;exact a0 (bc (bc (bc (bc ⟨_,rfl,(λe=>nomatch e),ib h⟩))))
theorem vg(i:IsTupleKey (intKind prog w) s.heap q a)(h:Q true s):wpAny (model prog w) A (eqIsQuiet 7 (.ref a)) Q E s:=by
 have g:=i.typeIs;obtain⟨o,d,n,p,_,l,m⟩:=i;unfold eqIsQuiet;refine a0 (wpAny_specialOf g F.slot_tuple_eq.lookup ?_);show wpAny _ _ (isInstance (.ref a) (.type "tuple")>>=_) _ _ s;refine a0 (ka g isSubtype_tuple_tuple ?_);simp only[Bool.not_true,Bool.false_eq_true,if_false];refine a0 (fC p l ?_);refine a0 ?_;show wpAny _ _ (forIn d _ _) _ _ s;rw[<- Array.forIn_toList];refine wpAny_forIn_list _ (λc r f=>r.1=none/\f=s/\∀v∈c,carriedByValue v=true) _ ?_ ?_ _ _ ⟨rfl,rfl,m.byValue⟩
 ·rintro v c r f ⟨e,rfl,b⟩;rw[eqIsQuiet_byValue _ (b v List.mem_cons_self)];refine a0 (bc ?_);simp only[Bool.not_true,Bool.false_eq_true,if_false];exact bc ⟨rfl,rfl,λu j=>b u (dr _ j)⟩
 ·rintro⟨x,y⟩ f ⟨e,rfl,_⟩;simp only at e;subst e;exact bc h
theorem Tr{A:nf}{E:mr}{s:mI}{k:mv×Int}{a:Addr}{Q:Bool->mI->Prop}(c:Cv prog w s.heap k a)(h:Q true s):wpAny (model prog w) A (eqIsQuiet 8 (.ref a)) Q E s:=by
 have b:=c.typeIs;obtain⟨o,n,u,t,f,_,d,e⟩:=c;unfold eqIsQuiet;refine a0 (wpAny_specialOf b F.slot_tuple_eq.lookup ?_);show wpAny _ _ (isInstance (.ref a) (.type "tuple")>>=_) _ _ s;refine a0 (ka b isSubtype_tuple_tuple ?_);simp only[Bool.not_true,Bool.false_eq_true,if_false];refine a0 (fC f d ?_);refine a0 ?_;show wpAny _ _ (forIn #[Value.ref u,Value.int k.2 t] _ _) _ _ s;rw[<- Array.forIn_toList];show wpAny _ _ (forIn [Value.ref u,Value.int k.2 t] _ _) _ _ s;rw[List.forIn_cons];refine a0 (a0 (vg e ?_));simp only[Bool.not_true,Bool.false_eq_true,if_false];refine bc ?_;show wpAny _ _ (forIn [Value.int k.2 t] _ _) _ _ s;rw[List.forIn_cons,eqIsQuiet_byValue _ rfl];refine a0 (a0 (bc ?_));simp only[Bool.not_true,Bool.false_eq_true,if_false];refine bc ?_;show wpAny _ _ (forIn [] _ _) _ _ s;rw[List.forIn_nil];exact bc (bc h)
def Cn(prog:m8)(w:nP):HeapKind prog w (mv×Int)where
 is:=Cv prog w
 hash:=Kr prog w
 draws:=λk=>k.1.length+3
 room:=λA=>A.units+8<cLine
 inj:=λc d=>c.inj d
 keeps:=λx f e g=>x.keeps f e g
 pyHash:=λb a h=>Vq b a h
 eqBool:=λb c d h=>iz b c d h
 quiet:=λa h=>Tr a h
end
set_option genInjectivity false in
set_option genSizeOf false in
inductive HO where
  |lst (xs:List V)
  |tup (xs:List V)
  |dK (kvs:List (Dz×V))|dT (kvs:List ((List Int×Int)×V))
  |set (S:Int->Bool) (n:Nat)
  |ins (C dx:Addr) (fs:List (Str×V))
  |own (x:Addr)
  |xd (fs:List (Str×V))
  |met (f x:Addr)
  |pX (lo hi:Int)
  |bA (o:Obj) (u:HO)
  |uR (ps:Array mK)
 |tab (q:Str) (pos:Pos)
  |ext (φ:Heap->Prop)
abbrev mu:=List ((List Int×Int)×V)
abbrev Hp:=Addr->Option HO
def F4(H:Hp)(b:Addr)(k:mv×Int):Prop:=∃u,H b=some (.tup [.ref u,.int k.2])/\H u=some (.tup (k.1.map V.int))
theorem F4.up{k:mv×Int}(c:∀b xs,H b=some (.tup xs)->a b=some (.tup xs))(h:F4 H b k):F4 a b k:=let⟨u,d,e⟩:=h;⟨u,c _ _ d,c _ _ e⟩
def upd(H:Hp)(a:Addr)(o:HO):Hp:=λb=>if b=a then some o else H b
theorem A5:upd H a o a=some o:=by unfold upd;rw[if_pos rfl]
theorem Ab(h:b≠a):upd H a o b=H b:=by unfold upd;rw[if_neg h]
theorem Bg{H:Hp}{a b:Addr}{o u:HO}(h:H a=some o)(h':H b=some u)(d:o≠u):a≠b:=by
 intro e;subst e;rw[h]at h';exact d (d0 h')
theorem Ae{H:Hp}{a b:Addr}{o:HO}(h:H a=some o)(h':H b=none):a≠b:=by
 intro e;subst e;rw[h]at h';cases h'
section
variable (P:m8) (w:nP)
def B8(H:Hp)(h:Heap)(a:Addr):HO->Prop
 | .lst d=>d.length<=sizeLine/\∃(g:List mK) (n:Nat),Ay d g/\h.get? a=some {cls:=.type "list",data:=.seq g.toArray n}
 | .tup d=>(d.length<=sizeLine/\∃o,h.get? a=some o/\o.dict=none)/\∃g:List mK,Ay d g/\IsTup h a g.toArray
 | .dK b=>b.length<=sizeLine/\(a==sysModules)=false/\∃s,KV b s/\h.DictOf (Dc P w) a s
 | .dT b => b.length <= sizeLine /\ (a == sysModules) = false /\ ∃ d : List ((mv × Int) × Addr × mK),
   Paired (λ(p:(mv×Int)×V) (q:(mv×Int)×Addr×mK)=>p.1=q.1/\F4 H q.2.1 p.1/\B0 p.2 q.2.2) b d/\
   ∃o l y,h.get? a=some o/\o.ExactDict/\o.data=.dict l y/\l.toList=d.map (entryOfKey (Cn P w))/\(d.map (·.1)).Nodup
 | .set S n=>h.SetOf (intKind P w) a S n
 | .ins C i fs => H i = some (.own a) /\ fs.length <= 1000 /\ i ≠ a /\ h.get? a = some (W.instObj C i) /\
   ∃e,h.Ns1 i e/\(∀f,J0 (fs.lookup f) (e f))/\PySem.Within e (fs.map (·.1))
 | .own _=>∃o,h.get? a=some o
 | .xd fs=>∃e,h.Ns1 a e/\∀f,J0 (fs.lookup f) (e f)
 | .pX A z=>∃t u v,h.get? a=some {cls:=.type "range",data:=.fields #[.int A t,.int z u,.int 1 v] }
 | .bA o u=>h.get? a=some o/\B8 H h a u
 | .uR B=>h.get? a=some {cls:=.none,data:=.fields B}
 | .tab q pos=>h.get? a=some (W.tabObj #[])\/∃c:Addr,H c=some (.own a)/\c≠a/\h.get? a=some (W.tabObj #[rawInt pos.line,rawInt pos.col,.ref c])/\h.CodeRec (.ref c) q
 | .met f x=>h.get? a=some (W.methodObj (.ref f) (.ref x))
 | .ext j=>j h/\(∃o,h.get? a=some o)/\∀m r:Heap,j m->(∀o,m.get? a=some o->r.get? a=some o)->j r
def Ga(H:Hp)(h:Heap):Prop:=∀a o,H a=some o->B8 P w H h a o
end
section
variable {P:m8}{w:nP}{H H':Hp}{h h':Heap}{a:Addr}{o:HO}
theorem B8.lt(x:B8 P w H h a o):a<h.objs.size:=by
 cases o with
 |lst c=>obtain⟨_,_,_,_,e⟩:=x;exact dg e
 |tup c=>obtain⟨_,_,_,p⟩:=x;exact p.lt
 |dK b=>obtain⟨_,_,_,_,o,_,_,e,_⟩:=x;exact dg e
 |dT b=>obtain⟨_,_,_,_,o,_,_,e,_⟩:=x;exact dg e
 |set S n=>obtain⟨o,_,_,_,e,_⟩:=x;exact dg e
 |ins C d fs=>obtain⟨_,_,_,e,_⟩:=x;exact dg e
 |own y=>obtain⟨_,e⟩:=x;exact dg e
 |xd fs=>obtain⟨_,⟨_,_,_,e,_⟩,_⟩:=x;exact dg e
 |pX i g=>obtain⟨_,_,_,e⟩:=x;exact dg e
 |bA j u=>obtain⟨e,_⟩:=x;exact dg e
 |uR l=>exact dg (show h.get? a=some _ from x)
 |tab q pos=>
  rcases x with e|⟨_,_,_,e,_⟩
  ·exact dg e
  ·exact dg e
 |met f y=>exact dg (show h.get? a=some _ from x)
 |ext m=>obtain⟨_,⟨_,e⟩,_⟩:=x;exact dg e
theorem Paired.IG(h:Paired F c d)(f:∀a b,F a b->G a b):Paired G c d:=by
 induction h with
 |nil=>exact .nil
 |cons r t i=>exact .cons (f _ _ r) i
theorem B8.cW(x:B8 P w H h a o)(k:∀b u,(b=a\/H b=some (.own a))->h.get? b=some u->h'.get? b=some u)
  (E:∀b,H b=some (.own a)->H' b=some (.own a))(J:∀b xs,H b=some (.tup xs)->H' b=some (.tup xs)):B8 P w H' h' a o:=by
 induction o with
 |lst xs=>obtain⟨z,m,n,r,e⟩:=x;exact⟨z,m,n,r,k _ _ (.inl rfl) e⟩
 |tup xs=>obtain⟨z,m,r,g,e,c⟩:=x;exact⟨⟨z.1,let⟨o,l,d⟩:=z.2;⟨o,k _ _ (.inl rfl) l,d⟩⟩,m,r,g,k _ _ (.inl rfl) e,c⟩
 |dK s=>obtain⟨z,y,D,r,g,j,i,e,c⟩:=x;exact⟨z,y,D,r,g,j,i,k _ _ (.inl rfl) e,c⟩
 |dT s=>
  obtain⟨z,y,xs,r,g,j,i,e,c⟩:=x;exact⟨z,y,xs,Paired.IG r λp q z=>⟨z.1,z.2.1.up J,z.2.2⟩,g,j,i,k _ _ (.inl rfl) e,c⟩
 |set S n=>obtain⟨g,j,i,t,e,c⟩:=x;exact⟨g,j,i,t,k _ _ (.inl rfl) e,c⟩
 |ins C O fs=>
  obtain⟨d,z,ne,e,A,⟨B,j,i,l,c⟩,r⟩:=x;exact⟨E _ d,z,ne,k _ _ (.inl rfl) e,A,⟨B,j,i,k _ _ (.inr d) l,c⟩,r⟩
 |own y=>obtain⟨g,e⟩:=x;exact⟨g,k _ _ (.inl rfl) e⟩
 |xd fs=>obtain⟨A,⟨B,j,i,e,c⟩,r⟩:=x;exact⟨A,⟨B,j,i,k _ _ (.inl rfl) e,c⟩,r⟩
 |pX R Q=>obtain⟨t,u,v,e⟩:=x;exact⟨t,u,v,k _ _ (.inl rfl) e⟩
 |bA g u K=>obtain⟨e,q⟩:=x;exact⟨k _ _ (.inl rfl) e,K q⟩
 |tab q pos=>
  rcases x with e|⟨c,d,ne,e,N,L,D,M,l,I,r⟩
  ·exact .inl (k _ _ (.inl rfl) e)
  ·cases l;exact .inr ⟨c,E _ d,ne,k _ _ (.inl rfl) e,c,L,D,M,rfl,k _ _ (.inr d) I,r⟩
 |uR F=>
  have e:h.get? a=some {cls:=.none,data:=.fields F}:=x;show h'.get? a=some {cls:=.none,data:=.fields F};exact k a _ (.inl rfl) e
 |met f y=>
  have e:h.get? a=some (W.methodObj (.ref f) (.ref y)):=x;show h'.get? a=some (W.methodObj (.ref f) (.ref y));exact k a _ (.inl rfl) e
 |ext T=>obtain⟨p,⟨o,e⟩,G⟩:=x;exact⟨G _ _ p λo q=>k _ _ (.inl rfl) q,⟨o,k _ _ (.inl rfl) e⟩,G⟩
theorem Ga.lt(x:Ga P w H h)(e:H a=some o):a<h.objs.size:=(x a o e).lt
theorem Ga.fresh(x:Ga P w H h)(e:h.objs.size<=a):H a=none:=by
 cases q:H a with
 |none=>rfl
 |some u=>exact absurd (eT (x.lt q) e) (Nat.lt_irrefl _)
theorem Ga.kept(x:Ga P w H h)(k:∀b u,h.get? b=some u->h'.get? b=some u):Ga P w H h':=λa o e=>
 (x a o e).cW (λb u _ q=>k b u q) (λ_ q=>q) λ_ _ q=>q
theorem Ga.laid(x:Ga P w H h)(k:∀b u,h.get? b=some u->h'.get? b=some u)(g:h.objs.size<=a)(new:B8 P w (upd H a o) h' a o):Ga P w (upd H a o) h':=λb u e=>by
 have f:=x.fresh g;by_cases d:b=a
 ·subst d;rw[A5]at e;cases e;exact new
 ·rw[Ab d]at e;exact(x b u e).cW (λc v _ q=>k c v q) (λc q=>by rw[Ab (Ae q f)];exact q) λc i q=>by rw[Ab (Ae q f)];exact q
end
def Rd(H:Hp)(a:Addr)(u:HO):Prop:=H a=some u\/∃o,H a=some (.bA o u)
theorem Rd.ok(r:Rd H a u)(x:Ga P w H h):B8 P w H h a u:=by
 rcases r with r|⟨o,r⟩
 ·exact x a u r
 ·obtain⟨_,q⟩:=x a _ r;exact q
def yc:Option HO->Prop
 |some (.lst _)=>True
 |some (.dK _)=>True
 |some (.dT _)=>True
 |some (.set _ _)=>True
 |some (.ins _ _ _)=>True
 |some (.ext _)=>True
 |some (.tab _ _)=>True
 |_=>False
section
variable {P:m8}{w:nP}{H:Hp}{h h':Heap}{x e:Addr}{o':HO}
theorem Ga.write(ok:Ga P w H h)(f:yc (H x))(he:e=x\/H e=some (.own x))(k:∀b u,b≠e->h.get? b=some u->h'.get? b=some u)(m:∃u,h'.get? e=some u)
  (new:B8 P w (upd H x o') h' x o'):Ga P w (upd H x o') h':=λb u q=>by
 have j:∀c y,H c=some (.own y)->c≠x:=λc y r z=>by subst z;rw[r]at f;exact f
 have n:∀c i,H c=some (.tup i)->c≠x:=λc i r z=>by subst z;rw[r]at f;exact f
 by_cases a:b=x
 ·subst a;rw[A5]at q;cases q;exact new
 ·rw[Ab a]at q;by_cases g:b=e
  ·have l:H b=some (.own x):=by
    rcases he with z|z
    ·exact absurd (g.trans z) a
    ·rw[g];exact z
   rw[q]at l;cases l;obtain⟨v,o⟩:=m;exact⟨v,by rw[g];exact o⟩
  ·refine(ok b u q).cW (λc v d r=>k c v ?_ r) (λc r=>by rw[Ab (j c b r)];exact r) λc i r=>by rw[Ab (n c i r)];exact r
   rcases d with rfl|d
   ·exact g
   ·rintro rfl;rcases he with z|z
    ·exact j c b d z
    ·rw[d]at z;cases z;exact a rfl
end
structure Un(fs ex:List Addr)(H H':Hp)(h h':Heap):Prop where
 keep:∀b o,h.get? b=some o->H b=none->b∉fs->b∉ex->h'.get? b=some o
 slot:∀b o,h.get? b=some o->H b=none->b∈fs->b∉ex->∃sl,h'.get? b=some {o with slots:=sl}
 free:∀b o,h.get? b=some o->H b=none->b∉ex->H' b=none
 there:∀b o,h.get? b=some o->b∉ex->∃o',h'.get? b=some o'
 eG:∀b xs,H b=some (.tup xs)->H' b=some (.tup xs)
 cX:∀b o u,H b=some (.bA o u)->H' b=some (.bA o u)
 eJ:∀b ps,H b=some (.uR ps)->∃more,H' b=some (.uR (ps++more))
section
variable {fs fs' ex VW:List Addr}{H H1 H2:Hp}{h h1 h2 h':Heap}{a x e:Addr}{o:HO}
theorem Un.any(u:Un fs ex H H1 h h1)(q:h.get? b=some c)(n:H b=none)(f:b∉ex):∃g,h1.get? b=some {c with slots:=g}:=by
 by_cases d:b∈fs
 ·exact u.slot b c q n d f
 ·exact⟨c.slots,u.keep b c q n d f⟩
theorem Un.trans(a:Un fs ex H H1 h h1)(b:Un fs ex H1 H2 h1 h2):Un fs ex H H2 h h2 where
 keep:=λc f q n i d=>b.keep c f (a.keep c f q n i d) (a.free c f q n d) i d
 slot:=λc f q n i d=>by
  obtain⟨u,g⟩:=a.slot c f q n i d;obtain⟨p,l⟩:=b.slot c _ g (a.free c f q n d) i d;exact⟨p,l⟩
 free:=λc f q n d=>by
  obtain⟨m,g⟩:=a.there c f q d;exact b.free c m g (a.free c f q n d) d
 there:=λc f q d=>by
  obtain⟨m,g⟩:=a.there c f q d;exact b.there c m g d
 eG:=λc j q=>b.eG c j (a.eG c j q)
 cX:=λc f j q=>b.cX c f j (a.cX c f j q)
 eJ:=λc s q=>by
  obtain⟨m1,g⟩:=a.eJ c s q;obtain⟨r,l⟩:=b.eJ c _ g;exact⟨m1++r,by rw[l,Array.append_assoc]⟩
theorem Un.kept(k:∀b u,h.get? b=some u->h'.get? b=some u):Un fs ex H H h h':=
 ⟨λb c q _ _ _=>k b c q,λb c q _ _ _=>⟨c.slots,k b c q⟩,λ_ _ _ n _=>n,λb c q _=>⟨c,k b c q⟩,λ_ _ q=>q,λ_ _ _ q=>q,λ_ d q=>⟨#[],by rw[q];simp⟩⟩
theorem Un.refl:Un fs ex H H h h:=Un.kept λ_ _ q=>q
theorem Un.laid(k:∀b u,h.get? b=some u->h'.get? b=some u)(d:h.objs.size<=a)(c:H a=none):Un fs ex H (upd H a o) h h' where
 keep:=λb u q _ _ _=>k b u q
 slot:=λb u q _ _ _=>⟨u.slots,k b u q⟩
 free:=λb u q n _=>by rw[Ab (Nat.ne_of_lt (Nat.lt_of_lt_of_le (Heap.lt_size q) d))];exact n
 there:=λb u q _=>⟨u,k b u q⟩
 eG:=λb f q=>by rw[Ab (Ae q c)];exact q
 cX:=λb u f q=>by rw[Ab (Ae q c)];exact q
 eJ:=λb g q=>⟨#[],by rw[Ab (Ae q c),q];simp⟩
theorem Un.write(c:yc (H x))(he:e=x\/H e=some (.own x))(k:∀b u,b≠e->h.get? b=some u->h'.get? b=some u)(j:∃u,h'.get? e=some u):Un fs ex H (upd H x o) h h':=by
 have g:∀b,H b=none->b≠x:=λb n z=>by subst z;rw[n]at c;exact c
 have f:∀b,H b=none->b≠e:=λb n z=>by
  subst z;rcases he with r|r
  ·exact g b n r
  ·rw[n]at r;cases r
 have d:∀b u,H b=some u->¬yc (some u)->b≠x:=λb u q l z=>by subst z;rw[q]at c;exact l c
 refine⟨λb u q n _ _=>k b u (f b n) q,λb u q n _ _=>⟨u.slots,k b u (f b n) q⟩,λb u q n _=>by rw[Ab (g b n)];exact n,λb u q _=>?_,
  λb m q=>by rw[Ab (d b _ q λz=>z)];exact q,λb u m q=>by rw[Ab (d b _ q λz=>z)];exact q,λb p q=>⟨#[],by rw[Ab (d b _ q λz=>z),q];simp⟩⟩
 by_cases i:b=e
 ·subst i;exact j
 ·exact⟨u,k b u i q⟩
end
def SO(h:Heap)(H:Hp):List Addr:=(List.range h.objs.size).filter λa=>(H a).isSome
def O4(h:Heap)(H:Hp):Heap:=W.hideAll h (SO h H)
theorem Yi(h:Heap)(H:Hp):(O4 h H).objs.size=h.objs.size:=W.hideAll_size _ _
theorem bo(e:h.get? b=some o)(n:H b=none):(O4 h H).get? b=some o:=
 W.hideAll_get _ e λa=>by
  have q:(H b).isSome=true:=(l7.mp a).2;rw[n]at q;simp at q
theorem lf(e:(O4 h H).get? b=some o):h.get? b=some o/\H b=none:=by
 have a:h.get? b=some o:=W.of_hideAll (SO h H) e;refine⟨a,?_⟩;cases q:H b with
 |none=>rfl
 |some x=>
  have c:b∈SO h H:=l7.mpr ⟨lP.mpr (dg a),by simp[q]⟩;have z:(O4 h H).get? b=none:=W.hideAll_none (SO h H) c;rw[z]at e;cases e
def Hg(g h:Heap)(L:Addr):List (Addr×Obj):=(List.range h.objs.size).filterMap λa=>if a=L\/(g.get? a).isSome=true then none else(h.get? a).map λo=>(a,o)
theorem Kx(h1:a≠L)(c:g.get? a=none)(b:h.get? a=some o):(a,o)∈Hg g h L:=
 List.mem_filterMap.mpr ⟨a,lP.mpr (dg b),by simp[h1,c,b]⟩
theorem N3(c:p∈Hg g h L):p.1≠L/\g.get? p.1=none/\h.get? p.1=some p.2:=by
 obtain⟨b,_,e⟩:=List.mem_filterMap.mp c;split at e
 ·cases e
 ·rename_i a;cases q:h.get? b with
  |none=>rw[q]at e;simp at e
  |some u=>
   rw[q]at e;simp only[Option.map_some,Option.some.injEq]at e;subst e;refine⟨λz=>a (.inl z),?_,q⟩;show g.get? b=none;cases r:g.get? b with
   |none=>rfl
   |some v=>exact(a (.inr (by simp[r]))).elim
theorem d5:News g L h (Hg g h L):=λp d=>let⟨a,b,c⟩:=N3 d;⟨c,a,b⟩
structure Mod(K:W.Frag)(mg:Str->Option mK)(base:Heap):Prop where
 IJ:K.In base
 glob:base.Ns mainGlobals mg
 blt:∃mb,base.Ns builtinsNs mb/\∀x:Str,x≠"__name__"->mb x=bootBuiltins x
 nolimit:base.NoLimit
set_option genInjectivity false in
set_option genSizeOf false in
structure Cx where
 prog:m8
 w:nP
 K:W.Frag
 mg:Str->Option mK
 base:Heap
 A:nf
 N:List Str
 s₀:mI
 H₀:Hp
 env:Env
 outer:List Env
 stack:List Env
 ex:List Addr
 fn:Str->Bool
 calm:Bool
 pn:List (Addr×Obj)
 xe:mr
def iI(l:List Env):List Addr:=l.filterMap (·.frame)
abbrev Cx.fs(X:Cx):List Addr:=iI X.outer
def yj(a:Scope)(x:Str):Prop:=a.names.lookup x=some .local\/a.names.lookup x=some .cell\/a.names.lookup x=some .free
def ya(a:Scope)(x:Str):Prop:=a.names.lookup x=some .local\/a.names.lookup x=some .cell
def A0o(env:Env)(h:Heap)(m:Str->Option mK)(x:Str)(u:mK):Prop:=
 (env.kindOf x=some .local/\m x=some u)\/((env.kindOf x=some .cell\/env.kindOf x=some .free)/\∃c,env.cells.lookup x=some c/\h.IsCell c (some u))
structure Cx.Ok(X:Cx):Prop where
 mod:Mod X.K X.mg X.base
 kind:X.env.scope.kind=.function
 glob:X.env.globals=mainGlobals
 blt:X.env.builtins=builtinsNs
 above:X.s₀.heap.objs.size<=X.env.locals
 inj:∀x y c,X.env.cells.lookup x=some c->X.env.cells.lookup y=some c->x=y
 has:∀x,(X.env.kindOf x=some .cell\/X.env.kindOf x=some .free)->∃c,X.env.cells.lookup x=some c
 IK:∀x c,X.fn x=true->X.env.cells.lookup x=some c->X.s₀.heap.objs.size<=c
 hd:X.calm=true->X.A.handled=none
 frames:X.A.frames=some X.stack
 SQ:X.stack=X.outer\/(X.stack=X.env::X.outer/\X.env.frame=some X.env.locals)
 VX:∀b∈X.ex,b≠X.env.locals/\∀x c,X.env.cells.lookup x=some c->c≠b
 bs:∀b o,X.base.get? b=some o->X.s₀.heap.get? b=some o/\X.H₀ b=none
 vI:X.base.objs.size<=X.s₀.heap.objs.size
 qH:∀b o,X.base.get? b=some o->b∉X.ex
 qI:∀b∈X.ex,b∉X.fs
 gZ:X.s₀.heap.FunFrames X.base X.outer
 GZ:∀b∈X.fs,X.H₀ b=none
structure Aj(X:Cx)(pins:List (Addr×Obj))(σ:List (Option V))(H:Hp)(s:mI):Prop where
 ok:X.Ok
 os:s.os=X.s₀.os
 bare:AllBare s.gens
 base:Un X.fs X.ex X.H₀ H X.s₀.heap s.heap
 loc:∃m,s.heap.Ns X.env.locals m/\∀(i:Nat) (x:Str) (v:V),X.N[i]?=some x->σ[i]?=some (some v)->yj X.env.scope x->∃u,B0 v u/\A0o X.env s.heap m x u
 cell:∀x c,X.env.cells.lookup x=some c->∃v,s.heap.IsCell c v
 free:H X.env.locals=none
 bE:∀x c,X.env.cells.lookup x=some c->H c=none
 pin:∀p∈X.pn++pins,s.heap.get? p.1=some p.2/\H p.1=none/\p.1≠X.env.locals/\p.1∉X.fs/\∀v,p.2.data≠ .cell v
 aF:Ga X.prog X.w H s.heap
 len:σ.length=X.N.length
section
variable {X:Cx}{pins:List (Addr×Obj)}{σ:List (Option V)}{H H':Hp}{s:mI}{h':Heap}
theorem Cx.Ok.VY(ok:X.Ok){b:Addr}{o:Obj}(e:X.base.get? b=some o):b∉X.fs:=λa=>by
 have:=(ok.gZ.mem a).1;rw[e]at this;cases this
theorem Aj.bs(I:Aj X pins σ H s):∀b o,X.base.get? b=some o->s.heap.get? b=some o/\H b=none:=λb o e=>
 ⟨I.base.keep b o (I.ok.bs b o e).1 (I.ok.bs b o e).2 (I.ok.VY e) (I.ok.qH b o e),I.base.free b o (I.ok.bs b o e).1 (I.ok.bs b o e).2 (I.ok.qH b o e)⟩
theorem Aj.bk(I:Aj X pins σ H s):∀b o,X.base.get? b=some o->s.heap.get? b=some o:=λb o e=>(I.bs b o e).1
theorem Aj.mod(I:Aj X pins σ H s):Mod X.K X.mg X.base:=I.ok.mod
theorem Aj.iY(I:Aj X pins σ H s):X.K.In s.heap:=I.ok.mod.IJ.keeps I.bk
theorem Aj.lt(I:Aj X pins σ H s):X.env.locals<s.heap.objs.size:=let⟨_,a,_⟩:=I.loc;a.lt
theorem Aj.sz(I:Aj X pins σ H s):X.s₀.heap.objs.size<=s.heap.objs.size:=dI I.ok.above (kG I.lt)
theorem Aj.VZ(I:Aj X pins σ H s)(h:s.heap.objs.size<=a):a∉X.fs:=λb=>by
 obtain⟨_,o,c,_⟩:=I.ok.gZ.mem b;exact absurd (eT (dg c) (dI I.sz h)) (Nat.lt_irrefl _)
theorem Aj.BD(I:Aj X pins σ H s):∀x c,X.env.cells.lookup x=some c->c≠X.env.locals:=λx c e z=>by
 obtain⟨v,o,b,a⟩:=I.cell x c e;obtain⟨m,⟨i,h,g,d,f,_⟩,_⟩:=I.loc;rw[z,d]at b;cases b;rw[f]at a;cases a
theorem Aj.gZ(I:Aj X pins σ H s):s.heap.FunFrames X.base X.outer:=by
 have all:∀(l:List Env),(∀b∈iI l,b∈X.fs)->X.s₀.heap.FunFrames X.base l->s.heap.FunFrames X.base l:=by
  intro l
  induction l with
  |nil=>intro _ _;trivial
  |cons g r q=>
   intro f j;obtain⟨i,⟨L,o,d,m,n,h⟩,p⟩:=j;have a:L∈X.fs:=f L (by unfold iI;rw[List.filterMap_cons,d];exact cL);obtain⟨u,e⟩:=I.base.slot L o n (I.ok.GZ L a) a λz=>I.ok.qI L z a;exact⟨i,⟨L,_,d,m,e,h⟩,q (λb c=>f b (by unfold iI;rw[List.filterMap_cons,d];exact dr _ c)) p⟩
 exact all X.outer (λ_ c=>c) I.ok.gZ
theorem Aj.stack(I:Aj X pins σ H s):s.heap.FunFrames X.base X.stack:=by
 rcases I.ok.SQ with e|⟨e,a⟩
 ·rw[e];exact I.gZ
 ·rw[e];obtain⟨m,b,_⟩:=I.loc;refine .cons (by rw[I.ok.kind];decide) a b ?_ I.gZ;exact Heap.get?_none_of_le (dI I.ok.vI I.ok.above)
theorem Aj.mC(I:Aj X pins σ H s):∀b∈iI X.stack,b∈X.env.locals::X.fs:=λb a=>by
 rcases I.ok.SQ with e|⟨e,c⟩
 ·rw[e]at a;exact dr _ a
 ·rw[e]at a;unfold iI at a;rw[List.filterMap_cons,c]at a;exact a
theorem Aj.gT(I:Aj X pins σ H s):∀b∈iI X.stack,H b=none:=λb a=>by
 rcases d3.mp (I.mC b a)with e|a
 ·rw[e];exact I.free
 ·obtain⟨_,o,c,_⟩:=I.ok.gZ.mem a;exact I.base.free b o c (I.ok.GZ b a) λz=>I.ok.qI b z a
theorem Aj.step{g':Array GenState}{t':Nat}{d':Drawn}{ch:List Addr}(I:Aj X pins σ H s)
  (B:∀b∈ch,(b∈X.ex\/X.s₀.heap.objs.size<=b)/\b≠X.env.locals/\(∀x c,X.env.cells.lookup x=some c->c≠b)/\∀p∈X.pn++pins,p.1≠b)
  (keep:∀b o,b≠X.env.locals->b∉X.fs->b∉ch->s.heap.get? b=some o->H b=none->h'.get? b=some o)
  (h:∀b o,b≠X.env.locals->b∈X.fs->b∉ch->s.heap.get? b=some o->H b=none->∃J,h'.get? b=some {o with slots:=J})(free:∀b o,b∉ch->s.heap.get? b=some o->H b=none->H' b=none)
  (w:∀b o,b∉ch->s.heap.get? b=some o->∃E,h'.get? b=some E)
  (R:∀b xs,H b=some (.tup xs)->H' b=some (.tup xs))(P:∀b o u,H b=some (.bA o u)->H' b=some (.bA o u))(S:∀b ps,H b=some (.uR ps)->∃more,H' b=some (.uR (ps++more)))
  (ns:∀m,s.heap.Ns X.env.locals m->h'.Ns X.env.locals m)(O:Ga X.prog X.w H' h')(T:AllBare g'):
  Aj X pins σ H' {s with heap:=h',gens:=g',drawn:=d',toks:=t'}:=by
 have D:∀b o,X.s₀.heap.get? b=some o->b≠X.env.locals:=λb o e=>ed (eT (dg e) I.ok.above)
 have F:∀b o,X.s₀.heap.get? b=some o->b∉X.ex->b∉ch:=λb o e a j=>by
  rcases(B b j).1 with z|z
  ·exact a z
  ·exact absurd (eT (dg e) z) (Nat.lt_irrefl _)
 have f:∀x c,X.env.cells.lookup x=some c->∀v,s.heap.IsCell c v->h'.IsCell c v:=λx c e v ⟨o,y,G⟩=>by
  have A:c∉ch:=λz=>(B c z).2.2.1 x c e rfl;by_cases K:c∈X.fs
  ·obtain⟨J,q⟩:=h c o (I.BD x c e) K A y (I.bE x c e);exact⟨_,q,G⟩
  ·exact⟨o,keep c o (I.BD x c e) K A y (I.bE x c e),G⟩
 refine⟨I.ok,I.os,T,⟨λb o e n j a=>?_,λb o e n j a=>?_,λb o e n a=>?_,λb o e a=>?_,λb xs e=>R b xs (I.base.eG b xs e),λb o xs e=>P b o xs (I.base.cX b o xs e),λb ps e=>?_⟩,?_,λx c e=>?_,?_,λx c e=>?_,λp L=>?_,O,I.len⟩
 ·exact keep b o (D b o e) j (F b o e a) (I.base.keep b o e n j a) (I.base.free b o e n a)
 ·obtain⟨J,g⟩:=I.base.slot b o e n j a;obtain⟨N,C⟩:=h b _ (D b o e) j (F b o e a) g (I.base.free b o e n a);exact⟨N,C⟩
 ·obtain⟨E,g⟩:=I.base.there b o e a;exact free b E (F b o e a) g (I.base.free b o e n a)
 ·obtain⟨E,g⟩:=I.base.there b o e a;exact w b E (F b o e a) g
 ·obtain⟨m1,g⟩:=I.base.eJ b ps e;obtain⟨Z,C⟩:=S b _ g;exact⟨m1++Z,by rw[C,Array.append_assoc]⟩
 ·obtain⟨m,Y,U⟩:=I.loc;refine⟨m,ns m Y,λi x v g C Q=>?_⟩;obtain⟨u,r,l⟩:=U i x v g C Q;refine⟨u,r,?_⟩;rcases l with l|⟨k,c,e,z⟩
  ·exact .inl l
  ·exact .inr ⟨k,c,e,f x c e _ z⟩
 ·obtain⟨v,z⟩:=I.cell x c e;exact⟨v,f x c e v z⟩
 ·obtain⟨m,⟨o,_,_,y,_⟩,_⟩:=I.loc;exact free _ o (λz=>(B _ z).2.1 rfl) y I.free
 ·obtain⟨v,o,y,G⟩:=I.cell x c e;exact free c o (λz=>(B c z).2.2.1 x c e rfl) y (I.bE x c e)
 ·obtain⟨e,n,ne,M,d⟩:=I.pin p L;have A:p.1∉ch:=λz=>(B p.1 z).2.2.2 p L rfl;exact⟨keep p.1 p.2 ne M A e n,free p.1 p.2 A e n,ne,M,d⟩
theorem Aj.un{t':Nat}(I:Aj X pins σ H s)(u:Un X.fs [] H H' s.heap h')(f:Ga X.prog X.w H' h'):Aj X pins σ H' {s with heap:=h',toks:=t'}:=by
 obtain⟨m,⟨o,q,p,d,r⟩,_⟩:=id I.loc;obtain⟨x,g⟩:=u.any d I.free (by simp)
 exact I.step (g':=s.gens) (d':=s.drawn) (ch:=[]) (λ_ z=>nomatch z) (λb o _ a _ e n=>u.keep b o e n a (by simp)) (λb o _ a _ e n=>u.slot b o e n a (by simp)) (λb o _ e n=>u.free b o e n (by simp)) (λb o _ e=>u.there b o e (by simp)) u.eG u.cX u.eJ (λv h=>by
  obtain⟨w,j,l,c,i⟩:=h;rw[d]at c;cases c;exact⟨_,j,l,g,i⟩) f I.bare
theorem Aj.call{g':Array GenState}{t':Nat}{d':Drawn}{ch:List Addr}(I:Aj X pins σ H s)(u:Un (iI X.stack) ch H H' s.heap h')(i:Ga X.prog X.w H' h')(l:AllBare g')
  (g:∀b∈ch,(b∈X.ex\/X.s₀.heap.objs.size<=b)/\b≠X.env.locals/\(∀x c,X.env.cells.lookup x=some c->c≠b)/\∀p∈X.pn++pins,p.1≠b):
  Aj X pins σ H' {s with heap:=h',gens:=g',drawn:=d',toks:=t'}:=by
 obtain⟨m,⟨o,B,A,h,r⟩,_⟩:=id I.loc;obtain⟨E,d⟩:=u.any h I.free λz=>(g _ z).2.1 rfl
 exact I.step (ch:=ch) g (λb o d j a e n=>u.keep b o e n (λz=>(d3.mp (I.mC b z)).elim d j) a) (λb o _ _ a e n=>u.any e n a) (λb o a e n=>u.free b o e n a) (λb o a e=>u.there b o e a) u.eG u.cX u.eJ (λC q=>by
  obtain⟨D,w,y,f,v⟩:=q;rw[h]at f;cases f;exact⟨_,w,y,d,v⟩) i l
theorem Aj.turned{t':Nat}(I:Aj X pins σ H s)(k:∀b o,b≠it->s.heap.get? b=some o->h'.get? b=some o)(y:H it=none)(f:it≠X.env.locals)
  (h1:it∈X.ex\/X.s₀.heap.objs.size<=it)(i:∀x c,X.env.cells.lookup x=some c->c≠it)(j:∀p∈X.pn++pins,p.1≠it):Aj X pins σ H {s with heap:=h',toks:=t'}:=by
 have d:∀b u,H b=some u->b≠it:=λb u e z=>by rw[z,y]at e;cases e
 refine I.step (g':=s.gens) (d':=s.drawn) (ch:=[it]) (λb l=>?_) (λb o _ _ a e _=>k b o (λz=>a (by simp[z])) e) (λb o _ _ a e _=>⟨o.slots,k b o (λz=>a (by simp[z])) e⟩) (λ_ _ _ _ n=>n)
  (λb o a e=>⟨o,k b o (λz=>a (by simp[z])) e⟩) (λ_ _ e=>e) (λ_ _ _ e=>e) (λb B e=>⟨#[],by rw[e];simp⟩) (λm w=>?_) (λb u e=>?_) I.bare
 ·have e:b=it:=by simpa using l
  subst e;exact⟨h1,f,i,j⟩
 ·obtain⟨o,h,g,A,r⟩:=w;exact⟨o,h,g,k _ o (Ne.symm f) A,r⟩
 ·refine(I.aF b u e).cW (λc v a q=>k c v ?_ q) (λ_ q=>q) λ_ _ q=>q;rcases a with z|z
  ·rw[z];exact d b u e
  ·exact d c _ z
theorem Aj.tok(I:Aj X pins σ H s)(t:Nat):Aj X pins σ H {s with toks:=t}:=I.un (h':=s.heap) (t':=t) Un.refl I.aF
theorem Aj.kept{t':Nat}(I:Aj X pins σ H s)(k:∀b u,s.heap.get? b=some u->h'.get? b=some u):Aj X pins σ H {s with heap:=h',toks:=t'}:=I.un (Un.kept k) (I.aF.kept k)
theorem Aj.laid{t':Nat}(I:Aj X pins σ H s)(k:∀b u,s.heap.get? b=some u->h'.get? b=some u)(c:s.heap.objs.size<=a)(new:B8 X.prog X.w (upd H a o) h' a o):
  Aj X pins σ (upd H a o) {s with heap:=h',toks:=t'}:=I.un (Un.laid k c (I.aF.fresh c)) (I.aF.laid k c new)
theorem Aj.write{t':Nat}(I:Aj X pins σ H s)(c:yc (H x))(he:e=x\/H e=some (.own x))(k:∀b u,b≠e->s.heap.get? b=some u->h'.get? b=some u)(a:∃u,h'.get? e=some u)
  (new:B8 X.prog X.w (upd H x o) h' x o):Aj X pins σ (upd H x o) {s with heap:=h',toks:=t'}:=I.un (Un.write c he k a) (I.aF.write c he k a new)
theorem Aj.weak(I:Aj X pins σ H s)(f:a.length=σ.length)(w:∀(i:Nat) v,a[i]?=some (some v)->σ[i]?=some (some v)):Aj X pins a H s:=
 ⟨I.ok,I.os,I.bare,I.base,let⟨m,g,b⟩:=I.loc;⟨m,g,λi x v c d e=>b i x v c (w i v d) e⟩,I.cell,I.free,I.bE,I.pin,I.aF,f.trans I.len⟩
theorem Aj.nV(I:Aj X pins σ H s)(h:∀p∈a,s.heap.get? p.1=some p.2/\H p.1=none/\p.1≠X.env.locals/\p.1∉X.fs/\∀v,p.2.data≠ .cell v):Aj X a σ H s:=
 ⟨I.ok,I.os,I.bare,I.base,I.loc,I.cell,I.free,I.bE,λp b=>(fe.mp b).elim (λz=>I.pin p (gv _ z)) (h p),I.aF,I.len⟩
theorem Sz{N:List Str}(e:N.Nodup){i j:Nat}(a:N[i]?=some x)(b:N[j]?=some x):i=j:=by
 obtain⟨f,c⟩:=bG.mp a;obtain⟨g,d⟩:=bG.mp b;exact(List.getElem_inj e).mp (c.trans d.symm)
theorem Pn{M:Model}{A:nf}{E:mr}{i:Nat}{u:mK}{Q:Unit->mI->Prop}(I:Aj X pins σ H s)(hN:X.N.Nodup)(hi:X.N[i]?=some x)(B:ya X.env.scope x)(r:B0 v u)
  (h:∀s',Aj X pins (σ.set i (some v)) H s'->(∃a,Heap.SameBut a s.heap s'.heap/\(a=X.env.locals\/X.env.cells.lookup x=some a))->Q () s')(hf:X.fn x=true\/X.env.scope.names.lookup x=some .local:=by first|exact .inl rfl|exact .inr rfl|assumption):wpAny M A (storeName X.env x u) Q E s:=by
 obtain⟨m,P,hl⟩:=id I.loc;have WA:(X.env.scope.kind== .class||(X.env.scope.kind== .module&&X.env.locals != X.env.globals))=false:=by rw[I.ok.kind];rfl
 have D:i<σ.length:=by rw[I.len];exact(bG.mp hi).1
 have BD:=I.BD
 have l:∀{a:Addr}{h':Heap},(∃o,s.heap.get? a=some o/\H a=none)->Heap.SameBut a s.heap h'->Ga X.prog X.w H h':=λ{a h'} ha f b ob e=>by
  obtain⟨_,_,hJ⟩:=ha;refine(I.aF b ob e).cW (λc L w q=>(f.2 c ?_).trans q) (λ_ q=>q) λ_ _ q=>q;rintro rfl;rcases w with rfl|w
  ·rw[hJ]at e;cases e
  ·rw[hJ]at w;cases w
 rcases B with F|F
 ·refine wpAny_storeName_local F P (λh' R f=>?_) WA;obtain⟨oL,_,_,iZ,_⟩:=id P;refine h _ ⟨I.ok,I.os,I.bare,⟨λb o e n G B=>?_,λb o e n G B=>?_,I.base.free,λb o e B=>?_,I.base.eG,I.base.cX,I.base.eJ⟩,⟨_,R,λj y v' g C O=>?_⟩,λy c e=>?_,I.free,I.bE,λp S=>?_,l ⟨oL,iZ,I.free⟩ f,by simpa using I.len⟩ ⟨_,f,.inl rfl⟩
  ·exact(f.2 b (ed (eT (dg e) I.ok.above))).trans (I.base.keep b o e n G B)
  ·obtain⟨Z,g⟩:=I.base.slot b o e n G B;exact⟨Z,(f.2 b (ed (eT (dg e) I.ok.above))).trans g⟩
  ·obtain⟨U,g⟩:=I.base.there b o e B;exact⟨U,(f.2 b (ed (eT (dg e) I.ok.above))).trans g⟩
  ·by_cases J:j=i
   ·subst J;rw[hi]at g;cases g;rw[List.getElem?_set_self D]at C;cases C;exact⟨u,r,.inl ⟨F,by simp⟩⟩
   ·rw[List.getElem?_set_ne (Ne.symm J)]at C;obtain⟨u',Y,q⟩:=hl j y v' g C O;refine⟨u',Y,?_⟩;rcases q with⟨k,e⟩|⟨k,c,e,z⟩
    ·refine .inl ⟨k,?_⟩;have:y≠x:=λe=>J (Sz hN g (e▸hi));simp[this,e]
    ·exact .inr ⟨k,c,e,z.sameBut f (BD y c e)⟩
  ·obtain⟨L,z⟩:=I.cell y c e;exact⟨L,z.sameBut f (BD y c e)⟩
  ·obtain⟨e,n,ne,T,d⟩:=I.pin p S;exact⟨(f.2 p.1 ne).trans e,n,ne,T,d⟩
 ·have N:X.fn x=true:=by
   rcases hf with z|z
   ·exact z
   ·rw[z]at F;cases F
  obtain⟨c,w⟩:=I.ok.has x (.inl F);obtain⟨L,z⟩:=I.cell x c w;refine wpAny_storeName_cell I.ok.kind F w z (λh' gU f=>?_);obtain⟨oc,qJ,WB⟩:=id z;refine h {s with heap:=h'} ⟨I.ok,I.os,I.bare,⟨λb o e n G B=>?_,λb o e n G B=>?_,I.base.free,λb o e B=>?_,I.base.eG,I.base.cX,I.base.eJ⟩,⟨m,P.sameBut f (Ne.symm (BD x c w)),λj y v' g C O=>?_⟩,λy K e=>?_,I.free,I.bE,λp S=>?_,l ⟨oc,qJ,I.bE x c w⟩ f,by simpa using I.len⟩ ⟨c,f,.inr w⟩
  ·exact(f.2 b (ed (eT (dg e) (I.ok.IK x c N w)))).trans (I.base.keep b o e n G B)
  ·obtain⟨Z,g⟩:=I.base.slot b o e n G B;exact⟨Z,(f.2 b (ed (eT (dg e) (I.ok.IK x c N w)))).trans g⟩
  ·obtain⟨U,g⟩:=I.base.there b o e B;exact⟨U,(f.2 b (ed (eT (dg e) (I.ok.IK x c N w)))).trans g⟩
  ·by_cases J:j=i
   ·subst J;rw[hi]at g;cases g;rw[List.getElem?_set_self D]at C;cases C;exact⟨u,r,.inr ⟨.inl F,c,w,gU⟩⟩
   ·rw[List.getElem?_set_ne (Ne.symm J)]at C;obtain⟨u',Y,q⟩:=hl j y v' g C O;refine⟨u',Y,?_⟩;rcases q with q|⟨k,K,e,z'⟩
    ·exact .inl q
    ·refine .inr ⟨k,K,e,z'.sameBut f ?_⟩;rintro rfl;exact J (Sz hN g (I.ok.inj _ _ _ e w▸hi))
  ·by_cases IP:K=c
   ·subst IP;exact⟨_,gU⟩
   ·obtain⟨w2,z2⟩:=I.cell y K e;exact⟨w2,z2.sameBut f IP⟩
  ·obtain⟨e,n,ne,T,d⟩:=I.pin p S;refine⟨(f.2 p.1 ?_).trans e,n,ne,T,d⟩;intro q;rw[q,qJ]at e;have q':oc=p.2:=d0 e;exact d L (by rw[<- q'];exact WB)
theorem No(I:Aj X pins σ H s)(b:X.N.Nodup)(hi:X.N[i]?=some x)(d:ya X.env.scope x)(r:B0 v u)
  (h:∀s',Aj X pins (σ.set i (some v)) H s'->Q () s')(c:X.fn x=true\/X.env.scope.names.lookup x=some .local:=by first|exact .inl rfl|exact .inr rfl|assumption):wpAny M A (storeName X.env x u) Q E s:=
 Pn I b hi d r (λs' a _=>h s' a) c
theorem Aj.xM(I:Aj X pins σ H s)(i:s'.os=s.os)(u:Un (iI X.stack) ch H H' s.heap s'.heap)(a:Ga X.prog X.w H' s'.heap)(h:AllBare s'.gens)
  (d:∀b∈ch,(b∈X.ex\/X.s₀.heap.objs.size<=b)/\b≠X.env.locals/\(∀x c,X.env.cells.lookup x=some c->c≠b)/\∀p∈X.pn++pins,p.1≠b):Aj X pins σ H' s':=by
 obtain⟨h',g,f,l,j⟩:=s';have e:j=s.os:=i;subst e;exact I.call (g':=g) (t':=l) (d':=f) u a h d
end
abbrev XK:=mK->Option Addr->Hp->Prop
abbrev St:=List (Option V)
abbrev VK:=V->Hp->Prop
abbrev TE:=St->Hp->VK->Prop
abbrev TT:=St->Hp->(Bool->Hp->Prop)->Prop
abbrev TA:=St->Hp->(List V->Hp->Prop)->Prop
set_option genInjectivity false in
set_option genSizeOf false in
structure Ix where
 nx:St->Hp->Prop
 rt:VK
 bk:St->Hp->Prop:=λ_ _=>False
 ct:St->Hp->Prop:=λ_ _=>False
abbrev TS:=Ix->St->Hp->Prop
def EP(X:Cx)(a:List (Addr×Obj))(c:St)(Q:VK)(u:mK)(s':mI):Prop:=∃v b,Aj X a c b s'/\B0 v u/\Q v b
def TP(X:Cx)(a:List (Addr×Obj))(d:St)(Q:Bool->Hp->Prop)(b:Bool)(s':mI):Prop:=∃c,Aj X a d c s'/\Q b c
def AP(X:Cx)(a:List (Addr×Obj))(e:St)(Q:List V->Hp->Prop)(d:List mK)(s':mI):Prop:=∃c b,Aj X a e b s'/\Ay c d/\Q c b
def SP(X:Cx)(b:List (Addr×Obj))(D:Ix)(f:Flow)(s':mI):Prop:=
 match f with
 | .next=>∃a c,Aj X b a c s'/\D.nx a c
 | .brk=>∃a c,Aj X b a c s'/\D.bk a c
 | .cont=>∃a c,Aj X b a c s'/\D.ct a c
 | .ret u=>∃v a c,Aj X b a c s'/\B0 v u/\D.rt v c
def PE(X:Cx)(e:Expr)(t:TE):Prop:=
 ∀(a:List (Addr×Obj)) (s:mI) (b:St) (H:Hp) (Q:VK),Aj X a b H s->t b H Q->wpAny (model X.prog X.w) X.A (eval e X.env) (EP X a b Q) X.xe s
def PT(X:Cx)(e:Expr)(t:TT):Prop:=
 ∀(a:List (Addr×Obj)) (s:mI) (b:St) (H:Hp) (Q:Bool->Hp->Prop),Aj X a b H s->t b H Q->wpAny (model X.prog X.w) X.A (isTrue e X.env (eval e X.env)) (TP X a b Q) X.xe s
def PW(X:Cx)(e:Expr)(t:TT):Prop:=
 ∀(b:Sem mK) (a:List (Addr×Obj)) (s:mI) (c:St) (H:Hp) (Q:Bool->Hp->Prop),Aj X a c H s->t c H Q->wpAny (model X.prog X.w) X.A (isTrue e X.env b) (TP X a c Q) X.xe s
theorem PW.pt{t:TT}(h:PW X e t):PT X e t:=h _
def PA(X:Cx)(es:List Expr)(t:TA):Prop:=
 ∀(pos:Pos) (a:List (Addr×Obj)) (s:mI) (b:St) (H:Hp) (Q:List V->Hp->Prop),Aj X a b H s->t b H Q->wpAny (model X.prog X.w) X.A (spliced (backTo pos (starEach es X.env))) (AP X a b Q) X.xe s
def PS(X:Cx)(st:Stmt)(t:TS):Prop:=
 ∀(a:List (Addr×Obj)) (s:mI) (b:St) (H:Hp) (D:Ix),Aj X a b H s->t D b H->wpAny (model X.prog X.w) X.A (exec st X.env) (SP X a D) X.xe s
def Od(X:Cx)(st:List Stmt)(t:TS):Prop:=
 ∀(a:List (Addr×Obj)) (s:mI) (b:St) (H:Hp) (D:Ix),Aj X a b H s->t D b H->wpAny (model X.prog X.w) X.A (execs st X.env) (SP X a D) X.xe s
theorem Bj{t:Sem c}(h:wpAny M A t Q E s)(d:∀a s,Q a s->b a s):wpAny M A t b E s:=ia h d λ_ _ x=>x
section
variable {X:Cx}
def A0i(i:Nat):TE:=λa H Q=>∃v,a[i]?=some (some v)/\Q v H
def tC(v:V):TE:=λ_ H Q=>Q v H
theorem vc{pos:Pos}(j:X.N[i]?=some x)(q:yj X.env.scope x)(d:(x==("__debug__":Str))=false:=by decide)(w:(x==("__classdict__":Str))=false:=by decide):PE X (.Name x pos) (A0i i):=by
 intro b s y H Q I h;obtain⟨v,e,h⟩:=h;obtain⟨m,p,n⟩:=I.loc;obtain⟨u,r,l⟩:=n i x v j e q;have fin:EP X b y Q u s:=⟨v,H,I,r,h⟩;rcases l with⟨a,o⟩|⟨a,c,g,f⟩
 ·exact wpAny_Name (wpAny_loadName_local I.ok.kind a p o fin) d
 ·rcases a with a|a
  ·exact wpAny_Name (wpAny_loadName_cell I.ok.kind a g f fin) d
  ·exact wpAny_Name (wpAny_loadName_free I.ok.kind a g f fin w) d
theorem Ad{i j pos}:PE X (.Constant (.int i) j pos) (tC (.int i)):=λ_ _ _ H _ I h=>wpAny_Constant_int ⟨.int i,H,I.tok _,⟨_,rfl⟩,h⟩
theorem Gw{b j pos}:PE X (.Constant (.bool b) j pos) (tC (.bl b)):=λ_ _ _ H _ I h=>Constant_bool ⟨.bl b,H,I,rfl,h⟩
theorem Bq{j pos}:PE X (.Constant .none j pos) (tC .aP):=λ_ _ _ H _ I h=>Constant_none ⟨.aP,H,I,rfl,h⟩
theorem N7{x j pos}:PE X (.Constant (.str x) j pos) (tC (.str x)):=λ_ _ _ H _ I h=>Calls.Constant_str ⟨.str x,H,I.tok _,⟨_,rfl⟩,h⟩
def Gl(X:Cx)(x:Str):Prop:=X.env.kindOf x=some .globalImplicit
theorem Lj{pos:Pos}(I:Aj X a e H s)(c:Gl X x)(d:X.mg x=some u)(h:Q u s)
  (b:(x==("__debug__":Str))=false:=by decide):wpAny (model X.prog X.w) X.A (eval (.Name x pos) X.env) Q E s:=
 Calls.Name_function_global I.ok.kind c (Calls.loadGlobal_global (by rw[I.ok.glob];exact I.mod.glob.keeps I.bk) d h) b
theorem Ea{pos:Pos}(I:Aj X a j H s)(e:Gl X x)(f:X.mg x=none)(i:bootBuiltins x=some u)(h:Q u s)
  (g:x≠"__name__":=by decide)(d:(x==("__debug__":Str))=false:=by decide):wpAny (model X.prog X.w) X.A (eval (.Name x pos) X.env) Q E s:=by
 obtain⟨l,b,c⟩:=I.mod.blt;exact Calls.Name_function_global I.ok.kind e (Calls.loadGlobal_builtin (by rw[I.ok.glob];exact I.mod.glob.keeps I.bk) f (by rw[I.ok.blt];exact b.keeps I.bk) ((c x g).trans i) h) d
theorem Wz{pos:Pos}(b:Gl X x)(c:X.mg x=some u)(r:B0 v u)(a:(x==("__debug__":Str))=false:=by decide):PE X (.Name x pos) (tC v):=
 λ_ _ _ H _ I h=>Lj I b c ⟨v,H,I,r,h⟩ a
theorem lp{pos:Pos}(b:Gl X x)(c:X.mg x=none)(e:bootBuiltins x=some u)(r:B0 v u)(d:x≠"__name__":=by decide)(a:(x==("__debug__":Str))=false:=by decide):PE X (.Name x pos) (tC v):=
 λ_ _ _ H _ I h=>Ea I b c e ⟨v,H,I,r,h⟩ d a
variable {a b:Expr}{ta tb:TE}{pos:Pos}
def PC(X:Cx)(op:CmpOp)(a b:Expr)(t:TE):Prop:=
 ∀(c:List (Addr×Obj)) (s:mI) (f:St) (H:Hp) (Q:VK),Aj X c f H s->t f H Q->
  wpAny (model X.prog X.w) X.A (eval a X.env) (λv d=>wpAny (model X.prog X.w) X.A (eval b X.env) (λu e=>wpAny (model X.prog X.w) X.A (compareOp op v u) (EP X c f Q) X.xe e) X.xe d) X.xe s
def tB(t:TE):TT:=λe H Q=>t e H λx d=>∃c,x=.bl c/\Q c d
theorem Ko{t:TE}(h:PC X op a b t)(h1:behindInMarks op b=false:=by first|exact IQ _ (by decide) (by decide)|rfl):PT X (.Compare a [op] [b] pos) (tB t):=by
 intro e s n H Q I j;refine wpAny_isTrue_Compare1 (Bj (h e s n H _ I j) λv o h1=>Bj h1 λu p i=>Bj i λc r ⟨x,f,g,m,l⟩=>?_) h1;obtain⟨d,rfl,q⟩:=l;cases m;exact ib ⟨f,g,q⟩
theorem D2{t:TE}(h:PE X e t)(he:∀c,isTrue e X.env c=(do let v <- c;standAt e.pos;holding [v] (truthy v)):=by intro _;rfl):PT X e (tB t):=by
 intro f s n H Q I j;refine isTrue_plain (Bj (h f s n H _ I j) λv o ⟨x,g,i,m,l⟩=>?_) (he _);obtain⟨d,rfl,q⟩:=l;cases m;exact ib ⟨g,i,q⟩
variable {tA xN:TT}{rest:List Expr}
def A1c(t:TT):TT:=λe H Q=>t e H λc d=>Q (!c) d
theorem X3(f:PT X a tA):PW X (.BoolOp .And [a] pos) tA:=by
 intro j d s g H Q I h;refine isTrue_and (Bj (f d s g H Q I h) λc i e=>?_);cases c with
 |true=>exact isTrue_and_nil e
 |false=>exact e
theorem Ip(f:PT X a tA):PW X (.BoolOp .Or [a] pos) tA:=by
 intro j d s g H Q I h;refine isTrue_or (Bj (f d s g H Q I h) λc i e=>?_);cases c with
 |false=>exact isTrue_or_nil e
 |true=>exact e
theorem Dw(f:PT X a tA):PT X (.UnaryOp .Not a pos) (A1c tA):=by
 intro d s g H Q I h;exact isTrue_not (f d s g H (λc e=>Q (!c) e) I h)
def A0e(ta:TE):TE:=λe H Q=>ta e H λx d=>∃c,x=.bl c/\Q (.bl (!c)) d
theorem Qu{op}{t:TE}(h:PE X a t):PE X (.BoolOp op [a] pos) t:=λc s e H Q I d=>BoolOp_one (h c s e H Q I d)
theorem v9(j:PE X a ta):PE X (.UnaryOp .Not a pos) (A0e ta):=by
 intro d s m H Q I h;refine UnaryOp_ (Bj (j d s m H _ I h) λv n i=>?_);obtain⟨x,f,g,l,e⟩:=i;obtain⟨c,rfl,e⟩:=e;cases l;exact not_of (ib ⟨.bl (!c),f,g,rfl,e⟩)
def tIf(t:TT)(ta tb:TE):TE:=λd H Q=>t d H λc e=>if c=true then ta d e Q else tb d e Q
theorem Tb(p:PT X c tA)(n:PE X a ta)(o:PE X b tb):PE X (.IfExp c a b pos) (tIf tA ta tb):=by
 intro e s f H Q I h;refine wpAny_IfExp (Bj (p e s f H _ I h) λd l m=>?_);obtain⟨g,i,j⟩:=m;cases d with
 |true=>exact n e l f g Q i j
 |false=>exact o e l f g Q i j
end
def B6(K:W.Frag)(H:Hp)(a:Addr)(xs:List V):Prop:=
 Rd H a (.lst xs)\/
  ∃(o:Obj) (b:Array mK) (n:Nat),K.lookup a=some o/\o.cls=.type "list"/\o.dict=none/\o.data=.seq b n/\b.size<=sizeLine/\Ay xs b.toList
def Cu(K:W.Frag)(H:Hp)(a:Addr)(xs:List V):Prop:=
 Rd H a (.tup xs)\/
  ∃(o:Obj) (b:Array mK) (n:Nat),K.lookup a=some o/\o.cls=.type "tuple"/\o.data=.seq b n/\b.size<=sizeLine/\Ay xs b.toList
def A0r:mK->Option V
 | .none=>some .aP
 | .bool b=>some (.bl b)
 | .int i _=>some (.int i)
 | .str x _=>some (.str x)
 | .bytes b _=>some (.pD b)
 | .float b _=>some (.GW b)
 | .ref a=>some (.ref a)
 | .type n=>some (.ty n)
 |_=>none
theorem B0.abs(r:B0 x u):A0r u=some x:=by
 cases x with
 |aP=>cases r;rfl
 |bl _=>cases r;rfl
 |int _=>obtain⟨t,rfl⟩:=r;rfl
 |str _=>obtain⟨t,rfl⟩:=r;rfl
 |pD _=>obtain⟨t,rfl⟩:=r;rfl
 |GW _=>obtain⟨t,rfl⟩:=r;rfl
 |ref _=>cases r;rfl
 |ty _=>cases r;rfl
theorem B0.inj(r:B0 x u)(q:B0 y u):x=y:=d0 (r.abs.symm.trans q.abs)
theorem Ay.inj(h:Ay xs a)(g:Ay ys a):xs=ys:=by
 induction h generalizing ys with
 |nil=>
  cases g;rfl
 |cons r t b=>
  cases g with
  |cons c d=>rw[r.inj c,b d]
section
variable {X:Cx}{pins:List (Addr×Obj)}{σ:St}{H:Hp}{s:mI}{a:Addr}{xs ys:List V}
theorem B6.of{K:W.Frag}(h:H a=some (.lst xs)):B6 K H a xs:=.inl (.inl h)
theorem Cu.of{K:W.Frag}(h:H a=some (.tup xs)):Cu K H a xs:=.inl (.inl h)
theorem Aj.list(I:Aj X pins σ H s)(h:B6 X.K H a xs):∃b:List mK,Ay xs b/\PlainL s.heap a b.toArray/\xs.length<=sizeLine:=by
 rcases h with h|⟨o,b,n,f,c,d,g,i,r⟩
 ·obtain⟨z,b,n,r,e⟩:=h.ok I.aF;exact⟨b,r,⟨_,n,e,rfl,rfl,rfl⟩,z⟩
 ·refine⟨b.toList,r,⟨o,n,I.iY a o f,c,d,by simpa using g⟩,?_⟩;have e:=r.length;simp only[Array.length_toList]at e;omega
theorem Aj.tuple(I:Aj X pins σ H s)(h:Cu X.K H a xs):∃b:List mK,Ay xs b/\IsTup s.heap a b.toArray/\xs.length<=sizeLine:=by
 rcases h with h|⟨o,b,n,d,c,f,g,r⟩
 ·obtain⟨z,b,r,p⟩:=h.ok I.aF;exact⟨b,r,p,z.1⟩
 ·refine⟨b.toList,r,⟨o,I.iY a o d,c,n,by simpa using f⟩,?_⟩;have e:=r.length;simp only[Array.length_toList]at e;omega
theorem Aj.kT(I:Aj X pins σ H s)(h:B6 X.K H a xs)(h':B6 X.K H a ys):xs=ys:=by
 obtain⟨g,r,⟨o,n,e,_,_,d⟩,_⟩:=I.list h;obtain⟨b,j,⟨m,l,f,_,_,c⟩,_⟩:=I.list h';rw[e]at f;cases f;rw[d]at c;injection c with i _;have:g=b:=by simpa using congrArg Array.toList i
 subst this;exact r.inj j
theorem Aj.jA(I:Aj X pins σ H s)(h:Cu X.K H a xs)(h':Cu X.K H a ys):xs=ys:=by
 obtain⟨g,r,⟨o,e,_,n,d⟩,_⟩:=I.tuple h;obtain⟨b,j,⟨m,f,_,l,c⟩,_⟩:=I.tuple h';rw[e]at f;cases f;rw[d]at c;injection c with i _;have:g=b:=by simpa using congrArg Array.toList i
 subst this;exact r.inj j
end
abbrev Cx.iL(X:Cx)(E:mr):Cx:={X with xe:=E}
abbrev Cx.HD(X:Cx):Cx:=X.iL λ_ _=>False
theorem Cx.Ok.iL{X:Cx}(ok:X.Ok)(E:mr):(X.iL E).Ok:=
 ⟨ok.mod,ok.kind,ok.glob,ok.blt,ok.above,ok.inj,ok.has,ok.IK,ok.hd,ok.frames,ok.SQ,ok.VX,ok.bs,ok.vI,ok.qH,ok.qI,ok.gZ,ok.GZ⟩
theorem Cx.Ok.bX{X:Cx}{E:mr}(ok:(X.iL E).Ok):X.Ok:=
 ⟨ok.mod,ok.kind,ok.glob,ok.blt,ok.above,ok.inj,ok.has,ok.IK,ok.hd,ok.frames,ok.SQ,ok.VX,ok.bs,ok.vI,ok.qH,ok.qI,ok.gZ,ok.GZ⟩
section
variable {X:Cx}{pins:List (Addr×Obj)}{σ:St}{H:Hp}{s:mI}{E:mr}
theorem Aj.iL(I:Aj X pins σ H s)(E:mr):Aj (X.iL E) pins σ H s:=⟨I.ok.iL E,I.os,I.bare,I.base,I.loc,I.cell,I.free,I.bE,I.pin,I.aF,I.len⟩
theorem Aj.bX(I:Aj (X.iL E) pins σ H s):Aj X pins σ H s:=⟨I.ok.bX,I.os,I.bare,I.base,I.loc,I.cell,I.free,I.bE,I.pin,I.aF,I.len⟩
theorem SP.bX(h:SP (X.iL E) pins D f s'):SP X pins D f s':=by
 cases f with
 |next=>obtain⟨a,b,I,q⟩:=h;exact⟨a,b,I.bX,q⟩
 |brk=>obtain⟨a,b,I,q⟩:=h;exact⟨a,b,I.bX,q⟩
 |cont=>obtain⟨a,b,I,q⟩:=h;exact⟨a,b,I.bX,q⟩
 |ret u=>obtain⟨v,a,b,I,r,q⟩:=h;exact⟨v,a,b,I.bX,r,q⟩
theorem Od.HD{st:List Stmt}{t:TS}(h:Od X.HD st t):Od X st t:=λpins s σ H D I a=>
 ia (h pins s σ H D (I.iL _) a) (λ_ _ q=>q.bX) λ_ _ z=>False.elim z
end
section
variable {X:Cx}{st:Stmt}{rest:List Stmt}{t u:TS}{e:Expr}{te:TE}{pos:Pos}
def A0d:TS:=λD a H=>D.nx a H
def A0g(t u:TS):TS:=λD a H=>t {D with nx:=u D} a H
theorem Ap:Od X [] A0d:=λ_ _ a H _ I h=>wpAny_execs_nil ⟨a,H,I,h⟩
theorem A6(h1:PS X st t)(g:Od X rest u):Od X (st::rest) (A0g t u):=by
 intro a s j H D I h;refine wpAny_execs_cons (Bj (h1 a s j H {D with nx:=u D} I h) λf i q=>?_);cases f with
 |next=>
  obtain⟨b,c,d,q⟩:=q;exact g a i b c D d q
 |ret v=>exact q
 |brk=>exact q
 |cont=>exact q
theorem Aa(h1:PS X st t):Od X [st] t:=by
 intro a s b H D I h;refine wpAny_execs_cons (Bj (h1 a s b H D I h) λf c q=>?_);cases f with
 |next=>exact wpAny_execs_nil q
 |ret v=>exact q
 |brk=>exact q
 |cont=>exact q
theorem Aj.quiet(I:Aj X a b H s):interactive X.env=false:=by simp[interactive,I.ok.kind]
def A0b(te:TE):TS:=λD a H=>te a H λ_ b=>D.nx a b
theorem De(he:PE X e te)(f:swapsWith e none pos.line X.env=pure false:=by rfl):PS X (.Expr e pos) (A0b te):=by
 intro a s b H D I h;exact wpAny_Expr_any (Bj (he a s b H _ I h) λv j ⟨x,c,d,i,g⟩=>⟨b,c,d,g⟩) I.quiet f
def A1f(te:TE):TS:=λD a H=>te a H D.rt
theorem Ak(he:PE X e te):PS X (.Return (some e) pos) (A1f te):=by
 intro a s b H D I h;exact wpAny_Return_some (Bj (he a s b H _ I h) λv i ⟨x,c,d,g,f⟩=>⟨x,b,c,d,g,f⟩)
def A1a(c:TT)(t u:TS):TS:=λD a H=>c a H λb d=>if b=true then t D a d else u D a d
theorem C5(r:PT X c n)(p:Od X a t)(q:Od X b u):PS X (.If c a b pos) (A1a n t u):=by
 intro f s g H D I h;refine wpAny_If (Bj (r f s g H _ I h) λd m o=>?_);obtain⟨i,j,l⟩:=o;cases d with
 |true=>exact p f m g i D j l
 |false=>exact q f m g i D j l
def xf:TS:=λ_ _ _=>False
theorem Fd:PS X st xf:=λ_ _ _ _ _ _ h=>h.elim
end
abbrev TG:=V->St->Hp->(St->Hp->Prop)->Prop
abbrev nu:=List V->St->Hp->(St->Hp->Prop)->Prop
def PG(X:Cx)(a:Expr)(t:TG):Prop:=
 ∀(b:List (Addr×Obj)) (s:mI) (e:St) (H:Hp) (v:V) (u:mK) (Q:St->Hp->Prop),Aj X b e H s->B0 v u->t v e H Q->
  wpAny (model X.prog X.w) X.A (assign a X.env u) (λ_ f=>∃c d,Aj X b c d f/\Q c d) X.xe s
def ye(X:Cx)(h:List Expr)(t:nu):Prop:=
 ∀(a:List (Addr×Obj)) (s:mI) (f:St) (H:Hp) (e:List V) (d:List mK) (Q:St->Hp->Prop),Aj X a f H s->Ay e d->t e f H Q->
  wpAny (model X.prog X.w) X.A (assignInOrder ((assignEach h X.env).map (·.2)) d) (λ_ g=>∃b c,Aj X a b c g/\Q b c) X.xe s
abbrev qa:=V->V->V->Hp->(Hp->Prop)->Prop
def yg(X:Cx)(t:qa):Prop:=
 ∀(a:List (Addr×Obj)) (s:mI) (e:St) (H:Hp) (o i v:V) (d c u:mK) (Q:Hp->Prop),Aj X a e H s->B0 o d->B0 i c->B0 v u->t o i v H Q->
  wpAny (model X.prog X.w) X.A (setItem d c u) (λ_ f=>∃b,Aj X a e b f/\Q b) X.xe s
abbrev SU:=V->V->Hp->VK->Prop
def PIp(X:Cx)(op:Operator)(t:SU):Prop:=
 ∀(a:List (Addr×Obj)) (s:mI) (b:St) (H:Hp) (x y:V) (v u:mK) (Q:VK),Aj X a b H s->B0 x v->B0 y u->t x y H Q->
  wpAny (model X.prog X.w) X.A (inplaceOp op v u) (EP X a b Q) X.xe s
section
variable {X:Cx}{pos:Pos}
def Je(i:Nat):TG:=λv a H Q=>Q (a.set i (some v)) H
theorem Al(c:X.N.Nodup)(hi:X.N[i]?=some x)(e:ya X.env.scope x)(d:X.fn x=true\/X.env.scope.names.lookup x=some .local:=by first|exact .inl rfl|exact .inr rfl|assumption):PG X (.Name x pos) (Je i):=by
 intro a s g H v u Q I r h;exact wpAny_assign_Name (No I c hi e r (λf b=>⟨_,H,b,h⟩) d)
def yn:nu:=λa b H Q=>a=[]/\Q b H
def bd(t:TG)(u:nu):nu:=λc d H Q=>∃v r,c=v::r/\t v d H λa b=>u r a b Q
theorem Dy:ye X [] yn:=by
 intro a s b H d c Q I r h;obtain⟨e,h⟩:=h;subst e;cases r;exact assignInOrder_nil ⟨b,H,I,h⟩
theorem Bh{t:TG}(h1:PG X e t)(i:ye X es u)
  (j:(assignEach (e::es) X.env).map (·.2)=assign e X.env::(assignEach es X.env).map (·.2):=by rfl):ye X (e::es) (bd t u):=by
 intro a s o H w p Q I r h;obtain⟨v,q,g,h⟩:=h;subst g;cases r with
 |cons r m=>
  rw[j];refine assignInOrder_cons (Bj (h1 a s o H _ _ _ I r h) λ_ n f=>?_);obtain⟨b,c,d,l⟩:=f;exact i a n b c _ _ Q d m l
def qt(K:W.Frag)(n:Nat)(t:nu):TG:=λv c H Q=>∃a b,v=.ref a/\Cu K H a b/\b.length=n/\t b c H Q
theorem vd{k:Nat}{t:nu}(m:X.calm=true)(h:ye X es t)
  (q:(assignEach es X.env).length=n:=by rfl)(i:(assignEach es X.env).findIdx? (·.1)=none:=by rfl):PG X (.Tuple es k pos) (qt X.K n t):=by
 intro c s f H v u Q I r d;obtain⟨a,z,j,w,p,d⟩:=d;subst j;cases r;obtain⟨A,rv,x,B⟩:=I.tuple w;refine assign_Tuple_tuple (I.ok.hd m) x (by simp[q,<- p,rv.length]) i λl y=>?_;have g:Aj X c f H {s with heap:=l}:=I.kept (t':=s.toks) λb o e=>y b o (ed (dg e)) e;exact h c _ f H z _ Q g (by simpa using rv) d
def A0u(f e:TE)(t:qa):TG:=λv a H Q=>f a H λo b=>e a b λi c=>t o i v c λd=>Q a d
theorem V4{t:qa}(z:PE X o g)(hi:PE X i f)(A:yg X t)
  (w:∀v,assign (.Subscript o i pos) X.env v=(do
   let b <- holding [v] (eval o X.env);let d <- holding [v,b] (eval i X.env)
   standAt pos
   holding [v,b,d] (setItem b d v)
   release [v,b,d] []):=by intro _;rfl):PG X (.Subscript o i pos) (A0u g f t):=by
 intro a s e H v u Q I r h;rw[w];refine a0 (ft (Bj (z a s e H _ I h) λb G c=>?_));obtain⟨x,j,n,E,B⟩:=c;refine a0 (ft (Bj (hi a G e j _ n B) λd J c=>?_));obtain⟨y,l,p,F,C⟩:=c;refine a0 (wpAny_standAt (a0 (ft (Bj (A a J e l x y v b d u _ p E F r C) λ_ K c=>?_))));obtain⟨m,q,D⟩:=c;exact wpAny_release ⟨e,m,q,D⟩
def A06(c:TE)(g:TG):TS:=λD a H=>c a H λx b=>g x a b D.nx
theorem V6(he:PE X e c)(j:PG X b g)(l:swapsWithSole [b] e pos.line X.env=pure false:=by rfl)(m:swappedStores [b] e X.env=pure none:=by rfl)
  (h1:(assignEach [b] X.env).map (·.2)=[assign b X.env]:=by rfl):PS X (.Assign [b] e pos) (A06 c g):=by
 intro a s d H D I h;refine wpAny_Assign_stores (Bj (he a s d H _ I h) λv p ⟨x,f,i,o,n⟩=>?_) l m;rw[h1];exact Bj (j a p d f x v _ i o n) λ_ r q=>q
theorem Ah(j:X.N.Nodup)(hi:X.N[i]?=some x)(n:ya X.env.scope x)(he:PE X e c)(m:swapsWith e (some (.Name x a)) pos.line X.env=pure false:=by rfl)(l:X.fn x=true\/X.env.scope.names.lookup x=some .local:=by first|exact .inl rfl|exact .inr rfl|assumption):
  PS X (.Assign [.Name x a] e pos) (A06 c (Je i)):=by
 intro b s q H D I h;refine wpAny_Assign_Name (Bj (he b s q H _ I h) λv r ⟨y,d,f,p,o⟩=>?_) m;exact No f j hi n p (λu g=>⟨_,d,g,o⟩) l
def A15(i:Nat)(d:TE)(e:SU):TS:=λD a H=>∃x,a[i]?=some (some x)/\d a H λy b=>e x y b λz c=>D.nx (a.set i (some z)) c
theorem dl(M:X.N.Nodup)(hi:X.N[i]?=some x)(n:ya X.env.scope x)(he:PE X e q)(S:PIp X op A)(O:X.fn x=true\/X.env.scope.names.lookup x=some .local:=by first|exact .inl rfl|exact .inr rfl|assumption):
  PS X (.AugAssign (.Name x d) op e pos) (A15 i q A):=by
 intro a s B H D I h;obtain⟨v,K,h⟩:=h;obtain⟨m,R,P⟩:=I.loc;have o:yj X.env.scope x:=by rcases n with k|k;exact .inl k;exact .inr (.inl k)
 obtain⟨u,r,l⟩:=P i x v hi K o;refine wpAny_AugAssign_Name ?_
 have p:wpAny (model X.prog X.w) X.A (eval e X.env) (λw f=>wpAny (model X.prog X.w) X.A (inplaceOp op u w) (λr g=>wpAny (model X.prog X.w) X.A (storeName X.env x r) (λ_=>SP X a D .next) X.xe g) X.xe f) X.xe s:=by
  refine Bj (he a s B H _ I h) λw s1 j=>?_;obtain⟨y,C,F,Y,T⟩:=j;refine Bj (S a s1 B C v y u w _ F r Y T) λz s2 j=>?_;obtain⟨zv,E,G,Z,U⟩:=j;exact No G M hi n Z (λs3 J=>⟨_,E,J,U⟩) O
 rcases l with⟨b,Q⟩|⟨b,c,N,L⟩
 ·exact wpAny_loadName_local I.ok.kind b R Q p
 ·rcases b with b|b
  ·exact wpAny_loadName_cell I.ok.kind b N L p
  ·rcases n with k|k
   ·have:X.env.scope.names.lookup x=some .free:=b;rw[k]at this;cases this
   ·have:X.env.scope.names.lookup x=some .free:=b;rw[k]at this;cases this
def ipI(f:Int->Int->Int):SU:=λx y H Q=>∃i j,x=.int i/\y=.int j/\Q (.int (f i j)) H
theorem bw:PIp X .Add (ipI λi j=>i+j):=by
 intro a s g H x y v u Q I d e h;obtain⟨i,j,b,c,q⟩:=h;subst b;subst c;obtain⟨t,rfl⟩:=d;obtain⟨f,rfl⟩:=e;exact iadd_int ⟨.int _,H,I.tok _,⟨_,rfl⟩,q⟩
end
section
variable {X:Cx}{pos:Pos}
def Rg(c:TT)(h:TS):TS:=λD a H=>∃W:Nat->St->Hp->Prop,(∃m,W m a H)/\∀m a H,W m a H->
 c a H λb f=>if b=true then∃N:St->Hp->Prop,(∀d e,N d e->∃g,g<m/\W g d e)/\h {D with nx:=N,ct:=N,bk:=D.nx} a f else D.nx a f
theorem Gz(C:PassesOwn (model X.prog X.w) X.A X.env X.xe)(L:PT X c F)(K:Od X g E):PS X (.While c g [] pos) (Rg F E):=by
 intro a s S H D I h;obtain⟨W,⟨m0,Q⟩,j⟩:=h;refine wpAny_While (codeAny_whileLoop (λn M=>∃l x,Aj X a l x M/\W n l x) ?_ m0 ⟨S,H,I,Q⟩);rintro n O ⟨e,y,G,R⟩;refine wpAny_passesOwn C (Bj (L a O e y _ G (j n e y R)) λb P J=>?_);obtain⟨z,A,m⟩:=J;cases b with
 |true=>
  obtain⟨N,B,m⟩:=m;rw[if_pos rfl];refine wpAny_passesOwn C (Bj (K a P e z _ A m) λf T o=>?_);cases f with
  |next=>
   obtain⟨d,i,p,u⟩:=o;obtain⟨r,q,w⟩:=B d i u;exact⟨r,q,d,i,p,w⟩
  |cont=>
   obtain⟨d,i,p,u⟩:=o;obtain⟨r,q,w⟩:=B d i u;exact⟨r,q,d,i,p,w⟩
  |brk=>exact o
  |ret v=>exact o
 |false=>
  rw[if_neg Bool.false_ne_true];exact wpAny_execs_nil ⟨e,z,A,m⟩
end
set_option genInjectivity false in
set_option genSizeOf false in
structure It where
 go:Nat->Hp->Prop
 vJ:Nat->Hp->V->Hp->Prop
 stop:Nat->Hp->Prop
def Lq(X:Cx)(a:List (Addr×Obj))(H:Hp)(b:Addr):Prop:=
 H b=none/\b≠X.env.locals/\b∉X.fs/\(b∈X.ex\/X.s₀.heap.objs.size<=b)/\(∀x c,X.env.cells.lookup x=some c->c≠b)/\∀p∈X.pn++a,p.1≠b
theorem Aj.mE(I:Aj X a i H s)(d:s.heap.objs.size<=b)(g:f b=none):Lq X a f b:=by
 refine⟨g,Nat.ne_of_gt (eT I.lt d),I.VZ d,.inr (dI I.sz d),λx c e z=>?_,λp h z=>?_⟩
 ·obtain⟨v,q⟩:=I.cell x c e;exact absurd (eT q.lt (by rw[z];exact d)) (Nat.lt_irrefl _)
 ·exact absurd (eT (dg (I.pin p h).1) (by rw[z];exact d)) (Nat.lt_irrefl _)
structure Rq(P:m8)(w:nP)(K:W.Frag)(tg:Expr)(J:It)(fp:List Addr)(it:Addr)(tn:Nat->Heap->Prop):Prop where
 mem:it∈fp
 obj:∀i h,tn i h->∀b∈fp,∃o,h.get? b=some o/\∀v,o.data≠ .cell v
 keep:∀i h h',tn i h->(∀b∈fp,∀o,h.get? b=some o->h'.get? b=some o)->tn i h'
 item:∀(X:Cx),X.prog=P->X.w=w->X.K=K->X.calm=true->∀(i:Nat) (pins:List (Addr×Obj)) (s:mI) (σ:St) (H:Hp) (E:mr),Aj X pins σ H s->(∀b∈fp,Lq X pins H b)->tn i s.heap->J.go i H->
  wpAny (model P w) X.A (pyNext (.ref it)) (λr s1=>∃u,r=some u/\
   wpAny (model P w) X.A (letOwnedTupleGo tg (.ref it) u) (λ_ s2=>∃x H',Aj X pins σ H' s2/\B0 x u/\J.vJ i H x H'/\tn (i+1) s2.heap/\∀b∈fp,H' b=none) E s1) E s
 done:∀(X:Cx),X.prog=P->X.w=w->X.K=K->X.calm=true->∀(i:Nat) (pins:List (Addr×Obj)) (s:mI) (σ:St) (H:Hp) (E:mr),Aj X pins σ H s->(∀b∈fp,Lq X pins H b)->tn i s.heap->J.stop i H->
  wpAny (model P w) X.A (pyNext (.ref it)) (λr s1=>r=none/\Aj X pins σ H s1) E s
 self:∀(A:nf) (i:Nat) (s:mI) (Q:mr) (E:mr),tn i s.heap->Q (.ref it) s->wpAny (model P w) A (pyIter (.ref it)) Q E s
abbrev TI:=St->Hp->(It->Hp->Prop)->Prop
def WC(X:Cx)(a:List (Addr×Obj))(j:St)(i:Expr)(R:It->Hp->Prop)(h:mK)(f:mI):Prop:=
 ∃(e:Addr) (d:List Addr) (g:Nat->Heap->Prop) (J:It) (c:Hp),h=.ref e/\Aj X a j c f/\Rq X.prog X.w X.K i J d e g/\g 0 f.heap/\(∀b∈d,Lq X a c b)/\R J c
def PI(X:Cx)(e b:Expr)(f:TI):Prop:=
 ∀(a:List (Addr×Obj)) (s:mI) (c:St) (H:Hp) (R:It->Hp->Prop),Aj X a c H s->f c H R->
  wpAny (model X.prog X.w) X.A (eval b X.env) (λv d=>wpAny (model X.prog X.w) X.A (pyIter v) (WC X a c e R) X.xe d) X.xe s
theorem bj(g:s.heap.get? it=some o)(d:o.cls=.type n)(e:o.data=.fields c)
  (f:["enumerate","zip","dict_itemiterator","dict_reverseitemiterator","odict_iterator","itertools.zip_longest","itertools.pairwise"].contains n=false)(a:Q () s):wpAny M A (letOwnedTupleGo b (.ref it) u) Q E s:=by
 unfold letOwnedTupleGo
 cases b<;>first
  |exact bc a
  | (cases u <;> first
    |exact bc a
    | (refine a0 (wpAny_load g ?_)
       rw[d,e];show wpAny M A (if(["enumerate","zip","dict_itemiterator","dict_reverseitemiterator","odict_iterator","itertools.zip_longest","itertools.pairwise"].contains n&&c[0]? ==some (rawInt _))=true then _ else _) Q E s;rw[if_neg (by intro h;rw[f,Bool.false_and]at h;cases h)];exact bc a))
def pp(K:W.Frag)(a:Addr):It:=
 ⟨λi H=>∃b x,B6 K H a b/\b[i]?=some x,λi H x c=>c=H/\∀b,B6 K H a b->b[i]?=some x,λi H=>∃b,B6 K H a b/\b.length<=i⟩
def xu(K:W.Frag)(a:Addr):It:=
 ⟨λi H=>∃b x,Cu K H a b/\b[i]?=some x,λi H x c=>c=H/\∀b,Cu K H a b->b[i]?=some x,λi H=>∃b,Cu K H a b/\b.length<=i⟩
def nq(lo:Int)(n:Nat):It:=⟨λi _=>i<n,λi H x a=>a=H/\x=.int (lo+i),λi _=>n<=i⟩
theorem Zd{P:m8}{w:nP}{K:W.Frag}{tg:Expr}(a it:Addr):Rq P w K tg (pp K a) [it] it (λi h=>h.IsListIter it a i)where
 mem:=by simp
 obj:=λi h f b j=>by
  have e:b=it:=by simpa using j
  subst e;obtain⟨o,e,c,d⟩:=f;exact⟨o,e,λv z=>by rw[d]at z;cases z⟩
 keep:=λi h l f k=>f.at λo e=>k it (by simp) o e
 item:=by
  intro X D G C M i g s N H E I m f F;subst D G C;obtain⟨xs,x,n,J⟩:=F;obtain⟨Q,rv,p,Y⟩:=I.list n;obtain⟨u,T,Z⟩:=rv.get J;obtain⟨q,r,S,y,A,B⟩:=m it (by simp);refine wpAny_pyNext_list_item f p.isList (x:=u) (by simpa using T) λl L sb=>?_;have O:Aj X g N H {s with heap:=l}:=I.turned (t':=s.toks) (λb o j e=>(sb.2 b j).trans e) q r y A B;obtain⟨o,e,c,d⟩:=id L;exact⟨u,rfl,bj (s:={s with heap:=l}) e c d (by decide) ⟨x,H,O,Z,⟨rfl,λys U=>by rw[I.kT U n];exact J⟩,L,λb j=>(m b j).1⟩⟩
 done:=by
  intro X D G C M i g s N H E I m f F;subst D G C;obtain⟨xs,n,J⟩:=F;obtain⟨Q,rv,p,Y⟩:=I.list n;obtain⟨q,r,S,y,A,B⟩:=m it (by simp);have hl:=rv.length;exact wpAny_pyNext_list_end (I.ok.hd M) f p.isList (by simp;omega) λl R=>⟨rfl,I.turned (t':=s.toks) (λb o j e=>R b o j e) q r y A B⟩
 self:=λ_ _ _ _ _ f h=>wpAny_pyIter_listiter f h
theorem Vv{P:m8}{w:nP}{K:W.Frag}{tg:Expr}(a it:Addr):Rq P w K tg (xu K a) [it] it (λi h=>h.IsTupleIter it a i)where
 mem:=by simp
 obj:=λi h f b j=>by
  have e:b=it:=by simpa using j
  subst e;obtain⟨o,e,c,d⟩:=f;exact⟨o,e,λv z=>by rw[d]at z;cases z⟩
 keep:=λi h l f k=>f.at λo e=>k it (by simp) o e
 item:=by
  intro X F J D N i g s O H E I m f G;subst F J D;obtain⟨xs,x,n,L⟩:=G;obtain⟨q,rv,p,Y⟩:=I.tuple n;obtain⟨u,T,Z⟩:=rv.get L;obtain⟨r,y,S,A,B,C⟩:=m it (by simp);refine wpAny_pyNext_tuple_item f (show s.heap.IsTuple a q.toArray from p) (x:=u) (by simpa using T) λl M sb=>?_;have Q:Aj X g O H {s with heap:=l}:=I.turned (t':=s.toks) (λb o j e=>(sb.2 b j).trans e) r y A B C;obtain⟨o,e,c,d⟩:=id M;exact⟨u,rfl,bj (s:={s with heap:=l}) e c d (by decide) ⟨x,H,Q,Z,⟨rfl,λys U=>by rw[I.jA U n];exact L⟩,M,λb j=>(m b j).1⟩⟩
 done:=by
  intro X F J D N i g s O H E I m f G;subst F J D;obtain⟨xs,n,L⟩:=G;obtain⟨q,rv,p,Y⟩:=I.tuple n;obtain⟨r,y,S,A,B,C⟩:=m it (by simp);have hl:=rv.length;exact wpAny_pyNext_tuple_end (I.ok.hd N) f (show s.heap.IsTuple a q.toArray from p) (by simp;omega) λl R=>⟨rfl,I.turned (t':=s.toks) (λb o j e=>R b o j e) r y A B C⟩
 self:=λ_ _ _ _ _ f h=>wpAny_pyIter_tupleiter f h
theorem Vu{P:m8}{w:nP}{K:PySem.W.Frag}{N:Expr}(it:Addr)(lo:Int)(n:Nat):Rq P w K N (nq lo n) [it] it (λi h=>IsRangeIter h it (lo+(i:Nat)*1) ((n:Int)-(i:Nat)) 1)where
 mem:=by simp
 obj:=λi h a b d=>by
  have e:b=it:=by simpa using d
  subst e
  exact⟨_,a,λv z=>by
   have O:Data.fields _=Data.cell v:=z;cases O⟩
 keep:=λi h f a k=>k it (by simp) _ a
 item:=by
  intro X u A r x i c s D H E I g a y;subst u A r;obtain⟨j,l,J,m,p,q⟩:=g it (by simp);have W:=Walks.range (prog:=X.prog) (w:=X.w) (I.ok.hd x) it lo 1 n;refine W.item i s _ _ y a λv f C L B M=>?_;obtain⟨t,rfl⟩:=L;have F:Aj X c D H {s with heap:=f,toks:=C}:=I.turned (λb o d e=>M b o (by simpa using d) e) j l m p q;refine⟨_,rfl,bj (s:={s with heap:=f,toks:=C}) (n:="range_iterator") B rfl rfl (by decide) ⟨.int (lo+i),H,F,⟨t,?_⟩,⟨rfl,rfl⟩,B,λb d=>(g b d).1⟩⟩;rw[Int.mul_one]
 done:=by
  intro X u A r x i c s D H E I g a y;subst u A r;obtain⟨j,l,J,m,p,q⟩:=g it (by simp);exact wpAny_pyNext_range_end (I.ok.hd x) a (by have:n<=i:=y;omega) λf G=>⟨rfl,I.turned (t':=s.toks) (λb o d e=>G b o d e) j l m p q⟩
 self:=λ_ _ _ _ _ a h=>wpAny_pyIter_rangeiter a h
section
variable {X:Cx}{tg:Expr}
theorem Tf{a:List (Addr×Obj)}{s:mI}{R:It->Hp->Prop}{E:mr}{lo hi:Int}{t u v:Tok}{d:Nat}(I:Aj X a f H s)(h1:-(2^62)<=lo)(i:lo<2^62)(j:-(2^62)<=hi)(l:hi<2^62)
  (q:R (nq lo (hi-lo).toNat) H):wpAny (model X.prog X.w) X.A (pyIter (.ref s.heap.objs.size)) (WC X a f tg R) E {s with heap:=s.heap.push {cls:=.type "range",data:=.fields #[.int lo t,.int hi u,.int 1 v] },toks:=d}:=by
 refine wpAny_pyIter_range (IsRange.new ..) (small_one h1 i j l) ?_;have c:Aj X a f H {s with heap:=s.heap.push {cls:=.type "range",data:=.fields #[.int lo t,.int hi u,.int 1 v] },toks:=d}:=I.kept λb o e=>bZ _ e
 refine⟨(s.heap.push {cls:=.type "range",data:=.fields #[.int lo t,.int hi u,.int 1 v] }).objs.size,[(s.heap.push {cls:=.type "range",data:=.fields #[.int lo t,.int hi u,.int 1 v] }).objs.size],_,_,H,rfl,
  c.kept (t':=d) λb o e=>bZ _ e,Vu _ lo (hi-lo).toNat,?_,λb m=>?_,q⟩
 ·have g:lo+((0:Nat):Int)*1=lo:=by simp
  have h:(((hi-lo).toNat:Nat):Int)-((0:Nat):Int)=Builtin.Range.rangeSize lo hi 1:=by rw[rangeSize_one];split<;>omega
  show IsRangeIter _ _ (lo+((0:Nat):Int)*1) ((((hi-lo).toNat:Nat):Int)-((0:Nat):Int)) 1;rw[g,h];exact cI _ rfl
 ·have e:b=(s.heap.push {cls:=.type "range",data:=.fields #[.int lo t,.int hi u,.int 1 v] }).objs.size:=by simpa using m
  subst e;exact c.mE (da _) (c.aF.fresh (da _))
def yp(b:TA):TI:=λd H R=>b d H λc a=>∃j:Int,c=[.int j]/\-(2^62)<=j/\j<2^62/\R (nq 0 j.toNat) a
def yq(b:TA):TI:=λd H R=>b d H λc a=>∃i j:Int,c=[.int i,.int j]/\(-(2^62)<=i/\i<2^62/\-(2^62)<=j/\j<2^62)/\R (nq i (j-i).toNat) a
theorem E4{p pos:Pos}(i:Gl X "range")(l:X.mg "range"=none)(g:PA X [a] d)(m:starEach [a] X.env=[(false,eval a X.env)]:=by rfl):PI X tg (.Call (.Name "range" p) [a] [] pos) (yp d):=by
 intro b s v H R I h;refine Call_ (Ea I i l boot_range (PyProof.Rows.callWith_type1 (Bj (g pos b s v H _ I h) λy x ⟨z,w,f,o,c⟩=>?_) m rfl));obtain⟨j,e,c,n,q⟩:=c;subst e;cases o with
 |cons r u=>
  cases u;obtain⟨t,rfl⟩:=r;exact call_range_1 (Tf f (by omega) (by omega) c n (by simpa using q))
theorem Z4{p pos:Pos}(o:Gl X "range")(u:X.mg "range"=none)(n:PA X [a,b] l)(v:starEach [a,b] X.env=[(false,eval a X.env),(false,eval b X.env)]:=by rfl)(g:starEach [b] X.env=[(false,eval b X.env)]:=by rfl):
  PI X tg (.Call (.Name "range" p) [a,b] [] pos) (yq l):=by
 intro c s B H R I h;refine Call_ (Ea I o u boot_range (PyProof.Rows.callWith_type1 (Bj (n pos c s B H _ I h) λF D ⟨G,C,m,A,d⟩=>?_) (by rw[v,g]) (by rw[g];rfl)));obtain⟨i,j,e,⟨d,w,x,y⟩,q⟩:=d;subst e;cases A with
 |cons r f=>
  cases f with
  |cons z f=>
   cases f;obtain⟨t,rfl⟩:=r;obtain⟨E,rfl⟩:=z;exact call_range_2 (Tf m d w x y q)
def A18(l:TI)(g:TG)(j:TS):TS:=λD a H=>l a H λJ f=>∃W:Nat->Nat->St->Hp->Prop,(∃m,W 0 m a f)/\∀i m a H,W i m a H->
 (J.stop i H/\D.nx a H)\/(J.go i H/\∃N:St->Hp->Prop,(∀c b,N c b->∃e,e<m/\W (i+1) e c b)/\∀x b,J.vJ i H x b->g x a b λd h=>j {D with nx:=N,ct:=N,bk:=D.nx} d h)
def N8(a:List Addr)(h:Heap):List (Addr×Obj):=a.filterMap λb=>(h.get? b).map λo=>(b,o)
theorem Fn(c:b∈a)(e:h.get? b=some o):(b,o)∈N8 a h:=List.mem_filterMap.mpr ⟨b,c,by rw[e];rfl⟩
theorem Z0(f:p∈N8 a h):p.1∈a/\h.get? p.1=some p.2:=by
 obtain⟨b,d,e⟩:=List.mem_filterMap.mp f;cases q:h.get? b with
 |none=>rw[q]at e;cases e
 |some o=>
  rw[q]at e;have c:(b,o)=p:=d0 e;subst c;exact⟨d,q⟩
theorem Aj.pinned(I:Aj X a h H s)(m:∀b∈c,Lq X a H b)(n:∀b∈c,∃o,s.heap.get? b=some o/\∀v,o.data≠ .cell v):Aj X (a++N8 c s.heap) h H s:=
 I.nV λp q=>(fe.mp q).elim (λz=>I.pin p (gd _ z)) λz=>by
  obtain⟨g,e⟩:=Z0 z;obtain⟨i,j,l,_⟩:=m p.1 g;obtain⟨o,f,d⟩:=n p.1 g;rw[e]at f;cases f;exact⟨e,i,j,l,d⟩
theorem Aj.dA(I:Aj X (a++d) b H s):Aj X a b H s:=I.nV λp c=>I.pin p (gd _ (gv _ c))
theorem Cd{pos:Pos}(K:PassesOwn (model X.prog X.w) X.A X.env X.xe)(hc:X.calm=true)(hi:PI X tg w wi)(hg:PG X tg g)(q:Od X C tb)
  (hs:∀x,foldedSetIterable w X.env x=pure x:=by intro _;rfl):PS X (.For tg w C [] pos) (A18 wi g tb):=by
 intro a s σ H D I h;refine wpAny_For (Bj (hi a s σ H _ I h) λv s1 h1=>Bj h1 λSW s2 h2=>?_) hs;obtain⟨it,G,tn,J,H2,e,I2,T,aO,f2,W,⟨m0,w0⟩,O⟩:=h2;subst e;have y:∀{B:Hp},(∀b∈G,B b=none)->∀b∈G,Lq X a B b:=λhn b q=>⟨hn b q,(f2 b q).2⟩;refine codeAny_forLoop_any (λn s'=>∃i z B,Aj X a z B s'/\tn i s'.heap/\(∀b∈G,B b=none)/\W i n z B) ?_ m0 ⟨0,σ,H2,I2,aO,λb q=>(f2 b q).1,w0⟩;rintro n s3 ⟨i,A,P,I3,gQ,SX,w3⟩;rcases O i n A P w3 with⟨M,qn⟩|⟨go,N,hN,step⟩
 ·refine wpAny_passesOwn K (Bj (T.done X rfl rfl rfl hc i a s3 A P X.xe I3 (y SX) gQ M) λr s4 F=>?_);obtain⟨U,I4⟩:=F;subst U;exact wpAny_execs_nil ⟨A,P,I4,qn⟩
 ·refine wpAny_passesOwn K (Bj (T.item X rfl rfl rfl hc i a s3 A P X.xe I3 (y SX) gQ go) λr s4 F=>?_);obtain⟨u,U,h4⟩:=F;subst U;refine wpAny_passesOwn K (Bj h4 λ_ s5 F=>?_);obtain⟨x,H5,I5,r5,y5,R,S⟩:=F;have Q:=I5.pinned (y S) (T.obj _ _ R);refine wpAny_passesOwn K (Bj (hg _ s5 A H5 x u _ Q r5 (step x H5 y5)) λ_ s6 F=>?_);obtain⟨Z,H6,I6,q6⟩:=F;refine wpAny_passesOwn K (Bj (q _ s6 Z H6 _ I6 q6) λf Y E=>?_)
  have p:∀{c:St}{j:Hp},Aj X (a++N8 G s5.heap) c j Y->N c j->∃m,m<n/\∃i z B,Aj X a z B Y/\tn i Y.heap/\(∀b∈G,B b=none)/\W i m z B:=λ{c j} l L=>by
   obtain⟨m',hm,w7⟩:=hN c j L;refine⟨m',hm,i+1,c,j,l.dA,T.keep _ _ _ R λb q o e=>(l.pin (b,o) (gd _ (gd _ (Fn q e)))).1,λb q=>?_,w7⟩;obtain⟨o,e,d⟩:=T.obj _ _ R b q;exact(l.pin (b,o) (gd _ (gd _ (Fn q e)))).2.1
  cases f with
  |next=>obtain⟨c,j,l,L⟩:=E;exact p l L
  |cont=>obtain⟨c,j,l,L⟩:=E;exact p l L
  |brk=>obtain⟨c,j,l,E⟩:=E;exact⟨c,j,l.dA,E⟩
  |ret v=>obtain⟨x7,c,j,l,r7,E⟩:=E;exact⟨x7,c,j,l.dA,r7,E⟩
end
theorem Cm{K:PySem.W.Frag}{a:Addr}{xs:List V}{g:TG}{o:TS}{D:Ix}{b:St}{H:Hp}(c:Nat->St->Hp->Prop)(h0:c 0 b H)(u:∀i b H,i<=xs.length->c i b H->B6 K H a xs)
  (v:∀i x b H,xs[i]?=some x->c i b H->g x b H λh j=>o {D with nx:=c (i+1),ct:=c (i+1),bk:=D.nx} h j)(r:∀b H,c xs.length b H->D.nx b H):
  ∃W:Nat->Nat->St->Hp->Prop,(∃m,W 0 m b H)/\∀i m b H,W i m b H->
   ((pp K a).stop i H/\D.nx b H)\/((pp K a).go i H/\∃N:St->Hp->Prop,(∀f d,N f d->∃n,n<m/\W (i+1) n f d)/\∀x d,(pp K a).vJ i H x d->g x b d λh j=>o {D with nx:=N,ct:=N,bk:=D.nx} h j):=by
 refine⟨λi m b H=>m=xs.length-i/\i<=xs.length/\c i b H,⟨xs.length,by simp,jT _,h0⟩,?_⟩;rintro i m b H ⟨rfl,s,p⟩;have q:=u i b H s p;by_cases l:i<xs.length
 ·refine .inr ⟨⟨xs,xs[i],q,by simp[l]⟩,c (i+1),λf d w=>⟨xs.length-(i+1),by omega,rfl,l,w⟩,λx d y=>?_⟩;obtain⟨e,y⟩:=y;subst e;exact v i x b _ (y xs q) p
 ·have e:i=xs.length:=by omega
  subst e;exact .inl ⟨⟨xs,q,da _⟩,r b H p⟩
theorem Wm{K:PySem.W.Frag}{a:Addr}{xs:List V}{g:TG}{o:TS}{D:Ix}{b:St}{H:Hp}(c:Nat->St->Hp->Prop)(h0:c 0 b H)(u:∀i b H,i<=xs.length->c i b H->Cu K H a xs)
  (v:∀i x b H,xs[i]?=some x->c i b H->g x b H λh j=>o {D with nx:=c (i+1),ct:=c (i+1),bk:=D.nx} h j)(r:∀b H,c xs.length b H->D.nx b H):
  ∃W:Nat->Nat->St->Hp->Prop,(∃m,W 0 m b H)/\∀i m b H,W i m b H->
   ((xu K a).stop i H/\D.nx b H)\/((xu K a).go i H/\∃N:St->Hp->Prop,(∀f d,N f d->∃n,n<m/\W (i+1) n f d)/\∀x d,(xu K a).vJ i H x d->g x b d λh j=>o {D with nx:=N,ct:=N,bk:=D.nx} h j):=by
 refine⟨λi m b H=>m=xs.length-i/\i<=xs.length/\c i b H,⟨xs.length,by simp,jT _,h0⟩,?_⟩;rintro i m b H ⟨rfl,s,p⟩;have q:=u i b H s p;by_cases l:i<xs.length
 ·refine .inr ⟨⟨xs,xs[i],q,by simp[l]⟩,c (i+1),λf d w=>⟨xs.length-(i+1),by omega,rfl,l,w⟩,λx d y=>?_⟩;obtain⟨e,y⟩:=y;subst e;exact v i x b _ (y xs q) p
 ·have e:i=xs.length:=by omega
  subst e;exact .inl ⟨⟨xs,q,da _⟩,r b H p⟩
theorem Ow{lo:Int}{n:Nat}{g:TG}{o:TS}{D:Ix}{a:St}{H:Hp}(c:Nat->St->Hp->Prop)(h0:c 0 a H)
  (r:∀i a H,i<n->c i a H->g (.int (lo+i)) a H λf h=>o {D with nx:=c (i+1),ct:=c (i+1),bk:=D.nx} f h)(q:∀a H,c n a H->D.nx a H):
  ∃W:Nat->Nat->St->Hp->Prop,(∃m,W 0 m a H)/\∀i m a H,W i m a H->
   ((nq lo n).stop i H/\D.nx a H)\/((nq lo n).go i H/\∃N:St->Hp->Prop,(∀d b,N d b->∃l,l<m/\W (i+1) l d b)/\∀x b,(nq lo n).vJ i H x b->g x a b λf h=>o {D with nx:=N,ct:=N,bk:=D.nx} f h):=by
 refine⟨λi m a H=>m=n-i/\i<=n/\c i a H,⟨n,by simp,jT _,h0⟩,?_⟩;rintro i m a H ⟨rfl,u,p⟩;by_cases j:i<n
 ·refine .inr ⟨j,c (i+1),λd b s=>⟨n-(i+1),by omega,rfl,j,s⟩,λx b y=>?_⟩;obtain⟨e,y⟩:=y;subst e y;exact r i a _ j p
 ·have e:i=n:=by omega
  subst e;exact .inl ⟨da _,q a H p⟩
theorem He(g:St->Hp->Prop)(h:St->Hp->Nat)(h0:g a H)
  (n:∀a H,g a H->c a H λb f=>if b=true then j {D with nx:=λd e=>g d e/\h d e<h a H,ct:=λd e=>g d e/\h d e<h a H,bk:=D.nx} a f else D.nx a f)
  (mono:∀a H Q i,(∀b f,Q b f->i b f)->c a H Q->c a H i):Rg c j D a H:=by
 refine⟨λm a H=>m=h a H/\g a H,⟨_,rfl,h0⟩,?_⟩;rintro m a H ⟨rfl,p⟩;refine mono a H _ _ (λb f q=>?_) (n a H p);cases b with
 |true=>exact⟨_,λd e ⟨o,l⟩=>⟨_,l,rfl,o⟩,q⟩
 |false=>exact q
abbrev R2:=V->V->Hp->VK->Prop
def Gd(X:Cx)(f:mK->mK->Sem mK)(r:R2):Prop:=
 ∀(a:List (Addr×Obj)) (s:mI) (b:St) (H:Hp) (x y:V) (v u:mK) (Q:VK),Aj X a b H s->B0 x v->B0 y u->r x y H Q->
  wpAny (model X.prog X.w) X.A (f v u) (EP X a b Q) X.xe s
def WD(X:Cx)(f:mK->Sem mK)(r:V->Hp->VK->Prop):Prop:=
 ∀(a:List (Addr×Obj)) (s:mI) (b:St) (H:Hp) (x:V) (v:mK) (Q:VK),Aj X a b H s->B0 x v->r x H Q->
  wpAny (model X.prog X.w) X.A (f v) (EP X a b Q) X.xe s
def D9(X:Cx)(f:mK)(r:List V->Hp->VK->Prop):Prop:=
 ∀(a:List (Addr×Obj)) (s:mI) (d:St) (H:Hp) (c:List V) (b:List mK) (Q:VK),Aj X a d H s->Ay c b->r c H Q->
  wpAny (model X.prog X.w) X.A (call f b) (EP X a d Q) X.xe s
def A0q(X:Cx)(r:V->Hp->(Bool->Hp->Prop)->Prop):Prop:=
 ∀(a:List (Addr×Obj)) (s:mI) (b:St) (H:Hp) (x:V) (v:mK) (Q:Bool->Hp->Prop),Aj X a b H s->B0 x v->r x H Q->
  wpAny (model X.prog X.w) X.A (truthy v) (TP X a b Q) X.xe s
def SY(r:R2)(d e:TE):TE:=λa H Q=>d a H λx b=>e a b λy c=>r x y c Q
def tUn(r:V->Hp->VK->Prop)(b:TE):TE:=λc H Q=>b c H λx a=>r x a Q
def rI(C:Int->Int->Prop)(g:Int->Int->V):R2:=λx y H Q=>∃i j,x=.int i/\y=.int j/\C i j/\Q (g i j) H
def o6(g:Int->Int->V):R2:=λx y H Q=>∃i j,x=.int i/\y=.int j/\Q (g i j) H
def rU(g:Int->V):V->Hp->VK->Prop:=λx H Q=>∃i,x=.int i/\Q (g i) H
section
variable {X:Cx}{a b c:Expr}{ta tb tc:TE}{pos:Pos}
theorem qe(q:PE X a ta)(r:PE X b tb){d:List (Addr×Obj)}{s:mI}{R:V->V->Hp->Prop}(I:Aj X d g H s)
  (h:ta g H λx m=>tb g m λy e=>R x y e){Q:mr}{f:mK->mK->Sem mK}
  (w:∀v u l x y e,Aj X d g e l->B0 x v->B0 y u->R x y e->wpAny (model X.prog X.w) X.A (f v u) Q X.xe l):
  wpAny (model X.prog X.w) X.A (eval a X.env) (λv i=>wpAny (model X.prog X.w) X.A (eval b X.env) (λu j=>wpAny (model X.prog X.w) X.A (f v u) Q X.xe j) X.xe i) X.xe s:=by
 refine Bj (q d s g H _ I h) λv D n=>?_;obtain⟨x,m,o,B,z⟩:=n;refine Bj (r d D g m _ o z) λu l n=>?_;obtain⟨y,e,p,C,A⟩:=n;exact w v u l x y e p B C A
theorem Bc{op:Operator}{r:R2}(j:Gd X (binaryOp op) r)(g:PE X a ta)(i:PE X b tb):PE X (.BinOp a op b pos) (SY r ta tb):=by
 intro d s o H Q I h;exact wpAny_BinOp (qe g i I h λv u n x y e f l m q=>j d n o e x y v u Q f l m q)
theorem dj(j:WD X (unaryOp op) r)(i:PE X a ta):PE X (.UnaryOp op a pos) (tUn r ta):=by
 intro d s e H Q I h;exact UnaryOp_ (Bj (i d s e H _ I h) λv n ⟨x,f,g,m,l⟩=>j d n e f x v Q g m l)
theorem xx{f:mK->mK->Sem mK}{C:Int->Int->Prop}{g:Int->Int->Int}
  (d:∀(i j:Int) (t u:Tok) (s:mI) (Q:mr) (E:mr),C i j->Q (.int (g i j) s.toks) {s with toks:=s.toks+1}->wpAny (model X.prog X.w) X.A (f (.int i t) (.int j u)) Q E s):
  Gd X f (rI C λi j=>.int (g i j)):=by
 intro e s p H x y v u Q I m n h;obtain⟨i,j,rfl,rfl,l,q⟩:=h;obtain⟨t,rfl⟩:=m;obtain⟨o,rfl⟩:=n;exact d i j t o s _ _ l ⟨.int (g i j),H,I.tok _,⟨_,rfl⟩,q⟩
theorem zi{f:mK->mK->Sem mK}{g:Int->Int->Int}
  (d:∀(i j:Int) (t u:Tok) (s:mI) (Q:mr) (E:mr),Q (.int (g i j) s.toks) {s with toks:=s.toks+1}->wpAny (model X.prog X.w) X.A (f (.int i t) (.int j u)) Q E s):
  Gd X f (o6 λi j=>.int (g i j)):=by
 intro e s o H x y v u Q I l m h;obtain⟨i,j,rfl,rfl,q⟩:=h;obtain⟨t,rfl⟩:=l;obtain⟨n,rfl⟩:=m;exact d i j t n s _ _ ⟨.int (g i j),H,I.tok _,⟨_,rfl⟩,q⟩
theorem lg{f:mK->mK->Sem mK}{g:Int->Int->Bool}
  (d:∀(i j:Int) (t u:Tok) (s:mI) (Q:mr) (E:mr),Q (.bool (g i j)) s->wpAny (model X.prog X.w) X.A (f (.int i t) (.int j u)) Q E s):
  Gd X f (o6 λi j=>.bl (g i j)):=by
 intro e s o H x y v u Q I l m h;obtain⟨i,j,rfl,rfl,q⟩:=h;obtain⟨t,rfl⟩:=l;obtain⟨n,rfl⟩:=m;exact d i j t n s _ _ ⟨.bl (g i j),H,I,rfl,q⟩
def A0l(i j:Int):Prop:=0<j/\j<1073741824
def A0m(i j:Int):Prop:=0<=j/\j<=1000000/\i.natAbs<2^64
theorem Gu:Gd X (binaryOp .Add) (o6 λi j=>.int (i+j)):=zi λ_ _ _ _ _ _ _ q=>add_int q
theorem Qs:Gd X (binaryOp .Sub) (o6 λi j=>.int (i-j)):=zi λ_ _ _ _ _ _ _ q=>sub_int q
theorem lm:Gd X (binaryOp .FloorDiv) (rI A0l λi j=>.int (i/j)):=xx λi j _ _ _ _ _ d q=>by
 have e:(0:Int)<j:=d.1;have f:j<1073741824:=d.2;exact floordiv_int (by omega) (by rw[Int.fdiv_eq_ediv_of_nonneg i (by omega)];exact q) (.inl (PyProof.noPylong_small (by omega)))
theorem Fp:Gd X (binaryOp .Mod) (rI (λ_ j=>0<j) λi j=>.int (i%j)):=xx λi j _ _ _ _ _ d q=>by
 have e:(0:Int)<j:=d;exact mod_int' (by omega) (by rw[Int.fmod_eq_emod_of_nonneg i (by omega)];exact q)
theorem v0:Gd X (binaryOp .Pow) (rI A0m λi j=>.int (i^j.toNat)):=xx λ_ _ _ _ _ _ _ d q=>pow_int_small d.1 d.2.1 d.2.2 q
theorem unI{f:mK->Sem mK}{g:Int->Int}
  (d:∀(i:Int) (t:Tok) (s:mI) (Q:mr) (E:mr),Q (.int (g i) s.toks) {s with toks:=s.toks+1}->wpAny (model X.prog X.w) X.A (f (.int i t)) Q E s):
  WD X f (rU λi=>.int (g i)):=by
 intro e s l H x v Q I j h;obtain⟨i,rfl,q⟩:=h;obtain⟨t,rfl⟩:=j;exact d i t s _ _ ⟨.int (g i),H,I.tok _,⟨_,rfl⟩,q⟩
theorem Vw:WD X (unaryOp .USub) (rU λi=>.int (-i)):=unI λ_ _ _ _ _ q=>neg_int q
end
def A03:V->V->Bool
 | .aP,.aP=>true| .aP,.int _=>true| .int _,.aP=>true| .aP,.bl _=>true| .bl _,.aP=>true| .aP,.str _=>true| .str _,.aP=>true
 | .int _,.int _=>true| .bl _,.bl _=>true| .str _,.str _=>true| .pD _,.pD _=>true
 | .int _,.str _=>true| .str _,.int _=>true| .bl _,.str _=>true| .str _,.bl _=>true
 |_,_=>false
def rEq:R2:=λx y H Q=>A03 x y=true/\Q (.bl (decide (x=y))) H
def rNe:R2:=λx y H Q=>A03 x y=true/\Q (.bl (!decide (x=y))) H
theorem We:decide (V.int i=V.int j)=(i==j):=by
 rw[Bool.eq_iff_iff];simp
theorem aj:decide (V.bl i=V.bl j)=(i==j):=by
 rw[Bool.eq_iff_iff];simp
theorem Wf:decide (V.str i=V.str j)=(i==j):=by
 rw[Bool.eq_iff_iff];simp
theorem Wd:decide (V.pD i=V.pD j)=(i.toList==j.toList):=by
 rw[Bool.eq_iff_iff];cases i;cases j;simp
section
variable {X:Cx}{a b c:Expr}{ta tb tc:TE}{pos:Pos}
theorem Bb{k f:Bool}(I:Aj X d g H s)(q:Q (.bl k) H)(e:k=f):EP X d g Q (.bool f) s:=by
 subst e;exact⟨.bl k,H,I,rfl,q⟩
theorem Ta:Gd X (compareOp .Eq) rEq:=by
 intro l s m H x y v u Q I g d h;obtain⟨f,q⟩:=h;cases x with
 |aP=>
  cases g;cases y with
  |aP=>cases d;exact PySem.EqNone.eq_none_none (Bb I q (by simp))
  |bl j=>cases d;exact PySem.EqNone.eq_none_bool (Bb I q (by simp))
  |int j=>obtain⟨e,rfl⟩:=d;exact PySem.EqNone.eq_none_int (Bb I q (by simp))
  |str j=>obtain⟨e,rfl⟩:=d;exact PySem.EqNone.eq_none_str (Bb I q (by simp))
  |_=>exact absurd (show false=true from f) eI
 |bl i=>
  cases g;cases y with
  |aP=>cases d;exact PySem.EqNone.eq_bool_none (Bb I q (by simp))
  |bl j=>cases d;exact eq_bool (Bb I q aj)
  |str j=>obtain⟨e,rfl⟩:=d;exact PySem.EqMixed.eq_bool_str (Bb I q (by simp))
  |_=>exact absurd (show false=true from f) eI
 |int i=>
  obtain⟨t,rfl⟩:=g;cases y with
  |aP=>cases d;exact PySem.EqNone.eq_int_none (Bb I q (by simp))
  |int j=>obtain⟨e,rfl⟩:=d;exact eq_int (Bb I q We)
  |str j=>obtain⟨e,rfl⟩:=d;exact PySem.EqMixed.eq_int_str (Bb I q (by simp))
  |_=>exact absurd (show false=true from f) eI
 |str i=>
  obtain⟨t,rfl⟩:=g;cases y with
  |aP=>cases d;exact PySem.EqNone.eq_str_none (Bb I q (by simp))
  |bl j=>cases d;exact PySem.EqMixed.eq_str_bool (Bb I q (by simp))
  |int j=>obtain⟨e,rfl⟩:=d;exact PySem.EqMixed.eq_str_int (Bb I q (by simp))
  |str j=>obtain⟨e,rfl⟩:=d;exact eq_str (Bb I q Wf)
  |_=>exact absurd (show false=true from f) eI
 |pD i=>
  obtain⟨t,rfl⟩:=g;cases y with
  |pD j=>obtain⟨e,rfl⟩:=d;exact W.eq_bytes (Bb I q Wd)
  |_=>exact absurd (show false=true from f) eI
 |_=>cases y<;>exact absurd (show false=true from f) eI
theorem zk:Gd X (compareOp .NotEq) rNe:=by
 intro l s m H x y v u Q I g d h;obtain⟨f,q⟩:=h;cases x with
 |aP=>
  cases g;cases y with
  |aP=>cases d;exact PySem.EqNone.ne_none_none (Bb I q (by simp))
  |bl j=>cases d;exact PySem.EqNone.ne_none_bool (Bb I q (by simp))
  |int j=>obtain⟨e,rfl⟩:=d;exact PySem.EqNone.ne_none_int (Bb I q (by simp))
  |str j=>obtain⟨e,rfl⟩:=d;exact PySem.EqNone.ne_none_str (Bb I q (by simp))
  |_=>exact absurd (show false=true from f) eI
 |bl i=>
  cases g;cases y with
  |aP=>cases d;exact PySem.EqNone.ne_bool_none (Bb I q (by simp))
  |bl j=>cases d;exact ne_bool (Bb I q (congrArg not aj))
  |str j=>obtain⟨e,rfl⟩:=d;exact PySem.EqMixed.ne_bool_str (Bb I q (by simp))
  |_=>exact absurd (show false=true from f) eI
 |int i=>
  obtain⟨t,rfl⟩:=g;cases y with
  |aP=>cases d;exact PySem.EqNone.ne_int_none (Bb I q (by simp))
  |int j=>obtain⟨e,rfl⟩:=d;exact ne_int (Bb I q (congrArg not We))
  |str j=>obtain⟨e,rfl⟩:=d;exact PySem.EqMixed.ne_int_str (Bb I q (by simp))
  |_=>exact absurd (show false=true from f) eI
 |str i=>
  obtain⟨t,rfl⟩:=g;cases y with
  |aP=>cases d;exact PySem.EqNone.ne_str_none (Bb I q (by simp))
  |bl j=>cases d;exact PySem.EqMixed.ne_str_bool (Bb I q (by simp))
  |int j=>obtain⟨e,rfl⟩:=d;exact PySem.EqMixed.ne_str_int (Bb I q (by simp))
  |str j=>obtain⟨e,rfl⟩:=d;exact ne_str (Bb I q (congrArg not Wf))
  |_=>exact absurd (show false=true from f) eI
 |pD i=>
  obtain⟨t,rfl⟩:=g;cases y with
  |pD j=>obtain⟨e,rfl⟩:=d;exact W.ne_bytes (Bb I q (congrArg not Wd))
  |_=>exact absurd (show false=true from f) eI
 |_=>cases y<;>exact absurd (show false=true from f) eI
theorem Gv:Gd X (compareOp .Lt) (o6 λi j=>.bl (decide (i<j))):=lg λ_ _ _ _ _ _ _ q=>lt_int q
theorem Wy:Gd X (compareOp .LtE) (o6 λi j=>.bl (decide (i<=j))):=lg λ_ _ _ _ _ _ _ q=>le_int q
theorem N4:Gd X (compareOp .Gt) (o6 λi j=>.bl (decide (j<i))):=lg λ_ _ _ _ _ _ _ q=>gt_int q
theorem zj:Gd X (compareOp .GtE) (o6 λi j=>.bl (decide (j<=i))):=lg λ_ _ _ _ _ _ _ q=>ge_int q
theorem Fo:Gd X (compareOp .Is) (λx y H Q=>y=.aP/\Q (.bl (decide (x=.aP))) H):=by
 intro d s g H x y v u Q I e f h;obtain⟨rfl,q⟩:=h;cases f;refine is_none_gen (Bb I q ?_)
 cases x<;>first
  |(cases e;rfl)
  |(obtain⟨t,rfl⟩:=e;rfl)
theorem Ho:Gd X (compareOp .IsNot) (λx y H Q=>y=.aP/\Q (.bl (!decide (x=.aP))) H):=by
 intro d s g H x y v u Q I e f h;obtain⟨rfl,q⟩:=h;cases f;refine isnot_none_gen (Bb I q ?_)
 cases x<;>first
  |(cases e;rfl)
  |(obtain⟨t,rfl⟩:=e;rfl)
theorem Au(b:Expr)(h:op≠ .In:=by decide)(f:op≠ .NotIn:=by decide):behindInMarks op b=false:=by
 have d:(op==CmpOp.In)=false:=by cases op<;>first|rfl|exact absurd rfl h
 have e:(op==CmpOp.NotIn)=false:=by cases op<;>first|rfl|exact absurd rfl f
 cases b<;>simp[behindInMarks,d,e]
theorem D5(l:Gd X (compareOp op) r)(g:PE X a ta)(i:PE X b tb)(j:behindInMarks op b=false):PE X (.Compare a [op] [b] pos) (SY r ta tb):=by
 intro d s p H Q I h;exact wpAny_Compare1 (qe g i I h λv u o x y e f m n q=>l d o p e x y v u Q f m n q) j
def pd(t:TE):TT:=λe H Q=>t e H λx d=>∃k,x=.bl k/\Q k d
theorem Ax(w:Gd X (compareOp op) r)(o:PE X a ta)(p:PE X b tb)(q:behindInMarks op b=false):PT X (.Compare a [op] [b] pos) (pd (SY r ta tb)):=by
 intro d s f H Q I h
 refine wpAny_isTrue_Compare1 (Bj (o d s f H _ I h) λv G ⟨x,g,l,D,A⟩=>Bj (p d G f g _ l A) λu J ⟨y,i,m,E,B⟩=>
  Bj (w d J f i x y v u _ m D E B) λc K ⟨z,j,n,F,k,e,C⟩=>?_) q
 subst e;cases F;exact ib ⟨j,n,C⟩
def j5(r i:R2)(ta tb tc:TE):TE:=λd H Q=>ta d H λx f=>tb d f λy g=>r x y g λz e=>∃k,z=.bl k/\
 (if k=true then tc d e λj h=>i y j h Q else Q (.bl false) e)
theorem dc(K:Gd X (compareOp op) r)(D:Gd X (compareOp i) n)(E:PE X a ta)(F:PE X b tb)(G:PE X c tc)
  (J:lastMarks [op,i] [b,c]=false:=by with_unfolding_all rfl):PE X (.Compare a [op,i] [b,c] pos) (j5 r n ta tb tc):=by
 intro f s g H Q I h
 refine Compare_chain (Bj (E f s g H _ I h) λv S ⟨x,p,A,O,L⟩=>chain_link (Bj (F f S g p _ A L) λu T ⟨y,q,B,o,M⟩=>
  Bj (K f T g q x y v u _ B O o M) λd U ⟨z,j,l,P,k,e,m⟩=>?_)) J
 subst e;cases P;refine ib ?_;cases k with
 |false=>exact ite_ff ⟨.bl false,j,l,rfl,m⟩
 |true=>exact ite_tt (chain_last (Bj (G f U g j _ l m) λZ Y ⟨z',w,C,R,N⟩=>D f Y g w y z' u Z Q C o R N))
theorem dq(O:Gd X (compareOp op) r)(F:Gd X (compareOp i) n)(K:PE X a ta)(L:PE X b tb)(M:PE X c tc)
  (N:lastMarks [op,i] [b,c]=false:=by with_unfolding_all rfl):PT X (.Compare a [op,i] [b,c] pos) (pd (j5 r n ta tb tc)):=by
 intro f s g H Q I h
 refine isTrue_chain (Bj (K f s g H _ I h) λv s1 ⟨x,p,B,Y,R⟩=>test_link (Bj (L f s1 g p _ B R) λu s2 ⟨y,q,C,o,S⟩=>
  Bj (O f s2 g q x y v u _ C Y o S) λd s3 ⟨z,j,l,Z,k,e,m⟩=>?_)) N
 subst e;cases Z;refine ib ?_;cases k with
 |false=>
  obtain⟨k',G,P⟩:=m;cases G;exact ite_ff ⟨j,l,P⟩
 |true=>
  refine ite_tt (test_last (Bj (M f s3 g j _ l m) λw' s4 ⟨z',w,D,r4,T⟩=>Bj (F f s4 g w y z' u w' _ D o r4 T) λd' s5 ⟨z2,A,E,r5,k2,J,U⟩=>?_));subst J;cases r5;exact ib ⟨A,E,U⟩
def yi(K:W.Frag)(x:V)(H:Hp)(k:Bool):Prop:=
 match x with
 | .aP=>k=false
 | .bl b=>k=b
 | .int i=>k=(i != 0)
 | .str y=>y.length<=sizeLine/\k=((y.length:Int) != 0)
 | .pD y=>y.size<=sizeLine/\k=((y.size:Int) != 0)
 | .ref p=>(∃e,B6 K H p e/\k= !e.isEmpty)\/(∃e,Cu K H p e/\k= !e.isEmpty)\/∃d,H p=some (.dK d)/\k= !d.isEmpty
 |_=>False
theorem Up(r:KV kvs d):(!d.isEmpty)= !kvs.isEmpty:=by
 cases r<;>rfl
theorem Mn(r:Ay xs d):(!d.toArray.isEmpty)= !xs.isEmpty:=by
 cases r<;>simp
theorem Gp:(sizeLine:Nat)<2^63:=by rw[sizeLine_eq];decide
theorem xi:A0q X (λx H Q=>∃k,yi X.K x H k/\Q k H):=by
 intro z s F H x v Q I l h;obtain⟨k,e,q⟩:=h;have D:=Gp;have E:sizeLine=16777216:=sizeLine_eq;cases x with
 |aP=>
  cases l;have d:k=false:=e;subst d;exact truthy_none ⟨H,I,q⟩
 |bl b=>
  cases l;have d:k=b:=e;subst d;exact ib ⟨H,I,q⟩
 |int i=>
  obtain⟨t,rfl⟩:=l;have d:k=(i != 0):=e;subst d;exact PySem.P.truthy_int ⟨H,I,q⟩
 |str y=>
  obtain⟨t,rfl⟩:=l;obtain⟨C,d⟩:y.length<=sizeLine/\k=((y.length:Int) != 0):=e;subst d;exact PySem.P.truthy_str (by omega) ⟨H,I.tok _,q⟩
 |pD y=>
  obtain⟨t,rfl⟩:=l;obtain⟨C,d⟩:y.size<=sizeLine/\k=((y.size:Int) != 0):=e;subst d;exact W.truthy_bytes (by omega) ⟨H,I.tok _,q⟩
 |ref p=>
  cases l;have d:(∃j,B6 X.K H p j/\k= !j.isEmpty)\/(∃j,Cu X.K H p j/\k= !j.isEmpty)\/∃f,H p=some (.dK f)/\k= !f.isEmpty:=e;rcases d with⟨j,n,d⟩|⟨j,n,d⟩|⟨f,n,d⟩
  ·subst d;obtain⟨A,r,u,w⟩:=I.list n;have g:=r.length;exact wpAny_truthy_list u.isList (by simp only[List.size_toArray];omega) ⟨H,I.tok _,by rw[Mn r];exact q⟩
  ·subst d;obtain⟨A,r,u,w⟩:=I.tuple n;have g:=r.length;exact truthy_tuple u (by simp only[List.size_toArray];omega) ⟨H,I.tok _,by rw[Mn r];exact q⟩
  ·subst d;obtain⟨w,B,o,r,m⟩:f.length<=sizeLine/\(p==sysModules)=false/\∃o,KV f o/\s.heap.DictOf (Dc X.prog X.w) p o:=I.aF p _ n;have g:f.length=o.length:=Paired.length r;exact wpAny_truthy_dict B m (by omega) ⟨H,I.tok _,by rw[Up r];exact q⟩
 |_=>exact(show False from e).elim
theorem N9(l:PE X a ta)(he:∀d,isTrue a X.env d=(do let v <- d;standAt a.pos;holding [v] (truthy v))):
  PT X a (λf H Q=>ta f H λx g=>∃k,yi X.K x g k/\Q k g):=by
 intro e s f H Q I h;exact isTrue_plain (Bj (l e s f H _ I h) λv o ⟨x,i,j,n,m⟩=>xi e o f i x v Q j n m) (he _)
theorem Eg(r:Ay [x] d):∃u,d=[u]/\B0 x u:=by
 cases r with
 |cons e f=>cases f;exact⟨_,rfl,e⟩
theorem jc(r:Ay [x,y] d):∃u e,d=[u,e]/\B0 x u/\B0 y e:=by
 cases r with
 |cons f g=>
  cases g with
  |cons h i=>cases i;exact⟨_,_,rfl,f,h⟩
theorem Xy(f:X.calm=true):D9 X (.builtin "max") (λxs H Q=>∃i j,xs=[.int i,.int j]/\Q (.int (if j>i then j else i)) H):=by
 intro e s p H xs n Q I r h;obtain⟨i,j,rfl,q⟩:=h;obtain⟨u,o,rfl,⟨t,rfl⟩,⟨l,rfl⟩⟩:=jc r;refine max_two_ints (I.ok.hd f) λg m k=>⟨_,H,I.kept k,?_,q⟩;by_cases d:j>i
 ·rw[if_pos d,if_pos d];exact⟨_,rfl⟩
 ·rw[if_neg d,if_neg d];exact⟨_,rfl⟩
end
structure pz(h:Heap)(x dx C:Addr)(mA:Str->Option mK):Prop where
 obj:h.get? x=some (W.instObj C dx)
 ns:h.Ns1 dx mA
 ne:dx≠x
theorem Yt{h:Heap}{b:Addr}{d:Str->Option mK}(n:h.Ns1 b d):∃f,h.get? b=some f/\∀name,W.lookIn name f=some (d name):=by
 obtain⟨o,c,s,p,j,l,_,m⟩:=n;refine⟨o,p,λname=>?_⟩;have e:=m name;unfold nsFind findBy at e;rw[<- Array.find?_toList]at e;unfold W.lookIn;rw[j];dsimp only;split
 ·rename_i y q;rw[q]at e;exact congrArg some e
 ·rename_i q;rw[q]at e
  have a:c.toList.any (·.refKey)=false:=by
   rw[List.any_eq_false];intro y r;obtain⟨z,t,i⟩:=l y (Array.mem_toList_iff.mp r);simp[DictEntry.refKey,i]
  have g:¬c.toList.any (·.refKey)=true:=by rw[a];exact eI
  rw[if_neg g];exact congrArg some e
theorem pz.look(I:pz h x b C c):∃a,W.InstAt h x (W.instObj C b) C (some a)/\∀name,W.lookIn name a=some (c name):=
 let⟨a,e,d⟩:=Yt I.ns
 ⟨a,⟨I.obj,rfl,rfl,e⟩,d⟩
theorem J0.some_of(r:J0 (some v) o):∃u,o=some u/\B0 v u:=by
 cases o with
 |none=>exact(show False from r).elim
 |some u=>exact⟨u,rfl,r⟩
section
variable {P:m8}{w:nP}{H H':Hp}{h h':Heap}{a C dx:Addr}{fs fs':List (Str×V)}
theorem kq(c:Ga P w H h)(e:H a=some (.ins C dx fs)):∃b,pz h a dx C b/\(∀f,J0 (fs.lookup f) (b f))/\PySem.Within b (fs.map (·.1))/\fs.length<=1000/\H dx=some (.own a):=by
 obtain⟨d,z,ne,g,b,n,r,q⟩:=(show B8 P w H h a (.ins C dx fs)from c a _ e);exact⟨b,⟨g,n,ne⟩,r,q,z,d⟩
end
structure WE(K:W.Frag)(C:Addr):Prop where
 pg:W.plainGet K C Str.empty=true
 hd:W.hasDictIn K C=true
 po:W.plainOver K C=true
 sa:W.findIn K (.ref C) "__setattr__"=some (some (.builtin "object.__setattr__"))
theorem WE.get{K:W.Frag}{C:Addr}(c:WE K C)(f:Str):W.plainGet K C f=true:=c.pg
section
variable {X:Cx}{pins:List (Addr×Obj)}{σ:St}{H:Hp}{s:mI}{A:nf}{E:mr}{Q:mr}{c:mK}{b:Bool}
inductive K1(K:W.Frag)(H:Hp):V->mK->Prop where
 |aP:K1 K H .aP (.type "NoneType")
 |bl (x:Bool):K1 K H (.bl x) (.type "bool")
 |int (i:Int):K1 K H (.int i) (.type "int")
 |str (x:Str):K1 K H (.str x) (.type "str")
 |GW (x:UInt64):K1 K H (.GW x) (.type "float")
 |lst {a:Addr}{xs:List V} (e:H a=some (.lst xs)):K1 K H (.ref a) (.type "list")
 |bA {a:Addr}{o:Obj}{xs:List V} (e:H a=some (.bA o (.lst xs))):K1 K H (.ref a) (.type "list")
 |tup {a:Addr}{xs:List V} (e:H a=some (.tup xs)):K1 K H (.ref a) (.type "tuple")
 |dK {a:Addr}{kvs:List (Dz×V)} (e:H a=some (.dK kvs)):K1 K H (.ref a) (.type "dict")
 |dT {a:Addr}{kvs:mu} (e:H a=some (.dT kvs)):K1 K H (.ref a) (.type "dict")
 | ins {a C dx : Addr} {fs : List (Str × V)} (e : H a = some (.ins C dx fs)) (cl : WE K C) (ha : W.findIn K (.ref C) "__class__" = some (some (.builtin "object.__class__")))
   (hn:W.specialIn K (.builtin "object.__class__") "__get__"=some (some (.builtin "getset_descriptor.__get__"))) (htk:W.takesIn K (.builtin "object.__class__")=some true)
   (hm:W.mroIn K C (.type "object")=some true):K1 K H (.ref a) (.ref C)
theorem Yk{u t:mK}(I:Aj X pins σ H s)(f:B0 x u)(ty:K1 X.K H x t)(e:W.kitOne X.K t c=some b)(h:∀L,Q (.bool b) {s with toks:=L}):
  wpAny (model X.prog X.w) A (call (.builtin "isinstance") [u,c]) Q E s:=by
 cases ty with
 |aP=>cases(show u=Value.none from f);exact W.kia_one W.kitx_none I.iY True.intro e (λz=>nomatch z) h
 |bl y=>cases(show u=Value.bool y from f);exact W.kia_one W.kitx_bool I.iY True.intro e (λz=>nomatch z) h
 |int i=>obtain⟨t,q⟩:=(show∃t,u=Value.int i t from f);cases q;exact W.kia_one W.kitx_int I.iY True.intro e (λz=>nomatch z) h
 |str y=>obtain⟨t,q⟩:=(show∃t,u=Value.str y t from f);cases q;exact W.kia_one W.kitx_str I.iY True.intro e (λz=>nomatch z) h
 |GW y=>obtain⟨t,q⟩:=(show∃t,u=Value.float y t from f);cases q;exact W.kia_one W.kitx_float I.iY True.intro e (λz=>nomatch z) h
 |@lst a l d=>
  cases(show u=Value.ref a from f);obtain⟨_,_,n,_,g⟩:=(show B8 X.prog X.w H s.heap a (.lst l)from I.aF a _ d);exact W.kia_one W.kitx_list I.iY ⟨_,g,rfl⟩ e (λz=>nomatch z) h
 |@bA a K l d=>
  cases(show u=Value.ref a from f);obtain⟨_,_,_,n,_,g⟩:=(show B8 X.prog X.w H s.heap a (.bA K (.lst l))from I.aF a _ d);exact W.kia_one W.kitx_list I.iY ⟨_,g,rfl⟩ e (λz=>nomatch z) h
 |@tup a l d=>
  cases(show u=Value.ref a from f);obtain⟨_,_,_,p⟩:=(show B8 X.prog X.w H s.heap a (.tup l)from I.aF a _ d);obtain⟨o,g,m,_⟩:=p;exact W.kia_one W.kitx_tuple I.iY ⟨o,g,m⟩ e (λz=>nomatch z) h
 |@dK a j d=>
  cases(show u=Value.ref a from f);obtain⟨_,_,R,_,p⟩:=(show B8 X.prog X.w H s.heap a (.dK j)from I.aF a _ d);obtain⟨o,B,w,g,m,_⟩:=p;exact W.kia_one W.kitx_dict I.iY ⟨o,g,m.1⟩ e (λz=>nomatch z) h
 |@dT a j d=>
  cases(show u=Value.ref a from f);obtain⟨_,_,l,_,o,B,w,g,m,_⟩:=(show B8 X.prog X.w H s.heap a (.dT j)from I.aF a _ d);exact W.kia_one W.kitx_dict I.iY ⟨o,g,m.1⟩ e (λz=>nomatch z) h
 |@ins a C M fs d v D G r F=>
  cases(show u=Value.ref a from f);obtain⟨N,O,_⟩:=kq I.aF d;obtain⟨P,J,_⟩:=O.look;exact W.kia_one (W.kitx_own (v.get _) v.hd D G r F) I.iY J e (λz=>nomatch z) h
end
structure Ba(k:Nat)(A:nf):Prop where
 hd:A.handled=none
 dp:A.depth+3*k+5<recursionLimit
 un:A.units+16*k+200<cLine
theorem Ba.mono{j k:Nat}(r:Ba k A)(h:j<=k):Ba j A:=⟨r.hd,by have:=r.dp;omega,by have:=r.un;omega⟩
theorem Ba.deeper{k:Nat}(r:Ba (k+1) A)(env:Env):Ba k (A.deeper env):=
 ⟨r.hd,by have:=r.dp;show A.depth+1+3*k+5<_;omega,by have:=r.un;show A.units+3+16*k+200<_;omega⟩
theorem Ba.depth{k:Nat}(r:Ba k A):A.depth<recursionLimit:=by have:=r.dp;omega
theorem Ba.units{k:Nat}(r:Ba k A):A.units+64<cLine:=by have:=r.un;omega
def xg:TA:=λ_ H Q=>Q [] H
def j7(d:TE)(e:TA):TA:=λa H Q=>d a H λx b=>e a b λf c=>Q (x::f) c
section
variable {X:Cx}{e:Expr}{es:List Expr}{te:TE}{t:TA}{pos:Pos}
theorem A7:PA X [] xg:=λ_ _ _ _ H Q I h=>Calls.spliced_nil ⟨[],H,I,.nil,h⟩
theorem A0(j:PE X e te)(l:PA X es t)(m:starEach (e::es) X.env=(false,eval e X.env)::starEach es X.env:=by rfl):PA X (e::es) (j7 te t):=by
 intro pos a s b H Q I h;rw[m];show wpAny _ _ (spliced ((false,eval e X.env)::backTo pos (starEach es X.env))) _ _ s;refine Calls.spliced_cons (Bj (j a s b H _ I h) λu r i=>?_);obtain⟨x,c,f,p,n⟩:=i;exact Bj (l pos a r b c _ f n) λy w ⟨v,d,g,q,o⟩=>⟨x::v,d,g,.cons p q,o⟩
def A1g(t:TA):TE:=λc H Q=>t c H λb a=>b.length<=sizeLine/\∀p,a p=none->Q (.ref p) (upd a p (.tup b))
def A1b(t:TA):TE:=λc H Q=>t c H λb a=>b.length<=sizeLine/\∀p,a p=none->Q (.ref p) (upd a p (.lst b))
theorem Cr{x1}(h:PA X es t):PE X (.Tuple es x1 pos) (A1g t):=by
 intro a s m H Q I i;refine wpAny_Tuple_spliced (Bj (h pos a s m H _ I i) λj c ⟨l,d,f,r,z,q⟩=>⟨by rw[<- r.length];exact z,?_⟩);have g:d c.heap.objs.size=none:=f.aF.fresh (da _);refine⟨.ref c.heap.objs.size,upd d c.heap.objs.size (.tup l),f.laid (t':=c.toks) (λb u e=>bZ _ e) (da _) ?_,rfl,q _ g⟩;exact⟨⟨z,⟨_,cI _ rfl,rfl⟩⟩,j,r,⟨_,cI _ rfl,rfl,_,rfl⟩⟩
theorem Dv(h:PA X es t):PE X (.List es pos) (A1b t):=by
 intro a s m H Q I i;refine wpAny_List_spliced (Bj (h pos a s m H _ I i) λj c ⟨l,d,f,r,z,q⟩=>⟨by rw[<- r.length];exact z,?_⟩);have g:d c.heap.objs.size=none:=f.aF.fresh (da _);refine⟨.ref c.heap.objs.size,upd d c.heap.objs.size (.lst l),f.laid (t':=c.toks) (λb u e=>bZ _ e) (da _) ?_,rfl,q _ g⟩;exact⟨z,j,0,r,cI _ rfl⟩
end
abbrev Sp:=List V->Hp->VK->XK->Prop
abbrev Zl:=List Env->Hp->mI->XK->mK->mI->Prop
structure jj(P:m8)(w:nP)(K:W.Frag)(mg:Str->Option mK)(base:Heap)(A:nf)(outer:List Env)(s:mI)(H:Hp):Prop where
 frames:A.frames=some outer
 mod:Mod K mg base
 bs:∀b o,base.get? b=some o->s.heap.get? b=some o/\H b=none
 vI:base.objs.size<=s.heap.objs.size
 gZ:s.heap.FunFrames base outer
 GZ:∀b∈iI outer,H b=none
 aF:Ga P w H s.heap
 bare:AllBare s.gens
def CE(outer:List Env)(P:m8)(w:nP)(H:Hp)(s:mI)(Q:VK)(u:mK)(s':mI):Prop:=
 ∃v a,s'.os=s.os/\AllBare s'.gens/\Un (iI outer) [] H a s.heap s'.heap/\Ga P w a s'.heap/\B0 v u/\Q v a
def CR(CX:Zl)(outer:List Env)(P:m8)(w:nP)(H:Hp)(s:mI)(Q:VK)(E:XK)(r:Result)(s':mI):Prop:=
 match r with
 | .ok (.ret u)=>CE outer P w H s Q u s'
 | .ok _=>False
 | .error e=>CX outer H s E e s'
structure Bf(P:m8)(w:nP)(K:W.Frag)(mg:Str->Option mK)(base:Heap)(CX:Zl)(k:Nat)(f:Addr)(fd:nr)(ps:List Str)(sp:Sp):Prop where
 len:∀vs H Q E,sp vs H Q E->vs.length=ps.length
 run:∀(A:nf) (outer:List Env) (s:mI) (H:Hp) (args:Args) (us:List mK) (vs:List V) (Q:VK) (E:XK),Ba k A->jj P w K mg base A outer s H->BindsTo s fd args (ps.zip us)->Ay vs us->sp vs H Q E->
  codeAny (model P w) A (.call (.ref f) args) (CR CX outer P w H s Q E) s
section
variable {X:Cx}{pins:List (Addr×Obj)}{σ:St}{H:Hp}{s s':mI}
theorem Aj.IU(I:Aj X pins σ H s):jj X.prog X.w X.K X.mg X.base X.A X.stack s H:=
 ⟨I.ok.frames,I.ok.mod,I.bs,dI I.ok.vI I.sz,I.stack,I.gT,I.aF,I.bare⟩
theorem Aj.after(I:Aj X pins σ H s)(h:CE X.stack X.prog X.w H s Q u s'):EP X pins σ Q u s':=by
 obtain⟨v,e,j,a,un,f,r,q⟩:=h;obtain⟨i,g,d,t,c⟩:=s';obtain rfl:c=s.os:=j;exact⟨v,e,I.call (h':=i) (g':=g) (d':=d) (t':=t) (ch:=[]) un f a (λb z=>absurd z (by simp)),r,q⟩
end
def A07(sp:Sp)(b:List V)(E:XK)(t:TA):TE:=λd H Q=>t d H λc a=>sp (c++b) a Q E
def Dl(K:W.Frag)(c:nr)(ps:List Str)(b:List mK):Prop:=
 ∀(s:mI) (a:List mK),K.In s.heap->(a++b).length=ps.length->BindsTo s c ⟨a,[]⟩ (ps.zip (a++b))
theorem Dl.all{K:W.Frag}{b:nr}{ps:List Str}(h:∀a:List mK,a.length=ps.length->bindArgs b ⟨a,[]⟩=pure (ps.zip a)):Dl K b ps []:=λs a _ c=>by
 rw[List.append_nil]at c⊢;exact .of_eq (h a c)
def U5(CX:Zl)(X:Cx)(E:XK):Prop:=∀(a:List (Addr×Obj)) (c:St) (H:Hp) (s:mI) (e:mK) (b:mI),Aj X a c H s->CX X.stack H s E e b->X.xe e b
section
variable {X:Cx}{CX:Zl}{k:Nat}{f C:Addr}{fd:nr}{ps:List Str}{sp:Sp}{lY:List V}{ds:List mK}{E:XK}{x m:Str}{p pos apos:Pos}{e o:Expr}{es:List Expr}{ta:TE}{t:TA}
theorem vo(F:Bf X.prog X.w X.K X.mg X.base CX k f fd ps sp)(v:Ba k X.A)(l:Dl X.K fd ps ds)(n:Ay lY ds)(w:U5 CX X E)
  (I:Aj X a g H s)(r:Ay d b)(h:sp (d++lY) H Q E):wpAny (model X.prog X.w) X.A (call (.ref f) b) (EP X a g Q) X.xe s:=by
 have i:Ay (d++lY) (b++ds):=r.append n;have q:(b++ds).length=ps.length:=by rw[<- i.length];exact F.len _ _ _ _ h
 refine wpAny_call (codeAny_mono (F.run X.A X.stack s H ⟨b,[]⟩ (b++ds) (d++lY) Q E v I.IU (l s b I.iY q) i h) λr y c=>?_);cases r with
 |error e=>exact w a g H s e y I c
 |ok j=>
  cases j with
  |ret u=>exact I.after c
  |next=>exact False.elim c
  |brk=>exact False.elim c
  |cont=>exact False.elim c
theorem Ac(F:Bf X.prog X.w X.K X.mg X.base CX k f fd ps sp)(n:Ba k X.A)(i:Gl X x)(l:X.mg x=some (.ref f))(j:W.keepIn X.K (.ref f)=true)(d:Dl X.K fd ps ds)(g:Ay lY ds)(u:U5 CX X E)
  (c:PA X (e::es) t)(w:(x==("__debug__":Str))=false:=by decide)(he:starEach (e::es) X.env=(false,eval e X.env)::starEach es X.env:=by rfl)(v:(backTo pos (starEach es X.env)).any (·.1)=false:=by rfl):
  PE X (.Call (.Name x p) (e::es) [] pos) (A07 sp lY E t):=by
 intro a s y H Q I h;refine wpAny_Call_Name_kw (Lj I i l ?_ w);refine W.callWith_K (h₀:=X.base) I.ok.mod.IJ j (Bj (c pos a s y H _ I h) λB A ⟨D,z,b,r,q⟩=>⟨b.iY,?_⟩) he v;exact vo F n d g u b r q
end
def PK(X:Cx)(c:List Keyword)(t:TA):Prop:=
 ∀(pos:Pos) (a:List (Addr×Obj)) (s:mI) (b:St) (H:Hp) (Q:List V->Hp->Prop),Aj X a b H s->t b H Q->wpAny (model X.prog X.w) X.A (evalAll ((backToKw pos (keywordEach c X.env)).map (·.2))) (AP X a b Q) X.xe s
section
variable {X:Cx}{CX:Zl}{k:Nat}{f C:Addr}{fd:nr}{ps ks:List Str}{sp:Sp}{E:XK}{x m:Str}{p pos apos kpos:Pos}{e o:Expr}{es:List Expr}{IV:List Keyword}{te ta:TE}{t tk:TA}{nm:Option Str}
theorem ve:PK X [] xg:=λ_ _ _ _ H Q I h=>wpAny_evalAll_nil ⟨[],H,I,.nil,h⟩
theorem m9(j:PE X e te)(l:PK X IV t):PK X (⟨nm,e,kpos⟩::IV) (j7 te t):=by
 intro pos a s b H Q I h;show wpAny _ _ (evalAll ((do let v <- eval e X.env;standAt pos;pure v)::(backToKw pos (keywordEach IV X.env)).map (·.2))) _ _ s;refine wpAny_evalAll_cons (a0 (Bj (j a s b H _ I h) λu y ⟨x,c,g,r,n⟩=>a0 (wpAny_standAt (bc ?_))));exact Bj (l pos a y b c _ g n) λB A ⟨z,d,i,w,q⟩=>⟨x::z,d,i,.cons r w,q⟩
variable {g:List mK->List mK->List mK}{gV:List V->List V->List V}
end
structure Ai(N P:List Str)(sc:Scope):Prop where
 kind:sc.kind=.function
 co:sc.isCoroutine=false
 gen:sc.isGenerator=false
 nd:N.Nodup
 pre:N.take P.length=P
 par:∀x∈P,sc.names.lookup x=some .local\/sc.names.lookup x=some .cell
 BF:∀y∈sc.names,y.2≠ .free
theorem Oj{a:Str->Option NameKind}:∀{binds:List (Str×mK)}{m:Str->Option mK},(∀v,(x,v)∉binds)->bindL a binds m x=m x
 |[],_,_=>rfl
 |(n,v)::r,m,h=>by
  unfold bindL;rw[Oj λw b=>h w (List.mem_cons_of_mem _ b)];split
  ·have:x≠n:=by rintro rfl;exact h v cL
   simp[this]
  ·rfl
theorem Oh{a:Str->Option NameKind}:∀{binds:List (Str×mK)}{m:Str->Option mK},(∀v,(x,v)∉binds)->bindC a binds m x=m x
 |[],_,_=>rfl
 |(n,v)::r,m,h=>by
  unfold bindC;rw[Oh λw b=>h w (List.mem_cons_of_mem _ b)];split
  ·rfl
  ·have:x≠n:=by rintro rfl;exact h v cL
   simp[this]
theorem Oi{a:Str->Option NameKind}{v:mK}:∀{P:List Str}{b:List mK}{i:Nat}{m:Str->Option mK},P.Nodup->P[i]?=some x->b[i]?=some v->a x=some .local->
  bindL a (P.zip b) m x=some v
 |[],_,_,_,_,h,_,_=>by simp at h
 |_::_,[],_,_,_,_,h,_=>by simp at h
 |p::P,w::b,0,m,f,c,d,e=>by
  simp at c d;subst c;subst d;show bindL a ((p,w)::P.zip b) m p=_;unfold bindL;rw[Oj λv g=>(List.nodup_cons.mp f).1 (List.of_mem_zip g).1,if_pos e];simp
 |p::P,w::b,i+1,m,f,c,d,e=>by
  show bindL a ((p,w)::P.zip b) m x=_;unfold bindL;exact Oi (i:=i) (List.nodup_cons.mp f).2 (by simpa using c) (by simpa using d) e
theorem Og{a:Str->Option NameKind}{v:mK}:∀{P:List Str}{b:List mK}{i:Nat}{m:Str->Option mK},P.Nodup->P[i]?=some x->b[i]?=some v->a x≠some .local->
  bindC a (P.zip b) m x=some v
 |[],_,_,_,_,h,_,_=>by simp at h
 |_::_,[],_,_,_,_,h,_=>by simp at h
 |p::P,w::b,0,m,f,c,d,e=>by
  simp at c d;subst c;subst d;show bindC a ((p,w)::P.zip b) m p=_;unfold bindC;rw[Oh λv g=>(List.nodup_cons.mp f).1 (List.of_mem_zip g).1,if_neg e];simp
 |p::P,w::b,i+1,m,f,c,d,e=>by
  show bindC a ((p,w)::P.zip b) m x=_;unfold bindC;exact Og (i:=i) (List.nodup_cons.mp f).2 (by simpa using c) (by simpa using d) e
def start(N:List Str)(a:List V):St:=a.map some++List.replicate (N.length-a.length) none
def F9(CX:Zl)(P:m8)(w:nP)(K:W.Frag)(mg:Str->Option mK)(base:Heap)(N:List Str)(b:Str)(a:Scope)(f:Addr)(c:mK)(A:nf)(outer:List Env)(s:mI)(H:Hp)(E:XK):Cx where
 prog:=P
 w:=w
 K:=K
 mg:=mg
 base:=base
 A:=A.deeper (envOfC b a s.heap.objs.size f c)
 N:=N
 s₀:=s
 H₀:=H
 env:=envOfC b a s.heap.objs.size f c
 outer:=outer
 stack:=envOfC b a s.heap.objs.size f c::outer
 ex:=[]
 calm:=true
 fn:=λ_=>true
 pn:=[]
 xe:=λe h=>wpAny (model P w) (A.deeper (envOfC b a s.heap.objs.size f c)) (leaving (envOfC b a s.heap.objs.size f c) e) (λ_ d=>CX outer H s E e d) (λg d=>CX outer H s E g d) h
theorem Ry{a:Scope}{n:Nat}{x:Str}(h:a.names.lookup x=some .cell):∃c,(cellsFrom n a.names []).lookup x=some c:=by
 have q:=W.cellsFrom_some a.names n [] (.inl h);exact Option.isSome_iff_exists.mp q
theorem Yj{CX:Zl}{P:m8}{w:nP}{K:W.Frag}{mg:Str->Option mK}{base:Heap}{N ps:List Str}{g:Str}{d:Scope}{f:Addr}{C:mK}{A:nf}{outer:List Env}{s M:mI}{H:Hp}{E:XK}{I:List mK}{n:List V}
  (S:Ai N ps d)(Q:A.handled=none)(l:jj P w K mg base A outer s H)(T:n.length=ps.length)(r:Ay n I)
  (x:InCallC s s.heap.objs.size (bindL (envOfC g d s.heap.objs.size f C).kindOf (ps.zip I) λ_=>none) (cellsFrom (s.heap.objs.size+1) d.names []) (bindC (envOfC g d s.heap.objs.size f C).kindOf (ps.zip I) λ_=>none) M):
  Aj (F9 CX P w K mg base N g d f C A outer s H E) [] (start N n) H M:=by
 have U:ps.length<=N.length:=by have:=congrArg List.length S.pre;rw[List.length_take]at this;omega
 obtain⟨D,X,rfl,J⟩:=x.done;have G:∀b:Addr,b∉(F9 CX P w K mg base N g d f C A outer s H E).ex:=λb z=>absurd (show b∈([]:List Addr)from z) (by simp)
 refine⟨⟨l.mod,S.kind,rfl,rfl,da _,λy z c D j=>?_,λy m=>?_,λy c _ h=>?_,λ_=>Q,Around.frames_deeper l.frames,.inr ⟨rfl,rfl⟩,λb z=>absurd z (G b),l.bs,l.vI,λb _ _=>G b,λb z=>absurd z (G b),l.gZ,l.GZ⟩,
  rfl,l.bare,Un.kept J,⟨_,x.toInCall.ns,λi y v D j R=>?_⟩,λy c h=>⟨_,x.cell y c h⟩,l.aF.fresh (da _),λy c h=>?_,λp o=>absurd (show p∈([]:List (Addr×Obj))from o) (by simp),l.aF.kept J,?_⟩
 ·exact name_of_addr x.apart (PySem.mem_of_lookup D) (PySem.mem_of_lookup j)
 ·have m:d.names.lookup y=some .cell\/d.names.lookup y=some .free:=m;rcases m with m|m
  ·exact Ry m
  ·exact absurd rfl (S.BF _ (PySem.mem_of_lookup m))
 ·exact kG (x.above y c (PySem.mem_of_lookup h))
 ·have F:i<n.length:=by
   unfold start at j;by_cases F:i<n.length
   ·exact F
   ·rw[List.getElem?_append_right (by simpa using F)]at j;rw[List.getElem?_replicate]at j;split at j<;>cases j
  have O:n[i]?=some v:=by
   unfold start at j;rw[List.getElem?_append_left (by simpa using F),List.getElem?_map]at j;cases e:n[i]? with
   |none=>rw[e]at j;cases j
   |some a=>rw[e]at j;cases j;rfl
  obtain⟨u,L,rv⟩:=r.get O
  have o:ps[i]?=some y:=by
   rw[<- S.pre,List.getElem?_take_of_lt (by omega)];exact D
  have B:ps.Nodup:=by rw[<- S.pre];exact S.nd.sublist (List.take_sublist _ _)
  refine⟨u,rv,?_⟩;rcases S.par y (cb o)with k|k
  ·exact .inl ⟨k,Oi B o L k⟩
  ·obtain⟨c,e⟩:=Ry (n:=s.heap.objs.size+1) k;refine .inr ⟨.inl k,c,e,?_⟩;have q:=x.cell y c e;rw[Og B o L (by show d.names.lookup y≠_;rw[k];decide)]at q;exact q
 ·exact l.aF.fresh (kG (x.above y c (PySem.mem_of_lookup h)))
 ·unfold start;show _=N.length;rw[List.length_append,List.length_map,List.length_replicate];omega
theorem b9{CX:Zl}{P:m8}{w:nP}{K:W.Frag}{mg:Str->Option mK}{base:Heap}{k:Nat}{f:Addr}{name c:Str}{d:Arguments}{g:List Stmt}{a:Scope}{M kV p O l ct oc:mK}{G od:Option Addr}
  {iJ:Array (Option mK)}{N ps:List Str}{sp:Sp}(lk:K.lookup f=some ⟨oc,od,.func (W.fnOf name c d g a M kV p O G l ct),iJ⟩)(mD:W.codeIn K l c=true)(S:Ai N ps a)
  (len:∀h H Q E,sp h H Q E->h.length=ps.length)
  (X:∀(A:nf) (outer:List Env) (s:mI) (H:Hp) (h:List V) (Q:VK) (E:XK),Ba k (A.deeper (envOfC c a s.heap.objs.size f l))->sp h H Q E->
   ∃t,Od (F9 CX P w K mg base N c a f l A outer s H E) g t/\t {nx:=λ_ j=>Q .aP j,rt:=Q} (start N h) H):
  Bf P w K mg base CX (k+1) f (W.fnOf name c d g a M kV p O G l ct) ps sp:=by
 refine⟨len,λA outer s H L us h Q E B z hb r T=>?_⟩;have hl:=len _ _ _ _ T;have F:K.In s.heap:=z.mod.IJ.keeps λb o e=>(z.bs b o e).1;have C:s.heap.NoLimit:=z.mod.nolimit.keeps λb o e=>(z.bs b o e).1
 have U:∀y∈ps.zip us,a.names.lookup y.1=some .local\/(a.names.lookup y.1=some .cell/\((cellsFrom (s.heap.objs.size+1) a.names []).lookup y.1).isSome=true):=λ⟨n,v⟩ hy=>by
  rcases S.par n (List.of_mem_zip hy).1 with q|q
  ·exact .inl q
  ·exact .inr ⟨q,W.cellsFrom_some _ _ _ (.inl q)⟩
 refine codeAny_call_function B.depth (F _ _ lk) rfl S.co S.gen rfl (W.codeRec_of F mD) (hb _ _ _ _ ?_);refine wpAny_newFunctionEnv_cells S.kind U λY he R x=>?_;subst he;refine⟨C.keeps x.toInCall.keep,codeAny_func ?_⟩;obtain⟨t,ht,hq⟩:=X A outer s H h Q E (B.deeper _) T;have I:Aj (F9 CX P w K mg base N c a f l A outer s H E) [] (start N h) H R:=Yj S B.hd z hl r x;refine ia (ht [] R (start N h) H _ I hq) (λZ D m=>?_) λe D m=>m
 have fin:∀{i:St}{j:Hp}{v:V}{u:mK},Aj (F9 CX P w K mg base N c a f l A outer s H E) [] i j D->B0 v u->Q v j->CE outer P w H s Q u D:=
  λ{i j v u} J rv q=>⟨v,j,J.os,J.bare,J.base,J.aF,rv,q⟩
 cases Z with
 |ret u=>
  obtain⟨v,i,j,J,rv,q⟩:=m;exact fin J rv q
 |next=>
  obtain⟨i,j,J,q⟩:=m;exact fin (v:=V.aP) (u:=Value.none) J rfl q
 |brk=>
  obtain⟨_,_,_,q⟩:=m;exact False.elim q
 |cont=>
  obtain⟨_,_,_,q⟩:=m;exact False.elim q
section
variable {X:Cx}{x:Str}{p pos:Pos}{e:Expr}{es:List Expr}{t:TA}{id T:String}{r:List V->Hp->VK->Prop}
def tCB(r:List V->Hp->VK->Prop)(t:TA):TE:=λc H Q=>t c H λb a=>r b a Q
theorem Aq(g:D9 X (.builtin id) r)(i:Gl X x)(j:X.mg x=none)(m:bootBuiltins x=some (.builtin id))(f:PA X (e::es) t)(l:x≠"__name__":=by decide)(o:(x==("__debug__":Str))=false:=by decide)
  (he:starEach (e::es) X.env=(false,eval e X.env)::starEach es X.env:=by rfl)(n:(backTo pos (starEach es X.env)).any (·.1)=false:=by rfl):PE X (.Call (.Name x p) (e::es) [] pos) (tCB r t):=by
 intro a s b H Q I h;refine wpAny_Call_Name_kw (Ea I i j m ?_ l o);exact PyProof.Rows.callWith_builtin1 (Bj (f pos a s b H _ I h) λw v ⟨y,c,d,u,q⟩=>g a v b c y w Q d u q) he n
theorem Cc(g:D9 X (.type T) r)(i:Gl X x)(j:X.mg x=none)(m:bootBuiltins x=some (.type T))(f:PA X (e::es) t)(l:x≠"__name__":=by decide)(o:(x==("__debug__":Str))=false:=by decide)
  (he:starEach (e::es) X.env=(false,eval e X.env)::starEach es X.env:=by rfl)(n:(backTo pos (starEach es X.env)).any (·.1)=false:=by rfl):PE X (.Call (.Name x p) (e::es) [] pos) (tCB r t):=by
 intro a s b H Q I h;refine wpAny_Call_Name_kw (Ea I i j m ?_ l o);exact PyProof.Rows.callWith_type1 (Bj (f pos a s b H _ I h) λw v ⟨y,c,d,u,q⟩=>g a v b c y w Q d u q) he n
end
end L2
namespace HT
local macro_rules | `(tactic| omega) => `(tactic| lia)
open PySem PyProof.Rows
section
variable {prog:Program}{w:World}{A:Around}{E:Value->Shared->Prop}{s:Shared}
theorem vK{t b:Addr}(z:IsTup s.heap t a.toArray)(y:IsTup s.heap b ws.toArray)(q:a≠[])
  (h1:ws=[]->Q (.ref t) s)(x:ws≠[]->Q (.ref s.heap.objs.size) {s with heap:=s.heap.push {cls:=.type "tuple",data:=.seq (a++ws).toArray} })
  (hsz:a.length+ws.length<=sizeLine):wpAny (model prog w) A (binaryOp .Add (.ref t) (.ref b)) Q E s:=by
 obtain⟨⟨cls,m,data,u⟩,d,o,n,p⟩:=id z;obtain⟨⟨l,i,h,j⟩,g,v,r,c⟩:=id y;simp only at o p v c;subst o p v c;have e:a.toArray++ws.toArray=(a++ws).toArray:=by simp
 by_cases f:ws=[]
 ·exact concat_meets ⟨_,d,rfl⟩ ⟨_,g,rfl⟩ noFill_tuple_add seq_tuple_add PySem.F.slot_tuple_add PySem.F.entry_tuple_add (PySem.F.args_tuple_add_2 _ _)
   (tuple_addW1 t b a.toArray ws.toArray n r m i u j (by simpa using q) (by simp[f])) ⟨d,g,h1 f⟩
 ·refine concat_meets ⟨_,d,rfl⟩ ⟨_,g,rfl⟩ noFill_tuple_add seq_tuple_add PySem.F.slot_tuple_add PySem.F.entry_tuple_add (PySem.F.args_tuple_add_2 _ _)
   (tuple_addW2 t b a.toArray ws.toArray n r m i u j (by simpa using q) (by simpa using f) (by rw[List.size_toArray,List.size_toArray];exact hsz)) ⟨d,g,?_⟩
  rw[e];exact x f
def iM(n d:Nat):Option Int->Nat
 |none=>d
 |some v=>if v<0 then(v+(n:Int)).toNat else min v.toNat n
theorem qL(n d:Nat):iM n d none=d:=rfl
theorem vM(n d k:Nat):iM n d (some (k:Int))=min k n:=by
 show(if(k:Int)<0 then((k:Int)+(n:Int)).toNat else min (k:Int).toNat n)=min k n;rw[if_neg (by omega),Int.toNat_natCast]
end
end HT
namespace L2
local macro_rules | `(tactic| omega) => `(tactic| lia)
open PySem PySem.Spec PyProof.Rows
abbrev TO:=St->Hp->(mx->Hp->Prop)->Prop
def PO(X:Cx)(e:Option Expr)(t:TO):Prop:=
 ∀(a:List (Addr×Obj)) (s:mI) (b:St) (H:Hp) (Q:mx->Hp->Prop),Aj X a b H s->t b H Q->
  wpAny (model X.prog X.w) X.A (evalPart e X.env) (λu d=>∃o c,Aj X a b c d/\IsPart u o/\Q o c) X.xe s
def n0:TO:=λ_ H Q=>Q none H
def A0f(t:TE):TO:=λb H Q=>t b H λx a=>∃i,x=.int i/\Q (some i) a
theorem Fl:∀{a:List mK},Ay (ns.map V.int) a->IntsAre a ns:=by
 induction ns with
 |nil=>intro a r;rw[List.map_nil]at r;cases r;exact .nil
 |cons n ns b=>
  intro a r;rw[List.map_cons]at r;cases r with
  |cons c d=>
   obtain⟨t,e⟩:=c;subst e;exact .cons n t (b d)
section
variable {X:Cx}{e:Expr}{te:TE}{lo hi:Option Expr}{tl th:TO}{pos p2:Pos}
theorem ma:PO X none n0:=by
 intro a s b H Q I h;rw[evalPart_none];exact bc ⟨none,H,I,.none,h⟩
theorem Qv(h:PE X e te):PO X (some e) (A0f te):=by
 intro a s l H Q I f;rw[evalPart_some];refine Bj (h a s l H _ I f) λu m d=>?_;obtain⟨x,b,c,j,g⟩:=d;obtain⟨i,rfl,q⟩:=g;obtain⟨t,rfl⟩:=j;exact⟨some i,b,c,.int i t,q⟩
def WH(X:Cx)(r:V->mx->mx->Hp->VK->Prop):Prop:=
 ∀(a:List (Addr×Obj)) (s:mI) (f:St) (H:Hp) (x:V) (v c d:mK) (lo hi:mx) (b:Addr) (Q:VK),Aj X a f H s->B0 x v->s.heap.IsSliceOf b c d .none->IsPart c lo->IsPart d hi->r x lo hi H Q->
  ∃T g,typeLookup (.type T) "__getitem__"=pure (some (.builtin g))/\s.TypeIs v T/\wpAny (model X.prog X.w) X.A (getItem v (.ref b)) (EP X a f Q) X.xe s
def tSl(r:V->mx->mx->Hp->VK->Prop)(te:TE)(tl th:TO):TE:=λa H Q=>te a H λx b=>tl a b λl c=>th a c λu d=>r x l u d Q
theorem Tc{r:V->mx->mx->Hp->VK->Prop}(C:WH X r)(he:PE X e te)(B:PO X lo tl)(E:PO X hi th):PE X (.Subscript e (.Slice lo hi none p2) pos) (tSl r te tl th):=by
 intro a s d H Q I h;refine Subscript_ (Bj (he a s d H _ I h) λv N i=>?_);obtain⟨x,m,o,M,J⟩:=i;refine wpAny_Slice (Bj (B a N d m _ o J) λf O ⟨l,n,p,F,K⟩=>Bj (E a O d n _ p K) λg c i=>?_);obtain⟨u,j,w,G,L⟩:=i;rw[evalPart_none];refine bc ?_;have y:Aj X a d j {c with heap:=c.heap.push {cls:=.type "slice",data:=.fields #[f,g,.none] } }:=w.kept (t':=c.toks) λb R q=>bZ _ q;obtain⟨T,P,z,D,A⟩:=C a {c with heap:=c.heap.push {cls:=.type "slice",data:=.fields #[f,g,.none] } } d j x v f g l u c.heap.objs.size Q y M (Heap.IsSliceOf.new ..) F G L;show wpAny (model X.prog X.w) X.A (subscriptTail e (.Slice lo hi none p2) v (.ref c.heap.objs.size)) (EP X a d Q) X.xe {c with heap:=c.heap.push {cls:=.type "slice",data:=.fields #[f,g,.none] } };exact tail_any (ops:=[.ref c.heap.objs.size,v]) D z A (by with_unfolding_all rfl)
def Ug(xs:List V)(lo hi:mx):List V:=(xs.drop (HT.iM xs.length 0 lo)).take (HT.iM xs.length xs.length hi-HT.iM xs.length 0 lo)
theorem S4(xs:List V)(lo hi:mx):(Ug xs lo hi).length<=xs.length:=by
 unfold Ug;rw[List.length_take,List.length_drop];omega
def zo(K:W.Frag):R2:=λx y H Q=>∃a b d c,x=.ref a/\y=.ref b/\Cu K H a d/\Cu K H b c/\d≠[]/\d.length+c.length<=sizeLine/\
 (c=[]->Q (.ref a) H)/\(c≠[]->∀p,H p=none->Q (.ref p) (upd H p (.tup (d++c))))
theorem Ay.jO(r:Ay xs a):a=[]↔xs=[]:=by
 cases r with
 |nil=>simp
 |cons _ _=>simp
theorem lj:Gd X (binaryOp .Add) (zo X.K):=by
 intro g s F H x y v u Q I p r h;obtain⟨a,b,A,B,rfl,rfl,i,j,l,f,n,o⟩:=h;cases p;cases r;obtain⟨C,d,m,_⟩:=I.tuple i;obtain⟨D,c,p2,_⟩:=I.tuple j;refine HT.vK m p2 (λz=>l (d.jO.mp z)) (λz=>⟨.ref a,H,I,rfl,n (c.jO.mp z)⟩) (λz=>?_) (by rw[<- d.length,<- c.length];exact f);refine⟨.ref s.heap.objs.size,_,I.laid (t':=s.toks) (o:=.tup (A++B)) (λb E q=>bZ _ q) (da _) ?_,rfl,o (λw=>z (c.jO.mpr w)) _ (I.aF.fresh (da _))⟩;exact⟨⟨by rw[List.length_append];exact f,⟨_,cI _ rfl,rfl⟩⟩,_,d.append c,IsTup.new _ _⟩
end
def ji(n:Nat)(i:Int):Option Nat:=if 0<=i then(if i<n then some i.toNat else none)else if-(n:Int)<=i then some (i+n).toNat else none
def U9(xs:List a)(i:Int):Option a:=(ji xs.length i).bind λj=>xs[j]?
theorem Wo(h:ji n i=some j):seqIndex? i n=some j/\j<n/\-(n:Int)<=i/\i<n:=by
 unfold ji at h;by_cases b:0<=i
 ·rw[if_pos b]at h;by_cases a:i<n
  ·rw[if_pos a]at h;have e:i.toNat=j:=d0 h;exact⟨by rw[seqIndex_of b a,e],by omega,by omega,a⟩
  ·rw[if_neg a]at h;cases h
 ·rw[if_neg b]at h;by_cases a:-(n:Int)<=i
  ·rw[if_pos a]at h;have e:(i+n).toNat=j:=d0 h;exact⟨by rw[seqIndex_neg (by omega) a,e],by omega,a,by omega⟩
  ·rw[if_neg a]at h;cases h
theorem W9(h:U9 xs i=some v):∃j,seqIndex? i xs.length=some j/\xs[j]?=some v/\j<xs.length/\-(xs.length:Int)<=i/\i<xs.length:=by
 unfold U9 at h;cases e:ji xs.length i with
 |none=>rw[e]at h;cases h
 |some j=>
  rw[e]at h;obtain⟨b,c,d,f⟩:=Wo e;exact⟨j,b,h,c,d,f⟩
theorem J1{a:Type}{xs:List a}{j:Nat}{v:a}(h:xs[j]?=some v):U9 xs (j:Int)=some v:=by
 have b:j<xs.length:=(bG.mp h).1
 have e:ji xs.length (j:Int)=some j:=by
  unfold ji;rw[if_pos (by omega),if_pos (by omega)];simp
 unfold U9;rw[e];exact h
def jn(b:Expr):Prop:=∀o i,subscripted b false o i=operate [o,i] (getItem o i)
def TC(X:Cx)(r:R2):Prop:=
 ∀(c a:Expr) (b:List (Addr×Obj)) (s:mI) (d:St) (H:Hp) (x y:V) (v u:mK) (Q:VK),Aj X b d H s->B0 x v->B0 y u->r x y H Q->
  subscripted a false v u=operate [v,u] (getItem v u)->wpAny (model X.prog X.w) X.A (subscriptTail c a v u) (EP X b d Q) X.xe s
def TF(X:Cx)(id:String)(r:V->List V->Hp->VK->Prop):Prop:=
 ∀(a:List (Addr×Obj)) (s:mI) (d:St) (H:Hp) (x:V) (c:List V) (v:mK) (b:List mK) (Q:VK),Aj X a d H s->B0 x v->Ay c b->r x c H Q->
  wpAny (model X.prog X.w) X.A (call (.builtin id) (v::b)) (EP X a d Q) X.xe s
section
variable {X:Cx}{a b:Expr}{ta tb:TE}{pos:Pos}
theorem C4(i:TC X r)(f:PE X a ta)(g:PE X b tb)(j:jn b):PE X (.Subscript a b pos) (SY r ta tb):=by
 intro c s o H Q I h;exact Subscript_ (qe f g I h λv u n x y d e l m q=>i a b c n o d x y v u Q e l m q (j _ _))
def A0z(K:W.Frag):R2:=λx y H Q=>∃p c i v,x=.ref p/\y=.int i/\B6 K H p c/\U9 c i=some v/\Q v H
def A11(K:W.Frag):R2:=λx y H Q=>∃p c i v,x=.ref p/\y=.int i/\Cu K H p c/\U9 c i=some v/\Q v H
theorem kr:TC X (A0z X.K):=by
 intro l g c s A H x y v u Q I L M h o;obtain⟨p,S,i,z,rfl,rfl,J,F,q⟩:=h;cases L;obtain⟨t,rfl⟩:=M;obtain⟨B,r,f,R⟩:=I.list J;obtain⟨j,d,C,O,D,E⟩:=W9 F;obtain⟨w,m,K⟩:=r.get C;have G:=r.length;have P:=Gp;have fin:EP X c A Q w s:=⟨z,H,I,K,q⟩;by_cases n:0<=i
 ·have e:i.toNat=j:=by
   rw[seqIndex_of n E]at d;exact d0 d
  exact item_listR f.isList n (by omega) (by rw[e];simpa using m) fin o
 ·have e:(i+(B.toArray.size:Int)).toNat=j:=by
   rw[seqIndex_neg (by omega) D]at d;rw[List.size_toArray,<- G];exact d0 d
  exact subscriptTail_builtinR (x:=w) f.isList.typeIs slot_list_getitem.lookup
   (wpAny_getItem_list_neg (Q:=λr N=>r=w/\EP X c A Q r N) f.isList (by omega) (by rw[List.size_toArray]<;>omega) (by omega) (by rw[e];simpa using m) ⟨rfl,fin⟩) o
theorem r8:TC X (A11 X.K):=by
 intro e d c s g H x y v u Q I E F h C;obtain⟨p,P,i,z,rfl,rfl,B,o,q⟩:=h;cases E;obtain⟨t,rfl⟩:=F;obtain⟨J,r,f,O⟩:=I.tuple B;obtain⟨j,m,n,K,L,M⟩:=W9 o;obtain⟨w,l,D⟩:=r.get n;have A:=r.length;have N:=Gp;have fin:EP X c g Q w s:=⟨z,H,I,D,q⟩
 exact subscriptTail_builtinR (x:=w) f.typeIs slot_tuple_getitem.lookup
  (getItem_tuple (j:=j) (Q:=λr G=>r=w/\EP X c g Q r G) f (by omega) (by omega) (by rw[List.size_toArray,<- A];exact m) (by simpa using l) ⟨rfl,fin⟩) C
theorem Uw(c:List mK)(n j:Nat)(u:mK):Obj.mapSeq (·.setIfInBounds j u) {cls:=.type "list",data:=.seq c.toArray n}={cls:=.type "list",data:=.seq (c.set j u).toArray n}:=by
 simp[Obj.mapSeq]
theorem Aj.lst(I:Aj X c f H s)(h:H p=some (.lst xs)):
  ∃(d:List mK) (n:Nat),Ay xs d/\s.heap.get? p=some {cls:=.type "list",data:=.seq d.toArray n}/\xs.length<=sizeLine:=by
 obtain⟨z,d,n,r,e⟩:=I.aF p _ h;exact⟨d,n,r,e,z⟩
theorem Aj.BG{c:List (Addr×Obj)}{j:St}{H:Hp}{s:mI}{p:Addr}{xs ys:List V}{g its':List mK}{n d:Nat}{f:Obj->Obj}(I:Aj X c j H s)(h:H p=some (.lst xs))
  (m:s.heap.get? p=some {cls:=.type "list",data:=.seq g.toArray n})(i:f {cls:=.type "list",data:=.seq g.toArray n}={cls:=.type "list",data:=.seq its'.toArray d})(r:Ay ys its')(hz:ys.length<=sizeLine)(t:Nat):
  Aj X c j (upd H p (.lst ys)) {s with heap:=s.heap.update p f,toks:=t}:=by
 have e:(s.heap.update p f).get? p=some {cls:=.type "list",data:=.seq its'.toArray d}:=by
  rw[Heap.get?_update_self f m (by rw[i]<;>rfl),i]
 refine I.write (x:=p) (e:=p) (by rw[h];trivial) (.inl rfl) (λb u l q=>(ea _ _ (Ne.symm l)).trans q) ⟨_,e⟩ ?_;exact⟨hz,its',d,r,e⟩
def zu:V->V->V->Hp->(Hp->Prop)->Prop:=λo i v H Q=>∃p c k j,o=.ref p/\i=.int k/\H p=some (.lst c)/\ji c.length k=some j/\Q (upd H p (.lst (c.set j v)))
theorem Nl:yg X zu:=by
 intro c s F H o i v L K u Q I D C rv h;obtain⟨p,E,k,j,rfl,rfl,z,A,q⟩:=h;cases D;obtain⟨t,rfl⟩:=C;obtain⟨m,n,r,g,B⟩:=I.lst z;obtain⟨d,G,x,y⟩:=Wo A;have f:=r.length;have J:=Gp
 have l:Aj X c F (upd H p (.lst (E.set j v))) {s with heap:=s.heap.update p (Obj.mapSeq (·.setIfInBounds j u)) }:=
  I.BG z g (Uw m n j u) (r.set rv j) (by rw[List.length_set];exact B) s.toks
 by_cases w:0<=k
 ·have e:k.toNat=j:=by
   rw[seqIndex_of w y]at d;exact d0 d
  exact W.ki_setAt g w (by omega) (by rw[List.size_toArray,<- f];exact y) (by rw[e];exact⟨_,l,q⟩)
 ·have e:(k+(m.toArray.size:Int)).toNat=j:=by
   rw[seqIndex_neg (by omega) x]at d;rw[List.size_toArray,<- f];exact d0 d
  exact W.ki_setBack g (by omega) (by rw[List.size_toArray,<- f];exact x) (by omega) (by rw[e];exact⟨_,l,q⟩)
theorem Rb(lo hi:mx)(n:Nat):(sliceBounds lo hi none n).1=((HT.iM n 0 lo:Nat):Int)/\(sliceBounds lo hi none n).2.1=((HT.iM n n hi:Nat):Int)/\(sliceBounds lo hi none n).2.2=1:=by
 refine⟨?_,?_,rfl⟩
 ·cases lo with
  |none=>simp[sliceBounds,HT.iM]
  |some i=>
   simp only[sliceBounds,HT.iM,Option.getD_none,show(1:Int)>0 by decide,if_true];by_cases h:i<0
   ·simp only[h,if_true]<;>omega
   ·simp only[h,if_false]<;>omega
 ·cases hi with
  |none=>simp[sliceBounds,HT.iM]
  |some i=>
   simp only[sliceBounds,HT.iM,Option.getD_none,show(1:Int)>0 by decide,if_true];by_cases h:i<0
   ·simp only[h,if_true]<;>omega
   ·simp only[h,if_false]<;>omega
theorem Oa(c:List mK)(lo hi:mx):slicePick c.toArray lo hi none=((c.drop (HT.iM c.length 0 lo)).take (HT.iM c.length c.length hi-HT.iM c.length 0 lo)).toArray:=by
 obtain⟨d,e,f⟩:=Rb lo hi c.toArray.size;unfold slicePick;rw[d,e,f];simp only[sliceRange_one,pick_run,List.size_toArray]<;>rfl
def zw(K:W.Frag):V->mx->mx->Hp->VK->Prop:=λx e d H Q=>∃a c,x=.ref a/\B6 K H a c/\∀p,H p=none->Q (.ref p) (upd H p (.lst (Ug c e d)))
theorem mq:WH X (zw X.K):=by
 intro i s B H x v z A e f y Q I p j n o h;obtain⟨a,c,rfl,l,q⟩:=h;cases p;obtain⟨u,r,g,m⟩:=I.list l;have d:=r.length;refine⟨"list",_,slot_list_getitem.lookup,g.isList.typeIs,?_⟩;refine wpAny_getItem_list_slice g.isList j n o .none (by simp) ?_ (by rw[List.size_toArray]<;>omega);rw[Oa,<- d];refine⟨.ref s.heap.objs.size,_,I.laid (t':=s.toks) (o:=.lst (Ug c e f)) (λb w q=>bZ _ q) (da _) ?_,rfl,q _ (I.aF.fresh (da _))⟩;exact⟨dI (S4 c e f) m,_,0,(r.drop (HT.iM c.length 0 e)).take (HT.iM c.length c.length f-HT.iM c.length 0 e),cI _ rfl⟩
def Gn:V->Bool
 | .aP=>true
 | .bl _=>true
 | .int _=>true
 | .str _=>true
 |_=>false
def kf:V->V->Bool
 | .aP,.aP=>true
 | .bl a,.bl b=>a==b
 | .bl a,.int b=>(if a then 1 else 0)==b
 | .int a,.bl b=>a==(if b then 1 else 0)
 | .int a,.int b=>a==b
 | .str a,.str b=>a==b
 |_,_=>false
theorem qo(f:B0 y u)(c:B0 x v)(g:Gn y=true)(e:Gn x=true):SeqAt.EqAt A s u v (kf y x):=by
 cases y with
 |aP=>
  cases f;cases x with
  |aP=>cases c;exact SeqAt.EqAt.same _
  |bl b=>cases c;exact SeqAt.EqAt.none_bool b
  |int b=>obtain⟨t,rfl⟩:=c;exact SeqAt.EqAt.none_int b t
  |str b=>obtain⟨t,rfl⟩:=c;exact SeqAt.EqAt.none_str b t
  |_=>exact absurd (show false=true from e) eI
 |bl a=>
  cases f;cases x with
  |aP=>cases c;exact SeqAt.EqAt.bool_none a
  |bl b=>cases c;exact SeqAt.EqAt.bool_bool a b
  |int b=>obtain⟨t,rfl⟩:=c;exact SeqAt.EqAt.bool_int a b t
  |str b=>obtain⟨t,rfl⟩:=c;exact SeqAt.EqAt.bool_str a b t
  |_=>exact absurd (show false=true from e) eI
 |int a=>
  obtain⟨d,rfl⟩:=f;cases x with
  |aP=>cases c;exact SeqAt.EqAt.int_none a d
  |bl b=>cases c;exact SeqAt.EqAt.int_bool a d b
  |int b=>obtain⟨t,rfl⟩:=c;exact SeqAt.EqAt.int_int a d b t
  |str b=>obtain⟨t,rfl⟩:=c;exact SeqAt.EqAt.int_str a d b t
  |_=>exact absurd (show false=true from e) eI
 |str a=>
  obtain⟨d,rfl⟩:=f;cases x with
  |aP=>cases c;exact SeqAt.EqAt.str_none a d
  |bl b=>cases c;exact SeqAt.EqAt.str_bool a d b
  |int b=>obtain⟨t,rfl⟩:=c;exact SeqAt.EqAt.str_int a d b t
  |str b=>obtain⟨t,rfl⟩:=c;exact SeqAt.EqAt.str_str a d b t
  |_=>exact absurd (show false=true from e) eI
 |_=>exact absurd (show false=true from g) eI
def ke(x:V)(u:mK):Bool:=match u with
 | .none=>kf .aP x
 | .bool b=>kf (.bl b) x
 | .int i _=>kf (.int i) x
 | .str z _=>kf (.str z) x
 |_=>false
theorem ar(r:B0 y u)(f:Gn y=true):ke x u=kf y x:=by
 cases y with
 |aP=>cases r;rfl
 |bl b=>cases r;rfl
 |int i=>obtain⟨t,rfl⟩:=r;rfl
 |str z=>obtain⟨t,rfl⟩:=r;rfl
 |_=>exact absurd (show false=true from f) eI
theorem W7(h:Ay xs c)(f:xs.all Gn=true):c.any (ke x)=xs.any λy=>kf y x:=by
 induction h with
 |nil=>rfl
 |cons r t d=>
  rw[List.all_cons,Bool.and_eq_true]at f;rw[List.any_cons,List.any_cons,ar r f.1,d f.2]
theorem Sv(i:B0 x v)(e:Gn x=true)(h:Ay xs d)(f:xs.all Gn=true):∀u∈d,SeqAt.EqAt A s u v (ke x u):=by
 induction h with
 |nil=>
  intro u c;cases c
 |cons r t g=>
  intro j c;rw[List.all_cons,Bool.and_eq_true]at f;rcases d3.mp c with rfl|c
  ·rw[ar r f.1];exact qo r i f.1 e
  ·exact g f.2 j c
def TH(x:V)(xs:List V):Bool:=xs.any λy=>kf y x
def rIn(K:W.Frag)(d:Bool):R2:=λx y H Q=>∃p c,y=.ref p/\(B6 K H p c\/Cu K H p c)/\Gn x=true/\c.all Gn=true/\Q (.bl (if d then !TH x c else TH x c)) H
theorem Z1:Gd X (compareOp .In) (rIn X.K false):=by
 intro i s o H x y v u Q I j m h;obtain⟨p,n,rfl,d,g,fs,q⟩:=h;cases m;rcases d with d|d
 ·obtain⟨c,r,f,l⟩:=I.list d;refine SeqAt.in_listAt (ke x) f.isList (λw e=>Sv j g r fs w (by simpa using e)) ⟨.bl _,H,I,rfl,?_⟩;rw[show c.toArray.any (ke x)=c.any (ke x)by simp,W7 r fs];exact q
 ·obtain⟨c,r,f,l⟩:=I.tuple d;refine SeqAt.in_tupleAt (ke x) f (λw e=>Sv j g r fs w (by simpa using e)) ⟨.bl _,H,I,rfl,?_⟩;rw[show c.toArray.any (ke x)=c.any (ke x)by simp,W7 r fs];exact q
theorem Q6:D9 X (.builtin "len") (λxs H Q=>∃p ys,xs=[.ref p]/\(B6 X.K H p ys\/Cu X.K H p ys)/\Q (.int ys.length) H):=by
 intro g s o H xs n Q I r h;obtain⟨p,ys,rfl,d,q⟩:=h;obtain⟨u,rfl,l⟩:=Eg r;cases l;have m:=Gp;rcases d with d|d
 ·obtain⟨i,f,e,j⟩:=I.list d;have c:=f.length;exact Calls.call_len_list e.isList (by simp only[List.size_toArray]<;>omega) ⟨.int ys.length,H,I.tok _,⟨s.toks+1,by rw[List.size_toArray,c]⟩,q⟩
 ·obtain⟨i,f,e,j⟩:=I.tuple d;have c:=f.length;exact len_tuple e (by simp only[List.size_toArray]<;>omega) ⟨.int ys.length,H,I.tok _,⟨s.toks+1,by rw[List.size_toArray,c]⟩,q⟩
theorem Db:D9 X (.type "list") (λxs H Q=>∃p ys,xs=[.ref p]/\(B6 X.K H p ys\/Cu X.K H p ys)/\∀l,H l=none->Q (.ref l) (upd H l (.lst ys))):=by
 intro w s D H xs E Q I r h;obtain⟨p,ys,rfl,j,q⟩:=h;obtain⟨u,rfl,C⟩:=Eg r;cases C
 have fin:∀(d:List mK),Ay ys d->ys.length<=sizeLine->∀(c:Heap) (f:Nat),(∀b B,s.heap.get? b=some B->c.get? b=some B)->
   c.get? s.heap.objs.size=some {cls:=.type "list",dict:=none,data:=.seq d.toArray f,slots:=#[] }->EP X w D Q (.ref s.heap.objs.size) {s with heap:=c}:=λd g m c f v e=>
  ⟨.ref s.heap.objs.size,_,I.laid (t':=s.toks) v (da _) (show B8 X.prog X.w _ c _ (.lst ys)from⟨m,d,f,g,e⟩),rfl,q _ (I.aF.fresh (da _))⟩
 rcases j with j|j
 ·obtain⟨d,g,A,m⟩:=I.list j;have i:=g.length;obtain⟨o,z,x,n,y⟩:=A.isList;exact call_list_seq p (.inl rfl) z x y (λc f v e=>fin d g m c f v e) (by simp only[List.size_toArray]<;>omega)
 ·obtain⟨d,g,A,m⟩:=I.tuple j;have i:=g.length;obtain⟨o,z,x,n,y⟩:=A;exact call_list_seq p (.inr rfl) z x y (λc f v e=>fin d g m c f v e) (by simp only[List.size_toArray]<;>omega)
theorem D3:D9 X (.type "tuple") (λxs H Q=>∃p ys,xs=[.ref p]/\((B6 X.K H p ys/\∀l,H l=none->Q (.ref l) (upd H l (.tup ys)))\/(Cu X.K H p ys/\Q (.ref p) H))):=by
 intro c s w H xs A Q I r h;obtain⟨p,ys,rfl,h⟩:=h;obtain⟨u,rfl,z⟩:=Eg r;cases z;rcases h with⟨g,q⟩|⟨g,q⟩
 ·obtain⟨f,j,i,v⟩:=I.list g;have n:=j.length;refine call_tuple_list i.isList (λd y=>?_) (by simp only[List.size_toArray]<;>omega);have m:Aj X c w H {s with heap:=d}:=I.kept (t':=s.toks) y
  have x:Aj X c w (upd H d.objs.size (.tup ys)) {s with heap:=d.push {cls:=.type "tuple",data:=.seq f.toArray} }:=
   m.laid (t':=s.toks) (λb o e=>bZ _ e) (da _) (show B8 X.prog X.w _ _ _ (.tup ys)from⟨⟨v,⟨_,cI _ rfl,rfl⟩⟩,f,j,IsTup.new _ _⟩)
  exact⟨.ref d.objs.size,_,x,rfl,q _ (m.aF.fresh (da _))⟩
 ·obtain⟨f,j,i,v⟩:=I.tuple g;exact call_tuple_same i ⟨.ref p,H,I,rfl,q⟩
def WI(K:W.Frag)(T:String)(x:V)(H:Hp):Prop:=match x with
 | .str _=>T="str"
 | .int _=>T="int"
 | .ref p => (T = "list" /\ ∃ d, B6 K H p d) \/ (T = "tuple" /\ ((∃ o, K.lookup p = some o /\ o.cls = .type "tuple" /\ o.dict = none) \/ ∃ d, H p = some (.tup d))) \/
   (T="dict"/\((∃c,H p=some (.dK c))\/∃c,H p=some (.dT c)))\/(T="set"/\∃S n,H p=some (.set S n))
 |_=>False
theorem jb(I:Aj X h G H s)(r:B0 x v)(ty:WI X.K T x H):
  s.TypeIs v T/\∀a,v=.ref a->∃m,s.heap.get? a=some m/\m.dict=none:=by
 cases x with
 |str z=>
  obtain⟨t,rfl⟩:=r;cases(show T="str" from ty);exact⟨typeIs_str s z t,λ_ e=>nomatch e⟩
 |int i=>
  obtain⟨t,rfl⟩:=r;cases(show T="int" from ty);exact⟨typeIs_int s i t,λ_ e=>nomatch e⟩
 |ref p=>
  cases r;rcases ty with⟨rfl,K,C⟩|⟨rfl,⟨o,d,B,j⟩|⟨F,d⟩⟩|⟨rfl,d⟩|⟨rfl,S,n,d⟩
  ·obtain⟨J,_,q,_⟩:=I.list C;refine⟨q.isList.typeIs,λa e=>?_⟩;cases e;obtain⟨o,n,e,c,j,_⟩:=q;exact⟨o,e,j⟩
  ·refine⟨⟨o,I.iY p o d,B⟩,λa e=>?_⟩;cases e;exact⟨o,I.iY _ o d,j⟩
  ·obtain⟨⟨_,E,g,w⟩,_,_,⟨D,y,u,_⟩⟩:=(show B8 X.prog X.w H s.heap p (.tup F)from I.aF p _ d);refine⟨⟨D,y,u⟩,λa A=>?_⟩;cases A;exact⟨E,g,w⟩
  ·have z:∃o,s.heap.get? p=some o/\o.ExactDict:=by
    rcases d with⟨l,d⟩|⟨l,d⟩
    ·obtain⟨_,_,_,_,o,_,_,e,f,_⟩:=I.aF p _ d;exact⟨o,e,f⟩
    ·obtain⟨_,_,_,_,o,_,_,e,f,_⟩:=I.aF p _ d;exact⟨o,e,f⟩
   obtain⟨o,e,f⟩:=z;refine⟨⟨o,e,f.1⟩,λa g=>?_⟩;cases g;exact⟨o,e,f.2.1⟩
  ·obtain⟨o,_,_,_,e,f,_⟩:=I.aF p _ d;refine⟨⟨o,e,f.1⟩,λa g=>?_⟩;cases g;exact⟨o,e,f.2.1⟩
 |_=>exact False.elim ty
def A16(K:W.Frag)(T:String)(r:V->List V->Hp->VK->Prop)(d:TE):TE:=λe H Q=>d e H λx c=>WI K T x c/\r x [] c Q
def tBM(K:W.Frag)(T:String)(r:V->List V->Hp->VK->Prop)(f:TE)(t:TA):TE:=λd H Q=>f d H λx c=>WI K T x c/\t d c λg e=>r x g e Q
variable {o e:Expr}{es:List Expr}{to:TE}{t:TA}{name:Str}{apos aS:Pos}{T id:String}{r:V->List V->Hp->VK->Prop}
theorem Qt(z:PlainAttrs T)(d:Slot T name id)(l:typeOf (.builtin id)=pure (.type "method_descriptor"))(q:TF X id r)(u:PE X o to)
  (w:attributeBase o name X.env (eval o X.env)=eval o X.env:=by rfl)(y:(apos.endLine==aS.line)=true:=by rfl):PE X (.Call (.Attribute o name apos) [] [] aS) (A16 X.K T r to):=by
 intro c s i H Q I h;refine wpAny_Call_method0_late w y (Bj (u c s i H _ I h) λv B m=>?_);obtain⟨x,j,f,g,ty,A⟩:=m;obtain⟨n,p⟩:=jb f g ty;exact⟨T,id,z,d,l,n,p,Calls.callWith_builtin rfl (PySem.evalArgs_none (q c B i j x [] v [] Q f g .nil A))⟩
theorem Ib(G:PlainAttrs T)(d:Slot T name id)(q:typeOf (.builtin id)=pure (.type "method_descriptor"))(B:TF X id r)(C:PE X o to)(A:PA X (e::es) t)
  (E:attributeBase o name X.env (eval o X.env)=eval o X.env:=by rfl)
  (u:((backTo aS (starEach (e::es) X.env)).all (λx=>!x.1)&&(backToKw aS (keywordEach [] X.env)).all (λx=>x.1.isSome)
   &&decide ((e::es).length+([]:List Keyword).length+(if([]:List Keyword).isEmpty then 0 else 1)<30))=true:=by rfl)
  (F:(apos.endLine==aS.line)=true:=by rfl)(D:starEach (e::es) X.env=(false,eval e X.env)::starEach es X.env:=by rfl)(hplain:(backTo aS (starEach es X.env)).any (·.1)=false:=by rfl):
  PE X (.Call (.Attribute o name apos) (e::es) [] aS) (tBM X.K T r to t):=by
 intro c s f H Q I h;refine wpAny_Call_method_late E u F rfl (Bj (C c s f H _ I h) λv M w=>?_);obtain⟨x,l,g,j,ty,J⟩:=w;obtain⟨y,z⟩:=jb g j ty;refine⟨T,id,G,d,q,y,z,?_⟩;have i:=A aS c M f l _ g J;rw[D]at i⊢;refine Calls.callWith_builtin (by show(false||(backTo aS (starEach es X.env)).any (·.1))=false;rw[hplain]<;>rfl) (Calls.evalArgs_plain ?_);exact Bj i λO N ⟨P,n,p,L,K⟩=>B c N f n x P v O Q p j L K
/-xs.append(e),list.index on a IY tuple .. are TF facts of 06m-/
end
def yb(X:Cx)(id:String)(r:V->List V->Hp->VK->Prop):Prop:=
 ∀(a:List (Addr×Obj)) (s:mI) (d:St) (H:Hp) (x:V) (c:List V) (v:mK) (b:List mK) (Q:VK),Aj X a d H s->B0 x v->Ay c b->r x c H Q->
  wpAny (model X.prog X.w) X.A (call (.builtin id) (v::b)) (EP X a d Q) X.xe s
theorem Ay.one(h:Ay [x] a):∃u,a=[u]/\B0 x u:=by
 cases h with
 |cons r t=>
  cases t;exact⟨_,rfl,r⟩
theorem Ay.zero:∀{a:List mK},Ay [] a->a=[]
 |_,.nil=>rfl
theorem Ay.dropLast(h:Ay xs a):Ay xs.dropLast a.dropLast:=by
 induction h with
 |nil=>exact .nil
 |cons r t b=>
  cases t with
  |nil=>exact .nil
  |cons q c=>exact .cons r b
theorem Um(l:List d):l.eraseIdx (l.length-1)=l.dropLast:=by
 induction l with
 |nil=>rfl
 |cons a r c=>
  cases r with
  |nil=>rfl
  |cons b r=>
   have e:(a::b::r).length-1=((b::r).length-1)+1:=by
    have f:(a::b::r).length=r.length+2:=rfl;have g:(b::r).length=r.length+1:=rfl;omega
   rw[e,List.eraseIdx_cons_succ,c]
   all_goals rfl
section
variable {X:Cx}{pins:List (Addr×Obj)}{σ:St}{H:Hp}{s:mI}{l b:Addr}{xs ys zs:List V}
theorem Aj.BH{a its':List mK}{n:Nat}{f:Array mK->Array mK}{t':Nat}(I:Aj X pins σ H s)(c:H l=some (.lst xs))
  (e:s.heap.get? l=some {cls:=.type "list",data:=.seq a.toArray n})(g:f a.toArray=its'.toArray)(i:Ay ys its')(hz:ys.length<=sizeLine):
  Aj X pins σ (upd H l (.lst ys)) {s with heap:=s.heap.update l (Obj.mapSeq f),toks:=t'}:=by
 have q:=PySem.IsL.update e f;rw[g]at q;refine I.write (x:=l) (e:=l) (by rw[c];exact trivial) (.inl rfl) (λj u d h=>(ea s.heap (Obj.mapSeq f) (Ne.symm d)).trans h) ⟨_,q⟩ ?_;exact⟨hz,its',_,i,q⟩
theorem Aj.WL{t':Nat}(I:Aj X pins σ H s)(c:Ay ys a)(hz:ys.length<=sizeLine):
  Aj X pins σ (upd H s.heap.objs.size (.lst ys)) {s with heap:=s.heap.push {cls:=.type "list",data:=.seq a.toArray},toks:=t'}:=
 I.laid (λ_ _ q=>bZ _ q) (da _) ⟨hz,a,0,c,cI _ rfl⟩
theorem Aj.fresh(I:Aj X pins σ H s):H s.heap.objs.size=none:=I.aF.fresh (da _)
theorem Aj.pH(I:Aj X pins σ H s)(c:H l=some (.lst xs)):xs.length<=sizeLine/\∃(a:List mK) (n:Nat),Ay xs a/\xs.length=a.length/\s.heap.get? l=some {cls:=.type "list",data:=.seq a.toArray n}:=by
 obtain⟨z,a,n,r,e⟩:=I.aF l _ c;exact⟨z,a,n,r,r.length,e⟩
theorem d6(h:n<=sizeLine):Builtin.List.listTooLong n=false:=by
 unfold Builtin.List.listTooLong;exact jE (by omega)
end
section
variable {X:Cx}
def mi:V->List V->Hp->VK->Prop:=λx b H Q=>∃l a y,x=.ref l/\b=[y]/\H l=some (.lst a)/\a.length<sizeLine/\Q .aP (upd H l (.lst (a++[y])))
theorem E3:yb X "list.append" mi:=by
 intro c s p H x m v j Q I f rv h;obtain⟨l,o,y,rfl,rfl,b,i,q⟩:=h;cases f;obtain⟨u,rfl,d⟩:=rv.one;obtain⟨z,a,n,r,g,e⟩:=I.pH b;refine call_meets F.slot_list_append ⟨_,e,rfl⟩ F.entry_list_append (F.args_list_append_2 _ _) (PySem.list_append l a.toArray n u (by rw[List.size_toArray];omega)) ⟨e,?_⟩;refine⟨.aP,_,I.BH (its':=a++[u]) b e (by simp) (r.append (.cons d .nil)) ?_,rfl,q⟩;rw[List.length_append,List.length_singleton];omega
def mj:V->List V->Hp->VK->Prop:=λx d H Q=>∃l b a c,x=.ref l/\d=[.ref b]/\H l=some (.lst a)/\H b=some (.lst c)/\a.length+c.length<=sizeLine/\Q .aP (upd H l (.lst (a++c)))
theorem Hm:yb X "list.extend" mj:=by
 intro g s L H x E v C Q I y rv h;obtain⟨l,b,G,K,rfl,rfl,f,m,B,q⟩:=h;cases y;obtain⟨u,rfl,w⟩:=rv.one;cases w;obtain⟨z,a,n,r,A,e⟩:=I.pH f;obtain⟨J,c,o,p,D,j⟩:=I.pH m;have d:a.toArray.size+c.toArray.size<=sizeLine:=by rw[List.size_toArray,List.size_toArray];omega
 have i:¬(!a.toArray.isEmpty&&Builtin.List.listTooLong (a.toArray.size+c.toArray.size))=true:=by
  rw[d6 d,Bool.and_false];exact eI
 refine call_meets F.slot_list_extend ⟨_,e,rfl⟩ F.entry_list_extend (F.args_list_extend_2 _ _)
  (AutoSeq1.list_extend_list_list_0 l a.toArray n b c.toArray o i (by rw[List.size_toArray];omega) (by omega)) ⟨e,j,?_⟩
 refine⟨.aP,_,I.BH (its':=a++c) f e (by simp) (r.append p) ?_,rfl,q⟩;rw[List.length_append];omega
def A14:V->List V->Hp->VK->Prop:=λx b H Q=>∃l a y,x=.ref l/\b=[]/\H l=some (.lst a)/\a[a.length-1]?=some y/\Q y (upd H l (.lst a.dropLast))
theorem cx:yb X "list.pop" A14:=by
 intro c s B H x w v p Q I o rv h;obtain⟨l,A,y,rfl,rfl,b,g,q⟩:=h;cases o;have j:=rv.zero;subst j;obtain⟨z,a,n,r,d,e⟩:=I.pH b;obtain⟨u,f,m⟩:=r.get g
 have i:a.toArray[a.toArray.size-1]?=some u:=by
  show a.toArray[a.length-1]?=some u;rw[<- Array.getElem?_toList,<- d];exact f
 refine call_meets F.slot_list_pop ⟨_,e,rfl⟩ F.entry_list_pop (F.args_list_pop_1 _) (MeetsSeq.list_pop_last l a.toArray n u i (by rw[List.size_toArray];omega)) ⟨e,?_⟩;refine⟨y,_,I.BH (its':=a.dropLast) b e ?_ r.dropLast ?_,m,q⟩
 ·show a.toArray.eraseIdxIfInBounds (a.toArray.size-1)=a.dropLast.toArray;rw[List.size_toArray,List.eraseIdxIfInBounds_toArray,Um]
 ·rw[List.length_dropLast];omega
def A0x:R2:=λx y H Q=>∃l b a c,x=.ref l/\y=.ref b/\H l=some (.lst a)/\H b=some (.lst c)/\a.length+c.length<=sizeLine/\∀p,H p=none->Q (.ref p) (upd H p (.lst (a++c)))
theorem uu:Gd X (binaryOp .Add) A0x:=by
 intro d s G H x y v u Q I o p h;obtain⟨l,b,D,F,rfl,rfl,j,i,A,q⟩:=h;cases o;cases p;obtain⟨z,a,n,r,w,e⟩:=I.pH j;obtain⟨E,c,B,m,C,f⟩:=I.pH i;refine PySem.P.add_list e f ?_ (by rw[List.size_toArray,List.size_toArray];omega);have g:a.toArray++c.toArray=(a++c).toArray:=by simp
 rw[g];exact⟨.ref _,_,I.WL (t':=s.toks) (r.append m) (by rw[List.length_append];omega),rfl,q _ I.fresh⟩
end
end L2
namespace Att
local macro_rules | `(tactic| omega) => `(tactic| lia)
open PySem PySem.W PySem.Calls PyProof.Rows
theorem L8:∀(ns:List Int) (c:List Value),WellAll P h c (ns.map WData.int)->IntsAre c ns:=by
 intro ns
 induction ns with
 |nil=>
  intro c w;rw[List.map_nil]at w;cases w;exact .nil
 |cons n ns d=>
  intro c w;rw[List.map_cons]at w;cases w with
  |cons a b=>
   cases a;exact .cons _ _ (d _ b)
theorem pI{l:OpenLaw}{n:Nat}(v:l.most=some n){P:Params}{args:List WData}
  (m:l.row.toRowW.claim.pre args=true)(A:WellAll P h b args):
  ∃a o ns,b=[Value.ref a]/\args=[WData.list (ns.map WData.int)]/\h.get? a=some {cls:=.type "list",data:=.seq o.toArray}/\IntsAre o ns/\ns.length<=n:=by
 have i:WShape.hasAll [] args [.list .int]=true:=(pre_splitW m).1;have j:l.pre.holds [] {args:=args}=true:=(pre_splitW m).2;obtain⟨d,r,rfl,p,s⟩:=hasAllW_cons i;obtain rfl:=hasAllW_nil s;obtain⟨B,rfl,u⟩:=hasW_list p;obtain⟨ns,rfl⟩:=items_int u
 have e:ns.length<=n:=by
  unfold OpenLaw.pre at j
  have f:(WTm.not (.lt (.lit (.int (n:Int))) (.len (.arg 0)))).holds [] {args:=[.list (ns.map .int)] }=true:=by
   have f:=(holds_andW j).1;rw[v]at f;exact f
  have g:=condW_of f (w_not (w_lt w_lit (w_len_list (w_arg rfl))));rw[List.length_map]at g;refine Nat.le_of_not_lt λq=>?_;have x:(n:Int)<((ns.length:Nat):Int):=by omega
  first
   |(rw[decide_eq_true x]at g;exact absurd g (by decide))
   |(simp at g;omega)
 cases A with
 |cons y z=>
  cases z;cases y with
  |list w c=>exact⟨_,_,ns,rfl,rfl,w,L8 ns _ c,e⟩
theorem pJ(l:OpenLaw)(args:List WData):l.row.toRowW.claim.post args (.bool true) args=true:=
 postW_of (r:=l.row.toRowW) (X:=(true==true))
  (show WShape.has [] (.bool true) .bool=true by first|rfl|decide|simp[WShape.has,WShape.arms,WShape.armsAll])
  (show(WTm.eq .res (.lit (.bool true))).value [] {args:=args,res:=some (.bool true),after:=args}=some (.bool (true==true))from w_eq_bool (w_res rfl) w_lit) rfl
end Att
namespace L2
local macro_rules | `(tactic| omega) => `(tactic| lia)
open PySem PySem.Spec PyProof.Rows
theorem Hu:∀{a:List mK}{ns:mv},IntsAre a ns->Ay (ns.map V.int) a
 |_,_,.nil=>.nil
 |_,_,.cons n t h=>.cons ⟨t,rfl⟩ (Hu h)
def Cb(s:Stmt):Arguments:=match s with
 | .FunctionDef _ a _ _ _ _ _ _ _ _=>a
 |_=>{posonlyargs:=[],args:=[],vararg:=none,kwonlyargs:=[],kw_defaults:=[],kwarg:=none,defaults:=[] }
def Bi(s:Stmt):List Stmt:=match s with
 | .FunctionDef _ _ b _ _ _ _ _ _ _=>b
 |_=>[]
def A8(s:Stmt):Scope:=match s with
 | .FunctionDef _ _ _ _ _ _ a _ _ _=>a
 |_=>{kind:=.function,names:=[],isGenerator:=false,isCoroutine:=false}
abbrev E0:XK:=λ_ _ _=>False
structure Dn(K:W.Frag)(x qual:Str)(st:Stmt)(f:Addr)(fd:nr):Prop where
 ex:∃(oc:mK) (od:Option Addr) (kV doc pm:mK) (an:Option Addr) (aM ct:mK) (iJ:Array (Option mK)),
  fd=W.fnOf x qual (Cb st) (Bi st) (A8 st) .none kV doc pm an aM ct/\K.lookup f=some ⟨oc,od,.func fd,iJ⟩/\W.codeIn K aM qual=true
 kp:W.keepIn K (.ref f)=true
section
variable {P:m8}{w:nP}{K:W.Frag}{mg:Str->Option mK}{base:Heap}
theorem Dn.binds{x a:Str}{st:Stmt}{f:Addr}{i:nr}{ps:List Str}(F:Dn K x a st f i)
  (h:∀(kV b e:mK) (d:Option Addr) (c ct:mK) (g:List mK),g.length=ps.length->bindArgs (W.fnOf x a (Cb st) (Bi st) (A8 st) .none kV b e d c ct) ⟨g,[]⟩=pure (ps.zip g)):Dl K i ps []:=by
 obtain⟨n,o,kV,b,e,d,c,ct,j,rfl,l,m⟩:=F.ex;exact .all (h kV b e d c ct)
theorem Qi{x a:Str}{st:Stmt}{f:Addr}{i:mK}{j e:Option Addr}{h:Array (Option mK)}{kV b g d ct:mK}(l:K.lookup f=some ⟨i,j,.func (W.fnOf x a (Cb st) (Bi st) (A8 st) .none kV b g e d ct),h⟩)
  (c:W.codeIn K d a=true)(k:W.keepIn K (.ref f)=true):Dn K x a st f (W.fnOf x a (Cb st) (Bi st) (A8 st) .none kV b g e d ct):=⟨⟨i,j,kV,b,g,e,d,ct,h,rfl,l,c⟩,k⟩
end
theorem Av(h:n<=1000):n<sizeLine:=kH h (by decide)
section
variable {X:Cx}
theorem pv(i:Nat){pos:Pos}(a:X.N[i]?=some x:=by rfl)(c:yj X.env.scope x:=by first|exact Or.inl rfl|exact Or.inr (Or.inl rfl)|exact Or.inr (Or.inr rfl))(b:(x==("__debug__":Str))=false:=by decide)
  (d:(x==("__classdict__":Str))=false:=by decide):PE X (.Name x pos) (A0i i):=vc a c b d
end
theorem Fc{c A B:Prop}[Decidable c](h1:c->A)(a:¬c->B):if c then A else B:=by
 by_cases h:c
 ·rw[if_pos h];exact h1 h
 ·rw[if_neg h];exact a h
def A9(H a:Hp):Prop:=∀b o,H b=some o->a b=some o
theorem A9.refl(H:Hp):A9 H H:=λ_ _ h=>h
theorem A9.trans(a:A9 H d)(b:A9 d e):A9 H e:=λc o h=>b c o (a c o h)
theorem A9.free(e:A9 H a)(h:a l=Option.none):H l=Option.none:=by
 cases q:H l with
 |none=>rfl
 |some o=>
  rw[e l o q]at h;cases h
theorem A9.seq{K:W.Frag}{H b:Hp}{a:Addr}{xs:List V}(e:A9 H b)(h:B6 K H a xs):B6 K b a xs:=by
 rcases h with(h|⟨o,h⟩)|h
 ·exact .inl (.inl (e _ _ h))
 ·exact .inl (.inr ⟨o,e _ _ h⟩)
 ·exact .inr h
def El(cells:List (Str×Addr)):List (Str×NameKind)->List (Str×Addr)->List (Str×Addr)
 |[],cs=>cs
 |(n,k)::r,cs=>if k==NameKind.free then El cells r ((n,(cells.lookup n).getD 0)::cs)else El cells r cs
theorem K3{cells:List (Str×Addr)}:∀{names:List (Str×NameKind)}{cs:List (Str×Addr)},(El cells names cs).lookup x=some c->
  cs.lookup x=some c\/((x,NameKind.free)∈names/\c=(cells.lookup x).getD 0)
 |[],cs,h=>.inl h
 |(n,k)::r,cs,h=>by
  unfold El at h;by_cases d:(k==NameKind.free)=true
  ·rw[if_pos d]at h;rcases K3 h with a|⟨a,b⟩
   ·rw[List.lookup_cons]at a;by_cases f:(x==n)=true
    ·rw[f]at a;have e:x=n:=eq_of_beq f;have i:k=NameKind.free:=eq_of_beq d;subst e i;exact .inr ⟨cL,(d0 a).symm⟩
    ·have g:(x==n)=false:=by simpa using f
     rw[g]at a;exact .inl a
   ·exact .inr ⟨dr _ a,b⟩
  ·rw[if_neg d]at h;rcases K3 h with a|⟨a,b⟩
   ·exact .inl a
   ·exact .inr ⟨dr _ a,b⟩
theorem Ij{cells:List (Str×Addr)}:∀{names:List (Str×NameKind)}{cs:List (Str×Addr)},(∃c,cs.lookup x=some c)->∃c,(El cells names cs).lookup x=some c
 |[],cs,h=>h
 |(n,k)::r,cs,h=>by
  unfold El;by_cases a:(k==NameKind.free)=true
  ·rw[if_pos a];refine Ij ?_;rw[List.lookup_cons];cases b:x==n with
   |true=>exact⟨_,rfl⟩
   |false=>exact h
  ·rw[if_neg a];exact Ij h
theorem F8{cells:List (Str×Addr)}:∀{names:List (Str×NameKind)}{cs:List (Str×Addr)},(x,NameKind.free)∈names->∃c,(El cells names cs).lookup x=some c
 |[],cs,h=>by cases h
 |(n,k)::r,cs,h=>by
  unfold El;rcases d3.mp h with e|h
  ·have b:x=n:=congrArg Prod.fst e;have d:NameKind.free=k:=congrArg Prod.snd e;subst b d;rw[if_pos (by decide)];refine Ij ⟨(cells.lookup x).getD 0,?_⟩;rw[List.lookup_cons,beq_self_eq_true]
  ·by_cases a:(k==NameKind.free)=true
   ·rw[if_pos a];exact F8 h
   ·rw[if_neg a];exact F8 h
theorem Ft{env:Env}:∀{names:List (Str×NameKind)}{x:Str}{b:NameKind},(∀y∈names,y.2≠NameKind.cell)->b≠ .local->(b=.cell\/b=.free)->
  (names.map λ(n,k)=>if(k==NameKind.free&&env.scope.kind== .function&&env.kindOf n==some .cell)then(n,NameKind.cell)else(n,k)).lookup x=some b->(x,NameKind.free)∈names
 |[],_,_,_,_,_,h=>by simp at h
 |(n,k)::r,x,b,g,m,f,h=>by
  have i:=@Ft env r x b (λy o=>g y (dr _ o)) m f;have a:List.lookup x ((if(k==NameKind.free&&env.scope.kind== .function&&env.kindOf n==some .cell)=true then(n,NameKind.cell)else(n,k))::(r.map λ(n,k)=>if(k==NameKind.free&&env.scope.kind== .function&&env.kindOf n==some .cell)then(n,NameKind.cell)else(n,k)))=some b:=h;by_cases d:(k==NameKind.free&&env.scope.kind== .function&&env.kindOf n==some .cell)=true
  ·rw[if_pos d,List.lookup_cons]at a
   have j:k=NameKind.free:=by
    have q:=(Bool.and_eq_true_iff.mp (Bool.and_eq_true_iff.mp d).1).1;exact eq_of_beq q
   cases c:x==n with
   |true=>
    have e:x=n:=eq_of_beq c;subst e j;exact cL
   |false=>
    rw[c]at a;exact dr _ (i a)
  ·rw[if_neg d,List.lookup_cons]at a;cases c:x==n with
   |true=>
    rw[c]at a;have e:x=n:=eq_of_beq c;have l:k=b:=d0 a;subst e l;rcases f with z|z
    ·exact absurd z (g _ cL)
    ·subst z;exact cL
   |false=>
    rw[c]at a;exact dr _ (i a)
structure Bo(sc scope:Scope)(N bR:List Str)(fr:List Nat):Prop where
 kind:scope.kind=.function
 mF:∀y∈scope.names,y.2≠NameKind.cell
 loc:∀y∈scope.names,y.2=NameKind.local->scope.names.lookup y.1=some NameKind.local
 free:∀y∈scope.names,y.2=NameKind.free->sc.names.lookup y.1=some NameKind.cell
 iI:∀j∈fr,(N[j]?.bind λx=>scope.names.lookup x)=some NameKind.free
def B9(N a:List Str)(b:List Nat):List Str:=a++b.map λj=>(N[j]?).getD ⟨#[]⟩
def D1(a:List Nat)(b:St):St:=a.map λj=>(b[j]?).getD none
def Ew(n:Nat)(a:List Nat)(b:St):St:=List.replicate n none++D1 a b
def Cj(X:Cx)(c:List Str)(a:Scope)(C:Addr)(e:mI)(b:Hp)(d:List Addr):Cx:=
 {X with N:=c,s₀:=e,H₀:=b,env:=compEnvC a (El X.env.cells a.names []) C X.env,outer:=X.stack,ex:=d,fn:=λ_=>false,pn:=[],xe:=λ_ _=>False}
def yh(X:Cx)(b:List Expr)(t:TT):Prop:=
 ∀(a:List (Addr×Obj)) (s:mI) (d:St) (H:Hp) (Q:Bool->Hp->Prop),Aj X a d H s->t d H Q->
  wpAny (model X.prog X.w) X.A (forIn b true λc r=>if r=true then do let ok <- isTrue c X.env (eval c X.env);pure (ForInStep.yield ok)else pure (ForInStep.yield r)) (TP X a d Q) X.xe s
def Oc:TT:=λ_ H Q=>Q true H
theorem Bz:yh X [] Oc:=λ_ _ _ H _ I h=>wpAny_tests_nil ⟨H,I,h⟩
theorem Qx{t:TT}(h:PT X c t):yh X [c] t:=λa s d H Q I b=>wpAny_tests_one (h a s d H Q I b)
section
variable {prog:m8}{w:nP}{A:nf}{R:Result->mI->Prop}{s:mI}
theorem Q8{pos:Pos}{env:Env}(I:Nat->mI->Prop)
  (F:∀n s,I n s->wpAny (model prog w) A (pyNext it) (λr e=>match r with
   |none=>R (.ok .next) e
   | some v => wpAny (model prog w) A (letOwnedTupleGo a it v) (fun _ f => wpAny (model prog w) A (assign a env v) (fun _ o =>
     wpAny (model prog w) A (forIn B true λc r=>if r=true then do let ok <- isTrue c env (eval c env);pure (ForInStep.yield ok)else pure (ForInStep.yield r)) (λok g=>
      if ok=true then wpAny (model prog w) A (eval y env) (λx p=>
       wpAny (model prog w) A (call (.builtin "list.append") [u,x]) (λ_ q=>∃m,m<n/\I m q) (λ_ _=>False) p) (λ_ _=>False) g
      else∃m,m<n/\I m g) (λ_ _=>False) o) (λ_ _=>False) f) (λ_ _=>False) e) (λ_ _=>False) s)
  (n:Nat)(h:I n s):
  codeAny (model prog w) A (.compLoop (.ListComp y [⟨a,l,B,0⟩] d pos) 0 it u env) R s:=by
 refine codeAny_loop rfl I (λn s G=>?_) n h;show wpAny _ A ((compTurn (.ListComp y [⟨a,l,B,0⟩] d pos) 0 it u env).onRaise (λx=>do noteFrame x env;theTreesLotGoes x)) _ _ s;refine wpAny_noted ?_;rw[compTurn_list];refine a0 (wpAny_standAt (a0 (ia (F n s G) (λr e i=>?_) λ_ _ b=>b.elim)));cases r with
 |none=>exact bc i
 |some v=>
  refine a0 (ia i (λ_ f z=>?_) λ_ _ b=>b.elim);refine a0 (ia z (λ_ o C=>a0 (ia C (λok g j=>?_) λ_ _ b=>b.elim)) λ_ _ b=>b.elim);cases ok with
  |false=>exact bc ⟨rfl,j⟩
  |true=>
   exact a0 (a0 (ia j (λx p D=>a0 (ia D (λ_ q E=>bc (bc ⟨rfl,E⟩)) λ_ _ b=>b.elim)) λ_ _ b=>b.elim))
end
def Dj(n:Nat)(l:List Nat)(J:It)(g:TG)(u:TT)(s:TE)(p:St)(D:Addr)(q:Hp)(Q:Hp->Prop):Prop:=
 ∃W:Nat->Nat->List V->Hp->Prop,(∃m,W 0 m [] (upd q D (.lst [])))/\∀i m c d,W i m c d->
  (J.stop i d/\Q d)\/(J.go i d/\∀x f,J.vJ i d x f->g x (Ew n l p) f λa r=>(∃o:St,o.length=n/\a=o++D1 l p)/\u a r λb h=>
   if b=true then s a h λy j=>j D=some (.lst c)/\c.length<sizeLine/\∃e,e<m/\W (i+1) e (c++[y]) (upd j D (.lst (c++[y])))
   else∃e,e<m/\W (i+1) e c h)
def A08(n:Nat)(c:List Nat)(f:TI)(g:TG)(e:TT)(d:TE):TE:=λb H Q=>f b H λJ a=>∀D,a D=none->Dj n c J g e d b D a (Q (.ref D))
def j6(n:Nat)(c:List Nat)(f:TI)(g:TG)(e:TT)(d:TE)(i:Nat):TS:=λD a H=>f a H λJ b=>∀l,b l=none->Dj n c J g e d a l b (D.nx (a.set i (some (.ref l))))
section
variable {X:Cx}{tg iter elt:Expr}{ifs:List Expr}{scope sc:Scope}{bR:List Str}{fr:List Nat}{wi:TI}{g:TG}{tt:TT}{te:TE}{pos:Pos}
theorem Op{I:List (Addr×Obj)}{R:St}{A:Hp}{l:mI}{it:Addr}{w:List Addr}{tn:Nat->Heap->Prop}{J:It}{RR:mK->Addr->Result->mI->Prop}{E:mr}{Qf:Hp->Prop}
  (pK:X.env.scope=sc)(S:Bo sc scope X.N bR fr)(hc:X.calm=true)
  (hg:∀C l A w,PG (Cj X (B9 X.N bR fr) scope C l A w) tg g)(ht:∀C l A w,yh (Cj X (B9 X.N bR fr) scope C l A w) ifs tt)(he:∀C l A w,PE (Cj X (B9 X.N bR fr) scope C l A w) elt te)
  (B:Aj X I R A l)(T:Rq X.prog X.w X.K tg J w it tn)(aO:tn 0 l.heap)(Z:∀b∈w,Lq X I A b)
  (run:Dj bR.length fr J g tt te R l.heap.objs.size A Qf)
  (hRR:∀(C:Addr) (K:Hp) (Y:mI),Aj X I R K Y->Lq X I K C->(∃m,Y.heap.Ns C m)->Qf K->RR (.ref l.heap.objs.size) C (.ok .next) Y):
  wpAny (model X.prog X.w) X.A (newList []) (λacc H=>wpAny (model X.prog X.w) X.A (newFunctionEnv scope X.env.globals (El X.env.cells scope.names []) [] X.env.qual none .none (some X.env)) (λJA s₄=>
   codeAny (model X.prog X.w) X.A (.compStart (.ListComp elt [⟨tg,iter,ifs,0⟩] scope pos) 0 (.ref it) acc {JA with scope:=relabel scope X.env}) (RR acc JA.locals) s₄) E H) E l:=by
 refine g6 (wpAny_newFunctionEnv S.mF (by intro y hy;simp at hy) (λG BJ vQ=>?_) S.kind);dsimp only at BJ vQ⊢;generalize WM:l.heap.push {cls:=.type "list",dict:=none,data:=.seq ([]:List mK).toArray}=D at BJ vQ⊢;have hC:D.objs.size=l.heap.objs.size+1:=by rw[<- WM,Heap.size_push]
 have hDC:l.heap.objs.size≠D.objs.size:=by rw[hC];exact ed (Nat.lt_succ_self _)
 have hle:l.heap.objs.size<=D.objs.size:=by rw[hC];exact Nat.le_succ _
 have F:∀b,b<l.heap.objs.size->b≠D.objs.size/\b≠l.heap.objs.size:=λb s=>⟨ed (eT s hle),ed s⟩;have P:∀b o,l.heap.get? b=some o->G.get? b=some o:=λb o e=>vQ.extBut b o (F b (dg e)).1 (bZ _ (WM▸bZ _ e));have WN:G.get? l.heap.objs.size=some {cls:=.type "list",data:=.seq ([]:List mK).toArray 0}:=vQ.extBut _ _ hDC (bZ _ (WM▸cI _ rfl));have BK:∀y∈scope.names,y.2=NameKind.free->∃c,X.env.cells.lookup y.1=some c:=λy hy e=>B.ok.has y.1 (.inl (by show X.env.scope.names.lookup y.1=_;rw[pK];exact S.free y hy e))
 have mG:∀x c,(El X.env.cells scope.names []).lookup x=some c->X.env.cells.lookup x=some c:=λx c e=>by
  rcases K3 e with z|⟨z1,z2⟩
  ·simp at z
  ·obtain⟨c',e'⟩:=BK _ z1 rfl;rw[z2,e'];rfl
 have BL:∀x c,X.env.cells.lookup x=some c->c<l.heap.objs.size:=λx c e=>by
  obtain⟨v,q⟩:=B.cell x c e;exact q.lt
 have BM:∀b∈w,b<l.heap.objs.size:=λb s=>by
  obtain⟨o,e,_⟩:=T.obj 0 _ aO b s;exact dg e
 have WO:(Cj X (B9 X.N bR fr) scope D.objs.size l A w).Ok:=by
  refine⟨B.ok.mod,S.kind,B.ok.glob,B.ok.blt,hle,λx y c e1 e2=>B.ok.inj x y c (mG x c e1) (mG y c e2),λx M=>?_,λx c z _=>absurd z eI,B.ok.hd,B.ok.frames,.inl rfl,
   λb s=>⟨(F b (BM b s)).1,λx c e=>(Z b s).2.2.2.2.1 x c (mG x c e)⟩,B.bs,dI B.ok.vI B.sz,λb o e s=>?_,λb s z=>?_,B.stack,B.gT⟩
  ·rcases M with M|M
   ·exact F8 (Ft (env:=X.env) S.mF (by decide) (.inl rfl) M)
   ·exact F8 (Ft (env:=X.env) S.mF (by decide) (.inr rfl) M)
  ·rcases(Z b s).2.2.2.1 with z|z
   ·exact B.ok.qH b o e z
   ·exact absurd (eT (dg e) (dI B.ok.vI z)) (Nat.lt_irrefl _)
  ·rcases d3.mp (B.mC b z)with z|z
   ·exact(Z b s).2.1 z
   ·exact(Z b s).2.2.1 z
 have I3:Aj (Cj X (B9 X.N bR fr) scope D.objs.size l A w) [] (Ew bR.length fr R) (upd A l.heap.objs.size (.lst [])) {l with heap:=G,toks:=l.toks+([]:List (Str×mK)).length}:=by
  refine⟨WO,rfl,B.bare,Un.laid P (da _) B.fresh,⟨_,BJ,λi x v e1 e2 e3=>?_⟩,λx c e=>?_,?_,λx c e=>?_,λp hp=>absurd (show p∈([]:List (Addr×Obj))from hp) (by simp),B.aF.laid P (da _) ⟨jT _,[],0,.nil,WN⟩,?_⟩
  ·--a name of the comprehension that has a value at the start is one of the def's cells
   have hi:bR.length<=i:=by
    refine Nat.le_of_not_lt λaK=>?_;unfold Ew at e2;rw[List.getElem?_append_left (by simpa using aK),List.getElem?_replicate,if_pos aK]at e2;cases e2
   have TJ:(D1 fr R)[i-bR.length]?=some (some v):=by
    unfold Ew at e2;rw[List.getElem?_append_right (by simpa using hi)]at e2;simpa using e2
   have jD:(fr.map λj=>(X.N[j]?).getD ⟨#[]⟩)[i-bR.length]?=some x:=by
    have e1:(B9 X.N bR fr)[i]?=some x:=e1;unfold B9 at e1;rw[List.getElem?_append_right hi]at e1;exact e1
   unfold D1 at TJ;rw[List.getElem?_map]at jD TJ;cases ej:fr[i-bR.length]? with
   |none=>rw[ej]at jD;cases jD
   |some j=>
    rw[ej]at jD TJ;have e1j:(X.N[j]?).getD ⟨#[]⟩=x:=d0 jD;have TK:(R[j]?).getD none=some v:=d0 TJ;have iP:=S.iI j (cb ej);cases eN:X.N[j]? with
    |none=>rw[eN]at iP;cases iP
    |some N=>
     rw[eN]at iP e1j;have ex:N=x:=e1j;subst ex;have hfx:scope.names.lookup N=some NameKind.free:=iP
     have hσ:R[j]?=some (some v):=by
      cases eσ:R[j]? with
      |none=>rw[eσ]at TK;cases TK
      |some o=>rw[eσ]at TK;exact congrArg some TK
     have bS:=PySem.mem_of_lookup hfx;have hkc:X.env.scope.names.lookup N=some NameKind.cell:=by rw[pK];exact S.free _ bS rfl
     obtain⟨m,hn,hl⟩:=B.loc;obtain⟨u,ru,lk⟩:=hl j N v eN hσ (.inr (.inl hkc));refine⟨u,ru,.inr ⟨?_,?_⟩⟩
     ·have e3:(relabel scope X.env).names.lookup N=some NameKind.local\/(relabel scope X.env).names.lookup N=some NameKind.cell\/(relabel scope X.env).names.lookup N=some NameKind.free:=e3;rcases e3 with z|z|z
      ·exfalso
       have key:∀(names:List (Str×NameKind)),names.lookup N=some NameKind.free->(names.map λ(n,k)=>if(k==NameKind.free&&X.env.scope.kind== .function&&X.env.kindOf n==some .cell)then(n,NameKind.cell)else(n,k)).lookup N≠some NameKind.local:=by
        intro names
        induction names with
        |nil=>intro h;simp at h
        |cons p r ih=>
         obtain⟨n,k⟩:=p;intro h L;have L:List.lookup N ((if(k==NameKind.free&&X.env.scope.kind== .function&&X.env.kindOf n==some .cell)=true then(n,NameKind.cell)else(n,k))::(r.map λ(n,k)=>if(k==NameKind.free&&X.env.scope.kind== .function&&X.env.kindOf n==some .cell)then(n,NameKind.cell)else(n,k)))=some NameKind.local:=L;rw[List.lookup_cons]at h;cases M:N==n with
         |true=>
          rw[M]at h;have ek:k=NameKind.free:=d0 h;subst ek;split at L
          ·rw[List.lookup_cons,M]at L;cases L
          ·rw[List.lookup_cons,M]at L;cases L
         |false=>
          rw[M]at h;split at L
          ·rw[List.lookup_cons,M]at L;exact ih h L
          ·rw[List.lookup_cons,M]at L;exact ih h L
       exact key scope.names hfx z
      ·exact .inl z
      ·exact .inr z
     ·obtain⟨c,ec⟩:=F8 (cells:=X.env.cells) (cs:=[]) bS;rcases lk with⟨k1,_⟩|⟨_,c',ec',ic⟩
      ·have k1:X.env.scope.names.lookup N=some NameKind.local:=k1;rw[hkc]at k1;cases k1
      ·have q:=mG _ _ ec;rw[ec']at q;have q':c'=c:=d0 q;subst q';exact⟨_,ec,ic.keeps P⟩
  ·obtain⟨v,q⟩:=B.cell x c (mG x c e);exact⟨v,q.keeps P⟩
  ·show upd A l.heap.objs.size (.lst []) D.objs.size=none;rw[Ab hDC.symm];exact B.aF.fresh hle
  ·rw[Ab (Nat.ne_of_lt (BL x c (mG x c e)))];exact B.bE x c (mG x c e)
  ·unfold Ew D1;show _=(B9 X.N bR fr).length;unfold B9;simp
 obtain⟨W,⟨m0,w0⟩,turn⟩:=run
 have Q:∀{U:Hp},(∀b∈w,U b=none)->∀b∈w,Lq (Cj X (B9 X.N bR fr) scope D.objs.size l A w) [] U b:=λhn b s=>
  ⟨hn b s,(F b (BM b s)).1,WO.qI b s,.inl s,(WO.VX b s).2,λp hp=>absurd (show p∈([]:List (Addr×Obj))from hp) (by simp)⟩
 have SX:∀b∈w,upd A l.heap.objs.size (.lst []) b=none:=λb s=>by rw[Ab (F b (BM b s)).2];exact(Z b s).1
 have gQ:tn 0 G:=T.keep 0 _ _ aO λb _ o e=>P b o e
 have fin:∀{K:Hp}{Y:mI},Aj (Cj X (B9 X.N bR fr) scope D.objs.size l A w) [] (Ew bR.length fr R) K Y->Qf K->RR (.ref l.heap.objs.size) D.objs.size (.ok .next) Y:=λ{K Y} I4 q=>by
  obtain⟨m,hn,_⟩:=id I4.loc;have ub:Un (iI X.stack) w A K l.heap Y.heap:=I4.base;refine hRR D.objs.size K Y (B.xM (ch:=w) (s':=Y) I4.os ub I4.aF I4.bare λb s=>⟨(Z b s).2.2.2.1,(Z b s).2.1,(Z b s).2.2.2.2.1,(Z b s).2.2.2.2.2⟩) (B.mE hle I4.free) ⟨m,hn⟩ q
 have loop:∀H:mI,H={l with heap:=G,toks:=l.toks+([]:List (Str×mK)).length}->
   codeAny (model X.prog X.w) X.A (.compLoop (.ListComp elt [⟨tg,iter,ifs,0⟩] scope pos) 0 (.ref it) (.ref l.heap.objs.size) (compEnvC scope (El X.env.cells scope.names []) D.objs.size X.env)) (RR (.ref l.heap.objs.size) D.objs.size) H:=by
  rintro H rfl;refine Q8 (λn s'=>∃i ys U,Aj (Cj X (B9 X.N bR fr) scope D.objs.size l A w) [] (Ew bR.length fr R) U s'/\tn i s'.heap/\(∀b∈w,U b=none)/\W i n ys U) ?_ m0 ⟨0,[],_,I3,gQ,SX,w0⟩;rintro n s5 ⟨i,ys,K,J3,sti,fri,w3⟩;rcases turn i n ys K w3 with⟨stop,q⟩|⟨go,step⟩
  ·refine ia (T.done (Cj X (B9 X.N bR fr) scope D.objs.size l A w) rfl rfl rfl hc i [] s5 _ K (λ_ _=>False) J3 (Q fri) sti stop) (λr s6 ⟨hr,J4⟩=>?_) (λ_ _ f=>f);subst hr;exact fin J4 q
  ·refine ia (T.item (Cj X (B9 X.N bR fr) scope D.objs.size l A w) rfl rfl rfl hc i [] s5 _ K (λ_ _=>False) J3 (Q fri) sti go) (λr s6 ⟨u,hr,h6⟩=>?_) (λ_ _ f=>f);subst hr;refine ia h6 (λ_ s7 ⟨x,H7,J7,r7,y7,WQ,fr7⟩=>?_) (λ_ _ f=>f);have J7':=J7.pinned (Q fr7) (T.obj _ _ WQ);refine ia (hg D.objs.size l A w _ s7 _ H7 x u _ J7' r7 (step x H7 y7)) (λ_ s8 ⟨σ8,H8,J8,⟨zs,hz,e8⟩,q8⟩=>?_) (λ_ _ f=>f)
   have O:∀{H9:Hp}{s9:mI}{pY:List V},Aj (Cj X (B9 X.N bR fr) scope D.objs.size l A w) ([]++N8 w s7.heap) σ8 H9 s9->(∃m',m'<n/\W (i+1) m' pY H9)->
     ∃m,m<n/\∃i ys U,Aj (Cj X (B9 X.N bR fr) scope D.objs.size l A w) [] (Ew bR.length fr R) U s9/\tn i s9.heap/\(∀b∈w,U b=none)/\W i m ys U:=λ{H9 s9 pY} J9 ⟨m',hm,w9⟩=>by
    refine⟨m',hm,i+1,pY,H9,J9.dA.weak ?_ ?_,T.keep _ _ _ WQ λb s o e=>(J9.pin (b,o) (gd _ (gd _ (Fn s e)))).1,λb s=>?_,w9⟩
    ·rw[e8];unfold Ew;simp[hz]
    ·intro k v ek;rw[e8];unfold Ew at ek;by_cases hk:k<bR.length
     ·rw[List.getElem?_append_left (by simpa using hk),List.getElem?_replicate,if_pos hk]at ek;cases ek
     ·rw[List.getElem?_append_right (by simpa using hk)]at ek;rw[List.getElem?_append_right (by omega),hz];simpa using ek
    ·obtain⟨o,e,d⟩:=T.obj _ _ WQ b s;exact(J9.pin (b,o) (gd _ (gd _ (Fn s e)))).2.1
   refine ia (ht D.objs.size l A w _ s8 σ8 H8 _ J8 q8) (λok s9 ⟨H9,J9,q9⟩=>?_) (λ_ _ f=>f);cases ok with
   |false=>
    rw[if_neg Bool.false_ne_true]at q9⊢;exact O J9 q9
   |true=>
    rw[if_pos rfl]at q9⊢;refine ia (he D.objs.size l A w _ s9 σ8 H9 _ J9 q9) (λy xP ⟨v10,BN,J10,r10,hD,hlen,WR⟩=>?_) (λ_ _ f=>f);refine ia (E3 (X:=Cj X (B9 X.N bR fr) scope D.objs.size l A w) _ xP σ8 BN (.ref l.heap.objs.size) [v10] (.ref l.heap.objs.size) [y] (λ_ WS=>WS=upd BN l.heap.objs.size (.lst (ys++[v10]))) J10 rfl (.cons r10 .nil) ⟨_,ys,v10,rfl,rfl,hD,hlen,rfl⟩) (λ_ BO ⟨_,WS,J11,_,TL⟩=>?_) (λ_ _ f=>f);subst TL;exact O J11 WR
 exact codeAny_compStart_list (loop _ rfl) (T.self _ 0 _ _ _ gQ (loop _ rfl))
theorem Cy(hi:PI X tg iter wi)(sc:Scope)(N:X.env.scope=sc)(S:Bo sc scope X.N bR fr)(F:X.calm=true)(O:closureFor scope X.env=pure (El X.env.cells scope.names []))
  (G:∀C c d f,PG (Cj X (B9 X.N bR fr) scope C c d f) tg g)(M:∀C c d f,yh (Cj X (B9 X.N bR fr) scope C c d f) ifs tt)(he:∀C c d f,PE (Cj X (B9 X.N bR fr) scope C c d f) elt te)
  (L:∀x,foldedSetIterable iter X.env x=pure x:=by intro _;rfl):PE X (.ListComp elt [⟨tg,iter,ifs,0⟩] scope pos) (A08 bR.length fr wi g tt te):=by
 intro a s n H Q I h;rw[eval_ListComp];refine wpAny_comprehension_free (use:=none) rfl L O S.kind S.loc (ia (hi a s n H _ I h) (λv s1 B=>ia B (λR c D=>?_) λ_ _ e=>e) λ_ _ e=>e);obtain⟨it,f,tn,J,d,e,l,T,y,z,R2⟩:=D;subst e;refine Op (RR:=λj C=>compPost (model X.prog X.w) X.A X.xe none (EP X a n Q) j C) N S F G M he l T y z (R2 _ l.fresh) ?_;intro C p P r i ⟨m,K⟩ q;refine⟨m,K,λA u=>⟨.ref c.heap.objs.size,p,?_,rfl,q⟩⟩;obtain⟨Z,Y,U,w,oo⟩:=P;exact r.turned (h':=A) (t':=w) (it:=C) (λb o E e=>u.extBut b o E e) i.1 i.2.1 i.2.2.2.1 i.2.2.2.2.1 i.2.2.2.2.2
theorem Cs(Z:X.N.Nodup)(u:X.N[i]?=some y)(hi:PI X tg iter wi)(sc:Scope)(pK:X.env.scope=sc)(S:Bo sc scope X.N bR fr)(hc:X.calm=true)
  (qM:closureFor scope X.env=pure (El X.env.cells scope.names []))
  (hg:∀C f j l,PG (Cj X (B9 X.N bR fr) scope C f j l) tg g)(ht:∀C f j l,yh (Cj X (B9 X.N bR fr) scope C f j l) ifs tt)(he:∀C f j l,PE (Cj X (B9 X.N bR fr) scope C f j l) elt te)
  (E:X.env.scope.names.lookup y=some NameKind.local)
  (w:swapsWith (.ListComp elt [⟨tg,iter,ifs,0⟩] scope pos) (some (.Name y n)) B.line X.env=pure true)
  (hs:∀x,foldedSetIterable iter X.env x=pure x:=by intro _;rfl):
  PS X (.Assign [.Name y n] (.ListComp elt [⟨tg,iter,ifs,0⟩] scope pos) B) (j6 bR.length fr wi g tt te i):=by
 intro c s σ H D I h;rw[exec_Assign_Name_used _ _ _ _ w];refine a0 (wpAny_standAt (a0 ?_));show wpAny _ X.A (do let _ <- comprehension (.ListComp elt [⟨tg,iter,ifs,0⟩] scope pos) scope X.env _ (newList []) false (eval iter X.env) (some (assign (.Name y n) X.env))) _ _ s
 refine a0 (ia (wpAny_comprehension_free (use:=some (assign (.Name y n) X.env)) (Q:=λ_ p=>SP X c D .next p) rfl hs qM S.kind S.loc
  (ia (hi c s σ H _ I h) (λv s1 U=>ia U (λSW f Y=>?_) λ_ _ e=>e) λ_ _ e=>e)) (λ_ p hq=>bc (bc hq)) λ_ _ e=>e)
 obtain⟨it,l,tn,J,j,e,A,T,P,Q,R2⟩:=Y;subst e;refine Op (RR:=λr C=>compPost (model X.prog X.w) X.A X.xe (some (assign (.Name y n) X.env)) (λ_ p=>SP X c D .next p) r C) pK S hc hg ht he A T P Q (R2 _ A.fresh) ?_;intro C F s4 G d ⟨m,hn⟩ q;refine wpAny_assign_Name (Pn (v:=.ref f.heap.objs.size) G Z u (.inl E) rfl (λs5 K ⟨a,O,ha⟩=>?_) (.inr E))
 have M:C≠a:=by
  rcases ha with z|z
  ·rw[z];exact d.2.1
  ·exact λz2=>d.2.2.2.2.1 y a z z2.symm
 refine⟨m,hn.sameBut O M,λR L=>⟨_,F,?_,q⟩⟩;obtain⟨hh,gg,dd,N,oo⟩:=s5;exact K.turned (h':=R) (t':=N) (it:=C) (λb o hb e=>L.extBut b o hb e) d.1 d.2.1 d.2.2.2.1 d.2.2.2.2.1 d.2.2.2.2.2
end
open PySem.Builtin.Int (intBits)
section
variable {X:Cx}
theorem Hn:Gd X (binaryOp .Mult) (rI IntMulOk λi j=>.int (i*j)):=xx λ_ _ _ _ _ _ _ a q=>mul_int q a
end
theorem Wt(c:intBits a<=m)(d:intBits b<=n)(h:m+n<=134217728):IntMulOk a b:=PyProof.Rows.mulOk_of_bits c d h
theorem Wu(h1:-(2^64)<b)(c:b<2^64):IntMulOk a b:=IntMulOk.of_right (intBits_le_64 h1 c)
theorem Ol(d:0<b)(c:intBits a<=m):intBits (a/b)<=m:=by
 rw[<- Int.fdiv_eq_ediv_of_nonneg a (Int.le_of_lt d)];exact bits_fdiv c
def cf(T C:String):Option Bool:=if(Value.type T==Value.type C)=true then some true else if W.kitMeta C=true then(fastBuiltinMro T).map (·.contains (Value.type C))else none
theorem cg(K:W.Frag)(T C:String):W.kitOne K (.type T) (.type C)=cf T C:=rfl
theorem Ut:cf "int" "int"=some true:=by decide+kernel
theorem Sk:cf "int" "bool"=some false:=by decide+kernel
theorem Mo:cf "tuple" "tuple"=some true:=by decide+kernel
section
variable {X:Cx}
def zq(K:W.Frag):List V->Hp->VK->Prop:=λa H Q=>∃x T C b,a=[x,.ty C]/\K1 K H x (.type T)/\cf T C=some b/\Q (.bl b) H
theorem Zx:D9 X (.builtin "isinstance") (zq X.K):=by
 intro a s l H j i Q I r h;obtain⟨x,T,C,b,rfl,ty,e,q⟩:=h;obtain⟨u,f,rfl,d,c⟩:=jc r;obtain rfl:f=Value.type C:=c;exact Yk I d ty ((cg X.K T C).trans e) λg=>⟨.bl b,H,I.tok _,rfl,q⟩
theorem di{pos:Pos}(b:Gl X x)(c:X.mg x=none)(e:bootBuiltins x=some (.type T))(d:x≠"__name__":=by decide)(a:(x==("__debug__":Str))=false:=by decide):PE X (.Name x pos) (tC (.ty T)):=
 lp b c e rfl d a
end
mutual
def Rp(H:Hp):nX->V->Prop
 | .none,v=>v=.aP
 | .bool b,v=>v=.bl b
 | .int i,v=>v=.int i
 | .tuple d,v=>∃a c,v=.ref a/\H a=some (.tup c)/\aB H d c
 | .list d,v=>∃a c,v=.ref a/\H a=some (.lst c)/\aB H d c
 | .str x,v=>v=.str x/\PyData.strOk x=true
 | .dict _,_=>False
def aB(H:Hp):List nX->List V->Prop
 |[],vs=>vs=[]
 |d::b,vs=>∃x a,vs=x::a/\Rp H d x/\aB H b a
end
mutual
theorem Ck:∀(d:nX) (v:V),Rp H d v->d.canLay0=true
 | .none,_,_=>rfl
 | .bool _,_,_=>rfl
 | .int _,_,_=>rfl
 | .tuple b,_,h=>by
  unfold Rp at h;obtain⟨a,c,_,_,h⟩:=h;exact eK b c h
 | .list b,_,h=>by
  unfold Rp at h;obtain⟨a,c,_,_,h⟩:=h;exact eK b c h
 | .str x,v,h=>by
  unfold Rp at h;exact h.2
 | .dict _,_,h=>by unfold Rp at h;exact h.elim
theorem eK:∀(a:List nX) (b:List V),aB H a b->PyData.canLayAll0 a=true
 |[],_,_=>rfl
 |d::a,b,h=>by
  unfold aB at h;obtain⟨x,f,_,c,e⟩:=h;show(d.canLay0&&PyData.canLayAll0 a)=true;rw[Ck d x c,eK a f e];rfl
end
section
variable {X:Cx}{pins:List (Addr×Obj)}{σ:St}{H:Hp}{s:mI}
mutual
theorem Ce(I:Aj X pins σ H s):∀(d:nX) (v:V) (u:mK),Rp H d v->B0 v u->∃e,Reads s.heap u d e
 | .none,v,u,h,r=>by
  unfold Rp at h;subst h;cases r;exact⟨_,.none⟩
 | .bool b,v,u,h,r=>by
  unfold Rp at h;subst h;cases r;exact⟨_,.bool b⟩
 | .int i,v,u,h,r=>by
  unfold Rp at h;subst h;obtain⟨t,rfl⟩:=r;exact⟨_,.int i t⟩
 | .tuple f,v,u,h,r=>by
  unfold Rp at h;obtain⟨a,j,rfl,g,h⟩:=h;cases r;obtain⟨_,c,rv,p⟩:=I.aF a _ g;obtain⟨o,l,m,n,w⟩:=p;obtain⟨e,q⟩:=cA I f j c h rv;exact⟨_,.tuple l m w (by simpa using q)⟩
 | .list f,v,u,h,r=>by
  unfold Rp at h;obtain⟨a,j,rfl,g,h⟩:=h;cases r;obtain⟨_,c,n,rv,p⟩:=I.aF a _ g;obtain⟨e,q⟩:=cA I f j c h rv;exact⟨_,.list p rfl rfl (by simpa using q)⟩
 | .str x,v,u,h,r=>by
  unfold Rp at h;obtain⟨rfl,_⟩:=h;obtain⟨t,rfl⟩:=r;exact⟨_,.str x t⟩
 | .dict _,_,_,h,_=>by unfold Rp at h;exact h.elim
theorem cA(I:Aj X pins σ H s):∀(a:List nX) (vs:List V) (b:List mK),aB H a vs->Ay vs b->∃c,ReadsAll s.heap b a c
 |[],vs,b,h,r=>by
  unfold aB at h;subst h;cases r;exact⟨_,.nil⟩
 |d::a,vs,b,h,r=>by
  unfold aB at h;obtain⟨x,m,rfl,e,f⟩:=h;cases r with
  |cons j l=>
   obtain⟨c,g⟩:=Ce I d x _ e j;obtain⟨bs,i⟩:=cA I a m _ f l;exact⟨_,.cons g i⟩
end
end
section
variable {X:Cx}{k:Nat}
def zp(a:Bool):R2:=λx y H Q=>∃d e:nX,Rp H d x/\Rp H e y/\d.depth<=60/\Q (.bl (if a then !PyData.eqv d e else PyData.eqv d e)) H
theorem uv(f:Ba k X.A):Gd X (compareOp .Eq) (zp false):=by
 intro c s p H x y v u Q I j l h;obtain⟨d,e,a,b,n,q⟩:=h;obtain⟨m,g⟩:=Ce I d x v a j;obtain⟨bs,i⟩:=Ce I e y u b l;have o:=f.units;exact PySem.SeqAt.compareEq_reads g i (Ck d x a) (Ck e y b) (by omega) ⟨.bl (PyData.eqv d e),H,I,rfl,q⟩
theorem uz(f:Ba k X.A):Gd X (compareOp .NotEq) (zp true):=by
 intro c s p H x y v u Q I j l h;obtain⟨d,e,a,b,n,q⟩:=h;obtain⟨m,g⟩:=Ce I d x v a j;obtain⟨bs,i⟩:=Ce I e y u b l;have o:=f.units;exact PySem.SeqAt.compareNe_reads g i (Ck d x a) (Ck e y b) (by omega) ⟨.bl (!PyData.eqv d e),H,I,rfl,q⟩
end
theorem X6:∀ns:mv,aB H (ns.map PyData.int) (ns.map V.int)
 |[]=>by unfold aB;rfl
 |n::ns=>by
  show aB H (PyData.int n::ns.map PyData.int) (V.int n::ns.map V.int);unfold aB;exact⟨_,_,rfl,by unfold Rp;rfl,X6 ns⟩
theorem A9.new(e:A9 H a)(h:H p=none):A9 H (upd a p o):=λb u q=>by
 rw[Ab (Ae q h)];exact e b u q
theorem A9.upd(h:H p=none):A9 H (upd H p o):=(A9.refl H).new h
section
variable {X:Cx}{tg:Expr}
def A10(K:W.Frag):R2:=λx y H Q=>∃p a i v,x=.ref p/\y=.int i/\(B6 K H p a\/Cu K H p a)/\U9 a i=some v/\Q v H
theorem C0(K:W.Frag)(o:X.K=K:=by rfl):TC X (A10 K):=by
 subst o;intro b a c s n H x y v u Q I j l h g;obtain⟨p,m,i,z,d,e,h|h,f,q⟩:=h
 ·exact kr b a c s n H x y v u Q I j l ⟨p,m,i,z,d,e,h,f,q⟩ g
 ·exact r8 b a c s n H x y v u Q I j l ⟨p,m,i,z,d,e,h,f,q⟩ g
def A12(K:W.Frag):List V->Hp->VK->Prop:=λb H Q=>∃p a,b=[.ref p]/\(B6 K H p a\/Cu K H p a)/\Q (.int a.length) H
theorem Bt(K:W.Frag)(a:X.K=K:=by rfl):D9 X (.builtin "len") (A12 K):=by
 subst a;exact Q6
theorem K2(K:W.Frag)(a:X.K=K:=by rfl):D9 X (.builtin "isinstance") (zq K):=by
 subst a;exact Zx
theorem uw(K:W.Frag)(a:X.K=K:=by rfl):Gd X (compareOp .In) (rIn K false):=by
 subst a;exact Z1
theorem Tn(K:W.Frag)(a:X.K=K:=by rfl):WH X (zw K):=by
 subst a;exact mq
theorem Dx(K:W.Frag){t:nu}{pos:Pos}(c:X.calm=true)(h:ye X es t)(b:X.K=K:=by rfl)
  (d:(assignEach es X.env).length=n:=by rfl)(a:(assignEach es X.env).findIdx? (·.1)=none:=by rfl):PG X (.Tuple es e pos) (qt K n t):=by
 subst b;exact vd c h d a
def iSq(K:W.Frag)(d:TE):TI:=λe H R=>d e H λx b=>∃a,x=.ref a/\(((∃c,B6 K b a c)/\R (pp K a) b)\/((∃c,Cu K b a c)/\R (xu K a) b))
theorem Ci(w:PE X l r):PI X tg l (iSq X.K r):=by
 intro f s B H R I h;refine Bj (w f s B H _ I h) λv c u=>?_;obtain⟨x,m,d,z,j⟩:=u;obtain⟨a,e,j⟩:=j;subst e;cases z;rcases j with⟨⟨A,i⟩,q⟩|⟨⟨A,i⟩,q⟩
 ·obtain⟨n,rv,p,y⟩:=d.list i;refine wpAny_pyIter_list p.isList ?_;refine⟨c.heap.objs.size,[c.heap.objs.size],_,_,m,rfl,d.kept (t':=c.toks) λb o e=>bZ _ e,Zd a _,⟨_,cI _ rfl,rfl,rfl⟩,λb g=>?_,q⟩;have e:b=c.heap.objs.size:=by simpa using g
  subst e;exact d.mE (da _) (d.aF.fresh (da _))
 ·obtain⟨n,rv,p,y⟩:=d.tuple i;refine wpAny_pyIter_tuple (show c.heap.IsTuple a n.toArray from p) ?_;refine⟨c.heap.objs.size,[c.heap.objs.size],_,_,m,rfl,d.kept (t':=c.toks) λb o e=>bZ _ e,Vv a _,⟨_,cI _ rfl,rfl,rfl⟩,λb g=>?_,q⟩;have e:b=c.heap.objs.size:=by simpa using g
  subst e;exact d.mE (da _) (d.aF.fresh (da _))
end
theorem E6{g:List Nat}{Q:Hp->Prop}{lo:Int}{cnt:Nat}(a:Nat->List V->Hp->Prop)(h0:a 0 [] (upd d D (.lst [])))
  (q:∀i ys H,i<cnt->a i ys H->∀f:VK,(∀y b,b D=some (.lst ys)->ys.length<sizeLine->a (i+1) (ys++[y]) (upd b D (.lst (ys++[y])))->f y b)->h (some (.int (lo+i))::D1 g j) H f)
  (o:∀ys H,a cnt ys H->Q H):Dj 1 g (nq lo cnt) (Je 0) Oc h j D d Q:=by
 refine⟨λi m ys H=>m=cnt-i/\i<=cnt/\a i ys H,⟨cnt,by simp,jT _,h0⟩,?_⟩;rintro i m ys l ⟨rfl,u,p⟩;by_cases c:i<cnt
 ·refine .inr ⟨c,λx s y=>?_⟩;obtain⟨e,y⟩:=y;subst e y;refine⟨⟨[some (.int (lo+i))],rfl,rfl⟩,?_⟩;simp only[Oc,↓reduceIte];exact q i ys _ c p _ λy b n r pv=>⟨n,r,cnt-(i+1),by omega,rfl,c,pv⟩
 ·have e:i=cnt:=by omega
  subst e;exact .inl ⟨da _,o ys l p⟩
theorem Cw{K:W.Frag}{a:Addr}{xs:List V}{j:List Nat}{l:TE}{n:St}{D:Addr}{f:Hp}{Q:Hp->Prop}(b:Nat->List V->Hp->Prop)(h0:b 0 [] (upd f D (.lst [])))
  (u:∀i ys H,i<=xs.length->b i ys H->B6 K H a xs)
  (v:∀i x ys H,xs[i]?=some x->b i ys H->∀g:VK,(∀y c,c D=some (.lst ys)->ys.length<sizeLine->b (i+1) (ys++[y]) (upd c D (.lst (ys++[y])))->g y c)->l (some x::D1 j n) H g)
  (r:∀ys H,b xs.length ys H->Q H):Dj 1 j (pp K a) (Je 0) Oc l n D f Q:=by
 refine⟨λi m ys H=>m=xs.length-i/\i<=xs.length/\b i ys H,⟨xs.length,by simp,jT _,h0⟩,?_⟩;rintro i m ys d ⟨rfl,s,p⟩;have q:=u i ys d s p;by_cases h:i<xs.length
 ·refine .inr ⟨⟨xs,xs[i],q,by simp[h]⟩,λx z y=>?_⟩;obtain⟨e,y⟩:=y;subst e;refine⟨⟨[some x],rfl,rfl⟩,?_⟩;simp only[Oc,↓reduceIte];exact v i x ys _ (y xs q) p _ λy c o w pv=>⟨o,w,xs.length-(i+1),by omega,rfl,h,pv⟩
 ·have e:i=xs.length:=by omega
  subst e;exact .inl ⟨⟨xs,q,da _⟩,r ys d p⟩
theorem aa{K:W.Frag}{a:Addr}{xs:List V}{j:List Nat}{l:TE}{n:St}{D:Addr}{f:Hp}{Q:Hp->Prop}(b:Nat->List V->Hp->Prop)(h0:b 0 [] (upd f D (.lst [])))
  (u:∀i ys H,i<=xs.length->b i ys H->Cu K H a xs)
  (v:∀i x ys H,xs[i]?=some x->b i ys H->∀g:VK,(∀y c,c D=some (.lst ys)->ys.length<sizeLine->b (i+1) (ys++[y]) (upd c D (.lst (ys++[y])))->g y c)->l (some x::D1 j n) H g)
  (r:∀ys H,b xs.length ys H->Q H):Dj 1 j (xu K a) (Je 0) Oc l n D f Q:=by
 refine⟨λi m ys H=>m=xs.length-i/\i<=xs.length/\b i ys H,⟨xs.length,by simp,jT _,h0⟩,?_⟩;rintro i m ys d ⟨rfl,s,p⟩;have q:=u i ys d s p;by_cases h:i<xs.length
 ·refine .inr ⟨⟨xs,xs[i],q,by simp[h]⟩,λx z y=>?_⟩;obtain⟨e,y⟩:=y;subst e;refine⟨⟨[some x],rfl,rfl⟩,?_⟩;simp only[Oc,↓reduceIte];exact v i x ys _ (y xs q) p _ λy c o w pv=>⟨o,w,xs.length-(i+1),by omega,rfl,h,pv⟩
 ·have e:i=xs.length:=by omega
  subst e;exact .inl ⟨⟨xs,q,da _⟩,r ys d p⟩
def J6(ns:mv)(k:Int):Int:=(ns[k.toNat]?).getD 0
theorem jq{ns:mv}{k:Int}(h0:0<=k)(h:k<ns.length):U9 (ns.map V.int) k=some (.int (J6 ns k)):=by
 obtain⟨j,rfl⟩:∃j:Nat,k=j:=⟨k.toNat,by omega⟩;have a:j<ns.length:=by omega
 refine J1 ?_;unfold J6;rw[List.getElem?_map,Int.toNat_natCast,List.getElem?_eq_getElem a];rfl
theorem Y1{k:Int}(h0:0<=k)(h:¬k<ns.length):J6 ns k=0:=by
 unfold J6;rw[List.getElem?_eq_none (by omega)];rfl
theorem Ia{c:Bool}{A B:Prop}(a:c=true)(h:A):if c=true then A else B:=by rw[if_pos a];exact h
theorem D6{c:Bool}{A B:Prop}(a:c=false)(h:B):if c=true then A else B:=by rw[if_neg (by rw[a];exact Bool.false_ne_true)];exact h
theorem C9{xs:List V}(h:xs.length<=1000:=by simp):xs.length<=sizeLine:=kG (Av h)
theorem Ln(h:n<=1000):n<=sizeLine:=kG (Av h)
def dT(ws:mv):nX:=.tuple (ws.map PyData.int)
def dP(d e:nX):nX:=.tuple [d,e]
def vO:mx->V
 |none=>.aP
 |some i=>.int i
theorem Nf{H:Hp}(i:Int):Rp H (.int i) (.int i):=by unfold Rp;rfl
theorem f7{H:Hp}:Rp H .none .aP:=by unfold Rp;rfl
theorem zx{H:Hp}(b:Bool):Rp H (.bool b) (.bl b):=by unfold Rp;rfl
theorem o8{H:Hp}{t:Addr}{ws:mv}(h:H t=some (.tup (ws.map V.int))):Rp H (dT ws) (.ref t):=by
 unfold dT Rp;exact⟨t,_,rfl,h,X6 ws⟩
theorem eh{H:Hp}{p:Addr}{d e:nX}{x y:V}(h:H p=some (.tup [x,y]))(a:Rp H d x)(he:Rp H e y):Rp H (dP d e) (.ref p):=by
 unfold dP Rp;refine⟨p,_,rfl,h,?_⟩;unfold aB;refine⟨x,_,rfl,a,?_⟩;unfold aB;refine⟨y,_,rfl,he,?_⟩;unfold aB;rfl
theorem I9:∀ws:mv,PyData.depthAll (ws.map PyData.int)=0
 |[]=>rfl
 |w::ws=>by
  show max (PyData.depth (.int w)) (PyData.depthAll (ws.map PyData.int))=0;rw[I9 ws];rfl
theorem ak(ws:mv):(dT ws).depth=1:=by
 show PyData.depthAll (ws.map PyData.int)+1=1;rw[I9]
theorem S6(d e:nX):(dP d e).depth=max d.depth e.depth+1:=by
 show max d.depth (max e.depth 0)+1=_;rw[Nat.max_zero]
theorem Em:∀xs ys:mv,PyData.eqvAll (xs.map PyData.int) (ys.map PyData.int)=decide (xs=ys)
 |[],[]=>rfl
 |x::xs,y::ys=>by
  show(PyData.eqv (.int x) (.int y)&&PyData.eqvAll (xs.map PyData.int) (ys.map PyData.int))=_;rw[Em xs ys];show((x==y)&&decide (xs=ys))=_;by_cases a:x=y<;>by_cases b:xs=ys<;>simp[a,b]
 |[],_::_=>rfl
 |_::_,[]=>rfl
theorem au(xs ys:mv):PyData.eqv (dT xs) (dT ys)=decide (xs=ys):=Em xs ys
theorem qp(a b c d:nX):PyData.eqv (dP a b) (dP c d)=(PyData.eqv a c&&PyData.eqv b d):=by
 show(PyData.eqv a c&&(PyData.eqv b d&&true))=_;rw[Bool.and_true]
section
variable {X:Cx}{pins:List (Addr×Obj)}{σ:St}{H:Hp}{s:mI}{h':Heap}
theorem Aj.hU{ch:List Addr}{T:Addr}{o:HO}{t':Nat}(I:Aj X pins σ H s)(g:∀b∈ch,Lq X pins H b)(k:∀b a,b∉ch->s.heap.get? b=some a->h'.get? b=some a)
  (i:s.heap.objs.size<=T)(new:B8 X.prog X.w (upd H T o) h' T o):Aj X pins σ (upd H T o) {s with heap:=h',toks:=t'}:=by
 have h:H T=none:=I.aF.fresh i
 have off:∀b u,H b=some u->b∉ch:=λb u e f=>by
  have z:=(g b f).1;rw[e]at z;cases z
 refine I.call (g':=s.gens) (d':=s.drawn) (t':=t') (ch:=ch) ⟨λb a e _ _ d=>k b a d e,λb a e _ _ d=>⟨a.slots,k b a d e⟩,λb a e n d=>?_,λb a e d=>⟨a,k b a d e⟩,λb j e=>?_,λb a u e=>?_,λb l e=>⟨#[],?_⟩⟩ (λb u e=>?_) I.bare
  (λb f=>⟨(g b f).2.2.2.1,(g b f).2.1,(g b f).2.2.2.2.1,(g b f).2.2.2.2.2⟩)
 ·rw[Ab (Nat.ne_of_lt (Nat.lt_of_lt_of_le (Heap.lt_size e) i))];exact n
 ·rw[Ab (Ae e h)];exact e
 ·rw[Ab (Ae e h)];exact e
 ·rw[Ab (Ae e h),e];simp
 ·by_cases f:b=T
  ·subst f;rw[A5]at e;cases e;exact new
  ·rw[Ab f]at e;refine(I.aF b u e).cW (λc v d q=>k c v ?_ q) (λc q=>?_) λc j q=>?_
   ·rcases d with rfl|d
    ·exact off _ _ e
    ·exact off _ _ d
   ·rw[Ab (Ae q h)];exact q
   ·rw[Ab (Ae q h)];exact q
theorem Aj.hV{ch:List Addr}{t':Nat}(I:Aj X pins σ H s)(g:∀b∈ch,Lq X pins H b)(k:∀b a,b∉ch->s.heap.get? b=some a->h'.get? b=some a):Aj X pins σ H {s with heap:=h',toks:=t'}:=by
 have off:∀b u,H b=some u->b∉ch:=λb u e f=>by
  have z:=(g b f).1;rw[e]at z;cases z
 refine I.call (g':=s.gens) (d':=s.drawn) (t':=t') (ch:=ch) ⟨λb a e _ _ d=>k b a d e,λb a e _ _ d=>⟨a.slots,k b a d e⟩,λb a e n d=>n,λb a e d=>⟨a,k b a d e⟩,λb h e=>e,λb a u e=>e,λb i e=>⟨#[],by rw[e];simp⟩⟩ (λb u e=>?_) I.bare
  (λb f=>⟨(g b f).2.2.2.1,(g b f).2.1,(g b f).2.2.2.2.1,(g b f).2.2.2.2.2⟩)
 refine(I.aF b u e).cW (λc v d q=>k c v ?_ q) (λc q=>q) λc h q=>q;rcases d with rfl|d
 ·exact off _ _ e
 ·exact off _ _ d
end
section
variable {X:Cx}
theorem Hi(x:X.calm=true):D9 X (.builtin "min") (λxs H Q=>∃(p:Addr) (ns:mv),xs=[.ref p]/\B6 X.K H p (ns.map V.int)/\0<ns.length/\∀m:Int,m∈ns->(∀a∈ns,m<=a)->Q (.int m) H):=by
 intro n s N H M L Q I r q;obtain⟨p,ns,rfl,A,e,q⟩:=q;obtain⟨u,rfl,D⟩:=Eg r;cases D;obtain⟨E,rv,C,J⟩:=I.list A;have i:=Fl rv;obtain⟨b,g⟩:=i.allInts.items
 have d:ns=b.toList.map (·.1):=by
  have w:=i.numsOf;have f:=nums_intItems b;rw[<- g]at f;exact w.symm.trans f
 have c:0<b.size:=by
  rw[d,List.length_map,Array.length_toList]at e;exact e
 have l:=C.isList;rw[g]at l;refine min_intList (I.ok.hd x) l c λv G K B z=>?_;obtain⟨t,rfl⟩:=intItems_at B;obtain⟨F,o⟩:=argBest_lt (numAt b) (b.size-1);refine⟨.int _,H,I.kept z,⟨t,rfl⟩,q _ ?_ λa h=>?_⟩
 ·rw[d,numAt_eq];exact getD_mem (by rw[List.length_map,Array.length_toList];omega)
 ·rw[d]at h;obtain⟨j,y,rfl⟩:=mem_getD h;rw[List.length_map,Array.length_toList]at y;rw[<- numAt_eq];exact o j (by omega)
end
structure Rn(K:W.Frag)(x qual:Str)(st:Stmt)(f:Addr)(fd:nr):Prop where
 ex:∃(oc:mK) (od:Option Addr) (dV kV doc pm:mK) (an:Option Addr) (aM ct:mK) (iJ:Array (Option mK)),
  fd=W.fnOf x qual (Cb st) (Bi st) (A8 st) dV kV doc pm an aM ct/\K.lookup f=some ⟨oc,od,.func fd,iJ⟩/\W.codeIn K aM qual=true
section
variable {X:Cx}{a b c:Expr}{rest:List Expr}{ta tb:TE}{tA xN:TT}{t u:TS}{pos:Pos}
def A05(ta tb:TE):TE:=λg H Q=>ta g H λx e=>∃c d:Bool,x=.bl c/\(c=true->∀f:VK,f (.bl d) e->tb g e f)/\Q (.bl (c&&d)) e
theorem Lk(m:PE X a ta)(n:PE X (.BoolOp .And (b::rest) pos) tb):PE X (.BoolOp .And (a::b::rest) pos) (A05 ta tb):=by
 intro e s j H Q I h;refine BoolOp_and (Bj (m e s j H _ I h) λv q l=>?_);obtain⟨x,g,i,p,f⟩:=l;obtain⟨c,d,rfl,o,f⟩:=f;cases p;refine ib ?_;cases c with
 |true=>exact n e q j g Q i (o rfl Q f)
 |false=>exact⟨.bl false,g,i,rfl,f⟩
def A04(t u:TT):TT:=λg H Q=>t g H λc e=>∃d:Bool,(c=true->∀f:Bool->Hp->Prop,f d e->u g e f)/\Q (c&&d) e
def A1d(t u:TT):TT:=λg H Q=>t g H λc e=>∃d:Bool,(c=false->∀f:Bool->Hp->Prop,f d e->u g e f)/\Q (c||d) e
theorem X4(m:PT X a tA)(n:PW X (.BoolOp .And (b::rest) pos) xN):PW X (.BoolOp .And (a::b::rest) pos) (A04 tA xN):=by
 intro q e s j H Q I h;refine isTrue_and (Bj (m e s j H _ I h) λc p l=>?_);obtain⟨f,g,d,o,i⟩:=l;cases c with
 |true=>exact n q e p j f Q g (o rfl Q i)
 |false=>exact⟨f,g,i⟩
theorem Iq(m:PT X a tA)(n:PW X (.BoolOp .Or (b::rest) pos) xN):PW X (.BoolOp .Or (a::b::rest) pos) (A1d tA xN):=by
 intro q e s j H Q I h;refine isTrue_or (Bj (m e s j H _ I h) λc p l=>?_);obtain⟨f,g,d,o,i⟩:=l;cases c with
 |true=>exact⟨f,g,i⟩
 |false=>exact n q e p j f Q g (o rfl Q i)
theorem SP.mono(h:SP X e D f s')(n:∀g H,D.nx g H->j.nx g H)(o:∀v H,D.rt v H->j.rt v H)(l:∀g H,D.bk g H->j.bk g H)(m:∀g H,D.ct g H->j.ct g H):SP X e j f s':=by
 cases f with
 |next=>obtain⟨d,i,I,q⟩:=h;exact⟨d,i,I,n _ _ q⟩
 |brk=>obtain⟨d,i,I,q⟩:=h;exact⟨d,i,I,l _ _ q⟩
 |cont=>obtain⟨d,i,I,q⟩:=h;exact⟨d,i,I,m _ _ q⟩
 |ret v=>obtain⟨x,d,i,I,r,q⟩:=h;exact⟨x,d,i,I,r,o _ _ q⟩
def A19(c:TT)(t u:TS):TS:=λD e H=>c e H λb g=>∃N:St->Hp->Prop,(b=true->t {D with nx:=N} e g)/\(b=false->u {D with nx:=N} e g)/\∀d f,N d f->D.nx d f
theorem Fs{a b:List Stmt}(v:PT X c n)(p:Od X a t)(r:Od X b u):PS X (.If c a b pos) (A19 n t u):=by
 intro e s g H D I h;refine wpAny_If (Bj (v e s g H _ I h) λd m o=>?_);obtain⟨i,j,N,w,x,l⟩:=o;cases d with
 |true=>exact Bj (p e m g i _ j (w rfl)) λf y q=>q.mono l (λ_ _ z=>z) (λ_ _ z=>z) λ_ _ z=>z
 |false=>exact Bj (r e m g i _ j (x rfl)) λf y q=>q.mono l (λ_ _ z=>z) (λ_ _ z=>z) λ_ _ z=>z
end
section
variable {P:m8}{w:nP}{A:nf}{E:mr}{s:mI}
theorem Uz{k:Nat}(c:s.heap.IsTupleIter I T k)(h:s.heap.IsTuple T d)(i:d[k]?=some v)
  (q:∀h',h'.IsTupleIter I T (k+1)->Heap.SameBut I s.heap h'->Q v {s with heap:=h'}):wpAny (model P w) A (Builtin.SmallTypes.nextOf (.ref I)) Q E s:=by
 obtain⟨l,b,f,a⟩:=id c;obtain⟨m,g,_,j,e⟩:=h;unfold Builtin.SmallTypes.nextOf;refine a0 (kM (name:=Str.ofString "__next__") c.typeIs F.slot_tuple_iterator_next (hH F.slot_tuple_iterator_next c.typeIs F.entry_tuple_iterator_next ?_ (F.args_tuple_iterator_next_1 _)));show wpAny _ _ (field (.ref I) 0>>=_) _ _ s;refine a0 (wpAny_field b a (x:=.ref T) rfl ?_);show wpAny _ _ (if(Value.ref T==Value.none)=true then _ else _) _ _ s;rw[if_neg (show¬((Value.ref T==Value.none)=true)from Bool.false_ne_true)];show wpAny _ _ (field (.ref I) 1>>=_) _ _ s;refine a0 (wpAny_field b a (x:=.int k 0) rfl ?_);show wpAny _ _ (seqItems? (.ref T)>>=_) _ _ s;refine a0 (fC g e ?_);simp only[Int.toNat_natCast,i];refine a0 (wpAny_setField b a (by simp) (bc ⟨v,rfl,bc (q _ ⟨_,g0 _ b (Obj.isFreed_of_fields (Obj.data_mapFields a _)),(Obj.cls_mapFields ..).trans f,?_⟩ (hX ..))⟩));rw[Obj.data_mapFields a];simp[rawInt]
theorem Yz{k:Nat}(d:A.handled=none)(c:s.heap.IsTupleIter I T k)(i:s.heap.IsTuple T f)(j:f[k]?=none)
  (q:∀h' e,Heap.ExtBut I s.heap h'->(∃o,h'.get? e=some o/\o.cls=.type "StopIteration")->E (.ref e) {s with heap:=h'}):wpAny (model P w) A (Builtin.SmallTypes.nextOf (.ref I)) Q E s:=by
 obtain⟨n,b,l,a⟩:=id c;obtain⟨p,h,_,m,g⟩:=i;unfold Builtin.SmallTypes.nextOf;refine a0 (kM (name:=Str.ofString "__next__") c.typeIs F.slot_tuple_iterator_next (hH F.slot_tuple_iterator_next c.typeIs F.entry_tuple_iterator_next ?_ (F.args_tuple_iterator_next_1 _)));show wpAny _ _ (field (.ref I) 0>>=_) _ _ s;refine a0 (wpAny_field b a (x:=.ref T) rfl ?_);show wpAny _ _ (if(Value.ref T==Value.none)=true then _ else _) _ _ s;rw[if_neg (show¬((Value.ref T==Value.none)=true)from Bool.false_ne_true)];show wpAny _ _ (field (.ref I) 1>>=_) _ _ s;refine a0 (wpAny_field b a (x:=.int k 0) rfl ?_);show wpAny _ _ (seqItems? (.ref T)>>=_) _ _ s;refine a0 (fC h g ?_);simp only[Int.toNat_natCast,j];refine a0 (kb (a0 (wpAny_setField b a (by simp) ?_)));show wpAny _ _ (newExc (.type "StopIteration") []>>=λ_=>_) _ _ _;refine a0 ?_;simp only[newExc,newTuple];refine a0 (g6 (a0 (m:=firstArgMember _ _) (wpAny_of_eq (a:=Value.none) (by first|rfl|(simp only[firstArgMember];rfl)) (g6 ?_ (by size_fits)))) (by size_fits));simp only[raiseNew];refine a0 (wpAny_handled ?_)
 first|rw[show A.in1.handled=none from d]|rw[d]
 refine a0 (bc (wpAny_throw (q _ _ (((hX ..).extBut.push _).push _) ⟨_,cI _ rfl,rfl⟩)))
end
theorem qk(j:A.handled=none)(I T:Addr)(ne:T≠I)(b:Array mK):Draws P w A I [I,T] b.size (λi v=>b[i]?=some v) (λi h=>h.IsTupleIter I T i/\h.IsTuple T b)where
 live:=λ_ _ a=>let⟨o,e,_⟩:=a.1;⟨o,e⟩
 frame:=λ_ _ _ a k=>⟨a.1.at λo e=>k I (by simp) o e,let⟨o,e,r⟩:=a.2;⟨o,k T (by simp) o e,r⟩⟩
 item:=λi s Q E c a q=>Uz a.1 a.2 (v:=b[i]) (by simp[c]) λg f d=>q _ g s.toks (by simp[c]) ⟨f,a.2.extBut d.extBut ne⟩ d
 done:=λs Q E a q=>Yz j a.1 a.2 (by simp) q
def D0:Bool->Heap->Addr->Addr->Nat->Prop
 |true,h,I,T,i=>h.IsTupleIter I T i
 |false,h,I,T,i=>h.IsListIter I T i
def Dt:Bool->Heap->Addr->Array mK->Prop
 |true,h,T,a=>h.IsTuple T a
 |false,h,T,a=>h.IsList T a
def Ur:Bool->String
 |true=>"tuple_iterator"
 |false=>"list_iterator"
def Sq:Bool->W.Frag->Hp->Addr->List V->Prop
 |true,K,H,a,b=>Cu K H a b
 |false,K,H,a,b=>B6 K H a b
theorem E8(c:A.handled=none)(b:Bool)(I T:Addr)(ne:T≠I)(a:Array mK):Draws P w A I [I,T] a.size (λi v=>a[i]?=some v) (λi h=>D0 b h I T i/\Dt b h T a):=by
 cases b
 ·exact Draws.list c I T ne a
 ·exact qk c I T ne a
theorem D0.data(x:D0 b h I T i):∃o,h.get? I=some o/\o.cls=.type (Ur b)/\o.data=.fields #[.ref T,.int i 0]:=by cases b<;>exact x
theorem D0.of(x:∃o,h.get? I=some o/\o.cls=.type (Ur b)/\o.data=.fields #[.ref T,.int i 0]):D0 b h I T i:=by cases b<;>exact x
theorem D0.at'(x:D0 b h I T i)(k:∀o,h.get? I=some o->h'.get? I=some o):D0 b h' I T i:=by
 obtain⟨o,e,r⟩:=x.data;exact .of ⟨o,k _ e,r⟩
theorem Dt.at'(x:Dt b h T a)(k:∀o,h.get? T=some o->h'.get? T=some o):Dt b h' T a:=by
 cases b<;>exact let⟨o,e,r⟩:=x;⟨o,k _ e,r⟩
theorem Dt.lt(x:Dt b h T a):T<h.objs.size:=by
 cases b<;>exact let⟨_,e,_⟩:=x;dg e
theorem D0.lt(x:D0 b h I T i):I<h.objs.size:=by
 obtain⟨_,e,_⟩:=x.data;exact dg e
theorem D0.ne(x:D0 b h I T i)(y:Dt c h T f):T≠I:=by
 rintro rfl;obtain⟨o,e,k,_⟩:=x.data;cases c<;>(obtain⟨g,a,d,_⟩:=y;rw[e]at a;cases a;rw[k]at d;cases b<;>simp[Ur]at d)
theorem c6(x:Dt b s.heap T a)
  (q:Q (.ref s.heap.objs.size) {s with heap:=s.heap.push {cls:=.type (Ur b),data:=.fields #[.ref T,.int 0 0] } }):wpAny (model P w) A (pyIter (.ref T)) Q E s:=by
 cases b
 ·exact wpAny_pyIter_list x q
 ·exact wpAny_pyIter_tuple x q
section
variable {X:Cx}{pins:List (Addr×Obj)}{σ:St}{H:Hp}{s:mI}
theorem Aj.sq(I:Aj X pins σ H s)(q:Sq b X.K H a xs):∃c,Ay xs c/\Dt b s.heap a c.toArray:=by
 cases b
 ·obtain⟨c,r,p,_⟩:=I.list q;exact⟨c,r,p.isList⟩
 ·obtain⟨c,r,p,_⟩:=I.tuple q;exact⟨c,r,p⟩
theorem Aj.mH(I:Aj X pins σ H s)(q:Sq b X.K H a xs)(r:Sq b X.K H a ys):xs=ys:=by
 cases b
 ·exact I.kT q r
 ·exact I.jA q r
end
open AutoSeq1 (wpAny_loadPart')
structure xt(z TI TO i1 i2 l1 l2:Nat):Prop where
 a:TI≠z
 b:TO≠z
 c:i1≠z
 d:i2≠z
 e:TI≠TO
 f:TI≠i1
 g:TI≠i2
 h:TO≠i1
 i:TO≠i2
 j:i1≠i2
 k1:l1≠z/\l1≠TO/\l1≠i1/\l1≠i2
 k2:l2≠z/\l2≠TO/\l2≠i1/\l2≠i2
section
variable {P:m8}{w:nP}{A:nf}{E:mr}{s:mI}
theorem Zj{z TI TO f g j l:Addr}{b1 b2:Bool}{k:Nat}{xs ys:Array mK}{x y a b:mK}{Q:mr}(U:A.handled=none)(D:xt z TI TO f g j l)
  (hz:IsZip s.heap z TI TO .none)(kZ:IsPair s.heap TI (.ref f) (.ref g))(lZ:IsPair s.heap TO a b)(h1:D0 b1 s.heap f j k)(h2:D0 b2 s.heap g l k)(q1:Dt b1 s.heap j xs)(q2:Dt b2 s.heap l ys)(S:xs[k]?=some x)(T:ys[k]?=some y)
  (hQ:∀h' tk,IsZip h' z TI TO (rawInt s.heap.objs.size)->IsPair h' TO x y->D0 b1 h' f j (k+1)->D0 b2 h' g l (k+1)->IsPair h' s.heap.objs.size x y->
   (∀c o,c≠z->c≠TO->c≠f->c≠g->s.heap.get? c=some o->h'.get? c=some o)->Q (.ref s.heap.objs.size) {s with heap:=h',toks:=tk}):
  wpAny (model P w) A (Builtin.«zip.__next__» ⟨[.ref z],[]⟩) (λfin s'=>∃v,fin=.done (.ret v)/\Q v s') E s:=by
 have pZ:k<xs.size:=(iT.mp S).1;have vR:k<ys.size:=(iT.mp T).1;show wpAny _ _ (field (.ref z) 2>>=λ_=>_) _ _ _;refine a0 (wpAny_field hz rfl (x:=.bool false) rfl ?_);show wpAny _ _ (field (.ref z) 3>>=λ_=>_) _ _ _;refine a0 (wpAny_field hz rfl (x:=.ref TI) rfl (a0 (fC kZ rfl ?_)));show wpAny _ _ (Builtin.SmallTypes.ownedTupleIsFree (.ref z)>>=λ_=>_) _ _ _;refine a0 ?_;unfold Builtin.SmallTypes.ownedTupleIsFree;refine a0 (wpAny_field hz rfl (x:=.none) rfl (bc ?_));simp only[if_true];refine a0 (kb (a0 (wpAny_field hz rfl (x:=.ref TO) rfl (a0 (wpAny_setField_rec hz (by simp) λm1 O i=>?_)))))
 replace O:IsZip m1 z TI TO .ellipsis:=O;refine a0 ?_;simp only[List.zipIdx_cons,List.zipIdx_nil,List.forIn_cons,List.forIn_nil];refine a0 (a0 (wpAny_onRaise ?_));show wpAny _ _ (Builtin.SmallTypes.nextOf (.ref f)>>=λ_=>_) _ _ _;refine a0 ((E8 U b1 f j D.k1.2.2.1 xs).item k _ _ _ pZ ⟨h1.at' λo e=>i.extBut _ _ D.c e,q1.at' λo e=>i.extBut _ _ D.k1.1 e⟩ λp m2 jQ VW ⟨g1,_⟩ m=>bc ?_)
 have K:p=x:=by
  have z:=VW.symm.trans S;exact d0 z
 subst K;have w2:IsPair m2 TO a b:=m.extBut _ _ D.h (i.extBut _ _ D.b lZ);refine a0 (fC w2 rfl (a0 (wpAny_updateSeq_pair w2 λm3 N n=>?_)))
 replace N:IsPair m3 TO p b:=N;refine a0 (wpAny_letGo (bc (a0 (a0 (wpAny_onRaise ?_)))));show wpAny _ _ (Builtin.SmallTypes.nextOf (.ref g)>>=λ_=>_) _ _ _;refine a0 ((E8 U b2 g l D.k2.2.2.2 ys).item k _ _ _ vR ⟨h2.at' λo e=>n.extBut _ _ D.i.symm (m.extBut _ _ D.j.symm (i.extBut _ _ D.d e)),q2.at' λo e=>n.extBut _ _ D.k2.2.1 (m.extBut _ _ D.k2.2.2.1 (i.extBut _ _ D.k2.1 e))⟩ λG m4 tk4 JE ⟨g2,_⟩ q=>bc ?_)
 have L:G=y:=by
  have z:=JE.symm.trans T;exact d0 z
 subst L;have w4:IsPair m4 TO p b:=q.extBut _ _ D.i N;refine a0 (fC w4 rfl (a0 (wpAny_updateSeq_pair w4 λd F r=>?_)))
 replace F:IsPair d TO p G:=F;refine a0 (wpAny_letGo (bc (bc (a0 (fC F rfl (a0 (wpAny_newTuple ?_)))))));have sz:d.objs.size=s.heap.objs.size:=by rw[r.1,q.1,n.1,m.1,i.1]
 have z5:IsZip d z TI TO .ellipsis:=r.extBut _ _ D.b.symm (q.extBut _ _ D.d.symm (n.extBut _ _ D.b.symm (m.extBut _ _ D.c.symm O)));have kp:∀c o,c≠z->c≠TO->c≠f->c≠g->s.heap.get? c=some o->d.get? c=some o:=λc o h B I J e=>r.extBut _ _ B (q.extBut _ _ J (n.extBut _ _ B (m.extBut _ _ I (i.extBut _ _ h e))));have M:D0 b1 d f j (k+1):=g1.at' λo e=>r.extBut _ _ D.h.symm (q.extBut _ _ D.j (n.extBut _ _ D.h.symm e));have WW:D0 b2 d g l (k+1):=g2.at' λo e=>r.extBut _ _ D.i.symm e;have u:z<d.objs.size:=dg z5;show wpAny _ _ (Builtin.SmallTypes.ownedTupleHandOut (.ref z) (.ref d.objs.size)>>=λ_=>_) _ _ _;refine a0 ?_;unfold Builtin.SmallTypes.ownedTupleHandOut;have z6:IsZip (d.push {cls:=.type "tuple",data:=.seq #[p,G] }) z TI TO .ellipsis:=bZ _ z5;refine a0 (wpAny_setField_rec z6 (by simp) λm7 R Y=>?_)
 replace R:IsZip m7 z TI TO (rawInt d.objs.size):=R;refine wpAny_setField_rec R (by simp) λC H Z=>?_
 replace H:IsZip C z TI TO (rawInt d.objs.size):=H;have up:∀c o,c≠z->d.get? c=some o->C.get? c=some o:=λc o h e=>Z.extBut _ _ h (Y.extBut _ _ h (bZ _ e));have X:IsPair C d.objs.size p G:=Z.extBut _ _ (Nat.ne_of_gt u) (Y.extBut _ _ (Nat.ne_of_gt u) (cI _ rfl));rw[sz]at H X;refine bc ⟨_,rfl,?_⟩;show Q (.ref d.objs.size) _;rw[sz];exact hQ C _ H (up _ _ D.b F) (M.at' λo e=>up _ o D.c e) (WW.at' λo e=>up _ o D.d e) X λc o h B I J e=>up c o h (kp c o h B I J e)
theorem jh{z TI TO d l h p:Addr}{b1 b2:Bool}{k:Nat}{xs ys:Array mK}{a b:mK}{Q:Fin->mI->Prop}(C:A.handled=none)(D:xt z TI TO d l h p)
  (hz:IsZip s.heap z TI TO .none)(U:IsPair s.heap TI (.ref d) (.ref l))(X:IsPair s.heap TO a b)(h1:D0 b1 s.heap d h k)(T:D0 b2 s.heap l p k)(q1:Dt b1 s.heap h xs)(q2:Dt b2 s.heap p ys)(O:k=xs.size\/(k<xs.size/\k=ys.size))
  (G:∀h' tk e,(∀c o,c≠z->c≠TO->c≠d->c≠l->s.heap.get? c=some o->h'.get? c=some o)->(∃o,h'.get? e=some o/\o.cls=.type "StopIteration")->E (.ref e) {s with heap:=h',toks:=tk}):
  wpAny (model P w) A (Builtin.«zip.__next__» ⟨[.ref z],[]⟩) Q E s:=by
 show wpAny _ _ (field (.ref z) 2>>=λ_=>_) _ _ _;refine a0 (wpAny_field hz rfl (x:=.bool false) rfl ?_);show wpAny _ _ (field (.ref z) 3>>=λ_=>_) _ _ _;refine a0 (wpAny_field hz rfl (x:=.ref TI) rfl (a0 (fC U rfl ?_)));show wpAny _ _ (Builtin.SmallTypes.ownedTupleIsFree (.ref z)>>=λ_=>_) _ _ _;refine a0 ?_;unfold Builtin.SmallTypes.ownedTupleIsFree;refine a0 (wpAny_field hz rfl (x:=.none) rfl (bc ?_));simp only[if_true];refine a0 (kb (a0 (wpAny_field hz rfl (x:=.ref TO) rfl (a0 (wpAny_setField_rec hz (by simp) λm1 q i=>?_)))))
 replace q:IsZip m1 z TI TO .ellipsis:=q;refine a0 ?_;simp only[List.zipIdx_cons,List.zipIdx_nil,List.forIn_cons,List.forIn_nil];refine a0 (a0 (wpAny_onRaise ?_));show wpAny _ _ (Builtin.SmallTypes.nextOf (.ref d)>>=λ_=>_) _ _ _;have v:D0 b1 m1 d h k:=h1.at' λo e=>i.extBut _ _ D.c e;have I:Dt b1 m1 h xs:=q1.at' λo e=>i.extBut _ _ D.k1.1 e;rcases O with rfl|⟨pZ,rfl⟩
 ·refine a0 ((E8 C b1 d h D.k1.2.2.1 xs).done _ _ _ ⟨v,I⟩ λB e f y=>?_);obtain⟨F,g,m⟩:=y;have M:IsZip B z TI TO .ellipsis:=f _ _ D.c.symm q;have r:e≠z:=λx=>by subst x;rw[M]at g;cases g;simp at m
  exact wpAny_setField_rec M (by simp) λH _ j=>G H _ e (λc o n _ u _ x=>j.extBut _ _ n (f _ _ u (i.extBut _ _ n x))) ⟨F,j.extBut _ _ r g,m⟩
 ·refine a0 ((E8 C b1 d h D.k1.2.2.1 xs).item _ _ _ _ pZ ⟨v,I⟩ λx' B jQ VW ⟨v,_⟩ f=>bc ?_);have L:IsPair B TO a b:=f.extBut _ _ D.h (i.extBut _ _ D.b X);refine a0 (fC L rfl (a0 (wpAny_updateSeq_pair L λH w3 j=>?_)));refine a0 (wpAny_letGo (bc (a0 (a0 (wpAny_onRaise ?_)))));show wpAny _ _ (Builtin.SmallTypes.nextOf (.ref l)>>=λ_=>_) _ _ _;refine a0 ((E8 C b2 l p D.k2.2.2.2 ys).done _ _ _ ⟨T.at' λo e=>j.extBut _ _ D.i.symm (f.extBut _ _ D.j.symm (i.extBut _ _ D.d e)),q2.at' λo e=>j.extBut _ _ D.k2.2.1 (f.extBut _ _ D.k2.2.2.1 (i.extBut _ _ D.k2.1 e))⟩ λY e J y=>?_);obtain⟨F,g,m⟩:=y;have N:IsZip Y z TI TO .ellipsis:=J _ _ D.d.symm (j.extBut _ _ D.b.symm (f.extBut _ _ D.c.symm q));have r:e≠z:=λx=>by subst x;rw[N]at g;cases g;simp at m
  exact wpAny_setField_rec N (by simp) λZ _ K=>G Z _ e (λc o n R u S x=>K.extBut _ _ n (J _ _ S (j.extBut _ _ R (f.extBut _ _ u (i.extBut _ _ n x))))) ⟨F,K.extBut _ _ r g,m⟩
abbrev pf(b1:Bool)(h:Heap)(a:Addr):Heap:=h.push {cls:=.type (Ur b1),data:=.fields #[.ref a,.int 0 0] }
abbrev TM(b1 b2:Bool)(h:Heap)(a b:Addr):Heap:=(pf b1 h a).push {cls:=.type (Ur b2),data:=.fields #[.ref b,.int 0 0] }
abbrev TN(b1 b2:Bool)(h:Heap)(a b:Addr):Heap:=(TM b1 b2 h a b).push {cls:=.type "tuple",data:=.seq #[.ref h.objs.size,.ref (pf b1 h a).objs.size] }
abbrev TQ(b1 b2:Bool)(h:Heap)(a b:Addr):Heap:=(TN b1 b2 h a b).push {cls:=.type "tuple",data:=.seq #[.none,.none] }
abbrev xy(b1 b2:Bool)(h:Heap)(a b:Addr):Heap:=(TQ b1 b2 h a b).push {cls:=.type "zip",data:=.fields #[.none,.bool false,.bool false,.ref (TM b1 b2 h a b).objs.size,.ref (TN b1 b2 h a b).objs.size] }
theorem W0(b1 b2:Bool)(a b:Addr)(xs ys:Array mK):Meets (Builtin.«zip.__new__» ⟨[.type "zip",.ref a,.ref b],[]⟩) (λ_ R s=>Dt b1 s.heap a xs/\Dt b2 s.heap b ys/\R (.ok (.ret (.ref (TQ b1 b2 s.heap a b).objs.size))) {s with heap:=xy b1 b2 s.heap a b}):=
 .of_wp λi w A R s h=>by
  obtain⟨c,g,d,j,f⟩:=s;obtain⟨l,m,h⟩:=h;have q:=sub_zip;have n:Dt b1 (Shared.heap ⟨c,g,d,j,f⟩) a xs:=l;have p:Dt b2 (Shared.heap ⟨c.push {cls:=.type (Ur b1),data:=.fields #[.ref a,.int 0 0] },g,d,j,f⟩) b ys:=Dt.at' m λo e=>bZ _ e
  wp_walk using c6 n,c6 p
  exact⟨_,rfl,h⟩
theorem Zi(q:Dt b1 s.heap a xs)(r:Dt b2 s.heap b ys)
  (h:∀h',IsZip h' (s.heap.objs.size+4) (s.heap.objs.size+2) (s.heap.objs.size+3) .none->IsPair h' (s.heap.objs.size+2) (.ref s.heap.objs.size) (.ref (s.heap.objs.size+1))->
   IsPair h' (s.heap.objs.size+3) .none .none->D0 b1 h' s.heap.objs.size a 0->D0 b2 h' (s.heap.objs.size+1) b 0->(∀c o,s.heap.get? c=some o->h'.get? c=some o)->Q (.ref (s.heap.objs.size+4)) {s with heap:=h'}):
  wpAny (model P w) A (call (.type "zip") [.ref a,.ref b]) Q E s:=by
 refine callType_new F.called_zip (by decide) (F.typeCall_zip_2 _ _) (F.newCall_zip_2 _ _) (λi=>F.args_object_init_3 i _ _) F.entry_zip_new (W0 b1 b2 a b xs ys) ⟨q,r,?_⟩;have e:(pf b1 s.heap a).objs.size=s.heap.objs.size+1:=Heap.size_push ..;have f:(TM b1 b2 s.heap a b).objs.size=s.heap.objs.size+2:=by rw[Heap.size_push,e]
 have g:(TN b1 b2 s.heap a b).objs.size=s.heap.objs.size+3:=by rw[Heap.size_push,f]
 have n:(TQ b1 b2 s.heap a b).objs.size=s.heap.objs.size+4:=by rw[Heap.size_push,g]
 have d:(xy b1 b2 s.heap a b).get? (TQ b1 b2 s.heap a b).objs.size=some _:=cI _ rfl;have m:(xy b1 b2 s.heap a b).get? (TN b1 b2 s.heap a b).objs.size=some _:=bZ _ (cI _ rfl);have l:(xy b1 b2 s.heap a b).get? (TM b1 b2 s.heap a b).objs.size=some _:=bZ _ (bZ _ (cI _ rfl));have j:(xy b1 b2 s.heap a b).get? (pf b1 s.heap a).objs.size=some _:=bZ _ (bZ _ (bZ _ (cI _ rfl)));have p:(xy b1 b2 s.heap a b).get? s.heap.objs.size=some _:=bZ _ (bZ _ (bZ _ (bZ _ (cI _ rfl))));show _/\_;rw[f,g,n]at d;rw[e,f]at l;rw[g]at m;rw[e]at j;rw[n];exact⟨⟨_,d,rfl⟩,h _ d l m (.of ⟨_,p,rfl,rfl⟩) (.of ⟨_,j,rfl,rfl⟩) λc o x=>bZ _ (bZ _ (bZ _ (bZ _ (bZ _ x))))⟩
end
open AutoSeq1 (wpAny_loadPart')
section
variable {P:m8}{w:nP}{A:nf}{E:mr}{s:mI}
theorem W2{z TI TO d e f g:Addr}{b1 b2:Bool}{k:Nat}{xs ys:Array mK}{x y a b:mK}{Q:Option mK->mI->Prop}(G:A.in1.handled=none)(D:xt z TI TO d e f g)
  (hz:IsZip s.heap z TI TO .none)(B:IsPair s.heap TI (.ref d) (.ref e))(C:IsPair s.heap TO a b)(h1:D0 b1 s.heap d f k)(q:D0 b2 s.heap e g k)(H:Dt b1 s.heap f xs)(I:Dt b2 s.heap g ys)(u:xs[k]?=some x)(v:ys[k]?=some y)
  (r:∀h' h,IsZip h' z TI TO (rawInt s.heap.objs.size)->IsPair h' TO x y->D0 b1 h' d f (k+1)->D0 b2 h' e g (k+1)->IsPair h' s.heap.objs.size x y->
   (∀c o,c≠z->c≠TO->c≠d->c≠e->s.heap.get? c=some o->h'.get? c=some o)->Q (some (.ref s.heap.objs.size)) {s with heap:=h',toks:=h}):
  wpAny (model P w) A (pyNext (.ref z)) Q E s:=by
 have ty:s.TypeIs (.ref z) "zip":=⟨_,hz,rfl⟩;unfold pyNext
 exact a0 (kQ (kM (name:=Str.ofString "__next__") ty F.slot_zip_next (hH F.slot_zip_next ty F.entry_zip_next
   (Zj G D hz B C h1 q H I u v λh' h i j l m n p=>bc (r h' h i j l m n p)) (F.args_zip_next_1 _))))
theorem W1{z TI TO d f g h:Addr}{b1 b2:Bool}{k:Nat}{xs ys:Array mK}{a b:mK}{Q:Option mK->mI->Prop}(v:A.in1.handled=none)(D:xt z TI TO d f g h)
  (hz:IsZip s.heap z TI TO .none)(r:IsPair s.heap TI (.ref d) (.ref f))(u:IsPair s.heap TO a b)(h1:D0 b1 s.heap d g k)(l:D0 b2 s.heap f h k)(x:Dt b1 s.heap g xs)(y:Dt b2 s.heap h ys)(j:k=xs.size\/(k<xs.size/\k=ys.size))
  (m:∀h' i,(∀c o,c≠z->c≠TO->c≠d->c≠f->s.heap.get? c=some o->h'.get? c=some o)->Q none {s with heap:=h',toks:=i}):wpAny (model P w) A (pyNext (.ref z)) Q E s:=by
 have ty:s.TypeIs (.ref z) "zip":=⟨_,hz,rfl⟩;unfold pyNext
 refine a0 (kQ (kM (name:=Str.ofString "__next__") ty F.slot_zip_next (hH F.slot_zip_next ty F.entry_zip_next
   (jh v D hz r u h1 l x y j λh' i e k p=>?_) (F.args_zip_next_1 _))))
 obtain⟨o,q,n⟩:=p;exact a0 (ka (T:="StopIteration") (b:=true) ⟨o,q,n⟩ isSubtype_stop (bc (m _ _ k)))
end
def Xp(K:W.Frag)(b1 b2:Bool)(c d:Addr):It:=
 ⟨λi H=>∃a b x y,Sq b1 K H c a/\Sq b2 K H d b/\a[i]?=some x/\b[i]?=some y,
  λi H v e=>∃T x y,v=.ref T/\H T=none/\e=upd H T (.tup [x,y])/\(∀a,Sq b1 K H c a->a[i]?=some x)/\∀b,Sq b2 K H d b->b[i]?=some y,
  λi H=>∃a b,Sq b1 K H c a/\Sq b2 K H d b/\(a.length=i\/(i<a.length/\b.length=i))⟩
theorem Ze{P:m8}{w:nP}{K:W.Frag}{C:List Expr}{kk:Nat}{pos:Pos}{b1 b2:Bool}{z TI TO p r Y Z:Addr}(D:xt z TI TO p r Y Z):
  Rq P w K (.Tuple C kk pos) (Xp K b1 b2 Y Z) [z,TI,TO,p,r] z (λi h=>IsZip h z TI TO .none/\IsPair h TI (.ref p) (.ref r)/\(∃a b,IsPair h TO a b)/\D0 b1 h p Y i/\D0 b2 h r Z i)where
 mem:=cL
 obj:=λi h ⟨g,j,⟨a,b,n⟩,l,m⟩ c d=>by
  obtain⟨o1,e1,B,d1⟩:=l.data;obtain⟨o2,e2,c2,d2⟩:=m.data;simp only[List.mem_cons,List.not_mem_nil,or_false]at d;rcases d with rfl|rfl|rfl|rfl|rfl
  ·exact⟨_,g,λv q=>by cases q⟩
  ·exact⟨_,j,λv q=>by cases q⟩
  ·exact⟨_,n,λv q=>by cases q⟩
  ·exact⟨_,e1,λv q=>by rw[d1]at q;cases q⟩
  ·exact⟨_,e2,λv q=>by rw[d2]at q;cases q⟩
 keep:=λi h h' ⟨g,j,⟨a,b,n⟩,l,m⟩ f=>
  ⟨f z (by simp) _ g,f TI (by simp) _ j,⟨a,b,f TO (by simp) _ n⟩,l.at' λo e=>f p (by simp) o e,m.at' λo e=>f r (by simp) o e⟩
 item:=by
  intro X T U S d i F s σ H E I L ⟨g,j,⟨a,b,n⟩,l,m⟩ ⟨xs,ys,x,y,G,J,ex,ey⟩;subst T U S;obtain⟨jR,r1,p1⟩:=I.sq G;obtain⟨dB,r2,p2⟩:=I.sq J;obtain⟨u1,TR,vT⟩:=r1.get ex;obtain⟨u2,R,JG⟩:=r2.get ey;refine W2 (I.ok.hd d) D g j n l m p1 p2 (by simpa using TR) (by simpa using R) λh' tk a1 a2 a3 a4 a5 f=>⟨_,rfl,?_⟩;refine wpAny_letOwnedTupleGo_zip a1 λJH BR u=>?_;have qO:z<s.heap.objs.size:=dg g;have xQ:IsPair JH s.heap.objs.size u1 u2:=u.extBut _ _ (Nat.ne_of_gt qO) a5;refine⟨.ref s.heap.objs.size,upd H s.heap.objs.size (.tup [x,y]),I.hU (t':=tk) (ch:=[z,TI,TO,p,r]) L (λc o d e=>?_) (da _) ?_,rfl,⟨_,x,y,rfl,I.fresh,rfl,λJI q=>?_,λpY q=>?_⟩,⟨BR,?_,⟨u1,u2,?_⟩,?_,?_⟩,λc d=>?_⟩
  ·simp only[List.mem_cons,List.not_mem_nil,or_false,not_or]at d;obtain⟨B,c2,M,N,O⟩:=d;exact u.extBut _ _ B (f c o B M N O e)
  ·exact⟨⟨dI (by decide:2<=1000) (Ln (da _)),_,xQ,rfl⟩,[u1,u2],.cons vT (.cons JG .nil),⟨_,xQ,rfl,0,rfl⟩⟩
  ·rw[I.mH q G];exact ex
  ·rw[I.mH q J];exact ey
  ·exact u.extBut _ _ D.a (f TI _ D.a D.e D.f D.g j)
  ·exact u.extBut _ _ D.b a2
  ·exact a3.at' λo e=>u.extBut _ _ D.c e
  ·exact a4.at' λo e=>u.extBut _ _ D.d e
  ·rw[Ab]
   ·exact(L c d).1
   ·have lt:c<s.heap.objs.size:=by
     simp only[List.mem_cons,List.not_mem_nil,or_false]at d;rcases d with rfl|rfl|rfl|rfl|rfl
     ·exact qO
     ·exact dg j
     ·exact dg n
     ·exact l.lt
     ·exact m.lt
    exact ed lt
 done:=by
  intro X T U S d i F s σ H E I L ⟨g,j,⟨a,b,n⟩,l,m⟩ ⟨xs,ys,G,J,he⟩;subst T U S;obtain⟨jR,r1,p1⟩:=I.sq G;obtain⟨dB,r2,p2⟩:=I.sq J;have n1:=r1.length;have n2:=r2.length;refine W1 (I.ok.hd d) D g j n l m p1 p2 ?_ λh' tk f=>⟨rfl,I.hV (t':=tk) (ch:=[z,TI,TO,p,r]) L λc o d e=>?_⟩
  ·simp only[List.size_toArray];omega
  ·simp only[List.mem_cons,List.not_mem_nil,or_false,not_or]at d;obtain⟨B,c2,M,N,O⟩:=d;exact f c o B M N O e
 self:=λA i s Q E ⟨g,_⟩ hQ=>wpAny_pyIter_zip g hQ
theorem qr(h1:a<n)(c:b<n):xt (n+4) (n+2) (n+3) n (n+1) a b:=
 ⟨by omega,by omega,by omega,by omega,by omega,by omega,by omega,by omega,by omega,by omega,⟨by omega,by omega,by omega,by omega⟩,⟨by omega,by omega,by omega,by omega⟩⟩
section
variable {X:Cx}
def yr(K:W.Frag)(f:TA):TI:=λj H R=>f j H λg c=>∃(d e:Bool) (a b:Addr),g=[.ref a,.ref b]/\(∃h,Sq d K c a h)/\(∃i,Sq e K c b i)/\R (Xp K d e a b) c
theorem X0{i:List Expr}{Q:Nat}{P:Pos}{a b:Expr}{w:TA}{p pos:Pos}(J:Gl X "zip")(L:X.mg "zip"=none)(G:PA X [a,b] w)(M:starEach [a,b] X.env=[(false,eval a X.env),(false,eval b X.env)]:=by rfl)(v:starEach [b] X.env=[(false,eval b X.env)]:=by rfl):
  PI X (.Tuple i Q P) (.Call (.Name "zip" p) [a,b] [] pos) (yr X.K w):=by
 intro f s x H R I h;refine Call_ (Ea I J L boot_zip (PyProof.Rows.callWith_type1 (Bj (G pos f s x H _ I h) λus d ⟨vs,m,g,T,S⟩=>?_) (by rw[M,v]) (by rw[v];rfl)));obtain⟨b1,b2,l1,l2,e,⟨xs,N⟩,⟨ys,O⟩,q⟩:=S;subst e;obtain⟨u1,u2,rfl,Z,z⟩:=jc T;cases Z;cases z;obtain⟨jR,U,r⟩:=g.sq N;obtain⟨dB,Y,u⟩:=g.sq O;have A:=r.lt;have l:=u.lt;refine Zi r u λF n B C D E K=>?_;refine wpAny_pyIter_zip n ?_;have y:Aj X f x m {d with heap:=F}:=g.kept (t':=d.toks) K;refine⟨d.heap.objs.size+4,[d.heap.objs.size+4,d.heap.objs.size+2,d.heap.objs.size+3,d.heap.objs.size,d.heap.objs.size+1],_,_,m,rfl,y,Ze (qr A l),⟨n,B,⟨_,_,C⟩,D,E⟩,λc o=>?_,q⟩
 have j:d.heap.objs.size<=c:=by
  simp only[List.mem_cons,List.not_mem_nil,or_false]at o;rcases o with rfl|rfl|rfl|rfl|rfl<;>omega
 exact g.mE j (g.aF.fresh j)
end
def Xo(K:W.Frag)(b:Bool)(l:Addr):It:=
 ⟨λi H=>∃a x,Sq b K H l a/\a[i]?=some x,
  λi H v c=>∃T x,v=.ref T/\H T=none/\c=upd H T (.tup [.int i,x])/\∀a,Sq b K H l a->a[i]?=some x,
  λi H=>∃a,Sq b K H l a/\a.length=i⟩
theorem Vs{P:m8}{w:nP}{K:W.Frag}{m:List Expr}{kk:Nat}{pos:Pos}{b:Bool}{e it l:Addr}(C:e≠it)(JK:e≠l):
  Rq P w K (.Tuple m kk pos) (Xo K b l) [e,it] e (λi h=>(∃d,IsEnum h e it i d)/\D0 b h it l i)where
 mem:=cL
 obj:=λi h ⟨⟨d,g⟩,f⟩ c a=>by
  obtain⟨o1,e1,c1,d1⟩:=f.data;simp only[List.mem_cons,List.not_mem_nil,or_false]at a;rcases a with rfl|rfl
  ·exact⟨_,g,λv q=>by cases q⟩
  ·exact⟨_,e1,λv q=>by rw[d1]at q;cases q⟩
 keep:=λi h S ⟨⟨d,g⟩,f⟩ j=>⟨⟨d,j e (by simp) _ g⟩,f.at' λo q=>j it (by simp) o q⟩
 item:=by
  intro X G J F a i r s σ H E I B ⟨⟨d,g⟩,f⟩ ⟨xs,x,y,R⟩;subst G J F;obtain⟨n,M,p⟩:=I.sq y;obtain⟨u1,O,vT⟩:=M.get R
  have JJ:i<n.toArray.size:=by
   have:=(bG.mp O).1;simpa using this
  refine wpAny_pyNext_enum_itemD (E8 (A:=X.A.in1) (I.ok.hd a) b it l (f.ne p) n.toArray) g ⟨f,p⟩ JJ C (by simp[C,JK]) λu S N eu a1 a2 a3 a4 j=>⟨_,rfl,?_⟩;have e2:u=u1:=d0 (eu.symm.trans (by simpa using O));subst e2;refine wpAny_letOwnedTupleGo_enum a1 λZ Y L=>?_;have T:e<s.heap.objs.size:=dg g;have U:Z.get? s.heap.objs.size=some {cls:=.type "tuple",data:=.seq #[.int i N,u] }:=L.extBut _ _ (Nat.ne_of_gt T) a3;refine⟨.ref s.heap.objs.size,upd H s.heap.objs.size (.tup [.int i,x]),I.hU (t':=N+1) (ch:=[e,it]) B (λc o a D=>?_) (da _) ?_,rfl,⟨_,x,rfl,I.fresh,rfl,λJI q=>?_⟩,⟨⟨u,?_⟩,?_⟩,λc a=>?_⟩
  ·simp only[List.mem_cons,List.not_mem_nil,or_false,not_or]at a;exact L.extBut _ _ a.1 (j c o a.1 a.2 D)
  ·exact⟨⟨dI (by decide:2<=1000) (Ln (da _)),_,U,rfl⟩,[.int i N,u],.cons ⟨_,rfl⟩ (.cons vT .nil),⟨_,U,rfl,0,rfl⟩⟩
  ·rw[I.mH q y];exact R
  ·have z:=Y;rw[show((i:Int)+1)=((i+1:Nat):Int)by omega]at z;exact z
  ·exact a2.1.at' λo eo=>L.extBut _ _ (Ne.symm C) eo
  ·rw[Ab]
   ·exact(B c a).1
   ·simp only[List.mem_cons,List.not_mem_nil,or_false]at a;rcases a with rfl|rfl
    ·exact ed T
    ·exact ed f.lt
 done:=by
  intro X G J F a i r s σ H E I B ⟨⟨d,g⟩,f⟩ ⟨xs,y,hl⟩;subst G J F;obtain⟨n,M,p⟩:=I.sq y;have n1:=M.length;have n2:i=n.toArray.size:=by simp only[List.size_toArray];omega
  subst n2;refine wpAny_pyNext_enum_endD (E8 (A:=X.A.in1) (I.ok.hd a) b it l (f.ne p) n.toArray) g ⟨f,p⟩ λS j=>⟨rfl,I.hV (t':=s.toks) (ch:=[e,it]) B λc o a D=>?_⟩;simp only[List.mem_cons,List.not_mem_nil,or_false,not_or]at a;exact j c o a.2 D
 self:=λA i s Q E ⟨⟨d,g⟩,_⟩ hQ=>wpAny_pyIter_enum g hQ
theorem Sd(l:Addr)(a:Array mK)(n:Nat)(i:Option Addr)(o:Array (Option mK)):
  Meets (Builtin.«enumerate.__new__» ⟨[.type "enumerate",.ref l],[]⟩) (λ_ R s=>s.heap.get? l=some {cls:=.type "tuple",dict:=i,data:=.seq a n,slots:=o}/\
   R (.ok (.ret (.ref (pf true s.heap l).objs.size))) {s with heap:=(pf true s.heap l).push {cls:=.type "enumerate",data:=.fields #[.none,.bool false,.ref s.heap.objs.size,rawInt 0,.none,.none] } }):=
 .of_wp λf w A R s h=>by
  obtain⟨j,g,d,p,m⟩:=s;obtain⟨b,h⟩:=h;have r:=sub_enumerate;have e:Heap.IsTuple (Shared.heap ⟨j,g,d,p,m⟩) l a:=⟨_,b,rfl,n,rfl⟩
  wp_walk using wpAny_loadPart' b
  refine wpAny_stack_any λq=>bc ?_;split
  ·rename_i c _ _ _ _ _;cases(c==Value.type "enumerate")
   ·wp_walk using wpAny_loadPart' b,wpAny_pyIter_tuple e
    exact⟨_,rfl,h⟩
   ·wp_walk using wpAny_loadPart' b,wpAny_pyIter_tuple e
    exact⟨_,rfl,h⟩
  ·wp_walk using wpAny_loadPart' b,wpAny_pyIter_tuple e
   exact⟨_,rfl,h⟩
theorem Ul(p:s.heap.IsTuple l a)
  (h:∀h',IsEnum h' (s.heap.objs.size+1) s.heap.objs.size 0 .none->h'.IsTupleIter s.heap.objs.size l 0->(∀b o,s.heap.get? b=some o->h'.get? b=some o)->Q (.ref (s.heap.objs.size+1)) {s with heap:=h'}):
  wpAny (model P w) A (call (.type "enumerate") [.ref l]) Q E s:=by
 obtain⟨⟨c,g,i,v⟩,u,q,n,r⟩:=p;have m:c=.type "tuple":=q;have j:i=.seq a n:=r;subst m j;refine callType_new F.called_enumerate (by decide) (F.typeCall_enumerate_1 _) (F.newCall_enumerate_1 _) (λe=>F.args_object_init_2 e _) F.entry_enumerate_new (Sd l a n g v) ⟨u,?_⟩;have f:(pf true s.heap l).objs.size=s.heap.objs.size+1:=Heap.size_push ..;show _/\_;rw[f];have d:=cI (pf true s.heap l) (o:={cls:=.type "enumerate",data:=.fields #[.none,.bool false,.ref s.heap.objs.size,rawInt 0,.none,.none] }) rfl;rw[f]at d;exact⟨⟨_,d,rfl⟩,h _ d ⟨_,bZ _ (cI _ rfl),rfl,rfl⟩ λb o x=>bZ _ (bZ _ x)⟩
section
variable {X:Cx}
def qy(K:W.Frag)(d:TA):TI:=λg H R=>d g H λe c=>∃(b:Bool) (a:Addr),e=[.ref a]/\(∃f,Sq b K c a f)/\R (Xo K b a) c
theorem Td{i:List Expr}{z:Nat}{y:Pos}{a:Expr}{A:TA}{p pos:Pos}(E:Gl X "enumerate")(F:X.mg "enumerate"=none)(D:PA X [a] A)(G:starEach [a] X.env=[(false,eval a X.env)]:=by rfl):
  PI X (.Tuple i z y) (.Call (.Name "enumerate" p) [a] [] pos) (qy X.K A):=by
 intro f s v H R I h;refine Call_ (Ea I E F boot_enumerate (PyProof.Rows.callWith_type1 (Bj (D pos f s v H _ I h) λT d ⟨U,w,r,M,L⟩=>?_) G rfl));obtain⟨b,K,e,⟨Y,J⟩,q⟩:=L;subst e;obtain⟨S,rfl,O⟩:=Eg M;cases O;obtain⟨Q,N,u⟩:=r.sq J;have C:=u.lt
 have fin:∀g,IsEnum g (d.heap.objs.size+1) d.heap.objs.size 0 .none->D0 b g d.heap.objs.size K 0->(∀b o,d.heap.get? b=some o->g.get? b=some o)->
   wpAny (model X.prog X.w) X.A (pyIter (.ref (d.heap.objs.size+1))) (WC X f v (.Tuple i z y) R) X.xe {d with heap:=g}:=λg j l m=>by
  refine wpAny_pyIter_enum j ?_;have B:Aj X f v w {d with heap:=g}:=r.kept (t':=d.toks) m;refine⟨d.heap.objs.size+1,[d.heap.objs.size+1,d.heap.objs.size],_,_,w,rfl,B,Vs (Nat.ne_of_gt (Nat.lt_succ_self _)) (Nat.ne_of_gt (Nat.lt_succ_of_lt C)),⟨⟨_,j⟩,l⟩,λc x=>?_,q⟩
  have n:d.heap.objs.size<=c:=by
   simp only[List.mem_cons,List.not_mem_nil,or_false]at x;rcases x with rfl|rfl<;>omega
  exact r.mE n (r.aF.fresh n)
 cases b with
 |false=>exact call_enumerate_list u λg j l P m=>fin g j l m
 |true=>exact Ul u λg j l m=>fin g j l m
end
theorem ba{K:PySem.W.Frag}{b1 b2:Bool}{c d:Addr}{xs ys:List V}{g:TG}{u:TS}{D:Ix}{a:St}{H:Hp}(r:xs.length=ys.length)(b:Nat->St->Hp->Prop)(h0:b 0 a H)(G:∀i a H,i<=xs.length->b i a H->Sq b1 K H c xs/\Sq b2 K H d ys)
  (I:∀i x y T a H,xs[i]?=some x->ys[i]?=some y->b i a H->H T=none->g (.ref T) a (upd H T (.tup [x,y])) λj l=>u {D with nx:=b (i+1),ct:=b (i+1),bk:=D.nx} j l)(E:∀a H,b xs.length a H->D.nx a H):
  ∃W:Nat->Nat->St->Hp->Prop,(∃m,W 0 m a H)/\∀i m a H,W i m a H->
   ((Xp K b1 b2 c d).stop i H/\D.nx a H)\/((Xp K b1 b2 c d).go i H/\∃N:St->Hp->Prop,(∀h f,N h f->∃s,s<m/\W (i+1) s h f)/\∀x f,(Xp K b1 b2 c d).vJ i H x f->g x a f λj l=>u {D with nx:=N,ct:=N,bk:=D.nx} j l):=by
 refine⟨λi m a H=>m=xs.length-i/\i<=xs.length/\b i a H,⟨xs.length,by simp,jT _,h0⟩,?_⟩;rintro i m a H ⟨rfl,F,p⟩;obtain⟨n,o⟩:=G i a H F p;by_cases q:i<xs.length
 ·have w:i<ys.length:=by omega
  refine .inr ⟨⟨xs,ys,xs[i],ys[i],n,o,by simp[q],by simp[w]⟩,b (i+1),λh f J=>⟨xs.length-(i+1),by omega,rfl,q,J⟩,λv f y=>?_⟩;obtain⟨T,x,z,rfl,C,rfl,A,B⟩:=y;exact I i x z T a H (A xs n) (B ys o) p C
 ·have e:i=xs.length:=by omega
  subst e;exact .inl ⟨⟨xs,ys,n,o,.inl rfl⟩,E a H p⟩
theorem Ye{K:PySem.W.Frag}{b:Bool}{c:Addr}{xs:List V}{g:TG}{r:TS}{D:Ix}{a:St}{H:Hp}(d:Nat->St->Hp->Prop)(h0:d 0 a H)(A:∀i a H,i<=xs.length->d i a H->Sq b K H c xs)
  (B:∀i x T a H,xs[i]?=some x->d i a H->H T=none->g (.ref T) a (upd H T (.tup [.int i,x])) λj l=>r {D with nx:=d (i+1),ct:=d (i+1),bk:=D.nx} j l)(w:∀a H,d xs.length a H->D.nx a H):
  ∃W:Nat->Nat->St->Hp->Prop,(∃m,W 0 m a H)/\∀i m a H,W i m a H->
   ((Xo K b c).stop i H/\D.nx a H)\/((Xo K b c).go i H/\∃N:St->Hp->Prop,(∀h f,N h f->∃q,q<m/\W (i+1) q h f)/\∀x f,(Xo K b c).vJ i H x f->g x a f λj l=>r {D with nx:=N,ct:=N,bk:=D.nx} j l):=by
 refine⟨λi m a H=>m=xs.length-i/\i<=xs.length/\d i a H,⟨xs.length,by simp,jT _,h0⟩,?_⟩;rintro i m a H ⟨rfl,z,p⟩;have n:=A i a H z p;by_cases o:i<xs.length
 ·refine .inr ⟨⟨xs,xs[i],n,by simp[o]⟩,d (i+1),λh f C=>⟨xs.length-(i+1),by omega,rfl,o,C⟩,λv f y=>?_⟩;obtain⟨T,x,rfl,u,rfl,s⟩:=y;exact B i x T a H (s xs n) p u
 ·have e:i=xs.length:=by omega
  subst e;exact .inl ⟨⟨xs,n,rfl⟩,w a H p⟩
abbrev qu(K:W.Frag):TG:=qt K 2 (bd (Je 0) (bd (Je 1) yn))
theorem Y4{K:W.Frag}{b1 b2:Bool}{c d:Addr}{xs ys:List V}{u:List Nat}{n:TT}{l:TE}{g:St}{D:Addr}{B:Hp}{Q:Hp->Prop}(C:ys.length=xs.length\/ys.length<xs.length)(h:Nat->List V->Hp->Prop)(h0:h 0 [] (upd B D (.lst [])))
  (M:∀i a H,i<=ys.length->h i a H->Sq b1 K H c xs/\Sq b2 K H d ys)
  (N:∀i x y T a H,xs[i]?=some x->ys[i]?=some y->h i a H->H T=none->n (some x::some y::D1 u g) (upd H T (.tup [x,y])) λb o=>
   if b=true then l (some x::some y::D1 u g) o λv r=>r D=some (.lst a)/\a.length<sizeLine/\h (i+1) (a++[v]) (upd r D (.lst (a++[v])))else h (i+1) a o)
  (P:∀g H Q j,(∀b f,Q b f->j b f)->n g H Q->n g H j)(O:∀g H Q j,(∀v f,Q v f->j v f)->l g H Q->l g H j)
  (J:∀a H,h ys.length a H->Q H):Dj 2 u (Xp K b1 b2 c d) (qu K) n l g D B Q:=by
 refine⟨λi m a H=>m=ys.length-i/\i<=ys.length/\h i a H,⟨ys.length,by simp,jT _,h0⟩,?_⟩;rintro i m a f ⟨rfl,L,p⟩;obtain⟨w,A⟩:=M i a f L p;by_cases s:i<ys.length
 ·have E:i<xs.length:=by omega
  refine .inr ⟨⟨xs,ys,xs[i],ys[i],w,A,by simp[E],by simp[s]⟩,λv X y=>?_⟩;obtain⟨T,x,z,rfl,I,rfl,F,G⟩:=y;refine⟨T,_,rfl,Cu.of A5,rfl,x,_,rfl,z,_,rfl,rfl,⟨[some x,some z],rfl,rfl⟩,?_⟩;refine P _ _ _ _ ?_ (N i x z T a f (F xs w) (G ys A) p I);intro b o q;cases b with
  |false=>exact⟨ys.length-(i+1),by omega,rfl,s,q⟩
  |true=>exact O _ _ _ _ (λv r ⟨R,S,U⟩=>⟨R,S,ys.length-(i+1),by omega,rfl,s,U⟩) q
 ·have e:i=ys.length:=by omega
  subst e;refine .inl ⟨⟨xs,ys,w,A,?_⟩,J a f p⟩;omega
theorem Uc{K:W.Frag}{b1:Bool}{c:Addr}{xs:List V}{s:List Nat}{l:TT}{j:TE}{f:St}{D:Addr}{w:Hp}{Q:Hp->Prop}(g:Nat->List V->Hp->Prop)(h0:g 0 [] (upd w D (.lst [])))
  (E:∀i a H,i<=xs.length->g i a H->Sq b1 K H c xs)
  (F:∀i x T a H,xs[i]?=some x->g i a H->H T=none->l (some (.int i)::some x::D1 s f) (upd H T (.tup [.int i,x])) λb n=>
   if b=true then j (some (.int i)::some x::D1 s f) n λv o=>o D=some (.lst a)/\a.length<sizeLine/\g (i+1) (a++[v]) (upd o D (.lst (a++[v])))else g (i+1) a n)
  (I:∀f H Q h,(∀b d,Q b d->h b d)->l f H Q->l f H h)(G:∀f H Q h,(∀v d,Q v d->h v d)->j f H Q->j f H h)
  (B:∀a H,g xs.length a H->Q H):Dj 2 s (Xo K b1 c) (qu K) l j f D w Q:=by
 refine⟨λi m a H=>m=xs.length-i/\i<=xs.length/\g i a H,⟨xs.length,by simp,jT _,h0⟩,?_⟩;rintro i m a d ⟨rfl,C,p⟩;have u:=E i a d C p;by_cases r:i<xs.length
 ·refine .inr ⟨⟨xs,xs[i],u,by simp[r]⟩,λv N y=>?_⟩;obtain⟨T,x,rfl,A,rfl,z⟩:=y;refine⟨T,_,rfl,Cu.of A5,rfl,_,_,rfl,x,_,rfl,rfl,⟨[some (.int i),some x],rfl,rfl⟩,?_⟩;refine I _ _ _ _ ?_ (F i x T a d (z xs u) p A);intro b n q;cases b with
  |false=>exact⟨xs.length-(i+1),by omega,rfl,r,q⟩
  |true=>exact G _ _ _ _ (λv o ⟨J,L,M⟩=>⟨J,L,xs.length-(i+1),by omega,rfl,r,M⟩) q
 ·have e:i=xs.length:=by omega
  subst e;exact .inl ⟨⟨xs,u,rfl⟩,B a d p⟩
section
variable {X:Cx}{a b:Expr}{rest:List Expr}{ta tb:TE}{tA xN:TT}{pos:Pos}
def A1e(t u:TT):TT:=λg H Q=>t g H λc e=>∃N:Bool->Hp->Prop,(c=true->N true e)/\(c=false->u g e N)/\∀d f,N d f->Q d f
theorem V7(p:PT X a tA)(q:PW X (.BoolOp .Or (b::rest) pos) xN):PW X (.BoolOp .Or (a::b::rest) pos) (A1e tA xN):=by
 intro w e s l H Q I h;refine isTrue_or (Bj (p e s l H _ I h) λc v o=>?_);obtain⟨f,i,N,r,u,j⟩:=o;cases c with
 |true=>exact⟨f,i,j _ _ (r rfl)⟩
 |false=>exact Bj (q w e v l f _ i (u rfl)) λd x ⟨g,m,n⟩=>⟨g,m,j d g n⟩
end
section
variable {X:Cx}
def xz(i j:Int):Prop:=0<j/\intBits j<=8999
theorem Dd:Gd X (binaryOp .FloorDiv) (rI xz λi j=>.int (i/j)):=xx λi j _ _ _ _ _ b q=>by
 have c:(0:Int)<j:=b.1;refine floordiv_int (by omega) (by rw[Int.fdiv_eq_ediv_of_nonneg i (by omega)];exact q) (.inl (PyProof.noPylong_of_log2 ?_));have a:=b.2;unfold PySem.Builtin.Int.intBits at a;rw[if_neg (by simp;omega)]at a;omega
theorem On(h:X.calm=true):D9 X (.builtin "sum") (λxs H Q=>∃(p:Addr) (ns:mv),xs=[.ref p]/\B6 X.K H p (ns.map V.int)/\Q (.int ns.sum) H):=by
 intro e s B H A z Q I r q;obtain⟨p,ns,rfl,j,q⟩:=q;obtain⟨u,rfl,n⟩:=Eg r;cases n;obtain⟨v,rv,m,x⟩:=I.list j;have c:=Fl rv;obtain⟨f,b⟩:=c.allInts.items
 have l:ns=f.toList.map (·.1):=by
  have g:=c.numsOf;have a:=nums_intItems f;rw[<- b]at a;exact g.symm.trans a
 have d:=m.isList;rw[b]at d;refine sum_intListG (I.ok.hd h) d λw y o i=>⟨.int _,H,I.kept i,⟨o,rfl⟩,?_⟩;rw[preSum_eq,List.take_of_length_le (by simp)];rw[l]at q;exact q
end
theorem B8.here(x:B8 P w H h a o):∃d,h.get? a=some d:=by
 cases o with
 |lst g=>obtain⟨_,_,_,_,e⟩:=x;exact⟨_,e⟩
 |tup g=>obtain⟨_,_,_,o,e,_⟩:=x;exact⟨_,e⟩
 |dK b=>obtain⟨_,_,_,_,o,_,_,e,_⟩:=x;exact⟨_,e⟩
 |dT b=>obtain⟨_,_,_,_,o,_,_,e,_⟩:=x;exact⟨_,e⟩
 |set S n=>obtain⟨o,_,_,_,e,_⟩:=x;exact⟨_,e⟩
 |ins C i fs=>obtain⟨_,_,_,e,_⟩:=x;exact⟨_,e⟩
 |own y=>exact x
 |xd fs=>obtain⟨s,⟨z,l,j,e,c⟩,r⟩:=x;exact⟨_,e⟩
 |pX p m=>obtain⟨t,u,v,e⟩:=x;exact⟨_,e⟩
 |bA d u=>exact⟨_,x.1⟩
 |uR A=>exact⟨_,(show h.get? a=some _ from x)⟩
 |tab q pos=>
  rcases x with e|⟨_,_,_,e,_⟩
  ·exact⟨_,e⟩
  ·exact⟨_,e⟩
 |met f y=>exact⟨_,(show h.get? a=some _ from x)⟩
 |ext B=>exact x.2.1
theorem Ga.off(ok:Ga P w H h)(e:h.get? a=none):H a=none:=by
 cases q:H a with
 |none=>rfl
 |some u=>
  obtain⟨b,z⟩:=(ok a u q).here;rw[e]at z;cases z
def Go(a:Addr)(cls:mK)(h:Heap):Prop:=∃o b,h.get? a=some o/\o.cls=cls/\o.data=.fields b
def yt(a:Addr)(h:Heap):Prop:=∃o b,h.get? a=some o/\o.data=.fields b
theorem Wk{cls:mK}(x:Go a cls h):B8 P w H h a (.ext (Go a cls)):=by
 refine⟨x,?_,?_⟩
 ·obtain⟨o,_,e,_⟩:=x;exact⟨o,e⟩
 ·rintro d f ⟨o,b,e,c⟩ k;exact⟨o,b,k o e,c⟩
def A0p(h:Heap)(a T:Addr):Prop:=∃d b c e f,h.get? a=some d/\d.data=.fields b/\b[0]?=some f/\b[1]?=some (.ref T)/\T≠a/\h.get? T=some c/\c.data=.fields e/\e[3]?=some .none
structure Zq(P:m8)(w:nP)(fr:List Addr)(H:Hp)(h:Heap)(H':Hp)(h':Heap)(a T:Addr)(cls:mK):Prop where
 un:Un fr [] H H' h h'
 ok:Ga P w H' h'
 exc:H' a=some (.ext (Go a cls))
 off:H' T=none
 new:h.get? T=none
 tr:A0p h' a T
def CX1(P:m8)(w:nP):Zl:=λb H s E e c=>∃(a T:Addr) (cls:mK) (d:Hp),e=.ref a/\c.os=s.os/\AllBare c.gens/\Zq P w (iI b) H s.heap d c.heap a T cls/\E cls none d
theorem yv{cls:mK}(u:Un i [] H d h h')(ok:Ga P w d h')(S:∀b∈i,d b=none)
  (xR:∀b∈i,∃o,h'.get? b=some o/\∀I,o.data≠ .fields I)(C:d a=some (.ext (Go a cls)))(f:∀b∈j,d b=none/\h.get? b=none)
  (st:(W.hideAll h' (i++a::j)).StaysIn l)(F:h'.UpToSlots l)(L:Go a cls l)(xT:yt T l)(U:(W.hideAll h' (i++a::j)).get? T=none)(X:T≠a):
  Un i [] H d h l/\Ga P w d l/\d T=none/\h.get? T=none:=by
 have Q:d T=none/\h.get? T=none:=by
  cases q:h'.get? T with
  |none=>
   refine⟨ok.off q,?_⟩;cases z:h.get? T with
   |none=>rfl
   |some o=>
    obtain⟨m,e⟩:=u.there T o z (by simp);rw[q]at e;cases e
  |some o=>
   by_cases s:T∈i++a::j
   ·rcases fe.mp s with z|z
    ·obtain⟨D,r,y⟩:=xR T z;obtain⟨M,g⟩:=F T D r y;obtain⟨o3,I,B,O⟩:=xT;rw[g]at B;cases B;exact absurd O (y I)
    ·rcases d3.mp z with z|z
     ·exact absurd z X
     ·exact f T z
   ·have:=W.hideAll_get _ q s;rw[U]at this;cases this
 have E:∀b o J,h'.get? b=some o->d b=some J->b≠a->l.get? b=some o:=λb o J e q p=>by
  refine st b o (W.hideAll_get _ e λs=>?_);rcases fe.mp s with z|z
  ·rw[S b z]at q;cases q
  ·rcases d3.mp z with z|z
   ·exact p z
   ·rw[(f b z).1]at q;cases q
 have K:∀b o m,h.get? b=some o->h'.get? b=some m->d b=none->b∉i->l.get? b=some m:=λb o m e A q n=>by
  refine st b m (W.hideAll_get _ A λs=>?_);rcases fe.mp s with z|z
  ·exact n z
  ·rcases d3.mp z with z|z
   ·rw[z,C]at q;cases q
   ·rw[(f b z).2]at e;cases e
 refine⟨⟨λb o e q n _=>K b o o e (u.keep b o e q n (by simp)) (u.free b o e q (by simp)) n,λb o e q n _=>?_,λb o e q _=>u.free b o e q (by simp),λb o e _=>?_,u.eG,u.cX,u.eJ⟩,λb v q=>?_,Q⟩
 ·obtain⟨Z,r⟩:=u.slot b o e q n (by simp);obtain⟨Y,g,N⟩:=xR b n;rw[r]at g;cases g;obtain⟨G,B⟩:=F b _ r N;exact⟨G,B⟩
 ·obtain⟨m,A⟩:=u.there b o e (by simp);cases q:d b with
  |none=>
   by_cases n:b∈i
   ·obtain⟨D,r,y⟩:=xR b n;obtain⟨M,g⟩:=F b D r y;exact⟨_,g⟩
   ·exact⟨_,K b o m e A q n⟩
  |some v=>
   by_cases p:b=a
   ·obtain⟨Y,_,g,_⟩:=L;rw[p];exact⟨_,g⟩
   ·exact⟨_,E b m v A q p⟩
 ·by_cases p:b=a
  ·subst p;rw[C]at q;cases q;exact Wk L
  ·refine(ok b v q).cW (λc x R e=>?_) (λc e=>e) λc xs e=>e;rcases R with z|z
   ·subst z;exact E c x v e q p
   ·refine E c x _ e z λg=>?_;rw[g,C]at z;cases z
section
variable {X:Cx}{pins:List (Addr×Obj)}{σ:St}{H:Hp}{s:mI}
theorem Aj.xR(I:Aj X pins σ H s):∀b∈iI X.stack,∃o,s.heap.get? b=some o/\∀c,o.data≠ .fields c:=λb a=>(I.stack.mem a).2
theorem Aj.vU{cls:mK}{t':Nat}(I:Aj X pins σ H s)(m:Heap.MadeExcOf s.heap h' e cls h):
  A9 H (upd H e (.ext (Go e cls)))/\Aj X pins σ (upd H e (.ext (Go e cls))) {s with heap:=h',toks:=t'}:=by
 have g:=I.aF.off m.new
 have same:A9 H (upd H e (.ext (Go e cls))):=λb o q=>by
  rw[Ab (Ae q g)];exact q
 obtain⟨t,d,_,_⟩:=m.there;refine⟨same,I.un ⟨λb o q _ _ _=>m.keeps b o q,λb o q _ _ _=>⟨o.slots,m.keeps b o q⟩,λb o q z _=>?_,λb o q _=>⟨o,m.keeps b o q⟩,λb i q=>same _ _ q,λb o u q=>same _ _ q,λb j q=>⟨#[],by rw[same _ _ q];simp⟩⟩ λb u q=>?_⟩
 ·rw[Ab (λf=>?_)]
  ·exact z
  ·rw[f,m.new]at q;cases q
 ·by_cases a:b=e
  ·subst a;rw[A5]at q;cases q;exact Wk ⟨_,_,d,rfl,rfl⟩
  ·rw[Ab a]at q;exact(I.aF b u q).cW (λc v _ z=>m.keeps c v z) (λc z=>same _ _ z) λc i z=>same _ _ z
theorem Aj.xU{cls:mK}(I:Aj X pins σ H s)(e:s'.os=s.os)(c:AllBare s'.gens)(F:Zq X.prog X.w (iI X.stack) H s.heap d s'.heap a T cls):Aj X pins σ d s':=
 I.xM e F.un F.ok c λb z=>absurd z (by simp)
theorem o0(I:Aj X pins σ H s):s.heap.FunFrames (W.hideAll s.heap (iI X.stack++a::d)) X.stack:=
 W.funFrames_hide I.stack λc f b e=>fe.mpr (.inl (List.mem_filterMap.mpr ⟨c,f,e⟩))
theorem Sh:(W.hideAll h (c++a::b)).get? a=none:=W.hideAll_none _ (fe.mpr (.inr (.head _)))
theorem bp(e:b∈c):(W.hideAll h (d++a::c)).get? b=none:=W.hideAll_none _ (fe.mpr (.inr (.tail _ e)))
theorem Zq.cls{P:m8}{w:nP}{c:List Addr}{H b:Hp}{h h':Heap}{a T:Addr}{cls:mK}(F:Zq P w c H h b h' a T cls):Go a cls h':=(F.ok a _ F.exc).1
theorem Zq.BU{P:m8}{w:nP}{j:List Addr}{H e:Hp}{h h' B:Heap}{a T:Addr}{cls:mK}(F:Zq P w j H h e h' a T cls)(p:B.get? T=none):∃b,h'.TracedW B a cls b:=by
 obtain⟨v,y,u,x,b,d,f,l,m,r,i,g,n⟩:=F.tr;obtain⟨o,z,q,c,_⟩:=F.cls;rw[d]at q;cases q;exact⟨b,v,y,T,u,x,d,⟨c,l⟩,f,m,p,r,i,g,n⟩
theorem Zq.on{P:m8}{w:nP}{e c:List Addr}{H d:Hp}{h h' i:Heap}{a:Addr}{cls l:mK}(un:Un e [] H d h h')(ok:Ga P w d h')(f:d a=some (.ext (Go a cls)))(A:∀b∈e,d b=none)
  (xR:∀b∈e,∃o,h'.get? b=some o/\∀j,o.data≠ .fields j)(g:∀b∈c,d b=none/\h.get? b=none)
  (st:(W.hideAll h' (e++a::c)).StaysIn i)(I:h'.UpToSlots i)(J:i.TracedW (W.hideAll h' (e++a::c)) a cls l):∃T,Zq P w e H h d i a T cls:=by
 obtain⟨n,j,T,m,y,p,⟨D,E⟩,q,F,G,r,v,x,z⟩:=J;obtain⟨u,k,B,C⟩:=yv (T:=T) un ok A xR f g st I ⟨n,j,p,D,q⟩ ⟨m,y,v,x⟩ G r;exact⟨T,u,k,f,B,C,n,j,m,y,l,p,q,E,F,r,v,x,z⟩
end
section
variable {P:m8}{w:nP}{K:W.Frag}{mg:Str->Option mK}{base:Heap}{N:List Str}{qual:Str}{scope:Scope}{f:Addr}{cd:mK}{A:nf}{outer:List Env}{s₀:mI}{H₀:Hp}{E:XK}
theorem d7{c:List (Addr×Obj)}{j:St}{H g:Hp}{s:mI}{s':mI}{a T:Addr}{cls:mK}(I:Aj (F9 (CX1 P w) P w K mg base N qual scope f cd A outer s₀ H₀ E) c j H s)
  (i:s'.os=s.os)(b:AllBare s'.gens)(F:Zq P w (iI (F9 (CX1 P w) P w K mg base N qual scope f cd A outer s₀ H₀ E).stack) H s.heap g s'.heap a T cls)(h:E cls none g):CX1 P w outer H₀ s₀ E (.ref a) s':=by
 have d:=I.xU i b F;refine⟨a,T,cls,g,rfl,d.os,d.bare,⟨d.base,d.aF,F.exc,F.off,?_,F.tr⟩,h⟩;cases q:s₀.heap.get? T with
 |none=>rfl
 |some o=>
  obtain⟨l,e⟩:=I.base.there T o q (by intro z;cases z);rw[F.new]at e;cases e
def Zr(X:Cx)(R:St->XK->Prop):Prop:=∀(a:List (Addr×Obj)) (c:St) (H:Hp) (s:mI) (e:mK) (b:mI) (E:XK),R c E->Aj X a c H s->CX1 X.prog X.w X.stack H s E e b->X.xe e b
def RD(E:XK):St->XK->Prop:=λ_ a=>∀c d H,a c d H->E c d H
theorem d9:Zr (F9 (CX1 P w) P w K mg base N qual scope f cd A outer s₀ H₀ E) (RD E):=by
 rintro h J H s e i z p I ⟨a,T,cls,B,rfl,g,c,F,m⟩;have d:=I.xU g c F;obtain⟨D,y⟩:=F.BU (B:=W.hideAll i.heap (iI (F9 (CX1 P w) P w K mg base N qual scope f cd A outer s₀ H₀ E).stack++a::[T])) (bp (by simp));refine wpAny_leaving_nextW (L:=s₀.heap.objs.size) (outer:=outer) I.ok.frames (o0 d) rfl y (λb o q=>W.of_hideAll _ q) Sh λl n=>?_;obtain⟨u,G,v,x⟩:=n;obtain⟨C,j⟩:=Zq.on F.un F.ok F.exc d.gT d.xR (λb r=>by rw[List.mem_singleton.mp r];exact⟨F.off,F.new⟩) u x v;exact d7 (s':={i with heap:=l}) I g c j (p _ _ _ m)
def Zs(X:Cx)(E:XK):Prop:=∀(a:List (Addr×Obj)) (g:St) (H:Hp) (s:mI) (c:Heap) (e:Addr) (cls:mK) (d:List mK),Aj X a g H s->Heap.MadeExcOf s.heap c e cls d->
 (∀b,A9 H b->E cls none b)->X.xe (.ref e) {s with heap:=c}
theorem Na:Zs (F9 (CX1 P w) P w K mg base N qual scope f cd A outer s₀ H₀ E) E:=by
 intro d G H s c e cls D I m l;obtain⟨same,a⟩:=I.vU (t':=s.toks) m;obtain⟨t,h,_,_⟩:=m.there
 have un:Un (iI (F9 (CX1 P w) P w K mg base N qual scope f cd A outer s₀ H₀ E).stack) [] H (upd H e (.ext (Go e cls))) s.heap c:=
  ⟨λb o q _ _ _=>m.keeps b o q,λb o q _ _ _=>⟨o.slots,m.keeps b o q⟩,λb o q z _=>by
   rw[Ab (λi=>by rw[i,m.new]at q;cases q)];exact z,λb o q _=>⟨o,m.keeps b o q⟩,λb F q=>same _ _ q,λb o u q=>same _ _ q,λb C q=>⟨#[],by rw[same _ _ q];simp⟩⟩
 refine wpAny_leaving_firstW (base:=W.hideAll c (iI (F9 (CX1 P w) P w K mg base N qual scope f cd A outer s₀ H₀ E).stack++e::[])) (L:=s₀.heap.objs.size) (outer:=outer) I.ok.frames (o0 a) rfl h (λb o q=>W.of_hideAll _ q) Sh rfl rfl rfl λj n=>?_;obtain⟨r,B,v,x⟩:=n;obtain⟨y,g⟩:=Zq.on un a.aF A5 a.gT a.xR (λb p=>absurd p (by simp)) r x v;exact d7 (s':={s with heap:=j}) I rfl I.bare g (l _ same)
end
def jl(K:W.Frag)(C:Addr):Prop:=W.excIn K C [.type "ValueError",.type "Exception",.type "BaseException",.type "object"] "ValueError.__new__"=true
theorem kh{K:W.Frag}{h:Heap}{C:Addr}{b:List mK}{a:String}(X:K.In h)(q:W.excIn K C b a=true):
  ∃(bm:List mK) (N:Addr) (nm e:Str) (bs:List mK) (d:Bool) (sn:List Str) (sub:List mK) (ab:Bool) (col:Option Bool) (dd:Option Addr) (k0 k1 k2 k3 k5:Option mK) (mN:Str->Option mK),
   h.get? C=some (excClassObj nm e C N bs bm d sn sub ab col dd k0 k1 k2 k3 k5 a)/\h.Ns N mN/\mN "__init__"=none/\OwnTail h b bm:=by
 unfold W.excIn at q;split at q
 case h_2=>exact absurd q eI
 case h_1 dd cd sl ho=>
  split at q
  case h_2=>exact absurd q eI
  case h_1 C' bm k0 k1 k2 k3 n k5 hm hs=>
   simp only[beq_iff_eq,Bool.and_eq_true,Bool.not_eq_true']at q;obtain⟨⟨⟨⟨⟨j,m⟩,f⟩,o⟩,c⟩,g⟩:=q;subst j m;obtain⟨nm,bs,r,s,e,d,sn,sub,ab,col,i⟩:=cd;dsimp only at hm f c g;subst hm f;obtain⟨l⟩:=sl;have p:l=[k0,k1,k2,k3,some (.builtin n),k5]:=hs;subst p;exact⟨bm,s,nm,e,bs,d,sn,sub,ab,col,dd,k0,k1,k2,k3,k5,_,X _ _ ho,.of_isNs (W.isNs_of_in X c),W.nsMap_none_of_in X c g,W.tail_of_in X o⟩
section
variable {X:Cx}{x:Str}{C:Addr}{p np aS pos:Pos}{e:Expr}{es:List Expr}{t:TA}{E:XK}
def xh(C:Addr)(t:TA)(E:XK):TS:=λ_ d H=>t d H λc b=>c.length<=sizeLine/\∀a,A9 b a->E (.ref C) none a
theorem Gy(A:Zs X E)(F:X.calm=true)(J:Gl X x)(L:X.mg x=some (.ref C))(O:jl X.K C)(B:PA X (e::es) t)(pE:(x==("__debug__":Str))=false:=by decide)
  (he:starEach (e::es) X.env=(false,eval e X.env)::starEach es X.env:=by rfl)(P:(backTo aS (starEach es X.env)).any (·.1)=false:=by rfl):
  PS X (.Raise (some (.Call (.Name x np) (e::es) [] aS)) none pos) (xh C t E):=by
 intro b s i H D I h;obtain⟨o,N,nm,qn,bs,G,sn,g,n,d,q,Q,R,S,U,Y,Z,v,y,f,T⟩:=kh I.ok.mod.IJ O
 have l:(backTo aS (starEach (e::es) X.env)).any (·.1)=false:=by
  rw[he];show(false||(backTo aS (starEach es X.env)).any (·.1))=false;rw[P];rfl
 refine wpAny_Raise_call_subT (bm:=o) (N:=N) (nm:=nm) (q:=qn) (bs:=bs) (hdct:=G) (sn:=sn) (sub:=g) (ab:=n) (col:=d) (dd:=q) (k0:=Q) (k1:=R) (k2:=S) (k3:=U) (k5:=Y) (mN:=Z) (C:=C)
  PySem.F.excBase_ValueError (T.hasType rfl) (I.ok.hd F) l f (Lj I J L ⟨rfl,?_⟩ pE)
 have w:=B aS b s i H _ I h;rw[he]at w⊢;refine Calls.evalArgs_plain (Bj w λus s2 z=>?_);obtain⟨vs,j,c,r,K,M⟩:=z;exact⟨rfl,by rw[<- r.length];exact K,c.bk _ _ v,y.keeps c.bk,T.keeps c.bk,λu a m=>A b i j s2 u a _ us c m M⟩
variable {k:Nat}{f:Addr}{fd:nr}{ps:List Str}{sp:Sp}{lY:List V}{ds:List mK}{R:St->XK->Prop}
def ww(sp:Sp)(lY:List V)(R:St->XK->Prop)(t:TA):TE:=λa H Q=>t a H λc b=>∃E,R a E/\sp (c++lY) b Q E
theorem mn(F:Bf X.prog X.w X.K X.mg X.base (CX1 X.prog X.w) k f fd ps sp)(v:Ba k X.A)(n:Dl X.K fd ps ds)(o:Ay lY ds)(w:Zr X R)
  (I:Aj X b d H s)(r:Ay j c)(m:R d E)(h:sp (j++lY) H Q E):wpAny (model X.prog X.w) X.A (call (.ref f) c) (EP X b d Q) X.xe s:=by
 have l:=r.append o;have q:(c++ds).length=ps.length:=l.length.symm.trans (F.len _ _ _ _ h);have i:=F.run X.A X.stack s H ⟨c,[]⟩ (c++ds) (j++lY) Q E v I.IU (n s c I.iY q) l h;refine wpAny_call (codeAny_mono i λg y a=>?_)
 match g,a with
 | .error e,a=>exact w b d H s e y E m I a
 | .ok (.ret u),a=>exact I.after a
 | .ok .next,a=>exact a.elim
 | .ok .brk,a=>exact a.elim
 | .ok .cont,a=>exact a.elim
theorem N6(F:Bf X.prog X.w X.K X.mg X.base (CX1 X.prog X.w) k f fd ps sp)(n:Ba k X.A)(j:Gl X x)(m:X.mg x=some (.ref f))(l:W.keepIn X.K (.ref f)=true)(g:Dl X.K fd ps ds)(i:Ay lY ds)(o:Zr X R)(d:PA X (e::es) t)
  (v:(x==("__debug__":Str))=false:=by decide)(he:starEach (e::es) X.env=(false,eval e X.env)::starEach es X.env:=by rfl)(u:(backTo pos (starEach es X.env)).any (·.1)=false:=by rfl):
  PE X (.Call (.Name x p) (e::es) [] pos) (ww sp lY R t):=by
 intro a s y H Q I h;have w:=d pos a s y H _ I h;refine wpAny_Call_Name_kw (Lj I j m ?_ v);refine W.callWith_K (h₀:=X.base) I.ok.mod.IJ l (Bj w λD B z=>?_) he u;obtain⟨G,A,b,r,E,c,q⟩:=z;exact⟨b.iY,mn F n g i o b r c q⟩
theorem Ao:U5 (CX1 P w) X E0:=λ_ _ _ _ _ _ _ ⟨_,_,_,_,_,_,_,_,z⟩=>z.elim
end
section
variable {P:m8}{w:nP}{K:W.Frag}{mg:Str->Option mK}{base:Heap}{x qual:Str}{st:Stmt}{f:Addr}{fd:nr}{N ps:List Str}{k:Nat}{sp:Sp}
theorem Dn.xV(F:Dn K x qual st f fd)(S:Ai N ps (A8 st))(len:∀a H Q E,sp a H Q E->a.length=ps.length)
  (d:∀(b:mK) (A:nf) (outer:List Env) (s:mI) (H:Hp) (a:List V) (Q:VK) (E:XK),Ba k (A.deeper (envOfC qual (A8 st) s.heap.objs.size f b))->sp a H Q E->
   ∃t,Od (F9 (CX1 P w) P w K mg base N qual (A8 st) f b A outer s H E) (Bi st) t/\t {nx:=λ_ c=>Q .aP c,rt:=Q} (start N a) H):Bf P w K mg base (CX1 P w) (k+1) f fd ps sp:=by
 obtain⟨m,n,kV,e,o,i,b,j,l,rfl,g,h⟩:=F.ex;exact b9 g h S len (d b)
theorem Rn.xV(F:Rn K x qual st f fd)(S:Ai N ps (A8 st))(len:∀a H Q E,sp a H Q E->a.length=ps.length)
  (d:∀(b:mK) (A:nf) (outer:List Env) (s:mI) (H:Hp) (a:List V) (Q:VK) (E:XK),Ba k (A.deeper (envOfC qual (A8 st) s.heap.objs.size f b))->sp a H Q E->
   ∃t,Od (F9 (CX1 P w) P w K mg base N qual (A8 st) f b A outer s H E) (Bi st) t/\t {nx:=λ_ c=>Q .aP c,rt:=Q} (start N a) H):Bf P w K mg base (CX1 P w) (k+1) f fd ps sp:=by
 obtain⟨n,o,l,kV,e,p,i,b,j,m,rfl,g,h⟩:=F.ex;exact b9 g h S len (d b)
theorem Dn.okN(F:Dn K x qual st f fd)(S:Ai N ps (A8 st))(len:∀a H Q E,sp a H Q E->a.length=ps.length)
  (d:∀(b:mK) (A:nf) (outer:List Env) (s:mI) (H:Hp) (a:List V) (Q:VK) (E:XK),Ba k (A.deeper (envOfC qual (A8 st) s.heap.objs.size f b))->sp a H Q E->
   ∃t,Od (F9 (CX1 P w) P w K mg base N qual (A8 st) f b A outer s H E).HD (Bi st) t/\t {nx:=λ_ c=>Q .aP c,rt:=Q} (start N a) H):Bf P w K mg base (CX1 P w) (k+1) f fd ps sp:=
 F.xV S len λb A outer s H a Q E e g=>let⟨t,h,q⟩:=d b A outer s H a Q E e g;⟨t,h.HD,q⟩
theorem Rn.okN(F:Rn K x qual st f fd)(S:Ai N ps (A8 st))(len:∀a H Q E,sp a H Q E->a.length=ps.length)
  (d:∀(b:mK) (A:nf) (outer:List Env) (s:mI) (H:Hp) (a:List V) (Q:VK) (E:XK),Ba k (A.deeper (envOfC qual (A8 st) s.heap.objs.size f b))->sp a H Q E->
   ∃t,Od (F9 (CX1 P w) P w K mg base N qual (A8 st) f b A outer s H E).HD (Bi st) t/\t {nx:=λ_ c=>Q .aP c,rt:=Q} (start N a) H):Bf P w K mg base (CX1 P w) (k+1) f fd ps sp:=
 F.xV S len λb A outer s H a Q E e g=>let⟨t,h,q⟩:=d b A outer s H a Q E e g;⟨t,h.HD,q⟩
theorem A0w{qual:Str}{outer:List Env}:
  PassesOwn (model P w) (F9 (CX1 P w) P w K mg base N qual a f b A outer s H E).A (F9 (CX1 P w) P w K mg base N qual a f b A outer s H E).env (F9 (CX1 P w) P w K mg base N qual a f b A outer s H E).xe:=PassesOwn.leaving
end
theorem Ya(a v:mK):argsOk "max" ⟨[a],[(Str.ofString "default",v)]⟩:=by
 unfold argsOk
 kernel_rfl
def I0(val:Nat->Int)(j:Nat)(m:Int):Prop:=(∃i,i<=j/\m=val i)/\∀i,i<=j->val i<=m
theorem I0.up{val:Nat->Int}(h:I0 val j m)(b:m<val (j+1)):I0 val (j+1) (val (j+1)):=by
 refine⟨⟨j+1,da _,rfl⟩,λi a=>?_⟩;rcases il j i with z|z
 ·have e:i=j+1:=by omega
  rw[e];omega
 ·have:=h.2 i z;omega
theorem I0.same{val:Nat->Int}(h:I0 val j m)(b:¬m<val (j+1)):I0 val (j+1) m:=by
 obtain⟨⟨d,g,a⟩,c⟩:=h;refine⟨⟨d,by omega,a⟩,λi f=>?_⟩;rcases il j i with z|z
 ·have e:i=j+1:=by omega
  rw[e];omega
 ·exact c i z
section
variable {prog:m8}{w:nP}{A:nf}{R:Result->mI->Prop}{I S:Addr}{fp wr:List Addr}{n:Nat}{P:Nat->mK->Prop}{St:Nat->Heap->Prop}{val:Nat->Int}
theorem Qd(h:wpAny (model prog w) A.in1 (Builtin.«max.loop» a) (λfin s'=>match fin with
   | .done f=>R (.ok f) s'
   | .again b=>b.quiet=true/\codeAny (model prog w) A b R s') (λe s'=>R (.error e) s') s):codeAny (model prog w) A (.builtin "max.loop" a) R s:=by
 refine codeAny_builtin F.entry_max_loop ?_;rw[Around.under_plainId F.plain_max_loop _];exact h
theorem jx(W:Walks prog w A.in1 I fp wr n P St)(K:∀i v,P i v->∃t,v=.int (val i) t)(M:S∉fp)(kw:List (Str×mK)):
  ∀(k j:Nat) (s:mI) (m:Int) (t:Tok) (c:Nat),n=j+1+k->St (j+1) s.heap->I0 val j m->
  s.heap.get? S=some {cls:=.type "list",dict:=none,data:=.seq #[.int m t,.int m t] c,slots:=#[] }->
  (∀N t' J tk,I0 val (n-1) N->(∀b o,b∉wr->b≠S->s.heap.get? b=some o->J.get? b=some o)->R (.ok (.ret (.int N t'))) {s with heap:=J,toks:=tk})->
  codeAny (model prog w) A (.builtin "max.loop" ⟨[.ref I,.none,.ref S],kw⟩) R s:=by
 have Q:S∉wr:=λz=>M (W.sub _ z);have T:(toString "max"++toString ".loop":String)="max.loop":=by decide
 have JL:CmpOf prog w A.in1 .Gt P (λi j=>decide (val i>val j)):=CmpOf.ints_gt val K;intro k
 induction k with
 |zero=>
  intro j s m t c hk u q l p;refine Qd ?_;refine a0 ( fC l rfl ?_);show wpAny (model prog w) A.in1 (tryCatch (pyNext (.ref I)) _>>=_) _ _ s;have X:j+1=n:=by omega
  refine a0 (wpAny_tryCatch (W.done s _ _ (X▸u) λY O f=>?_));have h:=f S _ Q l;show wpAny (model prog w) A.in1 (updateSeq S (λ_=>#[])>>=_) _ _ _;refine a0 ?_;refine wpAny_updateSeq h rfl (a0 (wpAny_letGo (bc ?_)));have U:n-1=j:=by omega
  exact p m t _ O (U▸q) λb o d g e=>(ea _ _ (Ne.symm g)).trans (f b o d e)
 |succ k L=>
  intro j s m t c hk u q l p;refine Qd ?_;refine a0 ( fC l rfl ?_);show wpAny (model prog w) A.in1 (tryCatch (pyNext (.ref I)) _>>=_) _ _ s;refine a0 (wpAny_tryCatch (W.item (j+1) s _ _ (by omega) u λv Y O Z H f=>?_));have h:=f S _ Q l;obtain⟨t1,rfl⟩:=K _ _ Z;refine a0 (bc ?_);refine a0 (wpAny_tryCatch (ft (a0 ?_)));refine richCompare_gives (op:=.Gt) (typeIs_int _ _ _) (typeIs_int _ _ _) F.slot_int_gt F.entry_int_gt (F.args_int_gt_2 _ _) (gives_int_gt _ _ _ _) (λz=>nomatch z) ?_;refine a0 (ft (ib ?_));refine a0 (wpAny_letGo (bc ?_));by_cases r:m<val (j+1)
  ·have x:decide (val (j+1)>m)=true:=decide_eq_true r;simp only[x,if_true];refine a0 ?_;refine wpAny_updateSeq h rfl (a0 (wpAny_letGo ?_));rw[T];refine bc ⟨kA F.plain_max_loop _,L (j+1) _ (val (j+1)) _ _ (by omega) (W.frame _ _ _ H λb z o e=>?_) (q.up r) (g0 _ h rfl) λE G B C a D=>?_⟩
   ·exact(ea _ _ (λy:S=b=>M (by rw[y];exact z))).trans e
   ·exact p E G B C a λb o d g e=>D b o d g ((ea _ _ (Ne.symm g)).trans (f b o d e))
  ·have x:decide (val (j+1)>m)=false:=jE r;simp only[x,Bool.false_eq_true,if_false];refine a0 (wpAny_letGo ?_);rw[T];refine bc ⟨kA F.plain_max_loop _,L (j+1) _ m t c (by omega) H (q.same r) h λE G B C a D=>?_⟩;exact p E G B C a λb o d g e=>D b o d g (f b o d e)
theorem Uj(W:Walks prog w A.in1 I fp wr n P St)(r:∀i v,P i v->∃t,v=.int (val i) t)(h:S∉fp){dn:Str}{d:mK}{s:mI}{c:Nat}(l:St 0 s.heap)
  (q:s.heap.get? S=some {cls:=.type "list",dict:=none,data:=.seq #[] c,slots:=#[] })
  (h0:n=0->∀h' j,(∀b o,b∉wr->b≠S->s.heap.get? b=some o->h'.get? b=some o)->R (.ok (.ret d)) {s with heap:=h',toks:=j})
  (H:0<n->∀u t' h' j,I0 val (n-1) u->(∀b o,b∉wr->b≠S->s.heap.get? b=some o->h'.get? b=some o)->R (.ok (.ret (.int u t'))) {s with heap:=h',toks:=j}):
  codeAny (model prog w) A (.builtin "max.loop" ⟨[.ref I,.none,.ref S],[(dn,d)]⟩) R s:=by
 have M:S∉wr:=λz=>h (W.sub _ z);have N:(toString "max"++toString ".loop":String)="max.loop":=by decide
 refine Qd ?_;refine a0 ( fC q rfl ?_);show wpAny (model prog w) A.in1 (tryCatch (pyNext (.ref I)) _>>=_) _ _ s;rcases Nat.eq_zero_or_pos n with z|z
 ·subst z;refine a0 (wpAny_tryCatch (W.done s _ _ l λp x f=>?_));refine a0 (kb (bc ?_));exact h0 rfl p x λb o g _ e=>f b o g e
 ·refine a0 (wpAny_tryCatch (W.item 0 s _ _ z l λv p x G D f=>?_));have m:=f S _ M q;obtain⟨B,rfl⟩:=r _ _ G;show wpAny (model prog w) A.in1 (updateSeq S (λ_=>#[.int (val 0) B,.int (val 0) B])>>=_) _ _ _;refine a0 ?_;refine wpAny_updateSeq m rfl ?_;rw[N];refine bc ⟨kA F.plain_max_loop _,jx W r h _ (n-1) 0 _ (val 0) _ _ (by omega) (W.frame _ _ _ D λb z o e=>?_) ⟨⟨0,da _,rfl⟩,λi Q=>?_⟩ (g0 _ m rfl) λL O E J a K=>?_⟩
  ·exact(ea _ _ (λy:S=b=>h (by rw[y];exact z))).trans e
  ·have e:i=0:=by omega
   rw[e];exact Int.le_refl _
  ·exact H z L O E J a λb o g C e=>K b o g C ((ea _ _ (Ne.symm C)).trans (f b o g e))
end
section
variable {prog:m8}{w:nP}{A:nf}{E:mr}{s:mI}{l:Addr}
theorem Kf{id:String}{b:Builtin}{args:Args}{Q:mr}(j:builtinKind id=none)(m:plainId id=true)(i:entryFor table id=some b)(h:argsOk id args)
  (c:wpAny (model prog w) A.in1 (b args) (λfin s'=>match fin with
   | .done f=>(match(Except.ok f:Result)with| .ok (.ret v)=>Q v s'| .ok _=>False| .error e=>E e s')
   | .again a=>a.quiet=true/\codeAny (model prog w) A a (λr s'=>match r with| .ok (.ret v)=>Q v s'| .ok _=>False| .error e=>E e s') s') E s):
  wpAny (model prog w) A (call (.builtin id) args.pos args.kw) Q E s:=by
 refine wpAny_call (codeAny_call_builtin m i ?_);simp only[checkBuiltinCall,j];cases n:Manifest.signature? id with
 |none=>exact bc c
 |some o=>
  have d:Bind.checkArgs id o args=pure ():=by simpa only[argsOk,n]using h
  have g:(⟨args.pos,args.kw⟩:Args)=args:=rfl;simp only[g,d];exact bc c
theorem Yb(h:A.handled=none)(i:s.heap.IsList l (intItems xs))
  (h0:xs.size=0->∀h' a,(∀b o,s.heap.get? b=some o->h'.get? b=some o)->Q d {s with heap:=h',toks:=a})
  (h1:0<xs.size->∀m t h' a,I0 (numAt xs) (xs.size-1) m->(∀b o,s.heap.get? b=some o->h'.get? b=some o)->Q (.int m t) {s with heap:=h',toks:=a}):
  wpAny (model prog w) A (call (.builtin "max") [.ref l] [(Str.ofString "default",d)]) Q E s:=by
 have n:(toString "max"++toString ".loop":String)="max.loop":=by decide
 refine Kf (args:=⟨[.ref l],[(Str.ofString "default",d)]⟩) F.kind_max F.plain_max F.entry_max (Ya _ _) ?_;show wpAny (model prog w) A.in1 (Builtin.Builtins.bindParams "max" ["key","default"] 0 ⟨[],[(Str.ofString "default",d)]⟩>>=_) _ _ s;refine a0 (wpAny_of_eq (show Builtin.Builtins.bindParams "max" ["key","default"] 0 ⟨[],[(Str.ofString "default",d)]⟩=pure [none,some d]from ?_) ?_)
 ·kernel_rfl
 refine a0 (bc ?_);refine a0 (iter_intList i λr e q p c=>?_);subst e;refine a0 (g6 ?_);rw[n];have f:(intItems xs).size=xs.size:=by simp[intItems]
 refine bc ⟨kA F.plain_max_loop _,?_⟩;have W:=Walks.list (prog:=prog) (w:=w) (A:=A.in1) h _ l c (intItems xs);refine Uj (val:=numAt xs) W (λ_ _=>intItems_at) (λj=>Nat.lt_irrefl _ (p _ j)) (W.frame _ _ _ q λb _ o e=>bZ _ e) (cI _ rfl) (λz h' a k=>?_) λz m t h' a top k=>?_
 ·exact h0 (f▸z) h' a (old_kept λb o g e=>k b o g (ed (dg e)) (bZ _ e))
 ·exact h1 (f▸z) m t h' a (f▸top) (old_kept λb o g e=>k b o g (ed (dg e)) (bZ _ e))
end
open PySem PySem.Spec PyProof.Rows PySem.SeqAt
def pq(A:nf)(s:mI)(x y:mK)(b:Bool):Prop:=∀(a:m8) (w:nP) (E:mr) (Q:mr),Q (.bool b) s->wpAny (model a w) A (richCompare .Lt x y) Q E s
theorem xk(l b:Addr)(xs ys:Array mK)(n P:Nat)(dd D:Option Addr)(T E:Array (Option mK))(e:Nat->Bool)(r:Bool):
  Meets (Builtin.«tuple.__lt__» ⟨[.ref l,.ref b],[]⟩)
   (λA R s=>s.heap.get? l=some {cls:=.type "tuple",dict:=dd,data:=.seq xs n,slots:=T}/\s.heap.get? b=some {cls:=.type "tuple",dict:=D,data:=.seq ys P,slots:=E}/\
    (∀j (m:j<xs.size) (o:j<ys.size),EqAt A.in1 s xs[j] ys[j] (e j))/\(∀j (m:j<xs.size) (o:j<ys.size),(∀i,i<j->e i=true)->e j=false->pq A.in1 s xs[j] ys[j] r)/\
    ((∀j,j<min xs.size ys.size->e j=true)->r=decide (xs.size<ys.size))/\R (.ok (.ret (.bool r))) s):=
 .of_wp λa w A R s h=>by
  obtain⟨L,g,d,U,Q⟩:=s;obtain⟨K,G,H,I,O,h⟩:=h;have f2:=AutoSeq1.sub_tuple_tuple;have hZ:(xs.toList.zip ys.toList).length=min xs.size ys.size:=by simp
  wp_walk using wpAny_loadPart' K,wpAny_loadPart' G,wpAny_forIn_list _ (λc b B=>b.1=none/\B=⟨L,g,d,U,Q⟩/\∃i,c=(xs.toList.zip ys.toList).drop i/\∀k,k<i->k<min xs.size ys.size->e k=true) _
  case turn=>
   rintro⟨y,x⟩ c b B ⟨v,rfl,i,f,p⟩
   have F:i<(xs.toList.zip ys.toList).length:=by
    apply Classical.byContradiction;intro z;rw[List.drop_of_length_le (by omega)]at f;cases f
   have m:i<xs.size:=by omega
   have o:i<ys.size:=by omega
   rw[List.drop_eq_getElem_cons F]at f;injection f with C S;have u:y=xs[i]:=by simpa using congrArg Prod.fst C
   have N:x=ys[i]:=by simpa using congrArg Prod.snd C
   subst u N;refine a0 (H i m o a w _ _ ?_);cases u:e i with
   |true=>
    wp_walk
    refine⟨rfl,rfl,i+1,S,λk q Y=>?_⟩;by_cases z:k=i
    ·rw[z];exact u
    ·exact p k (by omega) Y
   |false=>
    have X:=I i m o (λk q=>p k q (by omega)) u a w
    wp_walk using X _ _
    exact⟨_,rfl,h⟩
  case fin=>
   rintro⟨b1,b2⟩ B ⟨v,rfl,i,f,p⟩;simp only at v;subst v
   have Z:min xs.size ys.size<=i:=by
    apply Classical.byContradiction;intro z;rw[List.drop_eq_getElem_cons (by omega)]at f;cases f
   have M:=O λj J=>p j (by omega) J
   wp_walk
   refine⟨_,rfl,?_⟩;rw[M]at h;simpa[Builtin.Tuple.tupleCompareSizes]using h
  case h=>
   exact⟨rfl,rfl,0,rfl,λk q=>absurd q (kE k)⟩
mutual
def Jy:nX->nX->Bool
 | .int a,.int b=>decide (a<b)
 | .tuple c,.tuple d=>aC c d
 |_,_=>false
def aC:List nX->List nX->Bool
 |[],[]=>false
 |[],_::_=>true
 |_::_,[]=>false
 |x::a,y::b=>if PyData.eqv x y then aC a b else Jy x y
end
mutual
def Ih:nX->nX->Prop
 | .int _,.int _=>True
 | .tuple a,.tuple b=>aU a b
 |_,_=>False
def aU:List nX->List nX->Prop
 |x::a,y::b=>Ih x y/\aU a b
 |_,_=>True
end
theorem P4:∀(xs ys:List nX),(∀j,j<min xs.length ys.length->pairEq xs ys j=true)->aC xs ys=decide (xs.length<ys.length)
 |[],[],_=>rfl
 |[],y::ys,_=>by simp[aC]
 |x::xs,[],_=>by simp[aC]
 |x::xs,y::ys,h=>by
  have a:PyData.eqv x y=true:=h 0 (by simp only[List.length_cons];omega);have b:=P4 xs ys λj c=>h (j+1) (by simp only[List.length_cons];omega);rw[aC,if_pos a,b];simp
mutual
theorem Jj:∀(i d:nX) (A:nf) (s:mI) (a b:mK) (X bs:List Addr),Reads s.heap a i X->Reads s.heap b d bs->i.canLay0=true->d.canLay0=true->Ih i d->
  A.units+min i.depth d.depth<cLine->pq A s a b (Jy i d)
 | .int x,d,A,s,_,_,_,_,I,J,_,_,c,p=>by
  cases d with
  |int y=>
   cases I with
   |int _ t=>
    cases J with
    |int _ u=>
     intro m w E Q h;exact richCompare_gives (op:=.Lt) (typeIs_int s _ t) (typeIs_int s _ u) F.slot_int_lt F.entry_int_lt (F.args_int_lt_2 _ _) (gives_int_lt _ _ t u) (λz=>nomatch z) h
  |none=>exact c.elim
  |bool _=>exact c.elim
  |str _=>exact c.elim
  |list _=>exact c.elim
  |tuple _=>exact c.elim
  |dict _=>exact c.elim
 | .tuple e,d,A,s,_,_,_,_,I,J,N,O,c,p=>by
  cases d with
  |tuple g=>
   cases I with
   |@tuple l o r n _ v K L M C=>
    cases J with
    |@tuple l' o' q n' _ B P R S H=>
     obtain⟨oc,od,XA,iJ⟩:=o;obtain⟨oc',U,XC,T⟩:=o';simp only at L M R S;subst L M R S;have n1:r.size=e.length:=by simpa using ReadsAll.length _ _ _ C
     have n2:q.size=g.length:=by simpa using ReadsAll.length _ _ _ H
     intro m w E Q h;refine richCompare_meets_room (op:=.Lt) ⟨_,K,rfl⟩ ⟨_,P,rfl⟩ F.slot_tuple_lt F.entry_tuple_lt (F.args_tuple_lt_2 _ _) (xk l l' r q n n' od U iJ T (pairEq e g) (aC e g)) ⟨K,P,λj D G=>?_,λj D G Y Z=>?_,λf=>?_,(λz=>nomatch z),h⟩ (room_here p)
     ·have:=eqAt_readsAll e g A.in1 s r.toList q.toList _ _ C H N O (room_in p) j (by simpa using D) (by simpa using G);simpa using this
     ·have:=fE e g A.in1 s r.toList q.toList _ _ C H N O c (room_in p) j (by simpa using D) (by simpa using G) Y Z;simpa using this
     ·rw[n1,n2]at f⊢;exact P4 e g f
  |none=>exact c.elim
  |bool _=>exact c.elim
  |str _=>exact c.elim
  |list _=>exact c.elim
  |int _=>exact c.elim
  |dict _=>exact c.elim
 | .none,_,_,_,_,_,_,_,_,_,_,_,c,_=>c.elim
 | .bool _,_,_,_,_,_,_,_,_,_,_,_,c,_=>c.elim
 | .str _,_,_,_,_,_,_,_,_,_,_,_,c,_=>c.elim
 | .list _,_,_,_,_,_,_,_,_,_,_,_,c,_=>c.elim
 | .dict _,_,_,_,_,_,_,_,_,_,_,_,c,_=>c.elim
theorem fE:∀(xs ys:List nX) (A:nf) (s:mI) (f ws:List mK) (p bs:List Addr),ReadsAll s.heap f xs p->ReadsAll s.heap ws ys bs->PyData.canLayAll0 xs=true->PyData.canLayAll0 ys=true->aU xs ys->
  A.units+min (PyData.depthAll xs) (PyData.depthAll ys)<cLine->∀j (h1:j<f.length) (a:j<ws.length),(∀i,i<j->pairEq xs ys i=true)->pairEq xs ys j=false->pq A s f[j] ws[j] (aC xs ys)
 |[],_,_,_,_,_,_,_,c,_,_,_,_,_,j,h1,_,_,_=>by cases c;exact absurd h1 (kE _)
 |_::_,[],_,_,_,_,_,_,_,d,_,_,_,_,j,_,a,_,_=>by cases d;exact absurd a (kE _)
 |x::xs,y::ys,A,s,_,_,_,_,c,d,q,r,l,v,j,h1,a,g,h=>by
  cases c with
  |cons B C=>
   cases d with
   |cons w z=>
    have n:x.canLay0=true/\PyData.canLayAll0 xs=true:=by simpa[PyData.canLayAll0]using q
    have o:y.canLay0=true/\PyData.canLayAll0 ys=true:=by simpa[PyData.canLayAll0]using r
    have m:A.units+min x.depth y.depth<cLine/\A.units+min (PyData.depthAll xs) (PyData.depthAll ys)<cLine:=by
     simp only[PyData.depthAll]at v;omega
    cases j with
    |zero=>
     have e:aC (x::xs) (y::ys)=Jy x y:=by
      have b:PyData.eqv x y=false:=h;rw[aC,b];rfl
     rw[e];exact Jj x y A s _ _ _ _ B w n.1 o.1 l.1 m.1
    |succ j=>
     have e:aC (x::xs) (y::ys)=aC xs ys:=by
      have b:PyData.eqv x y=true:=g 0 (Nat.succ_pos _);rw[aC,b];rfl
     rw[e];exact fE xs ys A s _ _ _ _ C z n.2 o.2 l.2 m.2 j (Nat.lt_of_succ_lt_succ h1) (Nat.lt_of_succ_lt_succ a) (λi u=>g (i+1) (Nat.succ_lt_succ u)) h
end
section
variable {X:Cx}{k:Nat}
def A13:R2:=λx y H Q=>∃d e:nX,Rp H d x/\Rp H e y/\Ih d e/\d.depth<=60/\Q (.bl (Jy d e)) H
theorem uy(i:Ba k X.A):Gd X (compareOp .Lt) A13:=by
 intro c s r H x y v u Q I m n h;obtain⟨d,e,a,b,g,o,q⟩:=h;obtain⟨f,j⟩:=Ce I d x v a m;obtain⟨bs,l⟩:=Ce I e y u b n;have p:=i.units;exact Jj d e X.A s v u f bs j l (Ck d x a) (Ck e y b) g (by omega) _ _ _ _ ⟨.bl (Jy d e),H,I,rfl,q⟩
end
section
variable {X:Cx}
def zn(K:W.Frag):R2:=λx y H Q=>∃a b e c,x=.ref a/\y=.ref b/\Cu K H a e/\H b=some (.tup c)/\c≠[]/\e.length+c.length<=sizeLine/\
 ∀p d,A9 H d->d p=some (.tup (e++c))->Q (.ref p) d
theorem lh(K:W.Frag)(D:X.K=K:=by rfl):Gd X (binaryOp .Add) (zn K):=by
 subst D;intro d s S H x y v u Q I r w h;obtain⟨a,b,A,R,rfl,rfl,g,f,F,G,q⟩:=h;by_cases m:A=[]
 ·subst m;cases r;cases w;obtain⟨T,P,N,_⟩:=I.tuple g;obtain⟨Z,r2,O,_⟩:=I.tuple (Cu.of f);cases P;obtain⟨⟨U,B,t1,J⟩,l,i,n,j⟩:=N;obtain⟨⟨Y,C,t2,L⟩,o,z,M,c⟩:=O;simp only at i j z c;subst i j z c;exact concat_meets ⟨_,l,rfl⟩ ⟨_,o,rfl⟩ noFill_tuple_add seq_tuple_add PySem.F.slot_tuple_add PySem.F.entry_tuple_add (PySem.F.args_tuple_add_2 _ _) (tuple_addW0 a b _ _ n M B C J L rfl) ⟨l,o,.ref b,H,I,rfl,q b H (A9.refl H) f⟩
 ·exact lj d s S H _ _ v u Q I r w ⟨a,b,A,R,rfl,rfl,g,Cu.of f,m,G,λe=>absurd e F,λ_ p E=>q p _ (A9.upd E) A5⟩
end
theorem Lw:∀{bs:List Bool}{a:List mK},Ay (bs.map V.bl) a->LSm.BoolsAre a bs
 |[],_,.nil=>.nil
 |b::bs,_,.cons r c=>by
  cases r;exact .cons b (Lw c)
section
variable {X:Cx}
theorem Om(l:X.calm=true):D9 X (.builtin "any") (λxs H Q=>∃(p:Addr) (bs:List Bool),xs=[.ref p]/\B6 X.K H p (bs.map V.bl)/\Q (.bl (bs.any id)) H):=by
 intro g s F H E D Q I r q;obtain⟨p,bs,rfl,n,q⟩:=q;obtain⟨u,rfl,w⟩:=Eg r;cases w;obtain⟨c,rv,o,A⟩:=I.list n;have f:=Lw rv;have a:=o.isList
 have h:p<s.heap.objs.size:=by
  obtain⟨_,e,_⟩:=a;exact dg e
 refine call_any_walk (wpAny_pyIter_list a ⟨s.heap.objs.size,[s.heap.objs.size,p],[s.heap.objs.size],c.toArray.size,_,_,λi=>(bs[i]?).getD false,rfl,Walks.list (prog:=X.prog) (w:=X.w) (A:=X.A.in1) (I.ok.hd l) _ p (ed h) c.toArray,⟨⟨_,cI _ rfl,rfl,rfl⟩,a.push _⟩,λi v B y x j d=>?_,λz C m=>?_⟩)
 ·obtain⟨b,e,rfl⟩:=f.get i v (by simpa using j);simp only[e,Option.getD_some]at d;exact ib d
 ·refine⟨.bl _,H,I.kept (LSm.kept_iter m),?_,q⟩;rw[<- LSm.range_any bs,<- f.length];simp;rfl
theorem Xx(l:X.calm=true):D9 X (.builtin "all") (λxs H Q=>∃(p:Addr) (bs:List Bool),xs=[.ref p]/\B6 X.K H p (bs.map V.bl)/\Q (.bl (bs.all id)) H):=by
 intro g s F H E D Q I r q;obtain⟨p,bs,rfl,n,q⟩:=q;obtain⟨u,rfl,w⟩:=Eg r;cases w;obtain⟨c,rv,o,A⟩:=I.list n;have f:=Lw rv;have a:=o.isList
 have h:p<s.heap.objs.size:=by
  obtain⟨_,e,_⟩:=a;exact dg e
 refine call_all_walk (wpAny_pyIter_list a ⟨s.heap.objs.size,[s.heap.objs.size,p],[s.heap.objs.size],c.toArray.size,_,_,λi=>(bs[i]?).getD true,rfl,Walks.list (prog:=X.prog) (w:=X.w) (A:=X.A.in1) (I.ok.hd l) _ p (ed h) c.toArray,⟨⟨_,cI _ rfl,rfl,rfl⟩,a.push _⟩,λi v B y x j d=>?_,λz C m=>?_⟩)
 ·obtain⟨b,e,rfl⟩:=f.get i v (by simpa using j);simp only[e,Option.getD_some]at d;exact ib d
 ·refine⟨.bl _,H,I.kept (LSm.kept_iter m),?_,q⟩;rw[<- LSm.range_all bs,<- f.length];simp;rfl
end
section
variable {X:Cx}
theorem Yw:TF X "int.bit_length" (λx xs H Q=>∃i:Int,x=.int i/\xs=[]/\Q (.int ((intBits i:Nat):Int)) H):=by
 intro a s d H x xs v c Q I b rv h;obtain⟨i,rfl,rfl,q⟩:=h;obtain⟨t,rfl⟩:=b;cases rv;exact call_gives PySem.F.slot_int_bit_length (typeIs_int _ _ _) PySem.F.entry_int_bit_length (PySem.F.args_int_bit_length_1 _) (PySem.AutoIntG2.int_bit_length_int_0 i t) ⟨.int _,H,I.tok _,⟨_,rfl⟩,q⟩
def A0n(i j:Int):Prop:=0<=j/\((intBits i:Nat):Int)+j<=2^27
theorem ln:Gd X (binaryOp .LShift) (rI A0n λi j=>.int (i*2^j.toNat)):=xx λ_ _ _ _ _ _ _ a q=>lshift_int a.1 a.2 q
end
theorem Ly{K:W.Frag}{a:Addr}{xs:List V}{r:List Nat}{j:TT}{h:TE}{c:St}{D:Addr}{u:Hp}{Q:Hp->Prop}(f:Nat->List V->Hp->Prop)(h0:f 0 [] (upd u D (.lst [])))
  (A:∀i ys H,i<=xs.length->f i ys H->B6 K H a xs)
  (B:∀i x ys H,xs[i]?=some x->f i ys H->j (some x::D1 r c) H λb l=>
   if b=true then h (some x::D1 r c) l λv n=>n D=some (.lst ys)/\ys.length<sizeLine/\f (i+1) (ys++[v]) (upd n D (.lst (ys++[v])))else f (i+1) ys l)
  (E:∀c H Q g,(∀b d,Q b d->g b d)->j c H Q->j c H g)(C:∀c H Q g,(∀v d,Q v d->g v d)->h c H Q->h c H g)
  (w:∀ys H,f xs.length ys H->Q H):Dj 1 r (pp K a) (Je 0) j h c D u Q:=by
 refine⟨λi m ys H=>m=xs.length-i/\i<=xs.length/\f i ys H,⟨xs.length,by simp,jT _,h0⟩,?_⟩;rintro i m ys d ⟨rfl,z,p⟩;have s:=A i ys d z p;by_cases o:i<xs.length
 ·refine .inr ⟨⟨xs,xs[i],s,by simp[o]⟩,λx J y=>?_⟩;obtain⟨e,y⟩:=y;subst e;refine⟨⟨[some x],rfl,rfl⟩,?_⟩;refine E _ _ _ _ ?_ (B i x ys _ (y xs s) p);intro b l q;cases b with
  |false=>exact⟨xs.length-(i+1),by omega,rfl,o,q⟩
  |true=>exact C _ _ _ _ (λv n ⟨F,G,I⟩=>⟨F,G,xs.length-(i+1),by omega,rfl,o,I⟩) q
 ·have e:i=xs.length:=by omega
  subst e;exact .inl ⟨⟨xs,s,da _⟩,w ys d p⟩
section
variable {K:W.Frag}{x C:Addr}
theorem Pt:∀(b:List Addr) (us:List mK),Ay (b.map V.ref) us->us=b.map Value.ref
 |[],us,r=>by
  cases r;rfl
 |a::b,us,r=>by
  cases r with
  |cons h t=>
   cases(show _=Value.ref a from h);rw[Pt b _ t];rfl
end
section
variable {κ:Type} [DecidableEq κ]
def Ag(kvs:List (κ×V))(k:κ):Option V:=(kvs.find? λa=>decide (a.1=k)).map (·.2)
def Bd(kvs:List (κ×V))(k:κ)(v:V):List (κ×V):=
 if(kvs.any λa=>decide (a.1=k))=true then kvs.map (λa=>if a.1=k then(a.1,v)else a)else kvs++[(k,v)]
def Br(kvs:List (κ×V))(k:κ):List (κ×V):=kvs.filter λa=>decide (a.1≠k)
theorem Bx{p:κ×V}{r:List (κ×V)}{k:κ}(e:p.1=k):Ag (p::r) k=some p.2:=by simp[Ag,List.find?_cons,e]
theorem Bw{p:κ×V}{r:List (κ×V)}{k:κ}(e:¬p.1=k):Ag (p::r) k=Ag r k:=by simp[Ag,List.find?_cons,e]
theorem Ds(k:κ):∀kvs:List (κ×V),(kvs.any λa=>decide (a.1=k))=(Ag kvs k).isSome
 |[]=>rfl
 |p::r=>by
  rw[List.any_cons];by_cases e:p.1=k
  ·simp only[Bx e,decide_eq_true e,Bool.true_or,Option.isSome_some]
  ·rw[Bw e,decide_eq_false e,Bool.false_or];exact Ds k r
theorem Tv(k j:κ)(y:V):∀kvs:List (κ×V),Ag (kvs.map λa=>if a.1=k then(a.1,y)else a) j=(Ag kvs j).map λx=>if j=k then y else x
 |[]=>rfl
 |p::r=>by
  have b:=Tv k j y r;rw[List.map_cons];by_cases h:p.1=k
  ·rw[if_pos h];by_cases e:p.1=j
   ·rw[Bx (p:=(p.1,y)) e,Bx e,Option.map_some,if_pos (e.symm.trans h)]
   ·rw[Bw (p:=(p.1,y)) e,Bw e,b]
  ·rw[if_neg h];by_cases e:p.1=j
   ·rw[Bx (p:=p) e,Bx e,Option.map_some,if_neg (λz=>h (e.trans z))]
   ·rw[Bw (p:=p) e,Bw e,b]
theorem Ps(k j:κ)(y:V):∀kvs:List (κ×V),Ag kvs k=none->Ag (kvs++[(k,y)]) j=if j=k then some y else Ag kvs j
 |[],_=>by
  by_cases e:k=j
  ·rw[if_pos e.symm];exact Bx (p:=(k,y)) e
  ·rw[if_neg (λz=>e z.symm)];exact Bw (p:=(k,y)) e
 |p::r,a=>by
  rw[List.cons_append];have b:¬p.1=k:=λz=>by rw[Bx z]at a;cases a
  rw[Bw b]at a;have c:=Ps k j y r a;by_cases e:p.1=j
  ·rw[Bx e,Bx e,if_neg (λz=>b (e.trans z))]
  ·rw[Bw e,Bw e,c]
theorem Fi(kvs:List (κ×V))(k j:κ)(y:V):Ag (Bd kvs k y) j=if j=k then some y else Ag kvs j:=by
 unfold Bd;by_cases a:(kvs.any λc=>decide (c.1=k))=true
 ·rw[if_pos a,Tv];rw[Ds]at a;by_cases e:j=k
  ·obtain⟨x,b⟩:=Option.isSome_iff_exists.mp a;rw[if_pos e,e,b,Option.map_some,if_pos rfl]
  ·rw[if_neg e];cases Ag kvs j with
   |none=>rfl
   |some x=>rw[Option.map_some,if_neg e]
 ·rw[if_neg a];refine Ps k j y kvs ?_;rw[Ds]at a;cases q:Ag kvs k with
  |none=>rfl
  |some x=>rw[q]at a;exact(a rfl).elim
theorem Dq(kvs:List (κ×V))(k:κ)(v:V):(Bd kvs k v).length<=kvs.length+1:=by
 unfold Bd;split
 ·rw[List.length_map];omega
 ·rw[List.length_append,List.length_cons,List.length_nil];omega
theorem D4{kvs:List (κ×V)}{k:κ}(v:V)(h:Ag kvs k=none):Bd kvs k v=kvs++[(k,v)]:=by
 unfold Bd;rw[Ds,h];exact if_neg (by decide)
theorem J0.bN(r:J0 o u):o.isSome=u.isSome:=by
 cases o with
 |none=>cases u with
  |none=>rfl
  |some _=>exact(show False from r).elim
 |some _=>cases u with
  |none=>exact(show False from r).elim
  |some _=>rfl
theorem J0.getD(r:J0 o u)(a:B0 d d'):B0 (o.getD d) (u.getD d'):=by
 cases o with
 |none=>cases u with
  |none=>exact a
  |some _=>exact(show False from r).elim
 |some _=>cases u with
  |none=>exact(show False from r).elim
  |some _=>exact r
theorem KV.val{kvs:List (κ×V)}{f:List (κ×mK)}(r:KV kvs f)(k:κ):J0 (Ag kvs k) (valueAt f k):=by
 unfold KV at r
 induction r with
 |nil=>exact True.intro
 |@cons p q j c h t i=>
  obtain⟨d,g⟩:=h;by_cases e:p.1=k
  ·have a:q.1=k:=d.symm.trans e;have b:valueAt (q::c) k=some q.2:=by simp[valueAt,List.find?_cons,a]
   rw[Bx e,b];exact g
  ·have a:¬q.1=k:=λz=>e (d.trans z);have b:valueAt (q::c) k=valueAt c k:=by simp[valueAt,List.find?_cons,a]
   rw[Bw e,b];exact i
theorem KV.any(r:KV kvs b)(k:κ):(kvs.any λa=>decide (a.1=k))=b.any λa=>decide (a.1=k):=by
 unfold KV at r
 induction r with
 |nil=>rfl
 |cons h t c=>rw[List.any_cons,List.any_cons,c,h.1]
theorem KV.BW(r:KV kvs c)(k:κ)(g:B0 y u):
  KV (kvs.map λa=>if a.1=k then(a.1,y)else a) (c.map λa=>if a.1=k then(a.1,u)else a):=by
 unfold KV at r⊢
 induction r with
 |nil=>exact .nil
 |@cons p q i j h t f=>
  rw[List.map_cons,List.map_cons];refine .cons ?_ f;obtain⟨b,d⟩:=h;by_cases e:p.1=k
  ·rw[if_pos e,if_pos (b.symm.trans e)];exact⟨b,g⟩
  ·rw[if_neg e,if_neg (λz=>e (b.trans z))];exact⟨b,d⟩
theorem KV.put(r:KV kvs a)(k:κ)(b:B0 y u):KV (Bd kvs k y) (stored a k u):=by
 unfold Bd stored;rw[r.any k];by_cases e:(a.any λc=>decide (c.1=k))=true
 ·rw[if_pos e,if_pos e];exact r.BW k b
 ·rw[if_neg e,if_neg e];exact Paired.snoc r ⟨rfl,b⟩
theorem KV.drop(r:KV kvs f)(k:κ):KV (Br kvs k) (without f k):=by
 unfold KV at r⊢;unfold Br without
 induction r with
 |nil=>exact .nil
 |@cons p q j l h t d=>
  obtain⟨c,i⟩:=h;rw[List.filter_cons,List.filter_cons];by_cases e:p.1=k
  ·have a:¬decide (p.1≠k)=true:=by simp[e]
   have b:¬decide (q.1≠k)=true:=by simp[c.symm.trans e]
   rw[if_neg a,if_neg b];exact d
  ·have g:¬q.1=k:=λz=>e (c.trans z);have a:decide (p.1≠k)=true:=by simp[e]
   have b:decide (q.1≠k)=true:=by simp[g]
   rw[if_pos a,if_pos b];exact .cons ⟨c,i⟩ d
theorem KV.length(r:KV kvs a):kvs.length=a.length:=Paired.length r
theorem Sb(kvs:List (κ×V))(k:κ):(Br kvs k).length<=kvs.length:=List.length_filter_le _ _
end
theorem P0{k:Dz}(r:B0 (kV k) u):(Dc P w).is k u=true:=by
 cases k with
 |inl i=>obtain⟨t,e⟩:=(show∃t,u=Value.int i t from r);subst e;exact Sw P w i t
 |inr x=>obtain⟨t,e⟩:=(show∃t,u=Value.str x t from r);subst e;exact Sx P w x t
abbrev KT(H:Hp):mu->List ((mv×Int)×Addr×mK)->Prop:=Paired λp q=>p.1=q.1/\F4 H q.2.1 p.1/\B0 p.2 q.2.2
theorem KT.val{kvs:mu}{xs:List ((mv×Int)×Addr×mK)}(r:KT H kvs xs)(k:(mv×Int)):J0 (Ag kvs k) ((atKey xs k).map (·.2)):=by
 induction r with
 |nil=>exact True.intro
 |@cons p q i c h t g=>
  obtain⟨d,_,f⟩:=h;by_cases e:p.1=k
  ·have a:q.1=k:=d.symm.trans e;have b:atKey (q::c) k=some q.2:=by simp[atKey,List.find?_cons,a]
   rw[Bx e,b];exact f
  ·have a:¬q.1=k:=λz=>e (d.trans z);have b:atKey (q::c) k=atKey c k:=by simp[atKey,List.find?_cons,a]
   rw[Bw e,b];exact g
theorem KT.BW(r:KT H kvs xs)(k:(mv×Int))(g:B0 y u):
  KT H (kvs.map λb=>if b.1=k then(b.1,y)else b) (xs.map (putAt k u)):=by
 induction r with
 |nil=>exact .nil
 |@cons p q i j h t f=>
  rw[List.map_cons,List.map_cons];refine .cons ?_ f;obtain⟨a,c,d⟩:=h;unfold putAt;by_cases e:p.1=k
  ·rw[if_pos e,if_pos (a.symm.trans e)];exact⟨a,c,g⟩
  ·rw[if_neg e,if_neg (λz=>e (a.trans z))];exact⟨a,c,d⟩
theorem KT.put(r:KT H kvs xs)(k:(mv×Int))(c:F4 H b k)(a:B0 y u):
  KT H (Bd kvs k y) (storedH xs k b u):=by
 have e:(kvs.any λd=>decide (d.1=k))=(atKey xs k).isSome:=by
  rw[Ds,(r.val k).bN,Option.isSome_map]
 unfold Bd storedH;rw[e];by_cases q:(atKey xs k).isSome=true
 ·rw[if_pos q,if_pos q];exact r.BW k a
 ·rw[if_neg q,if_neg q];exact Paired.snoc r ⟨rfl,c,a⟩
theorem KT.keeps(r:KT H kvs xs)(c:∀b ys,H b=some (.tup ys)->a b=some (.tup ys)):KT a kvs xs:=
 Paired.IG r λ_ _ z=>⟨z.1,z.2.1.up c,z.2.2⟩
section
variable {P:m8}{w:nP}{H:Hp}{h:Heap}{a:Addr}
theorem o7(ok:Ga P w H h)(e:Rd H a u):B8 P w H h a u:=e.ok ok
theorem Kt(ok:Ga P w H h)(e:Rd H a (.dK kvs)):kvs.length<=sizeLine/\(a==sysModules)=false/\∃b,KV kvs b/\h.DictOf (Dc P w) a b:=
 show B8 P w H h a (.dK kvs)from o7 ok e
theorem nv(ok:Ga P w H h)(e:H a=some (.dK kvs)):kvs.length<=sizeLine/\(a==sysModules)=false/\∃b,KV kvs b/\h.DictOf (Dc P w) a b:=Kt ok (.inl e)
theorem Sj:∀{b:mv}{us:List mK},Ay (b.map V.int) us->ItemsAre (intKind P w) b us
 |[],us,r=>by
  cases r;exact .nil
 |k::b,us,r=>by
  cases r with
  |cons h t=>
   obtain⟨c,rfl⟩:=h;exact .cons (by simp[intKind,Value.isInt]) (Sj t)
theorem Dh{P:m8}{w:nP}{A:nf}(b:A.units+20<cLine):(Cn P w).room A.in1:=by
 first|(show A.units+1+8<cLine;omega)|(show A.units+8<cLine;omega)
theorem Im(ok:Ga P w H h)(e:F4 H a b):(Cn P w).is h b a:=by
 obtain⟨u,f,g⟩:=e;obtain⟨_,A,r,o,p,q,n,s⟩:=(show B8 P w H h a (.tup [.ref u,.int b.2])from ok a _ f);obtain⟨_,d,y,v,i,j,m,l⟩:=(show B8 P w H h u (.tup (b.1.map V.int))from ok u _ g);cases r with
 |cons x c=>
  cases c with
  |cons z c=>
   cases c;cases(show _=Value.ref u from x);obtain⟨t,rfl⟩:=z;exact⟨o,n,u,t,p,q,s,v,d.toArray,m,i,j,l,by simpa using Sj y⟩
theorem Mi(ok:Ga P w H h)(e:Rd H a (.dT kvs)):kvs.length<=sizeLine/\(a==sysModules)=false/\
  ∃xs,KT H kvs xs/\h.DictOfH (Cn P w) a xs:=by
 obtain⟨z,y,xs,r,o,f,d,g,i,j,n,s⟩:=(show B8 P w H h a (.dT kvs)from o7 ok e);refine⟨z,y,xs,r,o,f,d,g,i,j,n,λx b=>?_,s⟩
 have all:∀{l:mu}{m:List ((mv×Int)×Addr×mK)},KT H l m->∀x∈m,(Cn P w).is h x.1 x.2.1:=by
  intro l m q
  induction q with
  |nil=>intro x b;exact nomatch b
  |@cons p q v A c t u=>
   intro x b;rcases d3.mp b with e|b
   ·subst e;exact Im ok (by rw[<- c.1];exact c.2.1)
   ·exact u x b
 exact all r x b
theorem nw(ok:Ga P w H h)(e:H a=some (.dT kvs)):kvs.length<=sizeLine/\(a==sysModules)=false/\
  ∃xs,KT H kvs xs/\h.DictOfH (Cn P w) a xs:=Mi ok (.inl e)
end
def Dm(H:Hp)(a:Addr)(y:V)(r:Option V):Prop:=
 (∃c k,Rd H a (.dK c)/\y=kV k/\r=Ag c k)\/∃c k b,Rd H a (.dT c)/\y=.ref b/\F4 H b k/\r=Ag c k
def Rm(H:Hp)(a:Addr)(y v:V)(d:Hp):Prop:=
 (∃c k,H a=some (.dK c)/\y=kV k/\c.length<sizeLine/\d=upd H a (.dK (Bd c k v)))\/
 ∃c k b,H a=some (.dT c)/\y=.ref b/\F4 H b k/\c.length<sizeLine/\d=upd H a (.dT (Bd c k v))
theorem Dm.k{kvs:List (Dz×V)}{k:Dz}(e:H a=some (.dK kvs)):Dm H a (kV k) (Ag kvs k):=.inl ⟨kvs,k,.inl e,rfl,rfl⟩
theorem Dm.t{kvs:mu}{k:(mv×Int)}(e:H a=some (.dT kvs))(c:F4 H b k):Dm H a (.ref b) (Ag kvs k):=.inr ⟨kvs,k,b,.inl e,rfl,c,rfl⟩
theorem Rm.t{kvs:mu}{k:(mv×Int)}(e:H a=some (.dT kvs))(c:F4 H b k)(d:kvs.length<sizeLine):
  Rm H a (.ref b) v (upd H a (.dT (Bd kvs k v))):=.inr ⟨kvs,k,b,e,rfl,c,d,rfl⟩
section
variable {X:Cx}{pins:List (Addr×Obj)}{σ:St}{H:Hp}{s:mI}{a:Addr}{y v:V}{u r:mK}{o:Option V}{A:nf}{E:mr}
theorem Aj.big(I:Aj X pins σ H s):sysModules<s.heap.objs.size:=by
 have h:mainGlobals<s.heap.objs.size:=(I.mod.glob.keeps I.bk).lt;exact Nat.lt_trans (by decide) h
theorem Y5(D:A.units+20<cLine)(I:Aj X pins σ H s)(g:Dm H a y (some v))(q:B0 y u)(h:∀d s',Aj X pins σ H s'->B0 v d->Q d s'):
  wpAny (model X.prog X.w) A (getItem (.ref a) u) Q E s:=by
 rcases g with⟨n,k,e,i,l⟩|⟨n,k,b,e,i,x,l⟩
 ·subst i;obtain⟨z,B,F,c,f⟩:=Kt I.aF e;obtain⟨d,j,m⟩:=J0.some_of (v:=v) (o:=valueAt F k) (by rw[l];exact c.val k);exact wpAny_getItem_of (P0 q) f.mapOf j (h d _ (I.tok _) m)
 ·subst i;cases(show u=Value.ref b from q);obtain⟨z,B,G,c,f⟩:=Mi I.aF e;obtain⟨d,j,m⟩:=J0.some_of (v:=v) (o:=(atKey G k).map (·.2)) (by rw[l];exact c.val k);obtain⟨p,C,w⟩:=dm.mp j;refine wpAny_getItem_heap (Dh D) (Im I.aF x) f C ?_;rw[w];exact h d _ (I.tok _) m
theorem A0t(p:A.units+20<cLine)(I:Aj X pins σ H s)(g:Dm H a y o)(m:B0 y u)(h:∀s',Aj X pins σ H s'->Q (.bool o.isSome) s'):
  wpAny (model X.prog X.w) A (compareOp .In u (.ref a)) Q E s:=by
 rcases g with⟨j,k,e,f,l⟩|⟨j,k,b,e,f,n,l⟩
 ·subst f;obtain⟨z,i,w,c,d⟩:=Kt I.aF e;refine wpAny_in_of (P0 m) i d.mapOf ?_;rw[<- (c.val k).bN,<- l];exact h _ (I.tok _)
 ·subst f;cases(show u=Value.ref b from m);obtain⟨z,i,x,c,d⟩:=Mi I.aF e;refine wpAny_in_heap (Dh p) (Im I.aF n) i d ?_;have q:=(c.val k).bN;rw[Option.isSome_map]at q;rw[<- q,<- l];exact h _ (I.tok _)
theorem ju(p:A.units+20<cLine)(I:Aj X pins σ H s)(g:Dm H a y o)(m:B0 y u)(h:∀s',Aj X pins σ H s'->Q (.bool (!o.isSome)) s'):
  wpAny (model X.prog X.w) A (compareOp .NotIn u (.ref a)) Q E s:=by
 rcases g with⟨j,k,e,f,l⟩|⟨j,k,b,e,f,n,l⟩
 ·subst f;obtain⟨z,i,w,c,d⟩:=Kt I.aF e;refine wpAny_notIn_of (P0 m) i d.mapOf ?_;rw[<- (c.val k).bN,<- l];exact h _ (I.tok _)
 ·subst f;cases(show u=Value.ref b from m);obtain⟨z,i,x,c,d⟩:=Mi I.aF e;refine wpAny_notIn_heap (Dh p) (Im I.aF n) i d ?_;have q:=(c.val k).bN;rw[Option.isSome_map]at q;rw[<- q,<- l];exact h _ (I.tok _)
theorem Ld{t':Nat}(I:Aj X pins σ H s)(f:yc (H a))(e:Heap.SameBut a s.heap h')(he:∃q,h'.get? a=some q)(new:B8 X.prog X.w (upd H a c) h' a c):
  Aj X pins σ (upd H a c) {s with heap:=h',toks:=t'}:=
 I.write (x:=a) (e:=a) f (.inl rfl) (λb q d z=>(e.2 b d).trans z) he new
theorem ao(z:kvs.length<=sizeLine)(e:(a==sysModules)=false)(b:KV kvs c)(dd:h'.DictOf (Dc P w) a c):
  B8 P w d h' a (.dK kvs):=⟨z,e,c,b,dd⟩
theorem Y6(T:A.units+20<cLine)(I:Aj X pins σ H s)(g:Rm H a y v D)(K:B0 y u)(rv:B0 v r)(h:∀s',Aj X pins σ D s'->Q () s'):
  wpAny (model X.prog X.w) A (setItem (.ref a) u r) Q E s:=by
 rcases g with⟨d,k,e,p,l,n⟩|⟨d,k,b,e,p,F,l,n⟩
 ·subst p n;obtain⟨z,w,U,f,m⟩:=nv I.aF e;have C:U.length<=sizeLine:=by rw[<- f.length];exact z
  have x:(Bd d k v).length<=sizeLine:=by have:=Dq d k v;omega
  refine wpAny_setItem_pairs (hsz:=C) (P0 K) m λJ j B=>h _ ?_;have S:∃q,J.get? a=some q:=let⟨q,_,_,i,_⟩:=j;⟨q,i⟩;exact Ld I (by rw[e];exact True.intro) B S (ao x w (f.put k rv) j)
 ·subst p n;cases(show u=Value.ref b from K);obtain⟨z,w,Y,f,m⟩:=nw I.aF e;have C:Y.length<=sizeLine:=by rw[<- Paired.length f];exact z
  have x:(Bd d k v).length<=sizeLine:=by have:=Dq d k v;omega
  refine wpAny_setItem_heap (hsz:=C) (Dh T) (Im I.aF F) m λJ j B=>h _ ?_;obtain⟨q,M,L,i,N,O,P,_,R⟩:=j;refine Ld I (by rw[e];exact True.intro) B ⟨q,i⟩ ⟨x,w,_,(f.put k F rv).keeps λc Z G=>?_,q,M,L,i,N,O,P,R⟩;rw[Ab (Bg G e (λz=>nomatch z))];exact G
end
section
variable {X:Cx}{pins:List (Addr×Obj)}{σ:St}{H:Hp}{s:mI}{a:Addr}{kvs:List (Dz×V)}{k:Dz}{u:mK}{A:nf}{E:mr}
theorem yl{more:List mK}(I:Aj X pins σ H s)(e:H a=some (.dK kvs))(d:B0 (kV k) u)(l:Ag kvs k=some v)(g:more=[]\/∃x,more=[x])
  (h:∀c s',Aj X pins σ (upd H a (.dK (Br kvs k))) s'->B0 v c->Q c s'):wpAny (model X.prog X.w) A (call (.builtin "dict.pop") (.ref a::u::more)) Q E s:=by
 obtain⟨z,p,m,b,f⟩:=nv I.aF e;obtain⟨c,C,D⟩:=J0.some_of (v:=v) (o:=valueAt m k) (by rw[<- l];exact b.val k)
 have w:(keyPart u).isSome=true:=by
  cases k with
  |inl i=>obtain⟨t,q⟩:=(show∃t,u=Value.int i t from d);subst q;rfl
  |inr x=>obtain⟨t,q⟩:=(show∃t,u=Value.str x t from d);subst q;rfl
 have o:argsOk "dict.pop" ⟨.ref a::u::more,[]⟩:=by
  rcases g with q|⟨x,q⟩
  ·subst q;exact PySem.F.args_dict_pop_2 _ _
  ·subst q;exact PySem.F.args_dict_pop_3 _ _ _
 refine call_meetsIn PySem.F.slot_dict_pop f.typeIs PySem.F.entry_dict_pop o (meets_dict_pop_there (Dc X.prog X.w) a (P0 d) more g w)
  ⟨m,c,f,by rw[<- b.length];exact z,C,λn j B=>h c _ ?_ D⟩
 have r:∃q,n.get? a=some q:=let⟨q,_,_,y,_⟩:=j;⟨q,y⟩;exact Ld I (by rw[e];exact True.intro) B r (ao (dI (Sb kvs k) z) p (b.drop k) j)
end
def yd(i:Expr):Prop:=∀b a,subscripted i false b a=operate [b,a] (getItem b a)
theorem ms{prog:m8}{w:nP}{A:nf}{E:mr}{s:mI}{env:Env}{pos:Pos}{T id:String}{Q:mr}
  (m:typeLookup (.type T) "__getitem__"=pure (some (.builtin id)))(n:yd a)
  (h:wpAny (model prog w) A (eval b env) (λo e=>wpAny (model prog w) A (eval a env) (λi c=>c.TypeIs o T/\wpAny (model prog w) A (getItem o i) Q E c) E e) E s):
  wpAny (model prog w) A (eval (.Subscript b a pos) env) Q E s:=by
 refine Subscript_ (ia h (λo e g=>ia g (λi c d=>?_) λ_ _ x=>x) λ_ _ x=>x);obtain⟨l,d⟩:=d;unfold subscriptTail;refine a0 ?_;rw[getitemInPython_of_ne l.not_modules];refine a0 (wpAny_specialOf l m ?_)
 have fin:wpAny (model prog w) A (subscripted a false o i) (λr f=>wpAny (model prog w) A (letTemporaryGo b o r>>=λ_=>pure r) Q E f) E c:=by
  rw[n o i];exact wpAny_operating (ia d (λr f j=>a0 (wpAny_letTemporaryGo (bc j))) λ_ _ x=>x)
 first
  |exact bc (a0 fin)
  |exact a0 (bc (a0 fin))
  |exact a0 fin
theorem S9(I:Aj X c h H s)(g:Dm H a y o):s.TypeIs (.ref a) "dict":=by
 rcases g with⟨f,k,e,_,_⟩|⟨f,k,b,e,_,_,_⟩
 ·obtain⟨_,_,i,_,d⟩:=Kt I.aF e;exact d.typeIs
 ·obtain⟨_,_,j,_,d⟩:=Mi I.aF e;exact d.typeIs
def A09(e ty:TE):TE:=λc H Q=>e c H λx d=>ty c d λy b=>∃a v,x=.ref a/\Dm b a y (some v)/\Q v b
def A17(ty e:TE):TE:=λc H Q=>ty c H λy d=>e c d λx b=>∃a o,x=.ref a/\Dm b a y o/\Q (.bl o.isSome) b
def mz(ty e:TE):TE:=λc H Q=>ty c H λy d=>e c d λx b=>∃a o,x=.ref a/\Dm b a y o/\Q (.bl (!o.isSome)) b
def zy(g ty tv:TE):TS:=λD b H=>tv b H λv d=>g b d λx e=>ty b e λy f=>∃a c,x=.ref a/\Rm f a y v c/\D.nx b c
section
variable {X:Cx}{o i e value:Expr}{pos pos' kU:Pos}{td ty tv:TE}
theorem Jl(w:X.A.units+20<cLine)(q:PE X o td)(hi:PE X i ty)(r:yd i):PE X (.Subscript o i pos) (A09 td ty):=by
 intro b s d H Q I h;refine ms PySem.F.slot_dict_getitem.lookup r (Bj (q b s d H _ I h) λu E ⟨x,f,l,C,A⟩=>Bj (hi b E d f _ l A) λF G n=>?_);obtain⟨y,j,c,D,a,v,p,g,B⟩:=n;subst p;obtain rfl:u=Value.ref a:=C;exact⟨S9 c g,Y5 w c g D λK J m z=>⟨v,j,m,z,B⟩⟩
theorem V1(r:X.A.units+20<cLine)(hi:PE X i ty)(q:PE X o td):PC X .In i o (A17 ty td):=by
 intro b s c H Q I h;refine Bj (hi b s c H _ I h) λD C ⟨y,d,j,B,w⟩=>Bj (q b C c d _ j w) λu E n=>?_;obtain⟨x,f,l,A,a,v,p,g,z⟩:=n;subst p;obtain rfl:u=Value.ref a:=A;exact A0t r l g B λF m=>⟨.bl v.isSome,f,m,rfl,z⟩
theorem Km(r:X.A.units+20<cLine)(hi:PE X i ty)(q:PE X o td):PC X .NotIn i o (mz ty td):=by
 intro b s c H Q I h;refine Bj (hi b s c H _ I h) λD C ⟨y,d,j,B,w⟩=>Bj (q b C c d _ j w) λu E n=>?_;obtain⟨x,f,l,A,a,v,p,g,z⟩:=n;subst p;obtain rfl:u=Value.ref a:=A;exact ju r l g B λF m=>⟨.bl (!v.isSome),f,m,rfl,z⟩
theorem Jo(A:X.A.units+20<cLine)(w:PE X o td)(hi:PE X i ty)(B:PE X value tv)(z:swapsWith value (some (.Subscript o i pos')) pos.line X.env=pure false):
  PS X (.Assign [.Subscript o i pos'] value pos) (zy td ty tv):=by
 intro b s c H D I h;refine wpAny_Assign_Subscript (Bj (B b s c H _ I h) λr K ⟨v,d,l,rv,C⟩=>Bj (w b K c d _ l C) λu L ⟨x,f,m,G,E⟩=>Bj (hi b L c f _ m E) λN O ⟨y,M,n,J,a,j,q,g,F⟩=>?_) z;subst q;obtain rfl:u=Value.ref a:=G;exact Y6 A n g J rv λP p=>⟨c,j,p,F⟩
end
theorem am(h:Heap)(a:sysModules<h.objs.size):B8 P w H (h.push {cls:=.type "dict",data:=.dict #[] }) h.objs.size (.dK []):=
 ⟨jT _,beq_eq_false_iff_ne.mpr (Ne.symm (ed a)),[],.nil,Heap.DictOf.new h⟩
theorem ap(h:Heap)(a:sysModules<h.objs.size):B8 P w H (h.push {cls:=.type "dict",data:=.dict #[] }) h.objs.size (.dT []):=
 ⟨jT _,beq_eq_false_iff_ne.mpr (Ne.symm (ed a)),[],.nil,_,#[],0,cI _ rfl,⟨rfl,rfl,rfl⟩,rfl,rfl,List.nodup_nil⟩
def wy:TE:=λ_ H Q=>∀p,H p=none->Q (.ref p) (upd H p (.dK []))
def wz:TE:=λ_ H Q=>∀p,H p=none->Q (.ref p) (upd H p (.dT []))
section
variable {X:Cx}{pos:Pos}
theorem df:PE X (.Dict [] [] pos) wy:=λa s b H Q I h=>
 wpAny_Dict_empty ⟨.ref s.heap.objs.size,_,I.laid (a:=s.heap.objs.size) (o:=.dK []) (t':=s.toks) (λ_ _ q=>bZ _ q) (da _) (am s.heap I.big),rfl,h _ (I.aF.fresh (da _))⟩
theorem Gx:PE X (.Dict [] [] pos) wz:=λa s b H Q I h=>
 wpAny_Dict_empty ⟨.ref s.heap.objs.size,_,I.laid (a:=s.heap.objs.size) (o:=.dT []) (t':=s.toks) (λ_ _ q=>bZ _ q) (da _) (ap s.heap I.big),rfl,h _ (I.aF.fresh (da _))⟩
end
structure M1(X:Cx)(o:Expr)(m:Str)(apos:Pos)(e:Expr)(aS:Pos):Prop where
 base:attributeBase o m X.env (eval o X.env)=eval o X.env
 mJ:((backTo aS (starEach [e] X.env)).all (λx=>!x.1)&&(backToKw aS (keywordEach [] X.env)).all (λx=>x.1.isSome)
  &&decide (([e]:List Expr).length+([]:List Keyword).length+(if([]:List Keyword).isEmpty then 0 else 1)<30))=true
 line:(apos.endLine==aS.line)=true
 trees:backTo aS (starEach [e] X.env)=[(false,eval e X.env)]
structure M2(X:Cx)(o:Expr)(m:Str)(apos:Pos)(e f:Expr)(aS:Pos):Prop where
 base:attributeBase o m X.env (eval o X.env)=eval o X.env
 mJ:((backTo aS (starEach [e,f] X.env)).all (λx=>!x.1)&&(backToKw aS (keywordEach [] X.env)).all (λx=>x.1.isSome)
  &&decide (([e,f]:List Expr).length+([]:List Keyword).length+(if([]:List Keyword).isEmpty then 0 else 1)<30))=true
 line:(apos.endLine==aS.line)=true
 trees:backTo aS (starEach [e,f] X.env)=[(false,eval e X.env),(false,eval f X.env)]
def TU(H:Hp)(a:Addr):Prop:=(∃b,Rd H a (.dK b))\/∃b,Rd H a (.dT b)
theorem Uo(I:Aj X g m H s)(d:TU H a):
  s.TypeIs (.ref a) "dict"/\(∀b,Value.ref a=.ref b->∃c,s.heap.get? b=some c/\c.dict=none)/\(a==sysModules)=false:=by
 rcases d with⟨l,e⟩|⟨l,e⟩
 ·obtain⟨_,j,n,_,f⟩:=Kt I.aF e;refine⟨f.typeIs,λb q=>?_,j⟩;cases q;obtain⟨c,_,_,h,i,_⟩:=f;exact⟨c,h,i.2.1⟩
 ·obtain⟨_,j,o,_,f⟩:=Mi I.aF e;refine⟨f.typeIs,λb q=>?_,j⟩;cases q;obtain⟨c,_,_,h,i,_⟩:=f;exact⟨c,h,i.2.1⟩
section
variable {X:Cx}{pins:List (Addr×Obj)}{σ:St}{H:Hp}{s:mI}{a:Addr}{y d:V}{u r:mK}{o:Option V}{A:nf}{E:mr}
theorem qj(w:A.units+20<cLine)(I:Aj X pins σ H s)(g:Dm H a y o)(p:B0 y u)(n:B0 d r)(h:∀q s',Aj X pins σ H s'->B0 (o.getD d) q->Q q s'):
  wpAny (model X.prog X.w) A (call (.builtin "dict.get") [.ref a,u,r]) Q E s:=by
 rcases g with⟨m,k,e,i,l⟩|⟨m,k,b,e,i,v,l⟩
 ·subst i;obtain⟨z,j,B,c,f⟩:=Kt I.aF e;refine call_meetsIn PySem.F.slot_dict_get f.typeIs PySem.F.entry_dict_get (PySem.F.args_dict_get_3 _ _ _) (meets_dict_get_default (Dc X.prog X.w) a (P0 p) j r) ⟨_,f.mapOf,h _ _ (I.tok _) ?_⟩;rw[l];exact(c.val k).getD n
 ·subst i;cases(show u=Value.ref b from p);obtain⟨z,j,x,c,f⟩:=Mi I.aF e;refine call_meetsIn PySem.F.slot_dict_get f.typeIs PySem.F.entry_dict_get (PySem.F.args_dict_get_3 _ _ _) (meetsH_dict_get_default (Cn X.prog X.w) a b j r) ⟨Dh w,k,x,Im I.aF v,f,h _ _ (I.tok _) ?_⟩;rw[l];exact(c.val k).getD n
end
def wx(f ty g:TE):TE:=λb H Q=>f b H λx c=>∃a,x=.ref a/\TU c a/\ty b c λy e=>g b e λz d=>∃o,Dm d a y o/\Q (o.getD z) d
def xc(f ty:TE):TE:=λe H Q=>f e H λx c=>∃a,x=.ref a/\TU c a/\ty e c λy d=>∃b k v,d a=some (.dK b)/\y=kV k/\Ag b k=some v/\Q v (upd d a (.dK (Br b k)))
section
variable {X:Cx}{o e f:Expr}{apos aS:Pos}{td ty tx:TE}
theorem de(C:X.A.units+20<cLine)(B:PE X o td)(he:PE X e ty)(A:PE X f tx)(m:M2 X o "get" apos e f aS):PE X (.Call (.Attribute o "get" apos) [e,f] [] aS) (wx td ty tx):=by
 intro b s c H Q I h;refine wpAny_Call_method m.base m.mJ m.line PySem.F.plainAttrs_dict PySem.F.slot_dict_get PySem.F.type_dict_get (Bj (B b s c H _ I h) λu M v=>?_);obtain⟨x,j,i,J,a,w,d,E⟩:=v;subst w;obtain rfl:u=Value.ref a:=J;obtain⟨O,P,_⟩:=Uo i d;refine⟨O,P,?_⟩;rw[m.trees]
 refine Calls.callWith_builtin rfl (Calls.evalArgs_plain (Calls.spliced_cons (Bj (he b M c j _ i E) λS N ⟨y,l,p,K,F⟩=>
  Calls.spliced_cons (Bj (A b N c l _ p F) λR U ⟨z,n,q,L,T,g,G⟩=>Calls.spliced_nil ?_))))
 exact qj C q g K L λZ Y r D=>⟨_,n,r,D,G⟩
theorem dh(z:PE X o td)(he:PE X e ty)(m:M1 X o "pop" apos e aS):PE X (.Call (.Attribute o "pop" apos) [e] [] aS) (xc td ty):=by
 intro b s g H Q I h;refine wpAny_Call_method m.base m.mJ m.line PySem.F.plainAttrs_dict PySem.F.slot_dict_pop PySem.F.type_dict_pop (Bj (z b s g H _ I h) λu G p=>?_);obtain⟨x,i,c,E,a,r,d,C⟩:=p;subst r;obtain rfl:u=Value.ref a:=E;obtain⟨J,K,_⟩:=Uo c d;refine⟨J,K,?_⟩;rw[m.trees];refine Calls.callWith_builtin rfl (Calls.evalArgs_plain (Calls.spliced_cons (Bj (he b G g i _ c C) λM N ⟨y,L,j,F,B,k,v,q,w,l,D⟩=>Calls.spliced_nil ?_)));subst w;exact yl j q F l (.inl rfl) λP O n A=>⟨v,_,n,A,D⟩
end
section
variable {κ:Type} [DecidableEq κ]
theorem Nt{kvs:List (κ×V)}{k:κ}(h:Ag kvs k=none):¬k∈kvs.map (·.1):=by
 intro m;obtain⟨p,a,e⟩:=eH.mp m;have q:(kvs.any λb=>decide (b.1=k))=true:=List.any_eq_true.mpr ⟨p,a,decide_eq_true e⟩;rw[Ds,h]at q;exact absurd q (by simp)
theorem Xm{kvs:List (κ×V)}{k:κ}(h:Ag kvs k=some v):k∈kvs.map (·.1):=by
 have q:(kvs.any λb=>decide (b.1=k))=true:=by
  rw[Ds,h]
  all_goals rfl
 obtain⟨p,a,e⟩:=List.any_eq_true.mp q;exact eH.mpr ⟨p,a,of_decide_eq_true e⟩
theorem Ww:∀{l:List κ}{k:κ},l.Nodup->¬k∈l->(l++[k]).Nodup
 |[],k,_,_=>by simp
 |a::r,k,h,b=>by
  obtain⟨c,d⟩:=List.nodup_cons.mp h;show(a::(r++[k])).Nodup;refine List.nodup_cons.mpr ⟨λm=>?_,Ww d λm=>b (d3.mpr (Or.inr m))⟩;rcases fe.mp m with q|q
  ·exact c q
  ·exact b (d3.mpr (Or.inl (iv.mp q).symm))
theorem Wv{kvs:List (κ×V)}{k:κ}(v:V)(a:(kvs.map (·.1)).Nodup)(h:Ag kvs k=none):((Bd kvs k v).map (·.1)).Nodup:=by
 rw[D4 v h,List.map_append];exact Ww a (Nt h)
theorem Yc{p:κ×V}{r:List (κ×V)}{k:κ}(e:p.1=k):Br (p::r) k=Br r k:=by
 unfold Br;rw[List.filter_cons,if_neg (by simp[e])]
end
section
variable {P:m8}{w:nP}{A:nf}{E:mr}{s:mI}
theorem d8{ok g a val:mK}(f:IsItemIter s.heap it d i n ep ok g)
  (K:∀h',IsItemIterOut h' it d i n ep a val s.heap.objs.size->h'.get? s.heap.objs.size=some {cls:=.type "tuple",data:=.seq #[a,val] }->(∀b o,b≠it->s.heap.get? b=some o->h'.get? b=some o)->Q (.ref s.heap.objs.size) {s with heap:=h'}):
  wpAny (model P w) A (Builtin.Dict_items.pairFromOwner (.ref it) 6 a val) Q E s:=by
 unfold Builtin.Dict_items.pairFromOwner;refine a0 (wpAny_newTuple ?_);have r:it<s.heap.objs.size:=dg f;have e:IsItemIter (s.heap.push {cls:=.type "tuple",data:=.seq #[a,val] }) it d i n ep ok g:=bZ _ f;have m:(s.heap.push {cls:=.type "tuple",data:=.seq #[a,val] }).get? s.heap.objs.size=some {cls:=.type "tuple",data:=.seq #[a,val] }:=cI _ rfl;have p:∀b o,s.heap.get? b=some o->(s.heap.push {cls:=.type "tuple",data:=.seq #[a,val] }).get? b=some o:=λb o z=>bZ _ z;show wpAny (model P w) A (Builtin.Dict_items.ownedTupleIsFree (.ref it)>>=_) Q E {s with heap:=s.heap.push {cls:=.type "tuple",data:=.seq #[a,val] } };generalize s.heap.push {cls:=.type "tuple",data:=.seq #[a,val] }=G at e m p⊢;unfold Builtin.Dict_items.ownedTupleIsFree;refine a0 (a0 (wpAny_field e rfl (x:=.none) rfl (bc ?_)));simp only[if_true];refine a0 (wpAny_field e rfl (x:=ok) rfl (a0 (wpAny_field e rfl (x:=g) rfl ?_)));refine a0 (wpAny_setField_rec e (by simp) λH u B=>a0 ?_);have h:IsItemIter H it d i n ep a g:=u;refine wpAny_setField_rec h (by simp) λI v C=>a0 ?_;have j:IsItemIter I it d i n ep a val:=v;refine wpAny_setField_rec j (by simp) λJ x D=>a0 ?_;have l:IsItemIterOut J it d i n ep a val s.heap.objs.size:=x;refine wpAny_setField_rec l (by simp) λq y F=>a0 (wpAny_letGo (bc ?_));have up:∀b o,b≠it->G.get? b=some o->q.get? b=some o:=λb o c z=>F.extBut b o c (D.extBut b o c (C.extBut b o c (B.extBut b o c z)));exact K q y (up _ _ (Nat.ne_of_gt r) m) λb o c z=>up b o c (p b o z)
theorem S8{ok u:mK}(a:IsItemIter s.heap it d i es.size ep ok u)(r:s.heap.get? d=some o)(m:o.data=.dict es ep)
  (he:es[i]?=some c)
  (C:∀h',IsItemIterOut h' it d (i+1) es.size ep c.key c.val s.heap.objs.size->h'.get? s.heap.objs.size=some {cls:=.type "tuple",data:=.seq #[c.key,c.val] }->(∀b o,b≠it->s.heap.get? b=some o->h'.get? b=some o)->Q (some (.ref s.heap.objs.size)) {s with heap:=h'}):
  wpAny (model P w) A (pyNext (.ref it)) Q E s:=by
 have g:s.TypeIs (.ref it) "dict_itemiterator":=⟨_,a,rfl⟩;have h:Builtin.Dict_items.ownsTuple "dict_itemiterator"=true:=by decide
 unfold pyNext;refine a0 (kQ (kM (name:=Str.ofString "__next__") g F.slot_dict_itemiterator_next (hH F.slot_dict_itemiterator_next g F.entry_dict_itemiterator_next ?_ (F.args_dict_itemiterator_next_1 _))));refine a0 (bc (a0 (a0 (a0 (wpAny_typeNameOfWhole_itemiter g (bc (a0 (wpAny_fieldsOf a rfl ?_))))))));simp only[h,if_true];show wpAny _ _ (if(Value.ref d==Value.none)=true then _ else _) _ _ s;rw[if_neg (show¬(Value.ref d==Value.none)=true from Bool.false_ne_true)];refine a0 (bc (a0 (wpAny_dictEntries r m ?_)));rw[if_neg (show¬((es.size:Int) != (es.size:Int))=true by simp)];refine a0 (bc (a0 (wpAny_dictEpoch r m ?_)));rw[if_neg (show¬((ep:Int) != (ep:Int))=true by simp)];refine bc ?_;simp only[show¬((i:Int)<0)by omega,if_false,Int.toNat_natCast,he];refine a0 (a0 (wpAny_typeNameOfWhole_itemiter g (bc (a0 (wpAny_isOneOf_itemiter g ?_)))));show wpAny _ _ (setField (.ref it) 3 (rawInt ((i:Int)+1))>>=_) _ _ s;refine a0 (wpAny_setField_rec a (by simp) λf x l=>?_)
 have j:IsItemIter f it d (i+1) es.size ep ok u:=by
  have e:((i+1:Nat):Int)=(i:Int)+1:=by omega
  unfold IsItemIter;rw[e];simpa[rawInt]using x
 have v:Shared.TypeIs {s with heap:=f} (.ref it) "dict_itemiterator":=⟨_,j,rfl⟩;refine a0 (ft (a0 (wpAny_isOneOf_itemiter v (a0 (wpAny_isOneOf_itemiter v ?_)))));have D:f.objs.size=s.heap.objs.size:=l.1;refine d8 (s:={s with heap:=f}) j λB n p y=>?_;rw[show(Shared.heap {s with heap:=f}).objs.size=s.heap.objs.size from D]at n p⊢;exact bc ⟨_,rfl,bc (C B n p λb o q z=>y b o q (l.extBut b o q z))⟩
end
section
variable {X:Cx}{pins:List (Addr×Obj)}{σ:St}{H:Hp}{s:mI}{k:Nat}
theorem Hr(I:Aj X pins σ H s){d:nX}{v:V}{u:mK}(h:Rp H d v)(r:B0 v u):∃a,Reads s.heap u d a:=Ce I d v u h r
noncomputable def Ji(h:Heap)(d:nX)(w:mK):Bool:=open Classical in if z:∃e a,Reads h w e a/\e.canLay0=true then PyData.eqv z.choose d else false
theorem Mr{h:Heap}{d e:nX}{w:mK}{a:List Addr}(r:Reads h w e a)(b:e.canLay0=true):Ji h d w=PyData.eqv e d:=by
 have z:∃e a,Reads h w e a/\e.canLay0=true:=⟨e,a,r,b⟩;unfold Ji;rw[dif_pos z];obtain⟨bs,c,f⟩:=z.choose_spec;rw[(PySem.SeqAt.Reads.unique e _ w a bs b r c)]
theorem Rs(I:Aj X pins σ H s){d:nX}:∀{b:List nX}{vs:List V}{a:List mK},aB H b vs->Ay vs a->a.any (Ji s.heap d)=b.any λe=>PyData.eqv e d
 |[],vs,a,h,r=>by
  unfold aB at h;subst h;cases r;rfl
 |e::b,vs,a,h,r=>by
  unfold aB at h;obtain⟨x,l,rfl,c,f⟩:=h;cases r with
  |cons g i=>
   obtain⟨j,q⟩:=Hr I c g;rw[List.any_cons,List.any_cons,Mr q (Ck e x c),Rs I f i]
theorem Mt(I:Aj X pins σ H s){A:nf}{d:nX}{x:V}{v:mK}(f:Rp H d x)(i:B0 x v)(l:A.units+d.depth<cLine):∀{g:List nX}{vs:List V}{a:List mK},aB H g vs->Ay vs a->∀w∈a,SeqAt.EqAt A s w v (Ji s.heap d w)
 |[],vs,a,h,r,w,c=>by
  unfold aB at h;subst h;cases r;cases c
 |e::g,vs,a,h,r,w,c=>by
  unfold aB at h;obtain⟨y,u,rfl,b,j⟩:=h;cases r with
  |cons n o=>
   rcases d3.mp c with z|z
   ·subst z;obtain⟨p,q⟩:=Hr I b n;obtain⟨bs,m⟩:=Hr I f i;rw[Mr q (Ck e y b)];exact PySem.SeqAt.eqAt_reads e d A s _ _ _ _ q m (Ck e y b) (Ck d x f) (by omega)
   ·exact Mt I f i l j o w z
end
section
variable {X:Cx}{k:Nat}
def A0y(K:W.Frag)(b:Bool):R2:=λx y H Q=>∃(p:Addr) (c:List V) (d:nX) (a:List nX),y=.ref p/\B6 K H p c/\Rp H d x/\aB H a c/\d.depth<=50/\Q (.bl (if b then !(a.any λe=>PyData.eqv e d)else a.any λe=>PyData.eqv e d)) H
theorem Z2(K:W.Frag)(g:Ba k X.A)(e:X.K=K:=by rfl):Gd X (compareOp .NotIn) (A0y K true):=by
 subst e;intro c s D H x y v u Q I m n h;obtain⟨p,C,d,o,rfl,f,j,a,z,q⟩:=h;cases n;obtain⟨b,r,l,B⟩:=I.list f;have A:=g.units;refine SeqAt.notIn_listAt (Ji s.heap d) l.isList (λw i=>Mt I j m (by show X.A.units+1+d.depth<cLine;omega) a r w (by simpa using i)) ⟨.bl _,H,I,rfl,?_⟩;rw[show b.toArray.any (Ji s.heap d)=b.any (Ji s.heap d)by simp,Rs I a r];exact q
end
theorem G9{k:Nat}{A:nf}(a:Ba k A):A.units+20<cLine:=by have:=a.units;omega
section
variable {X:Cx}
theorem O8{e:Expr}{t:TE}(h:PE X e t):PE X e (λb H Q=>∃N:VK,t b H N/\∀v c,N v c->Q v c):=by
 intro a s b H Q I z;obtain⟨N,z,m⟩:=z;refine Bj (h a s b H N I z) λv l j=>?_;obtain⟨x,d,f,i,g⟩:=j;exact⟨x,d,f,i,m _ _ g⟩
end
def Mm:HO->Prop
 | .dK _=>True
 | .dT _=>True
 |_=>False
section
variable {X:Cx}{pins:List (Addr×Obj)}{σ:St}{H:Hp}{s:mI}{d:Addr}
theorem Aj.swap(I:Aj X pins σ H s)(e:H d=some v)(l:∀xs,v≠ .tup xs)(r:∀ps,v≠ .uR ps)(w:∀y,v≠ .own y)(A:∀o u,X.H₀ d≠some (.bA o u))(ok:B8 X.prog X.w (upd H d u) s.heap d u):Aj X pins σ (upd H d u) s:=by
 have h:∀b xs,H b=some (.tup xs)->(upd H d u) b=some (.tup xs):=λb xs z=>by
  rw[Ab (λy=>by rw[y,e]at z;exact l _ (Option.some.inj z))];exact z
 have g:∀b,H b=none->(upd H d u) b=none:=λb z=>by
  rw[Ab (λy=>by rw[y,e]at z;cases z)];exact z
 refine⟨I.ok,I.os,I.bare,⟨I.base.keep,I.base.slot,λb o q n j=>g b (I.base.free b o q n j),I.base.there,λb xs q=>h b xs (I.base.eG b xs q),λb o x q=>?_,λb ps q=>?_⟩,I.loc,I.cell,g _ I.free,λx c z=>g c (I.bE x c z),λp i=>?_,λb o q=>?_,I.len⟩
 ·have f:b≠d:=λy=>by
   rw[y]at q;exact A o x q
  rw[Ab f];exact I.base.cX b o x q
 ·obtain⟨m,z⟩:=I.base.eJ b ps q;refine⟨m,?_⟩;rw[Ab (λy=>by rw[y,e]at z;exact r _ (Option.some.inj z))];exact z
 ·obtain⟨a,b,c⟩:=I.pin p i;exact⟨a,g _ b,c⟩
 ·by_cases f:b=d
  ·subst f;rw[A5]at q;cases q;exact ok
  ·rw[Ab f]at q;refine(I.aF b o q).cW (λ_ _ _ z=>z) (λc z=>?_) h;rw[Ab (λy=>by rw[y,e]at z;exact w _ (Option.some.inj z))];exact z
theorem Aj.BZ(I:Aj X pins σ H s)(e:H d=some v)(a:Mm v):∀o u,X.H₀ d≠some (.bA o u):=λo u z=>by
 have y:=I.base.cX d o u z;rw[e]at y;cases y;exact a
theorem Aj.bA(I:Aj X pins σ H s)(e:H d=some v)(a:Mm v):∃o,s.heap.get? d=some o/\Aj X pins σ (upd H d (.bA o v)) s:=by
 have f:=I.aF d v e
 obtain⟨o,i⟩:∃o,s.heap.get? d=some o:=by
  cases v with
  |dK g=>obtain⟨_,_,_,_,o,_,_,z,_⟩:=f;exact⟨o,z⟩
  |dT g=>obtain⟨_,_,_,_,o,_,_,z,_⟩:=f;exact⟨o,z⟩
  |_=>exact a.elim
 have j:∀h,v≠ .tup h:=λh z=>by rw[z]at a;exact a
 have n:∀m,v≠ .uR m:=λm z=>by rw[z]at a;exact a
 have l:∀y,v≠ .own y:=λy z=>by rw[z]at a;exact a
 refine⟨o,i,I.swap e j n l (I.BZ e a) ⟨i,f.cW (λ_ _ _ z=>z) (λc z=>?_) (λb h z=>?_)⟩⟩
 ·rw[Ab (λy=>by rw[y,e]at z;exact l _ (Option.some.inj z))];exact z
 ·rw[Ab (λy=>by rw[y,e]at z;exact j _ (Option.some.inj z))];exact z
theorem Aj.JP(I:Aj X pins σ H s)(e:H d=some (.bA o v))(a:∀o u,X.H₀ d≠some (.bA o u)):Aj X pins σ (upd H d v) s:=by
 refine I.swap e (λ_ z=>nomatch z) (λ_ z=>nomatch z) (λ_ z=>nomatch z) a ((I.aF d _ e).2.cW (λ_ _ _ z=>z) (λc z=>?_) (λb f z=>?_))
 ·rw[Ab (λy=>by rw[y,e]at z;cases z)];exact z
 ·rw[Ab (λy=>by rw[y,e]at z;cases z)];exact z
end
def zz(t:TS):TS:=λD c H=>∃d u,Mm u/\H d=some u/\t {D with nx:=λa b=>∃o,b d=some (.bA o u)/\D.nx a (upd b d u) } c H
def A0h(t:TE):TE:=λb H Q=>∃d u,Mm u/\H d=some u/\t b H λv a=>∃o,a d=some (.bA o u)/\Q v (upd a d u)
section
variable {X:Cx}
theorem Qw{st:Stmt}{t:TS}(h:PS X st t):PS X st (zz t):=by
 intro a s m H D I z;obtain⟨d,u,i,e,z⟩:=z;have j:=I.BZ e i;refine Bj (h a s m H _ I z) λf p q=>?_;cases f with
 |next=>
  obtain⟨b,n,c,o,g,l⟩:=q;exact⟨b,_,c.JP g j,l⟩
 |brk=>exact q
 |cont=>exact q
 |ret v=>exact q
theorem lz{t:TE}(h:PE X e t):PE X e (A0h t):=by
 intro a s l H Q I z;obtain⟨d,u,g,f,z⟩:=z;have i:=I.BZ f g;refine Bj (h a s l H _ I z) λv n q=>?_;obtain⟨x,m,b,r,o,c,j⟩:=q;exact⟨x,_,b.JP c i,r,j⟩
end
section
variable {P:m8}{w:nP}{A:nf}{E:mr}{s:mI}
theorem S7(c:(d==sysModules)=false)(b:s.heap.get? d=some o)(e:o.ExactDict)
  (h:Q (.ref s.heap.objs.size) {s with heap:=s.heap.push {cls:=.type "dict_items",data:=.fields #[.ref d] } }):wpAny (model P w) A (call (.builtin "dict.items") [.ref d]) Q E s:=by
 have a:s.TypeIs (.ref d) "dict":=⟨o,b,e.1⟩;refine hH F.slot_dict_items a F.entry_dict_items ?_ (F.args_dict_items_1 _);unfold Builtin.«dict.items» Builtin.Dict.noArgs;refine a0 (a0 (wpAny_notOrdered_dict a ?_));refine a0 (wpAny_of_eq (a:=()) rfl ?_);refine a0 (wpAny_of_eq (a:=Value.ref d) rfl ?_);refine wpAny_of_eq (a:=d) rfl ?_;refine a0 ?_;unfold Builtin.Dict.showsAll;rw[c,if_neg Bool.false_ne_true];refine bc ?_;refine a0 ?_;unfold newFields;exact g6 (bc ⟨_,rfl,h⟩)
theorem Wh(i:s.heap.IsItemsView v d)(e:s.heap.get? d=some o)(b:o.data=.dict es ep)
  (h:Q (.ref s.heap.objs.size) {s with heap:=s.heap.push {cls:=.type "dict_itemiterator",data:=.fields #[.none,.bool false,.ref d,.int 0 0,.int es.size 0,.int ep 0,.none,.none] } }):wpAny (model P w) A (pyIter (.ref v)) Q E s:=by
 obtain⟨j,a,f,g⟩:=i;have c:s.TypeIs (.ref v) "dict_items":=⟨j,a,f⟩;refine wpAny_pyIter_slot c F.slot_dict_items_iter (hH F.slot_dict_items_iter c F.entry_dict_items_iter ?_ (F.args_dict_items_iter_1 _));unfold Builtin.«dict_items.__iter__» Builtin.Dict_items.slot0 Builtin.Dict_items.dictOf Builtin.Dict_items.newIterator;refine a0 (a0 (wpAny_of_eq (a:=(Value.ref v,[])) rfl (bc ?_)));refine a0 (a0 (wpAny_field a g (x:=.ref d) rfl (wpAny_of_eq (a:=d) rfl ?_)));refine a0 (a0 (wpAny_dictEntries e b (a0 (wpAny_dictEpoch e b ?_))));show wpAny (model P w) _ (newObj (.type "dict_itemiterator") (.fields #[.none,.bool false,.ref d,.int 0 0,.int es.size 0,.int ep 0,.none,.none]) none) _ _ _;refine g6 (bc ⟨_,rfl,"dict_itemiterator",_,⟨_,cI _ rfl,rfl⟩,F.slot_dict_itemiterator_next.lookup,h⟩)
theorem al{ok r:mK}(j:A.handled=none)(a:IsItemIter s.heap it d i es.size ep ok r)(l:s.heap.get? d=some o)(g:o.data=.dict es ep)
  (he:es[i]?=none)(n:∀h',Heap.ExtBut it s.heap h'->Q none {s with heap:=h'}):wpAny (model P w) A (pyNext (.ref it)) Q E s:=by
 have c:s.TypeIs (.ref it) "dict_itemiterator":=⟨_,a,rfl⟩;have f:Builtin.Dict_items.ownsTuple "dict_itemiterator"=true:=by decide
 unfold pyNext;refine a0 (kQ (kM (name:=Str.ofString "__next__") c F.slot_dict_itemiterator_next (hH F.slot_dict_itemiterator_next c F.entry_dict_itemiterator_next ?_ (F.args_dict_itemiterator_next_1 _))));refine a0 (bc (a0 (a0 (a0 (wpAny_typeNameOfWhole_itemiter c (bc (a0 (wpAny_fieldsOf a rfl ?_))))))));simp only[f,if_true];show wpAny _ _ (if(Value.ref d==Value.none)=true then _ else _) _ _ s;rw[if_neg (show¬(Value.ref d==Value.none)=true from Bool.false_ne_true)];refine a0 (bc (a0 (wpAny_dictEntries l g ?_)));rw[if_neg (show¬((es.size:Int) != (es.size:Int))=true by simp)];refine a0 (bc (a0 (wpAny_dictEpoch l g ?_)));rw[if_neg (show¬((ep:Int) != (ep:Int))=true by simp)];refine bc ?_;simp only[show¬((i:Int)<0)by omega,if_false,Int.toNat_natCast,he];refine a0 (a0 (wpAny_typeNameOfWhole_itemiter c (bc ?_)));show wpAny _ _ (setField (.ref it) 2 Value.none>>=_) _ _ s;refine a0 (wpAny_setField a rfl (by simp) ?_);generalize q:Heap.update s.heap it (Obj.mapFields (·.setIfInBounds 2 Value.none))=h
 have m:Heap.ExtBut it s.heap h:=by
  rw[<- q];exact λb u p e=>(ea _ _ (Ne.symm p)).trans e
 show wpAny (model P w) _ (newExc (.type "StopIteration") []>>=_) _ _ {s with heap:=h};refine a0 ?_;simp only[newExc,newTuple];refine a0 (g6 (T:="tuple") ?_ (by size_fits));refine a0 (m:=firstArgMember _ _) (wpAny_of_eq (a:=Value.none) (by first|rfl|simp only[firstArgMember]) ?_);refine g6 (T:="StopIteration") ?_ (by size_fits);simp only[raiseNew];refine a0 (wpAny_handled ?_)
 first|rw[show A.in1.handled=Option.none from j]|rw[j]
 refine a0 (bc (wpAny_throw ?_));refine a0 (ka (T:="StopIteration") (b:=true) ⟨_,cI _ rfl,rfl⟩ isSubtype_stop ?_);exact bc (n _ ((m.push _).push _))
end
theorem Y9:entryFor table "dict_itemiterator.__iter__"=some Builtin.«dict_keyiterator.__iter__»:=
 entryFor_alias (id':="dict_keyiterator.__iter__") (by kernel_rfl) (by first|rfl|decide+kernel|(unfold String.splitOn;simp+decide [String.splitOnAux])) (by decide+kernel) (by kernel_rfl)
def TX:HO->Hp->Nat->V->V->Prop
 | .dT a,H,i,x,y=>∃k b,a[i]?=some (k,y)/\x=.ref b/\F4 H b k
 | .dK a,_,i,x,y=>∃k,a[i]?=some (k,y)/\x=kV k
 |_,_,_,_,_=>False
def D8:HO->Nat
 | .dT a=>a.length
 | .dK a=>a.length
 |_=>0
def pk(d:Addr)(o:Obj)(u:HO):It:=
 ⟨λi H=>H d=some (.bA o u)/\i<D8 u,λi H v a=>∃T x y,v=.ref T/\H T=none/\a=upd H T (.tup [x,y])/\TX u H i x y,λi H=>H d=some (.bA o u)/\D8 u<=i⟩
theorem l0{k:Dz}(h:(Dc P w).is k u=true):B0 (kV k) u:=by
 have a:Jg k u=true:=h;cases k with
 |inl i=>
  cases u<;>simp[Jg,Value.isInt]at a
  subst a;exact⟨_,rfl⟩
 |inr x=>
  cases u<;>simp[Jg,Value.isStrOf]at a
  subst a;exact⟨_,rfl⟩
theorem Fq:∀{xs:List a}{ys:List b}{i:Nat},Paired F xs ys->i<xs.length->∃x y,xs[i]?=some x/\ys[i]?=some y/\F x y
 |_,_,i,.nil,h=>absurd h (by simp)
 |_,_,0,.cons r _,_=>⟨_,_,rfl,rfl,r⟩
 |_,_,i+1,.cons _ t,h=>by
  obtain⟨x,y,c,d,e⟩:=Fq (i:=i) t (by simpa using h);exact⟨x,y,by simpa using c,by simpa using d,e⟩
theorem V0(h:Paired F xs ys):xs.length=ys.length:=by
 induction h with
 |nil=>rfl
 |cons r t c=>rw[List.length_cons,List.length_cons,c]
theorem P9{P:m8}{w:nP}{K:Type}[DecidableEq K]{knd:PySem.KeyKind P w K}:∀{es:List DictEntry}{b:List (K×mK)}{i:Nat}{a:K×mK},Pairs knd es b->b[i]?=some a->∃e,es[i]?=some e/\knd.is a.1 e.key=true/\e.val=a.2
 |_,_,i,a,.nil,h=>by simp at h
 |_,_,0,a,.cons f g _,h=>by
  cases(show some _=some _ from h);exact⟨_,rfl,f,g⟩
 |_,_,i+1,a,.cons _ _ t,h=>by
  obtain⟨e,c,d⟩:=P9 t (i:=i) (by simpa using h);exact⟨e,by simpa using c,d⟩
theorem Z3{P:m8}{w:nP}{K:Type}[DecidableEq K]{knd:PySem.KeyKind P w K}{es:List DictEntry}{a:List (K×mK)}(h:Pairs knd es a):es.length=a.length:=by
 induction h with
 |nil=>rfl
 |cons r q t b=>rw[List.length_cons,List.length_cons,b]
theorem aq(ok:B8 P w H h d u)(G:Mm u)(z:h.get? d=some o)(v:o.data=.dict es ep):
  es.size=D8 u/\∀i,i<D8 u->∃e x y,es[i]?=some e/\B0 x e.key/\B0 y e.val/\TX u H i x y:=by
 cases u with
 |dT a=>
  obtain⟨_,_,N,r,I,J,K,b,F,c,l,m⟩:=ok;rw[z]at b;cases b;rw[v]at c;cases c;have s:=V0 r;refine⟨?_,λi n=>?_⟩
  ·show es.size=a.length;rw[<- Array.length_toList,l,List.length_map,s]
  ·obtain⟨p,q,f,g,j,A,B⟩:=Fq r n;refine⟨entryOfKey (Cn P w) q,.ref q.2.1,p.2,?_,rfl,B,p.1,q.2.1,f,rfl,A⟩;rw[<- Array.getElem?_toList,l,List.getElem?_map,g];rfl
 |dK a=>
  obtain⟨_,_,L,r,I,J,K,b,F,c,l,m,M⟩:=ok;rw[z]at b;cases b;rw[v]at c;cases c;have s:a.length=L.length:=r.length;refine⟨?_,λi n=>?_⟩
  ·show es.size=a.length;rw[<- Array.length_toList,Z3 m,s]
  ·obtain⟨p,q,f,g,j⟩:=Fq r n;obtain⟨e,C,D,E⟩:=P9 m g;refine⟨e,kV p.1,p.2,by rw[<- Array.getElem?_toList];exact C,?_,?_,p.1,f,rfl⟩
   ·rw[j.1];exact l0 D
   ·rw[E];exact j.2
 |_=>exact G.elim
theorem Vt{P:m8}{w:nP}{K:W.Frag}{l:List Expr}{kk:Nat}{pos:Pos}{it d:Addr}{o:Obj}{u:HO}{es:Array DictEntry}{ep:Nat}(T:Mm u)(p:o.data=.dict es ep)(aX:d≠it):
  Rq P w K (.Tuple l kk pos) (pk d o u) [it] it (λi h=>∃ok g,IsItemIter h it d i es.size ep ok g)where
 mem:=by simp
 obj:=λi h ⟨ok,g,a⟩ b hb=>by
  have e:b=it:=by simpa using hb
  subst e;exact⟨_,a,λv z=>by cases z⟩
 keep:=λi h B ⟨ok,g,a⟩ k=>⟨ok,g,k it (by simp) _ a⟩
 item:=by
  intro X D L C f i n s σ H E I q ⟨ok,g,a⟩ ⟨M,O⟩;subst D L C;obtain⟨m,r⟩:=I.aF d _ M;obtain⟨J,U⟩:=aq r T m p;obtain⟨e,x,y,e1,rx,ry,hi⟩:=U i O;have R:it<s.heap.objs.size:=dg a;refine S8 a m p e1 λB a1 a2 a3=>⟨_,rfl,?_⟩;refine wpAny_letOwnedTupleGo_items (s:={s with heap:=B}) a1 λZ b1 S=>?_;have Y:Z.get? s.heap.objs.size=some {cls:=.type "tuple",data:=.seq #[e.key,e.val] }:=S.extBut _ _ (Nat.ne_of_gt R) a2;refine⟨.ref s.heap.objs.size,upd H s.heap.objs.size (.tup [x,y]),I.hU (t':=s.toks) (ch:=[it]) q (λc N f e=>?_) (da _) ?_,rfl,⟨_,x,y,rfl,I.fresh,rfl,hi⟩,⟨_,_,b1⟩,λc f=>?_⟩
  ·have j:c≠it:=by simpa using f
   exact S.extBut _ _ j (a3 c N j e)
  ·exact⟨⟨dI (by decide:2<=1000) (Ln (da _)),_,Y,rfl⟩,[e.key,e.val],.cons rx (.cons ry .nil),⟨_,Y,rfl,0,rfl⟩⟩
  ·have j:c=it:=by simpa using f
   subst j;rw[Ab (Nat.ne_of_lt R)];exact(q c f).1
 done:=by
  intro X D L C f i n s σ H E I q ⟨ok,g,a⟩ ⟨M,O⟩;subst D L C;obtain⟨m,r⟩:=I.aF d _ M;obtain⟨J,U⟩:=aq r T m p;refine al (I.ok.hd f) a m p (Array.getElem?_eq_none (by omega)) λB eb=>⟨rfl,I.hV (t':=s.toks) (ch:=[it]) q λc N f e=>?_⟩;have j:c≠it:=by simpa using f
  exact eb c N j e
 self:=λA i s Q E ⟨ok,g,a⟩ hQ=>by
  have G:s.TypeIs (.ref it) "dict_itemiterator":=⟨_,a,rfl⟩;refine wpAny_pyIter_slot G F.slot_dict_itemiterator_iter (hH F.slot_dict_itemiterator_iter G Y9 ?_ (F.args_dict_itemiterator_iter_1 _));exact bc ⟨_,rfl,"dict_itemiterator",_,G,F.slot_dict_itemiterator_next.lookup,hQ⟩
section
variable {X:Cx}
def qz(b:TE):TI:=λc H R=>b c H λx a=>∃d u,x=.ref d/\Mm u/\a d=some u/\∀o,R (pk d o u) (upd a d (.bA o u))
theorem Jm{j:List Expr}{kk:Nat}{kU g pos:Pos}{e:Expr}{Q:TE}(he:PE X e Q)(kW:attributeBase e "items" X.env (eval e X.env)=eval e X.env:=by rfl)(kX:(g.endLine==pos.line)=true:=by rfl):
  PI X (.Tuple j kk kU) (.Call (.Attribute e "items" g) [] [] pos) (qz Q):=by
 intro p s σ H R I h;refine wpAny_Call_method0_late kW kX (Bj (he p s σ H _ I h) λv f Z=>?_);obtain⟨x,S,M,r1,d,u,ex,E,P,q⟩:=Z;subst ex;obtain rfl:v=Value.ref d:=r1;obtain⟨o,i,B⟩:=M.bA P E
 obtain⟨A,w,F,O,Y⟩:∃A w,o.ExactDict/\o.data=.dict A w/\(d==sysModules)=false:=by
  have N:=M.aF d u P;cases u with
  |dT G=>
   obtain⟨_,y,xs,r,o',K,L,l,C,D,_⟩:=N;rw[i]at l;cases l;exact⟨K,L,C,D,y⟩
  |dK G=>
   obtain⟨_,y,vs,r,o',K,L,l,C,D,_⟩:=N;rw[i]at l;cases l;exact⟨K,L,C,D,y⟩
  |_=>exact E.elim
 have hT:f.TypeIs (.ref d) "dict":=⟨o,i,F.1⟩;refine⟨"dict","dict.items",PySem.F.plainAttrs_dict,PySem.F.slot_dict_items,PySem.F.type_dict_items,hT,?_,Calls.callWith_builtin rfl (PySem.evalArgs_none (S7 Y i F ?_))⟩
 ·intro a z;cases z;exact⟨o,i,F.2.1⟩
 have U:(f.heap.push {cls:=.type "dict_items",data:=.fields #[.ref d] }).get? d=some o:=bZ _ i;refine Wh (s:={f with heap:=f.heap.push {cls:=.type "dict_items",data:=.fields #[.ref d] } }) ⟨_,cI _ rfl,rfl,rfl⟩ U O ?_;have hk:∀b J,f.heap.get? b=some J->((f.heap.push {cls:=.type "dict_items",data:=.fields #[.ref d] }).push {cls:=.type "dict_itemiterator",data:=.fields #[.none,.bool false,.ref d,.int 0 0,.int A.size 0,.int w 0,.none,.none] }).get? b=some J:=λb J z=>bZ _ (bZ _ z);have n:(f.heap.push {cls:=.type "dict_items",data:=.fields #[.ref d] }).objs.size=f.heap.objs.size+1:=by simp[Heap.push]
 have T:d<f.heap.objs.size:=dg i;refine⟨_,[_],_,pk d o u,upd S d (.bA o u),rfl,B.kept (t':=f.toks) hk,Vt (es:=A) (ep:=w) E O ?_,⟨.none,.none,cI _ rfl⟩,λc hc=>?_,q o⟩
 ·rw[n];exact ed (Nat.lt_succ_of_lt T)
 ·have m:f.heap.objs.size<=c:=by
   have:c=(f.heap.push {cls:=.type "dict_items",data:=.fields #[.ref d] }).objs.size:=by simpa using hc
   rw[this,n];omega
  exact B.mE m (B.aF.fresh m)
end
theorem Ov{o:Obj}{u:HO}{d:Addr}{g:TG}{r:TS}{D:Ix}{a:St}{H:Hp}(b:Nat->St->Hp->Prop)(h0:b 0 a H)(C:∀i a H,i<=D8 u->b i a H->H d=some (.bA o u))
  (E:∀i x y T a H,i<D8 u->TX u H i x y->b i a H->H T=none->g (.ref T) a (upd H T (.tup [x,y])) λh j=>r {D with nx:=b (i+1),ct:=b (i+1),bk:=D.nx} h j)(A:∀a H,b (D8 u) a H->D.nx a H):
  ∃W:Nat->Nat->St->Hp->Prop,(∃m,W 0 m a H)/\∀i m a H,W i m a H->
   ((pk d o u).stop i H/\D.nx a H)\/((pk d o u).go i H/\∃N:St->Hp->Prop,(∀f c,N f c->∃n,n<m/\W (i+1) n f c)/\∀x c,(pk d o u).vJ i H x c->g x a c λh j=>r {D with nx:=N,ct:=N,bk:=D.nx} h j):=by
 refine⟨λi m a H=>m=D8 u-i/\i<=D8 u/\b i a H,⟨D8 u,by simp,jT _,h0⟩,?_⟩;rintro i m a H ⟨rfl,B,p⟩;have q:=C i a H B p;by_cases l:i<D8 u
 ·refine .inr ⟨⟨q,l⟩,b (i+1),λf c F=>⟨D8 u-(i+1),by omega,rfl,l,F⟩,λv c y=>?_⟩;obtain⟨T,x,z,rfl,w,rfl,s⟩:=y;exact E i x z T a H l s p w
 ·have e:i=D8 u:=by omega
  subst e;exact .inl ⟨⟨q,da _⟩,A a H p⟩
theorem Lx{K:W.Frag}{o:Obj}{u:HO}{d:Addr}{w:List Nat}{n:TT}{l:TE}{f:St}{D:Addr}{A:Hp}{Q:Hp->Prop}(g:Nat->List V->Hp->Prop)(h0:g 0 [] (upd A D (.lst [])))
  (I:∀i a H,i<=D8 u->g i a H->H d=some (.bA o u))
  (J:∀i x y T a H,i<D8 u->TX u H i x y->g i a H->H T=none->n (some x::some y::D1 w f) (upd H T (.tup [x,y])) λb r=>
   if b=true then l (some x::some y::D1 w f) r λv s=>s D=some (.lst a)/\a.length<sizeLine/\g (i+1) (a++[v]) (upd s D (.lst (a++[v])))else g (i+1) a r)
  (M:∀f H Q h,(∀b c,Q b c->h b c)->n f H Q->n f H h)(L:∀f H Q h,(∀v c,Q v c->h v c)->l f H Q->l f H h)
  (F:∀a H,g (D8 u) a H->Q H):Dj 2 w (pk d o u) (qu K) n l f D A Q:=by
 refine⟨λi m a H=>m=D8 u-i/\i<=D8 u/\g i a H,⟨D8 u,by simp,jT _,h0⟩,?_⟩;rintro i m a c ⟨rfl,G,p⟩;have B:=I i a c G p;by_cases j:i<D8 u
 ·refine .inr ⟨⟨B,j⟩,λv R y=>?_⟩;obtain⟨T,x,z,rfl,E,rfl,C⟩:=y;refine⟨T,_,rfl,Cu.of A5,rfl,x,_,rfl,z,_,rfl,rfl,⟨[some x,some z],rfl,rfl⟩,?_⟩;refine M _ _ _ _ ?_ (J i x z T a c j C p E);intro b r q;cases b with
  |false=>exact⟨D8 u-(i+1),by omega,rfl,j,q⟩
  |true=>exact L _ _ _ _ (λv s ⟨N,O,P⟩=>⟨N,O,D8 u-(i+1),by omega,rfl,j,P⟩) q
 ·have e:i=D8 u:=by omega
  subst e;exact .inl ⟨⟨B,da _⟩,F a c p⟩
section
variable {prog:m8}{w:nP}{K:Type} [DecidableEq K] {knd:HeapKind prog w K}{A:nf}{E:mr}{s:mI}{d a:Addr}{k:K}{xs:List (K×Addr×mK)}
theorem Yn{v:mK}(c:(xs.map (·.1)).Nodup)(b:k∉xs.map (·.1)):((xs++[(k,a,v)]).map (·.1)).Nodup:=by
 rw[List.map_append,List.nodup_append];refine⟨c,by simp,λx f y g=>?_⟩;have e:y=k:=by simpa using g
 rw[e];exact λe=>b (e▸f)
theorem gp{b:mK}{Q:mr}(r:knd.room A)(l:knd.is s.heap k a)(D:s.heap.DictOfH knd d xs)(hsz:xs.length<=sizeLine)
  (h1:∀p,atKey xs k=some p->Q p.2 {s with toks:=s.toks+knd.draws k})
  (B:atKey xs k=none->∀h',h'.DictOfH knd d (xs++[(k,a,b)])->Heap.SameBut d s.heap h'->Q b {s with heap:=h',toks:=s.toks+knd.draws k}):
  wpAny (model prog w) A (dictSetDefault d (.ref a) b) Q E s:=by
 obtain⟨o,z,y,f,C,c,i,g,m⟩:=D;unfold dictSetDefault
 try with_reducible refine ft ?_
 refine a0 (knd.pyHash r l ?_);refine a0 (wpAny_dictFind_heap (s:={s with toks:=s.toks+knd.draws k}) r l f c i g m ?_ ?_)
 ·intro u;have v:k∉xs.map (·.1):=not_mem_keys_of_get u;have n:=atKey_none_of_get u
  have F:z.size<=sizeLine:=by
   have e:=size_of_entries i;omega
  refine a0 (kb (a0 (wpAny_updateDictKeys (hz:=F) (s:={s with toks:=s.toks+knd.draws k}) f c (bc (B n _
   ⟨_,_,y+1,g0 _ f (Obj.isFreed_of_dict (Obj.data_mapDictKeys c _)),C.mapDictKeys _,Obj.data_mapDictKeys c _,?_,?_,Yn m v⟩ (hX ..))))))
  ·simp[i,entryOfKey]
  ·intro x h;rcases fe.mp h with h|h
   ·exact knd.keeps (g x h) f c (hX ..)
   ·cases iv.mp h;exact knd.keeps l f c (hX ..)
 ·intro j p q;have n:=atKey_of_get m q;refine a0 (wpAny_dictEntries (s:={s with toks:=s.toks+knd.draws k}) f c ?_);rw[entry_at i j,q];exact a0 (kb (bc (h1 p n)))
theorem Ux(l:(d==sysModules)=false)(b:mK):
  MeetsIn prog w (Builtin.«dict.setdefault» ⟨[.ref d,.ref a,b],[]⟩) (λA R s=>knd.room A.in1/\∃k xs,knd.is s.heap k a/\s.heap.DictOfH knd d xs/\xs.length<=sizeLine/\
   (∀p,atKey xs k=some p->R (.ok (.ret p.2)) {s with toks:=s.toks+knd.draws k})/\
   (atKey xs k=none->∀c,c.DictOfH knd d (xs++[(k,a,b)])->Heap.SameBut d s.heap c->R (.ok (.ret b)) {s with heap:=c,toks:=s.toks+knd.draws k})):=
 .of_wp λA R s ⟨o,k,xs,h,e,q,i,j⟩=>by
  unfold Builtin.«dict.setdefault» Builtin.Dict.keyAndDefault;refine a0 (a0 (wpAny_notOrdered_dict e.typeIs ?_));show wpAny _ _ (pure (d,Value.ref a,some b)) _ _ s;refine bc ?_;show wpAny _ _ (if(d==sysModules)=true then _ else(dictSetDefault d (.ref a) b>>=_)) _ _ s;rw[if_neg (by rw[l];exact Bool.false_ne_true)];exact a0 (gp o h e q (λp n=>bc ⟨p.2,rfl,i p n⟩) λm c g f=>bc ⟨b,rfl,j m c g f⟩)
end
section
variable {X:Cx}{pins:List (Addr×Obj)}{σ:St}{H:Hp}{s:mI}{a b:Addr}{kvs:mu}{k:mv×Int}{z:V}{r:mK}{A:nf}{E:mr}
theorem ym(K:A.units+20<cLine)(I:Aj X pins σ H s)(e:H a=some (.dT kvs))(j:F4 H b k)(R:kvs.length<sizeLine)(M:B0 z r)
  (h1:∀v o s',Ag kvs k=some v->Aj X pins σ H s'->B0 v o->Q o s')(F:Ag kvs k=none->∀s',Aj X pins σ (upd H a (.dT (Bd kvs k z))) s'->Q r s'):
  wpAny (model X.prog X.w) A (call (.builtin "dict.setdefault") [.ref a,.ref b,r]) Q E s:=by
 obtain⟨O,m,u,g,i⟩:=nw I.aF e;have L:u.length<=sizeLine:=by rw[<- Paired.length g];exact O
 have d:=g.val k;refine call_meetsIn PySem.F.slot_dict_setdefault i.typeIs PySem.F.entry_dict_setdefault (PySem.F.args_dict_setdefault_3 _ _ _) (Ux (knd:=Cn X.prog X.w) m r) ⟨Dh K,k,u,Im I.aF j,i,L,λp h=>?_,λG P N J=>?_⟩
 ·rw[h]at d;cases f:Ag kvs k with
  |none=>rw[f]at d;exact d.elim
  |some v=>
   rw[f]at d;exact h1 v p.2 _ f (I.tok _) d
 ·rw[G]at d;cases f:Ag kvs k with
  |some v=>rw[f]at d;exact d.elim
  |none=>
   have h:Bd kvs k z=kvs++[(k,z)]:=D4 z f;refine F f _ ?_;rw[h];obtain⟨q,x,w,n,y,B,C,_,D⟩:=N;refine Ld I (by rw[e];exact True.intro) J ⟨q,n⟩ ⟨by rw[List.length_append,List.length_singleton];omega,m,_,KT.keeps (Paired.snoc g ⟨rfl,j,M⟩) (λc S l=>?_),q,x,w,n,y,B,C,D⟩;rw[Ab (Bg l e (λz=>nomatch z))];exact l
end
def A0a(h ty i:TE):TE:=λe H Q=>h e H λx f=>∃a,x=.ref a/\TU f a/\ty e f λy g=>i e g λz d=>∃c k b,y=.ref b/\F4 d b k/\d a=some (.dT c)/\c.length<sizeLine/\
 (∀v,Ag c k=some v->Q v d)/\(Ag c k=none->Q z (upd d a (.dT (Bd c k z))))
section
variable {X:Cx}{o e f:Expr}{apos aS:Pos}{td ty tx:TE}
theorem lr(L:X.A.units+20<cLine)(K:PE X o td)(he:PE X e ty)(F:PE X f tx)(m:M2 X o "setdefault" apos e f aS):PE X (.Call (.Attribute o "setdefault" apos) [e,f] [] aS) (A0a td ty tx):=by
 intro c s i H Q I h;refine wpAny_Call_method m.base m.mJ m.line PySem.F.plainAttrs_dict PySem.F.slot_dict_setdefault PySem.F.type_dict_setdefault (Bj (K c s i H _ I h) λu s1 A=>?_);obtain⟨x,n,j,Y,a,D,d,R⟩:=A;subst D;obtain rfl:u=Value.ref a:=Y;obtain⟨t1,t2,_⟩:=Uo j d;refine⟨t1,t2,?_⟩;rw[m.trees]
 refine Calls.callWith_builtin rfl (Calls.evalArgs_plain (Calls.spliced_cons (Bj (he c s1 i n _ j R) λN s2 ⟨y,p,r,Z,S⟩=>
  Calls.spliced_cons (Bj (F c s2 i p _ r S) λfv s3 ⟨z,q,w,l,P,k,b,E,C,B,G,T,U⟩=>Calls.spliced_nil ?_))))
 subst E;obtain rfl:N=Value.ref b:=Z;exact ym L w B C G l (λv w' s4 M g O=>⟨v,q,g,O,T v M⟩) λJ s4 g=>⟨z,_,g,l,U J⟩
theorem X2(w:PE X a n)(he:∀b,isTrue a X.env b=(do let v <- b;standAt a.pos;holding [v] (truthy v)):=by intro _;rfl):
  PT X a (λj H Q=>n j H λx l=>∃d kvs,x=.ref d/\Rd l d (.dK kvs)/\Q (!kvs.isEmpty) l):=by
 intro c s j H Q I h;refine isTrue_plain (Bj (w c s j H _ I h) λv E ⟨x,p,m,D,d,kvs,r,y,C⟩=>?_) (he _);subst r;obtain rfl:v=Value.ref d:=D;obtain⟨z,B,i,g,q⟩:=Kt m.aF y;have A:kvs.length=i.length:=g.length;have u:sizeLine<2^30:=by decide
 refine wpAny_truthy_dict B q (by omega) ⟨p,m.tok _,?_⟩
 have e:kvs.isEmpty=i.isEmpty:=by
  cases kvs<;>cases i<;>simp at A<;>rfl
 rw[<- e];exact C
end
open PySem PySem.Spec PyProof.Rows PySem.SeqAt
def pj(A:nf)(s:mI)(x y:mK)(b:Bool):Prop:=∀(a:m8) (w:nP) (E:mr) (Q:mr),Q (.bool b) s->wpAny (model a w) A (richCompare .Gt x y) Q E s
theorem xj(l b:Addr)(xs ys:Array mK)(n P:Nat)(dd D:Option Addr)(T E:Array (Option mK))(e:Nat->Bool)(r:Bool):
  Meets (Builtin.«tuple.__gt__» ⟨[.ref l,.ref b],[]⟩)
   (λA R s=>s.heap.get? l=some {cls:=.type "tuple",dict:=dd,data:=.seq xs n,slots:=T}/\s.heap.get? b=some {cls:=.type "tuple",dict:=D,data:=.seq ys P,slots:=E}/\
    (∀j (m:j<xs.size) (o:j<ys.size),EqAt A.in1 s xs[j] ys[j] (e j))/\(∀j (m:j<xs.size) (o:j<ys.size),(∀i,i<j->e i=true)->e j=false->pj A.in1 s xs[j] ys[j] r)/\
    ((∀j,j<min xs.size ys.size->e j=true)->r=decide (xs.size>ys.size))/\R (.ok (.ret (.bool r))) s):=
 .of_wp λa w A R s h=>by
  obtain⟨L,g,d,U,Q⟩:=s;obtain⟨K,G,H,I,O,h⟩:=h;have f2:=AutoSeq1.sub_tuple_tuple;have hZ:(xs.toList.zip ys.toList).length=min xs.size ys.size:=by simp
  wp_walk using wpAny_loadPart' K,wpAny_loadPart' G,wpAny_forIn_list _ (λc b B=>b.1=none/\B=⟨L,g,d,U,Q⟩/\∃i,c=(xs.toList.zip ys.toList).drop i/\∀k,k<i->k<min xs.size ys.size->e k=true) _
  case turn=>
   rintro⟨y,x⟩ c b B ⟨v,rfl,i,f,p⟩
   have F:i<(xs.toList.zip ys.toList).length:=by
    apply Classical.byContradiction;intro z;rw[List.drop_of_length_le (by omega)]at f;cases f
   have m:i<xs.size:=by omega
   have o:i<ys.size:=by omega
   rw[List.drop_eq_getElem_cons F]at f;injection f with C S;have u:y=xs[i]:=by simpa using congrArg Prod.fst C
   have N:x=ys[i]:=by simpa using congrArg Prod.snd C
   subst u N;refine a0 (H i m o a w _ _ ?_);cases u:e i with
   |true=>
    wp_walk
    refine⟨rfl,rfl,i+1,S,λk q Y=>?_⟩;by_cases z:k=i
    ·rw[z];exact u
    ·exact p k (by omega) Y
   |false=>
    have X:=I i m o (λk q=>p k q (by omega)) u a w
    wp_walk using X _ _
    exact⟨_,rfl,h⟩
  case fin=>
   rintro⟨b1,b2⟩ B ⟨v,rfl,i,f,p⟩;simp only at v;subst v
   have Z:min xs.size ys.size<=i:=by
    apply Classical.byContradiction;intro z;rw[List.drop_eq_getElem_cons (by omega)]at f;cases f
   have M:=O λj J=>p j (by omega) J
   wp_walk
   refine⟨_,rfl,?_⟩;rw[M]at h;simpa[Builtin.Tuple.tupleCompareSizes]using h
  case h=>
   exact⟨rfl,rfl,0,rfl,λk q=>absurd q (kE k)⟩
mutual
def Zk:nX->nX->Bool
 | .int a,.int b=>decide (a>b)
 | .tuple c,.tuple d=>aV c d
 |_,_=>false
def aV:List nX->List nX->Bool
 |[],[]=>false
 |[],_::_=>false
 |_::_,[]=>true
 |x::a,y::b=>if PyData.eqv x y then aV a b else Zk x y
end
theorem Oy:∀(xs ys:List nX),(∀j,j<min xs.length ys.length->pairEq xs ys j=true)->aV xs ys=decide (xs.length>ys.length)
 |[],[],_=>rfl
 |[],y::ys,_=>by simp[aV]
 |x::xs,[],_=>by simp[aV]
 |x::xs,y::ys,h=>by
  have a:PyData.eqv x y=true:=h 0 (by simp only[List.length_cons];omega);have b:=Oy xs ys λj c=>h (j+1) (by simp only[List.length_cons];omega);rw[aV,if_pos a,b];simp
mutual
theorem Sg:∀(i d:nX) (A:nf) (s:mI) (a b:mK) (X bs:List Addr),Reads s.heap a i X->Reads s.heap b d bs->i.canLay0=true->d.canLay0=true->Ih i d->
  A.units+min i.depth d.depth<cLine->pj A s a b (Zk i d)
 | .int x,d,A,s,_,_,_,_,I,J,_,_,c,p=>by
  cases d with
  |int y=>
   cases I with
   |int _ t=>
    cases J with
    |int _ u=>
     intro m w E Q h;exact richCompare_gives (op:=.Gt) (typeIs_int s _ t) (typeIs_int s _ u) F.slot_int_gt F.entry_int_gt (F.args_int_gt_2 _ _) (gives_int_gt _ _ t u) (λz=>nomatch z) h
  |none=>exact c.elim
  |bool _=>exact c.elim
  |str _=>exact c.elim
  |list _=>exact c.elim
  |tuple _=>exact c.elim
  |dict _=>exact c.elim
 | .tuple e,d,A,s,_,_,_,_,I,J,N,O,c,p=>by
  cases d with
  |tuple g=>
   cases I with
   |@tuple l o r n _ v K L M C=>
    cases J with
    |@tuple l' o' q n' _ B P R S H=>
     obtain⟨oc,od,XA,iJ⟩:=o;obtain⟨oc',U,XC,T⟩:=o';simp only at L M R S;subst L M R S;have n1:r.size=e.length:=by simpa using ReadsAll.length _ _ _ C
     have n2:q.size=g.length:=by simpa using ReadsAll.length _ _ _ H
     intro m w E Q h;refine richCompare_meets_room (op:=.Gt) ⟨_,K,rfl⟩ ⟨_,P,rfl⟩ F.slot_tuple_gt F.entry_tuple_gt (F.args_tuple_gt_2 _ _) (xj l l' r q n n' od U iJ T (pairEq e g) (aV e g)) ⟨K,P,λj D G=>?_,λj D G Y Z=>?_,λf=>?_,(λz=>nomatch z),h⟩ (room_here p)
     ·have:=eqAt_readsAll e g A.in1 s r.toList q.toList _ _ C H N O (room_in p) j (by simpa using D) (by simpa using G);simpa using this
     ·have:=fG e g A.in1 s r.toList q.toList _ _ C H N O c (room_in p) j (by simpa using D) (by simpa using G) Y Z;simpa using this
     ·rw[n1,n2]at f⊢;exact Oy e g f
  |none=>exact c.elim
  |bool _=>exact c.elim
  |str _=>exact c.elim
  |list _=>exact c.elim
  |int _=>exact c.elim
  |dict _=>exact c.elim
 | .none,_,_,_,_,_,_,_,_,_,_,_,c,_=>c.elim
 | .bool _,_,_,_,_,_,_,_,_,_,_,_,c,_=>c.elim
 | .str _,_,_,_,_,_,_,_,_,_,_,_,c,_=>c.elim
 | .list _,_,_,_,_,_,_,_,_,_,_,_,c,_=>c.elim
 | .dict _,_,_,_,_,_,_,_,_,_,_,_,c,_=>c.elim
theorem fG:∀(xs ys:List nX) (A:nf) (s:mI) (f ws:List mK) (p bs:List Addr),ReadsAll s.heap f xs p->ReadsAll s.heap ws ys bs->PyData.canLayAll0 xs=true->PyData.canLayAll0 ys=true->aU xs ys->
  A.units+min (PyData.depthAll xs) (PyData.depthAll ys)<cLine->∀j (h1:j<f.length) (a:j<ws.length),(∀i,i<j->pairEq xs ys i=true)->pairEq xs ys j=false->pj A s f[j] ws[j] (aV xs ys)
 |[],_,_,_,_,_,_,_,c,_,_,_,_,_,j,h1,_,_,_=>by cases c;exact absurd h1 (kE _)
 |_::_,[],_,_,_,_,_,_,_,d,_,_,_,_,j,_,a,_,_=>by cases d;exact absurd a (kE _)
 |x::xs,y::ys,A,s,_,_,_,_,c,d,q,r,l,v,j,h1,a,g,h=>by
  cases c with
  |cons B C=>
   cases d with
   |cons w z=>
    have n:x.canLay0=true/\PyData.canLayAll0 xs=true:=by simpa[PyData.canLayAll0]using q
    have o:y.canLay0=true/\PyData.canLayAll0 ys=true:=by simpa[PyData.canLayAll0]using r
    have m:A.units+min x.depth y.depth<cLine/\A.units+min (PyData.depthAll xs) (PyData.depthAll ys)<cLine:=by
     simp only[PyData.depthAll]at v;omega
    cases j with
    |zero=>
     have e:aV (x::xs) (y::ys)=Zk x y:=by
      have b:PyData.eqv x y=false:=h;rw[aV,b];rfl
     rw[e];exact Sg x y A s _ _ _ _ B w n.1 o.1 l.1 m.1
    |succ j=>
     have e:aV (x::xs) (y::ys)=aV xs ys:=by
      have b:PyData.eqv x y=true:=g 0 (Nat.succ_pos _);rw[aV,b];rfl
     rw[e];exact fG xs ys A s _ _ _ _ C z n.2 o.2 l.2 m.2 j (Nat.lt_of_succ_lt_succ h1) (Nat.lt_of_succ_lt_succ a) (λi u=>g (i+1) (Nat.succ_lt_succ u)) h
end
section
variable {X:Cx}{k:Nat}
def A1i:R2:=λx y H Q=>∃d e:nX,Rp H d x/\Rp H e y/\Ih d e/\d.depth<=60/\Q (.bl (Zk d e)) H
end
open PySem PySem.Spec PyProof.Rows PySem.SeqAt
theorem E2(bt:Nat->Nat->Bool)(j:Nat):argBest bt (j+1)=if bt (j+1) (argBest bt j)=true then j+1 else argBest bt j:=by
 first
  |rfl
  |(show(if bt (j+1) (argBest bt j)then j+1 else argBest bt j)=_;rfl)
section
variable {prog:m8}{w:nP}{A:nf}{R:Result->mI->Prop}{I S:Addr}{fp wr:List Addr}{St:Nat->Heap->Prop}{aA:Array mK}{bt:Nat->Nat->Bool}{Good:Heap->Prop}
theorem Qz(h:wpAny (model prog w) A.in1 (Builtin.«min.loop» a) (λfin s'=>match fin with
   | .done f=>R (.ok f) s'
   | .again b=>b.quiet=true/\codeAny (model prog w) A b R s') (λe s'=>R (.error e) s') s):codeAny (model prog w) A (.builtin "min.loop" a) R s:=by
 refine codeAny_builtin F.entry_min_loop ?_;rw[Around.under_plainId F.plain_min_loop _];exact h
theorem mh(W:Walks prog w A.in1 I fp wr aA.size (λi v=>aA[i]?=some v) St)(L:∀h h',Good h->(∀b o,b∉wr->b≠S->h.get? b=some o->h'.get? b=some o)->Good h')
  (hc:∀i j Y Z (s:mI),Good s.heap->aA[i]?=some Y->aA[j]?=some Z->∀E Q,Q (.bool (bt i j)) s->wpAny (model prog w) A.in1 (richCompare .Lt Y Z) Q E s)(T:S∉fp):
  ∀(k j:Nat) (s:mI) (f:mK) (c:Nat),aA.size=j+1+k->St (j+1) s.heap->Good s.heap->aA[argBest bt j]?=some f->
  s.heap.get? S=some {cls:=.type "list",dict:=none,data:=.seq #[f,f] c,slots:=#[] }->
  (∀v h' tk,aA[argBest bt (aA.size-1)]?=some v->(∀b o,b∉wr->b≠S->s.heap.get? b=some o->h'.get? b=some o)->R (.ok (.ret v)) {s with heap:=h',toks:=tk})->
  codeAny (model prog w) A (.builtin "min.loop" ⟨[.ref I,.none,.ref S],[]⟩) R s:=by
 have U:S∉wr:=λz=>T (W.sub _ z);have X:(toString "min"++toString ".loop":String)="min.loop":=by decide
 intro k
 induction k with
 |zero=>
  intro j s f c hk u O r n q;refine Qz ?_;refine a0 ( fC n rfl ?_);show wpAny (model prog w) A.in1 (tryCatch (pyNext (.ref I)) _>>=_) _ _ s;have ej:j+1=aA.size:=by omega
  refine a0 (wpAny_tryCatch (W.done s _ _ (ej▸u) λx G l=>?_));have m:=l S _ U n;show wpAny (model prog w) A.in1 (updateSeq S (λ_=>#[])>>=_) _ _ _;refine a0 ?_;refine wpAny_updateSeq m rfl (a0 (wpAny_letGo (bc ?_)));have e2:aA.size-1=j:=by omega
  exact q f _ G (by rw[e2];exact r) λb o d g e=>(ea _ _ (Ne.symm g)).trans (l b o d e)
 |succ k P=>
  intro j s f c hk u O r n q;refine Qz ?_;refine a0 ( fC n rfl ?_);show wpAny (model prog w) A.in1 (tryCatch (pyNext (.ref I)) _>>=_) _ _ s;refine a0 (wpAny_tryCatch (W.item (j+1) s _ _ (by omega) u λv x G M K l=>?_));have m:=l S _ U n;have H:Good x:=L _ _ O λb o d _ e=>l b o d e;refine a0 (bc ?_);refine a0 (wpAny_tryCatch (ft (a0 ?_)));refine hc (j+1) (argBest bt j) v f {s with heap:=x,toks:=G} H M r _ _ ?_;refine a0 (ft (ib ?_));refine a0 (wpAny_letGo (bc ?_));have p:=E2 bt j;cases N:bt (j+1) (argBest bt j)with
  |true=>
   rw[N,if_pos rfl]at p;simp only[if_true];refine a0 ?_;refine wpAny_updateSeq m rfl (a0 (wpAny_letGo ?_));rw[X];refine bc ⟨kA F.plain_min_loop _,P (j+1) _ v _ (by omega) (W.frame _ _ _ K λb z o e=>?_) (L _ _ H λb o d g e=>(ea _ _ (Ne.symm g)).trans e) (by rw[p];exact M) (g0 _ m rfl) λJ B C a D=>?_⟩
   ·exact(ea _ _ (λy:S=b=>T (by rw[y];exact z))).trans e
   ·exact q J B C a λb o d g e=>D b o d g ((ea _ _ (Ne.symm g)).trans (l b o d e))
  |false=>
   rw[N,if_neg Bool.false_ne_true]at p;simp only[Bool.false_eq_true,if_false];refine a0 (wpAny_letGo ?_);rw[X];refine bc ⟨kA F.plain_min_loop _,P (j+1) _ f c (by omega) K H (by rw[p];exact r) m λJ B C a D=>?_⟩;exact q J B C a λb o d g e=>D b o d g (l b o d e)
theorem V9(W:Walks prog w A.in1 I fp wr aA.size (λi v=>aA[i]?=some v) St)(g:∀h h',Good h->(∀b o,b∉wr->b≠S->h.get? b=some o->h'.get? b=some o)->Good h')
  (H:∀i j q r (s:mI),Good s.heap->aA[i]?=some q->aA[j]?=some r->∀E Q,Q (.bool (bt i j)) s->wpAny (model prog w) A.in1 (richCompare .Lt q r) Q E s)(l:S∉fp){s:mI}{c:Nat}(x:St 0 s.heap)(J:Good s.heap)
  (p:s.heap.get? S=some {cls:=.type "list",dict:=none,data:=.seq #[] c,slots:=#[] })(K:0<aA.size)
  (G:∀v h' T,aA[argBest bt (aA.size-1)]?=some v->(∀b o,b∉wr->b≠S->s.heap.get? b=some o->h'.get? b=some o)->R (.ok (.ret v)) {s with heap:=h',toks:=T}):
  codeAny (model prog w) A (.builtin "min.loop" ⟨[.ref I,.none,.ref S],[]⟩) R s:=by
 have O:S∉wr:=λz=>l (W.sub _ z);have P:(toString "min"++toString ".loop":String)="min.loop":=by decide
 refine Qz ?_;refine a0 ( fC p rfl ?_);show wpAny (model prog w) A.in1 (tryCatch (pyNext (.ref I)) _>>=_) _ _ s;refine a0 (wpAny_tryCatch (W.item 0 s _ _ K x λv B X D u m=>?_));have n:=m S _ O p;have N:Good B:=g _ _ J λb o d _ e=>m b o d e;show wpAny (model prog w) A.in1 (updateSeq S (λ_=>#[v,v])>>=_) _ _ _;refine a0 ?_;refine wpAny_updateSeq n rfl ?_;rw[P];refine bc ⟨kA F.plain_min_loop _,mh W g H l (aA.size-1) 0 _ v _ (by omega) (W.frame _ _ _ u λb z o e=>?_) (g _ _ N λb o d f e=>(ea _ _ (Ne.symm f)).trans e) D (g0 _ n rfl) λU C L a M=>?_⟩
 ·exact(ea _ _ (λy:S=b=>l (by rw[y];exact z))).trans e
 ·exact G U C L a λb o d f e=>M b o d f ((ea _ _ (Ne.symm f)).trans (m b o d e))
end
section
variable {prog:m8}{w:nP}{A:nf}{R:Result->mI->Prop}{I S:Addr}{fp wr:List Addr}{St:Nat->Heap->Prop}{aA:Array mK}{bt:Nat->Nat->Bool}{Good:Heap->Prop}
theorem Qy(h:wpAny (model prog w) A.in1 (Builtin.«max.loop» a) (λfin s'=>match fin with
   | .done f=>R (.ok f) s'
   | .again b=>b.quiet=true/\codeAny (model prog w) A b R s') (λe s'=>R (.error e) s') s):codeAny (model prog w) A (.builtin "max.loop" a) R s:=by
 refine codeAny_builtin F.entry_max_loop ?_;rw[Around.under_plainId F.plain_max_loop _];exact h
theorem mf(W:Walks prog w A.in1 I fp wr aA.size (λi v=>aA[i]?=some v) St)(L:∀h h',Good h->(∀b o,b∉wr->b≠S->h.get? b=some o->h'.get? b=some o)->Good h')
  (hc:∀i j Y Z (s:mI),Good s.heap->aA[i]?=some Y->aA[j]?=some Z->∀E Q,Q (.bool (bt i j)) s->wpAny (model prog w) A.in1 (richCompare .Gt Y Z) Q E s)(T:S∉fp):
  ∀(k j:Nat) (s:mI) (f:mK) (c:Nat),aA.size=j+1+k->St (j+1) s.heap->Good s.heap->aA[argBest bt j]?=some f->
  s.heap.get? S=some {cls:=.type "list",dict:=none,data:=.seq #[f,f] c,slots:=#[] }->
  (∀v h' tk,aA[argBest bt (aA.size-1)]?=some v->(∀b o,b∉wr->b≠S->s.heap.get? b=some o->h'.get? b=some o)->R (.ok (.ret v)) {s with heap:=h',toks:=tk})->
  codeAny (model prog w) A (.builtin "max.loop" ⟨[.ref I,.none,.ref S],[]⟩) R s:=by
 have U:S∉wr:=λz=>T (W.sub _ z);have X:(toString "max"++toString ".loop":String)="max.loop":=by decide
 intro k
 induction k with
 |zero=>
  intro j s f c hk u O r n q;refine Qy ?_;refine a0 ( fC n rfl ?_);show wpAny (model prog w) A.in1 (tryCatch (pyNext (.ref I)) _>>=_) _ _ s;have ej:j+1=aA.size:=by omega
  refine a0 (wpAny_tryCatch (W.done s _ _ (ej▸u) λx G l=>?_));have m:=l S _ U n;show wpAny (model prog w) A.in1 (updateSeq S (λ_=>#[])>>=_) _ _ _;refine a0 ?_;refine wpAny_updateSeq m rfl (a0 (wpAny_letGo (bc ?_)));have e2:aA.size-1=j:=by omega
  exact q f _ G (by rw[e2];exact r) λb o d g e=>(ea _ _ (Ne.symm g)).trans (l b o d e)
 |succ k P=>
  intro j s f c hk u O r n q;refine Qy ?_;refine a0 ( fC n rfl ?_);show wpAny (model prog w) A.in1 (tryCatch (pyNext (.ref I)) _>>=_) _ _ s;refine a0 (wpAny_tryCatch (W.item (j+1) s _ _ (by omega) u λv x G M K l=>?_));have m:=l S _ U n;have H:Good x:=L _ _ O λb o d _ e=>l b o d e;refine a0 (bc ?_);refine a0 (wpAny_tryCatch (ft (a0 ?_)));refine hc (j+1) (argBest bt j) v f {s with heap:=x,toks:=G} H M r _ _ ?_;refine a0 (ft (ib ?_));refine a0 (wpAny_letGo (bc ?_));have p:=E2 bt j;cases N:bt (j+1) (argBest bt j)with
  |true=>
   rw[N,if_pos rfl]at p;simp only[if_true];refine a0 ?_;refine wpAny_updateSeq m rfl (a0 (wpAny_letGo ?_));rw[X];refine bc ⟨kA F.plain_max_loop _,P (j+1) _ v _ (by omega) (W.frame _ _ _ K λb z o e=>?_) (L _ _ H λb o d g e=>(ea _ _ (Ne.symm g)).trans e) (by rw[p];exact M) (g0 _ m rfl) λJ B C a D=>?_⟩
   ·exact(ea _ _ (λy:S=b=>T (by rw[y];exact z))).trans e
   ·exact q J B C a λb o d g e=>D b o d g ((ea _ _ (Ne.symm g)).trans (l b o d e))
  |false=>
   rw[N,if_neg Bool.false_ne_true]at p;simp only[Bool.false_eq_true,if_false];refine a0 (wpAny_letGo ?_);rw[X];refine bc ⟨kA F.plain_max_loop _,P (j+1) _ f c (by omega) K H (by rw[p];exact r) m λJ B C a D=>?_⟩;exact q J B C a λb o d g e=>D b o d g (l b o d e)
theorem V8(W:Walks prog w A.in1 I fp wr aA.size (λi v=>aA[i]?=some v) St)(g:∀h h',Good h->(∀b o,b∉wr->b≠S->h.get? b=some o->h'.get? b=some o)->Good h')
  (H:∀i j q r (s:mI),Good s.heap->aA[i]?=some q->aA[j]?=some r->∀E Q,Q (.bool (bt i j)) s->wpAny (model prog w) A.in1 (richCompare .Gt q r) Q E s)(l:S∉fp){s:mI}{c:Nat}(x:St 0 s.heap)(J:Good s.heap)
  (p:s.heap.get? S=some {cls:=.type "list",dict:=none,data:=.seq #[] c,slots:=#[] })(K:0<aA.size)
  (G:∀v h' T,aA[argBest bt (aA.size-1)]?=some v->(∀b o,b∉wr->b≠S->s.heap.get? b=some o->h'.get? b=some o)->R (.ok (.ret v)) {s with heap:=h',toks:=T}):
  codeAny (model prog w) A (.builtin "max.loop" ⟨[.ref I,.none,.ref S],[]⟩) R s:=by
 have O:S∉wr:=λz=>l (W.sub _ z);have P:(toString "max"++toString ".loop":String)="max.loop":=by decide
 refine Qy ?_;refine a0 ( fC p rfl ?_);show wpAny (model prog w) A.in1 (tryCatch (pyNext (.ref I)) _>>=_) _ _ s;refine a0 (wpAny_tryCatch (W.item 0 s _ _ K x λv B X D u m=>?_));have n:=m S _ O p;have N:Good B:=g _ _ J λb o d _ e=>m b o d e;show wpAny (model prog w) A.in1 (updateSeq S (λ_=>#[v,v])>>=_) _ _ _;refine a0 ?_;refine wpAny_updateSeq n rfl ?_;rw[P];refine bc ⟨kA F.plain_max_loop _,mf W g H l (aA.size-1) 0 _ v _ (by omega) (W.frame _ _ _ u λb z o e=>?_) (g _ _ N λb o d f e=>(ea _ _ (Ne.symm f)).trans e) D (g0 _ n rfl) λU C L a M=>?_⟩
 ·exact(ea _ _ (λy:S=b=>l (by rw[y];exact z))).trans e
 ·exact G U C L a λb o d f e=>M b o d f ((ea _ _ (Ne.symm f)).trans (m b o d e))
end
open PySem PySem.Spec PyProof.Rows PySem.SeqAt
theorem Kp:∀{a:List nX}{b:List V}{i:Nat}{d:nX},aB H a b->a[i]?=some d->∃u,b[i]?=some u/\Rp H d u
 |[],_,i,d,_,e=>by simp at e
 |x::a,b,0,d,h,e=>by
  unfold aB at h;obtain⟨u,g,rfl,j,_⟩:=h;cases e;exact⟨u,rfl,j⟩
 |x::a,b,i+1,d,h,e=>by
  unfold aB at h;obtain⟨u,g,rfl,_,l⟩:=h;obtain⟨m,c,f⟩:=Kp (i:=i) l (by simpa using e);exact⟨m,by simpa using c,f⟩
theorem Fe:∀{a:List nX}{us:List V},aB H a us->us.length=a.length
 |[],us,h=>by
  unfold aB at h;rw[h];rfl
 |x::a,us,h=>by
  unfold aB at h;obtain⟨u,c,rfl,_,b⟩:=h;rw[List.length_cons,List.length_cons,Fe b]
theorem Ju{b:List mK}{i:Nat}{u:mK}(r:Ay xs b)(h:b[i]?=some u):∃x,xs[i]?=some x/\B0 x u:=by
 have d:=(bG.mp h).1;have e:=r.length;obtain⟨f,a,c⟩:=r.get (dt (show i<xs.length by omega));rw[h]at a;cases a;exact⟨_,dt (by omega),c⟩
section
variable {X:Cx}{k:Nat}
theorem Yv(a:mK):argsOk "min" ⟨[a],[]⟩:=by
 unfold argsOk
 kernel_rfl
def Lc(a:List nX):Nat:=argBest (λi j=>Jy (a.getD i .none) (a.getD j .none)) (a.length-1)
theorem qg{c:List (Addr×Obj)}{s:mI}{l:List mK}{a:List nX}(O:Ba k X.A)(I:Aj X c D H s)(rv:Ay C l)(w:aB H a C)(R:∀d∈a,∀e∈a,Ih d e)(F:∀d∈a,d.depth<=50)(i j:Nat)(f g:mK)(s':mI)
  (M:∀b o,s.heap.get? b=some o->s'.heap.get? b=some o)(h1:l.toArray[i]?=some f)(L:l.toArray[j]?=some g)(E Q:mr)(q:Q (.bool (Jy (a.getD i .none) (a.getD j .none))) s'):wpAny (model X.prog X.w) X.A.in1 (richCompare .Lt f g) Q E s':=by
 have hl:=Fe w
 have get:∀(m:Nat) (n:mK),l.toArray[m]?=some n->∃x,B0 x n/\Rp H (a.getD m .none) x/\a.getD m .none∈a:=λm n h=>by
  obtain⟨x,r,J⟩:=Ju rv (by simpa using h)
  have N:m<a.length:=by
   have:=(bG.mp r).1;omega
  have u:a[m]?=some (a.getD m .none):=by
   rw[List.getD_eq_getElem?_getD,List.getElem?_eq_getElem N];rfl
  obtain⟨x2,v,K⟩:=Kp w u;rw[r]at v;cases v;exact⟨x,J,K,cb u⟩
 obtain⟨x,U,A,z⟩:=get i f h1;obtain⟨y,Y,B,P⟩:=get j g L;have p:Aj X c D H {s with heap:=s'.heap,toks:=s'.toks}:=I.kept (t':=s'.toks) M;obtain⟨G,S⟩:=Ce p _ x f A U;obtain⟨bs,T⟩:=Ce p _ y g B Y;have hu:=O.units;have Z:=F _ z;exact Jj _ _ X.A.in1 s' f g G bs S T (Ck _ x A) (Ck _ y B) (R _ z _ P) (by show X.A.units+1+_<_;omega) _ _ _ _ q
def zt(K:W.Frag):List V->Hp->VK->Prop:=λc H Q=>∃(p:Addr) (b:List V) (a:List nX),c=[.ref p]/\B6 K H p b/\aB H a b/\0<b.length/\(∀d∈a,∀e∈a,Ih d e)/\(∀d∈a,d.depth<=50)/\∀v,b[Lc a]?=some v->Q v H
theorem Y0(K:PySem.W.Frag)(T:Ba k X.A)(P:X.calm=true)(O:X.K=K:=by rfl):D9 X (.builtin "min") (zt K):=by
 subst O;intro w s σ H xs TZ Q I r h;obtain⟨p,us,d,rfl,S,n,aX,Y,B,q⟩:=h;obtain⟨u,rfl,rx⟩:=Eg r;cases rx;obtain⟨m,rv,l,hz⟩:=I.list S;have hl:=Fe n;have XE:=rv.length;have U:(toString "min"++toString ".loop":String)="min.loop":=by decide
 refine Kf (args:=⟨[.ref p],[]⟩) F.kind_min F.plain_min F.entry_min (Yv _) ?_;show wpAny (model X.prog X.w) X.A.in1 (Builtin.Builtins.bindParams "min" ["key","default"] 0 ⟨[],[]⟩>>=_) _ _ s;refine a0 (wpAny_of_eq (show Builtin.Builtins.bindParams "min" ["key","default"] 0 ⟨[],[]⟩=pure [none,none]from ?_) ?_)
 ·kernel_rfl
 refine a0 (bc ?_);refine a0 (wpAny_pyIter_list l.isList ?_);refine a0 (g6 ?_);rw[U];refine bc ⟨kA F.plain_min_loop _,?_⟩;have A:p<s.heap.objs.size:=l.lt;have W:=Walks.list (prog:=X.prog) (w:=X.w) (A:=X.A.in1) (I.ok.hd P) s.heap.objs.size p (ed A) m.toArray;have a:(s.heap.push {cls:=.type "list_iterator",data:=.fields #[.ref p,.int 0 0] }).objs.size=s.heap.objs.size+1:=by simp[Heap.push]
 refine V9 (S:=(s.heap.push {cls:=.type "list_iterator",data:=.fields #[.ref p,.int 0 0] }).objs.size) (bt:=λi j=>Jy (d.getD i .none) (d.getD j .none)) (Good:=λh=>∀b o,s.heap.get? b=some o->h.get? b=some o) W (λh L g f b o e=>f b o ?_ ?_ (g b o e)) (λi j vi vj s' g M N E C Z=>qg T I rv n Y B i j vi vj s' g M N E C Z) ?_ ⟨⟨_,bZ _ (cI _ rfl),rfl,rfl⟩,?_⟩ (λb o e=>bZ _ (bZ _ e)) (cI _ rfl) (by simp;omega) (λv L tk e f=>?_)
 ·exact λz=>ed (dg e) (by simpa using z)
 ·rw[a];exact ed (Nat.lt_succ_of_lt (dg e))
 ·rw[a];intro z;have c:s.heap.objs.size+1=s.heap.objs.size\/s.heap.objs.size+1=p:=by simpa using z
  rcases c with c|c
  ·exact Nat.succ_ne_self _ c
  ·exact Nat.lt_irrefl _ (Nat.lt_trans (Nat.lt_succ_self _) (c.symm▸A:s.heap.objs.size+1<s.heap.objs.size))
 ·obtain⟨o,R,r1⟩:=l.isList;exact⟨o,bZ _ (bZ _ R),r1⟩
 ·have D:m.toArray.size-1=d.length-1:=by
   simp;omega
  rw[D]at e;obtain⟨x,G,J⟩:=Ju rv (by simpa using e);refine⟨x,H,I.kept (t':=tk) (λb o z=>f b o ?_ ?_ (bZ _ (bZ _ z))),J,q x G⟩
  ·exact λy=>ed (dg z) (by simpa using y)
  ·rw[a];exact ed (Nat.lt_succ_of_lt (dg z))
end
section
variable {X:Cx}{k:Nat}
theorem Yu(a:mK):argsOk "max" ⟨[a],[]⟩:=by
 unfold argsOk
 kernel_rfl
def Dk(a:List nX):Nat:=argBest (λi j=>Zk (a.getD i .none) (a.getD j .none)) (a.length-1)
theorem qf{c:List (Addr×Obj)}{s:mI}{l:List mK}{a:List nX}(O:Ba k X.A)(I:Aj X c D H s)(rv:Ay C l)(w:aB H a C)(R:∀d∈a,∀e∈a,Ih d e)(F:∀d∈a,d.depth<=50)(i j:Nat)(f g:mK)(s':mI)
  (M:∀b o,s.heap.get? b=some o->s'.heap.get? b=some o)(h1:l.toArray[i]?=some f)(L:l.toArray[j]?=some g)(E Q:mr)(q:Q (.bool (Zk (a.getD i .none) (a.getD j .none))) s'):wpAny (model X.prog X.w) X.A.in1 (richCompare .Gt f g) Q E s':=by
 have hl:=Fe w
 have get:∀(m:Nat) (n:mK),l.toArray[m]?=some n->∃x,B0 x n/\Rp H (a.getD m .none) x/\a.getD m .none∈a:=λm n h=>by
  obtain⟨x,r,J⟩:=Ju rv (by simpa using h)
  have N:m<a.length:=by
   have:=(bG.mp r).1;omega
  have u:a[m]?=some (a.getD m .none):=by
   rw[List.getD_eq_getElem?_getD,List.getElem?_eq_getElem N];rfl
  obtain⟨x2,v,K⟩:=Kp w u;rw[r]at v;cases v;exact⟨x,J,K,cb u⟩
 obtain⟨x,U,A,z⟩:=get i f h1;obtain⟨y,Y,B,P⟩:=get j g L;have p:Aj X c D H {s with heap:=s'.heap,toks:=s'.toks}:=I.kept (t':=s'.toks) M;obtain⟨G,S⟩:=Ce p _ x f A U;obtain⟨bs,T⟩:=Ce p _ y g B Y;have hu:=O.units;have Z:=F _ z;exact Sg _ _ X.A.in1 s' f g G bs S T (Ck _ x A) (Ck _ y B) (R _ z _ P) (by show X.A.units+1+_<_;omega) _ _ _ _ q
def zr(K:W.Frag):List V->Hp->VK->Prop:=λc H Q=>∃(p:Addr) (b:List V) (a:List nX),c=[.ref p]/\B6 K H p b/\aB H a b/\0<b.length/\(∀d∈a,∀e∈a,Ih d e)/\(∀d∈a,d.depth<=50)/\∀v,b[Dk a]?=some v->Q v H
theorem Xz(K:PySem.W.Frag)(T:Ba k X.A)(P:X.calm=true)(O:X.K=K:=by rfl):D9 X (.builtin "max") (zr K):=by
 subst O;intro w s σ H xs TZ Q I r h;obtain⟨p,us,d,rfl,S,n,aX,Y,B,q⟩:=h;obtain⟨u,rfl,rx⟩:=Eg r;cases rx;obtain⟨m,rv,l,hz⟩:=I.list S;have hl:=Fe n;have XE:=rv.length;have U:(toString "max"++toString ".loop":String)="max.loop":=by decide
 refine Kf (args:=⟨[.ref p],[]⟩) F.kind_max F.plain_max F.entry_max (Yu _) ?_;show wpAny (model X.prog X.w) X.A.in1 (Builtin.Builtins.bindParams "max" ["key","default"] 0 ⟨[],[]⟩>>=_) _ _ s;refine a0 (wpAny_of_eq (show Builtin.Builtins.bindParams "max" ["key","default"] 0 ⟨[],[]⟩=pure [none,none]from ?_) ?_)
 ·kernel_rfl
 refine a0 (bc ?_);refine a0 (wpAny_pyIter_list l.isList ?_);refine a0 (g6 ?_);rw[U];refine bc ⟨kA F.plain_max_loop _,?_⟩;have A:p<s.heap.objs.size:=l.lt;have W:=Walks.list (prog:=X.prog) (w:=X.w) (A:=X.A.in1) (I.ok.hd P) s.heap.objs.size p (ed A) m.toArray;have a:(s.heap.push {cls:=.type "list_iterator",data:=.fields #[.ref p,.int 0 0] }).objs.size=s.heap.objs.size+1:=by simp[Heap.push]
 refine V8 (S:=(s.heap.push {cls:=.type "list_iterator",data:=.fields #[.ref p,.int 0 0] }).objs.size) (bt:=λi j=>Zk (d.getD i .none) (d.getD j .none)) (Good:=λh=>∀b o,s.heap.get? b=some o->h.get? b=some o) W (λh L g f b o e=>f b o ?_ ?_ (g b o e)) (λi j vi vj s' g M N E C Z=>qf T I rv n Y B i j vi vj s' g M N E C Z) ?_ ⟨⟨_,bZ _ (cI _ rfl),rfl,rfl⟩,?_⟩ (λb o e=>bZ _ (bZ _ e)) (cI _ rfl) (by simp;omega) (λv L tk e f=>?_)
 ·exact λz=>ed (dg e) (by simpa using z)
 ·rw[a];exact ed (Nat.lt_succ_of_lt (dg e))
 ·rw[a];intro z;have c:s.heap.objs.size+1=s.heap.objs.size\/s.heap.objs.size+1=p:=by simpa using z
  rcases c with c|c
  ·exact Nat.succ_ne_self _ c
  ·exact Nat.lt_irrefl _ (Nat.lt_trans (Nat.lt_succ_self _) (c.symm▸A:s.heap.objs.size+1<s.heap.objs.size))
 ·obtain⟨o,R,r1⟩:=l.isList;exact⟨o,bZ _ (bZ _ R),r1⟩
 ·have D:m.toArray.size-1=d.length-1:=by
   simp;omega
  rw[D]at e;obtain⟨x,G,J⟩:=Ju rv (by simpa using e);refine⟨x,H,I.kept (t':=tk) (λb o z=>f b o ?_ ?_ (bZ _ (bZ _ z))),J,q x G⟩
  ·exact λy=>ed (dg z) (by simpa using y)
  ·rw[a];exact ed (Nat.lt_succ_of_lt (dg z))
end
section
variable {X:Cx}{pins:List (Addr×Obj)}{σ:St}{H:Hp}{s:mI}{k:Nat}
theorem Sn(I:Aj X pins σ H s):∀{b:List nX}{vs:List V}{a:List mK},aB H b vs->Ay vs a->b.length=a.length/\∀(m:Nat) (w:mK) (e:nX),a[m]?=some w->b[m]?=some e->Ji s.heap d w=PyData.eqv e d
 |[],vs,a,h,r=>by
  unfold aB at h;subst h;cases r;exact⟨rfl,λm w e z=>by simp at z⟩
 |e::b,vs,a,h,r=>by
  unfold aB at h;obtain⟨x,v,rfl,g,j⟩:=h;cases r with
  |cons o p=>
   obtain⟨u,q⟩:=Hr I g o;obtain⟨l,n⟩:=Sn I j p;refine⟨by rw[List.length_cons,List.length_cons,l],λm w i c f=>?_⟩;cases m with
   |zero=>
    rw[List.getElem?_cons_zero]at c f;cases c;cases f;exact Mr q (Ck e x g)
   |succ m=>
    rw[List.getElem?_cons_succ]at c f;exact n m w i c f
def ml(K:W.Frag):V->List V->Hp->VK->Prop:=λx c H Q=>∃(l:Addr) (b:List V) (y:V) (d:nX) (a:List nX) (j:Nat),x=.ref l/\c=[y]/\B6 K H l b/\Rp H d y/\aB H a b/\d.depth<=50/\(∃e,a[j]?=some e/\PyData.eqv e d=true)/\(∀m e,m<j->a[m]?=some e->PyData.eqv e d=false)/\Q (.int (j:Nat)) H
theorem Yx(N:Ba k X.A):yb X "list.index" (ml X.K):=by
 intro pins s σ H x vs v us Q I rx rv h;obtain⟨l,ys,y,d,i,j,rfl,rfl,M,P,b,o,⟨G,p,f⟩,S,q⟩:=h;cases rx;obtain⟨u,rfl,Z⟩:=rv.one;obtain⟨a,r,Y,hz⟩:=I.list M;obtain⟨⟨T,U,D,R⟩,n,e,K,hd,O⟩:=Y;obtain rfl:T=.type "list":=K;obtain rfl:D=.seq a.toArray n:=O;have w:=r.length;have hu:=N.units;obtain⟨vN,B⟩:=Sn (d:=d) I b r;have L:j<i.length:=(bG.mp p).1;have J:=Gp;refine call_meets F.slot_list_index ⟨_,e,rfl⟩ F.entry_list_index (F.args_list_index_2 _ _) (PySem.SeqAt.list_indexAt l a.toArray n U R u (Ji s.heap d) j (by rw[List.size_toArray];omega) ?_ ?_ ?_) ⟨e,λz E=>?_,?_⟩
 ·omega
 ·have C:j<a.length:=by omega
  have c:a.toArray[j]'(by rw[List.size_toArray];omega)=a[j]:=by simp
  rw[c,B j a[j] G (List.getElem?_eq_getElem C) p];exact f
 ·intro m A g;rw[List.size_toArray]at A;have c:a.toArray[m]'(by rw[List.size_toArray];omega)=a[m]:=by simp
  rw[c,B m a[m] i[m] (List.getElem?_eq_getElem A) (List.getElem?_eq_getElem (by omega))];exact S m _ g (dt (by omega))
 ·exact Mt I P Z (by show X.A.units+1+d.depth<cLine;omega) b r z (by simpa using E)
 ·exact⟨.int (j:Nat),H,I.tok _,⟨_,rfl⟩,q⟩
end
def Jf:Bool->Keyed->Array Keyed->Nat->Nat->Nat->StateT SortSt Sem (Option Nat):=sortPriv%PySem.Builtin.gallop
def cu:Array Keyed->Array Keyed->StateT SortSt Sem (Array Keyed):=sortPriv%PySem.Builtin.mergeLo
def cr:Array Keyed->Array Keyed->StateT SortSt Sem (Array Keyed):=sortPriv%PySem.Builtin.mergeHi
def fa(f:Keyed->Nat)(a:Array Keyed)(i:Nat):Nat:=match a[i]? with
 |some p=>f p
 |none=>0
theorem As{f:Keyed->Nat}{a:Array Keyed}{i:Nat}{p:Keyed}(h:a[i]?=some p):fa f a i=f p:=by unfold fa;rw[h]
theorem E9{f:Keyed->Nat}{a b:Array Keyed}{i j:Nat}(h:a[i]?=b[j]?):fa f a i=fa f b j:=by unfold fa;rw[h]
def Iv(f:Keyed->Nat)(a:Array Keyed)(lo hi:Nat):Prop:=∀i j,lo<=i->i<=j->j<hi->fa f a i<=fa f a j
section
variable {prog:m8}{w:nP}{A:nf}{E:mr}{s:mI}{κ:SortKind}{f:Keyed->Nat}{a₀:Array Keyed}{st:SortSt}
def Ie(prog:m8)(w:nP)(A:nf)(s:mI)(κ:SortKind)(f:Keyed->Nat)(a₀:Array Keyed):Prop:=∀x y,x∈a₀->y∈a₀->∀(Q:Bool->mI->Prop) (E:mr),Q (decide (f x<f y)) s->wpAny (model prog w) A (keyLt' κ x.1 y.1) Q E s
structure Bs(κ:SortKind)(a₀:Array Keyed)(st:SortSt):Prop where
 perm:(arrOf st).Perm a₀
 kind:kindOf st=κ
 failed:failedOf st=none
theorem Bs.size(h:Bs κ a₀ st):(arrOf st).size=a₀.size:=h.perm.size_eq
theorem Bs.mem(h:Bs κ a₀ st){i:Nat}{p:Keyed}(e:(arrOf st)[i]?=some p):p∈a₀:=h.perm.mem_iff.mp (Array.mem_of_getElem? e)
theorem Nv(a:Ie prog w A s κ f a₀)(b:kindOf st=κ){x y:Keyed}(c:x∈a₀)(d:y∈a₀){Q:Option Bool->SortSt->Prop}(h:Q (some (decide (f x<f y))) st):wpS (model prog w) A E s (lt' x y) Q st:=by
 rw[lt'_eq];refine wpS_bind (wpS_get ?_);rw[b];refine wpS_bind (wpS_lift (kQ (a x y c d _ _ ⟨rfl,?_⟩)));exact wpS_pure h
theorem B7{a:Array Keyed}{i:Nat}{p:Keyed}(e:a[i]?=some p){Q:Keyed->SortSt->Prop}(h:Q p st):wpS (model prog w) A E s (elem' a i) Q st:=by
 rw[elem'_eq,e];exact wpS_pure h
theorem Bp{a:Array Keyed}{i:Nat}(h:i<a.size):∃p,a[i]?=some p:=⟨a[i],getElem?_pos a i h⟩
theorem Hv(d:Ie prog w A s κ f a₀)(a:Bs κ a₀ st){i j:Nat}(hi:i<a₀.size)(e:j<a₀.size){Q:Option Bool->SortSt->Prop}(h:Q (some (decide (fa f (arrOf st) i<fa f (arrOf st) j))) st):wpS (model prog w) A E s (ltAt' i j) Q st:=by
 obtain⟨p,b⟩:=Bp (a:=arrOf st) (i:=i) (by rw[a.size];exact hi);obtain⟨q,c⟩:=Bp (a:=arrOf st) (i:=j) (by rw[a.size];exact e);rw[As b,As c]at h;rw[ltAt'_eq];refine wpS_bind (wpS_get ?_);exact wpS_bind (B7 b (wpS_bind (B7 c (Nv d a.kind (a.mem b) (a.mem c) h))))
theorem Vy(g:Ie prog w A s κ f a₀)(j:kindOf st=κ){left:Bool}{c:Keyed}{a:Array Keyed}{i:Nat}(e:c∈a₀)(m:∀p,p∈a->p∈a₀)(hi:i<a.size){Q:Option Bool->SortSt->Prop}
  (h:Q (some (if left=true then decide (fa f a i<f c)else !decide (f c<fa f a i))) st):wpS (model prog w) A E s (elem' a i>>=λx=>if left=true then lt' x c else lt' c x>>=λr=>pure (r.map λb=>!b)) Q st:=by
 obtain⟨p,d⟩:=Bp hi;rw[As d]at h;refine wpS_bind (B7 d ?_);have l:=m p (Array.mem_of_getElem? d);cases left with
 |true=>exact Nv g j l e h
 |false=>exact wpS_bind (Nv g j e l (wpS_pure h))
theorem Di(hA:Ie prog w A s κ f a₀)(hk:kindOf st=κ){left:Bool}{q:Keyed}{m:Array Keyed}{base n a:Nat}(gR:q∈a₀)(pM:∀p,p∈m->p∈a₀)(hn:base+n<=m.size)(X:a<n)(hs:Iv f m base (base+n)){Q:Option Nat->SortSt->Prop}
  (h:∀k,k<=n->(∀i,i<k->if left=true then fa f m (base+i)<f q else fa f m (base+i)<=f q)->(∀i,k<=i->i<n->if left=true then f q<=fa f m (base+i)else f q<fa f m (base+i))->Q (some k) st):wpS (model prog w) A E s (Jf left q m base n a) Q st:=by
 obtain⟨P,O⟩:∃P:Nat->Bool,∀i,P i=if left=true then decide (fa f m (base+i)<f q)else !decide (f q<fa f m (base+i)):=⟨_,λ_=>rfl⟩
 have mono:∀i j,i<=j->j<n->P j=true->P i=true:=λi j B v u=>by
  have C:=hs (base+i) (base+j) (by omega) (by omega) (by omega);rw[O]at u⊢;cases left<;>simp at u⊢<;>omega
 have R:∀i j,i<=j->j<n->P i=false->P j=false:=λi j B v u=>by
  cases e:P j with
  |false=>rfl
  |true=>rw[mono i j B v e]at u;cases u
 have I:∀i,i<n->∀{S:Option Bool->SortSt->Prop},S (some (P i)) st->wpS (model prog w) A E s (elem' m (base+i)>>=λx=>if left=true then lt' x q else lt' q x>>=λr=>pure (r.map λb=>!b)) S st:=λi d S Y=>by
  rw[O]at Y;exact Vy hA hk gR pM (by omega) Y
 have N:∀k,k<=n->(∀i,i<k->P i=true)->(∀i,k<=i->i<n->P i=false)->Q (some k) st:=λk B v u=>by
  refine h k B (λi d=>?_) (λi d K=>?_)
  ·have:=v i d;rw[O]at this;cases left<;>simp at this⊢<;>omega
  ·have:=u i d K;rw[O]at this;cases left<;>simp at this⊢<;>omega
 refine wpS_bind (I a X ?_);dsimp only;cases Z:P a with
 |true=>
  rw[if_pos rfl];refine wpS_bind (wpS_mono (wpS_forRange (I:=λx c y=>y=st/\∃l o,c=(none,l,o)/\l<o/\P (a+l)=true/\a+l<n/\x+1<=o) (Q:=λc y=>y=st/\∃l o,c=(none,l,o)/\l<o/\P (a+l)=true/\a+l<n/\(n-a<=o\/P (a+o)=false)) ?_ ?_ ⟨rfl,0,1,rfl,by omega,Z,X,by omega⟩) ?_)
  ·rintro x c y _ U ⟨rfl,l,o,rfl,B,v,u,C⟩;dsimp only;by_cases H:o>=n-a
   ·rw[if_pos H];exact wpS_pure ⟨rfl,l,o,rfl,B,v,u,.inl H⟩
   ·rw[if_neg H];refine wpS_bind (I (a+o) (by omega) ?_);dsimp only;cases e:P (a+o)with
    |false=>exact wpS_pure ⟨rfl,l,o,rfl,B,v,u,.inr e⟩
    |true=>exact wpS_pure ⟨rfl,o,2*o+1,rfl,by omega,e,by omega,by omega⟩
  ·rintro c y ⟨rfl,l,o,rfl,B,v,u,C⟩;exact⟨rfl,l,o,rfl,B,v,u,.inl (by omega)⟩
  rintro c y ⟨rfl,l,o,rfl,B,v,u,C⟩;dsimp only;refine wpS_bind (wpS_mono (wpS_forRange (I:=λx c D=>D=y/\∃g d,c=(none,g,d)/\g<=d/\d<=n/\(∀i,i<g->P i=true)/\(∀i,d<=i->i<n->P i=false)/\d+x<=g+n) (Q:=λc D=>D=y/\∃k,c=(none,k,k)/\k<=n/\(∀i,i<k->P i=true)/\(∀i,k<=i->i<n->P i=false)) ?_ ?_ ⟨rfl,_,_,rfl,by omega,by omega,λi d=>?_,λi d K=>?_,by omega⟩) ?_)
  ·rintro x c D _ U ⟨rfl,g,d,rfl,L,F,G,J,T⟩;dsimp only;by_cases H:g>=d
   ·rw[if_pos H];obtain rfl:g=d:=by omega
    exact wpS_pure ⟨rfl,g,rfl,F,G,J⟩
   ·rw[if_neg H];refine wpS_bind (I (g+(d-g)/2) (by omega) ?_);dsimp only;cases e:P (g+(d-g)/2)with
    |false=>
     refine wpS_pure ⟨rfl,g,_,rfl,by omega,by omega,G,λi M K=>R _ i M K e,by omega⟩
    |true=>
     refine wpS_pure ⟨rfl,_,d,rfl,by omega,F,λi M=>mono i _ (by omega) (by omega) e,J,by omega⟩
  ·rintro c D ⟨rfl,g,d,rfl,L,F,G,J,T⟩;obtain rfl:g=d:=by omega
   exact⟨rfl,g,rfl,F,G,J⟩
  ·exact mono i (a+l) (by omega) u v
  ·rcases C with C|C
   ·omega
   ·by_cases z:n-a<=o
    ·omega
    ·exact R (a+o) i (by omega) K C
  rintro c D ⟨rfl,k,rfl,L,F,G⟩;dsimp only;exact wpS_pure (N k L F G)
 |false=>
  rw[if_neg (by decide)];refine wpS_bind (wpS_mono (wpS_forRange (I:=λx c y=>y=st/\∃l o,c=(none,l,o)/\l<o/\P (a-l)=false/\l<=a/\x+1<=o) (Q:=λc y=>y=st/\∃l o,c=(none,l,o)/\l<o/\P (a-l)=false/\l<=a/\(a+1<=o\/P (a-o)=true)) ?_ ?_ ⟨rfl,0,1,rfl,by omega,Z,by omega,by omega⟩) ?_)
  ·rintro x c y _ U ⟨rfl,l,o,rfl,B,v,u,C⟩;dsimp only;by_cases H:o>=a+1
   ·rw[if_pos H];exact wpS_pure ⟨rfl,l,o,rfl,B,v,u,.inl H⟩
   ·rw[if_neg H];refine wpS_bind (I (a-o) (by omega) ?_);dsimp only;cases e:P (a-o)with
    |true=>exact wpS_pure ⟨rfl,l,o,rfl,B,v,u,.inr e⟩
    |false=>exact wpS_pure ⟨rfl,o,2*o+1,rfl,by omega,e,by omega,by omega⟩
  ·rintro c y ⟨rfl,l,o,rfl,B,v,u,C⟩;exact⟨rfl,l,o,rfl,B,v,u,.inl (by omega)⟩
  rintro c y ⟨rfl,l,o,rfl,B,v,u,C⟩;dsimp only;refine wpS_bind (wpS_mono (wpS_forRange (I:=λx c D=>D=y/\∃g d,c=(none,g,d)/\g<=d/\d<=n/\(∀i,i<g->P i=true)/\(∀i,d<=i->i<n->P i=false)/\d+x<=g+n) (Q:=λc D=>D=y/\∃k,c=(none,k,k)/\k<=n/\(∀i,i<k->P i=true)/\(∀i,k<=i->i<n->P i=false)) ?_ ?_ ⟨rfl,_,_,rfl,by omega,by omega,λi d=>?_,λi d K=>?_,by omega⟩) ?_)
  ·rintro x c D _ U ⟨rfl,g,d,rfl,L,F,G,J,T⟩;dsimp only;by_cases H:g>=d
   ·rw[if_pos H];obtain rfl:g=d:=by omega
    exact wpS_pure ⟨rfl,g,rfl,F,G,J⟩
   ·rw[if_neg H];refine wpS_bind (I (g+(d-g)/2) (by omega) ?_);dsimp only;cases e:P (g+(d-g)/2)with
    |false=>
     refine wpS_pure ⟨rfl,g,_,rfl,by omega,by omega,G,λi M K=>R _ i M K e,by omega⟩
    |true=>
     refine wpS_pure ⟨rfl,_,d,rfl,by omega,F,λi M=>mono i _ (by omega) (by omega) e,J,by omega⟩
  ·rintro c D ⟨rfl,g,d,rfl,L,F,G,J,T⟩;obtain rfl:g=d:=by omega
   exact⟨rfl,g,rfl,F,G,J⟩
  ·rcases C with C|C
   ·omega
   ·by_cases z:a+1<=o
    ·omega
    ·exact mono i (a-o) (by omega) (by omega) C
  ·exact R (a-l) i (by omega) K v
  rintro c D ⟨rfl,k,rfl,L,F,G⟩;dsimp only;exact wpS_pure (N k L F G)
end
section
variable {f:Keyed->Nat}
def Da(f:Keyed->Nat)(l:List Keyed):Prop:=l.Pairwise λp q=>f p<=f q
def Hy(f:Keyed->Nat)(l m:List Keyed):Prop:=∀p∈l,∀q∈m,f p<=f q
theorem Hq{l m:List Keyed}(h1:Da f l)(a:Da f m)(b:Hy f l m):Da f (l++m):=List.pairwise_append.mpr ⟨h1,a,b⟩
theorem Ha{l:List Keyed}(h:Da f l)(n:Nat):Da f (l.drop n):=h.sublist (List.drop_sublist n l)
theorem Hb{l:List Keyed}(h:Da f l)(n:Nat):Da f (l.take n):=h.sublist (List.take_sublist n l)
theorem Nb{l:List Keyed}(h:Da f l){i j:Nat}{p q:Keyed}(hi:l[i]?=some p)(e:l[j]?=some q)(g:i<=j):f p<=f q:=by
 obtain⟨c,b⟩:=bG.mp hi;obtain⟨d,a⟩:=bG.mp e;rcases il i j with z|z
 ·have:=List.pairwise_iff_getElem.mp h i j c d z;rw[b,a]at this;exact this
 ·obtain rfl:i=j:=by omega
  rw[b]at a;rw[a];exact da _
theorem En{l:List Keyed}{i:Nat}{p:Keyed}(h:p∈l.drop i):∃j,l[i+j]?=some p:=by
 obtain⟨j,a⟩:=gy.mp h;rw[List.getElem?_drop]at a;exact⟨j,a⟩
theorem Ee{l:List Keyed}{i k:Nat}{p:Keyed}(h:p∈(l.drop i).take k):∃j,j<k/\l[i+j]?=some p:=by
 obtain⟨j,a⟩:=gy.mp h
 have b:j<k:=by
  have:=(bG.mp a).1;rw[List.length_take]at this;omega
 rw[List.getElem?_take_of_lt b,List.getElem?_drop]at a;exact⟨j,b,a⟩
def MI(f:Keyed->Nat)(x y:List Keyed)(i j:Nat)(o:List Keyed):Prop:=o.Perm (x.take i++y.take j)/\Da f o/\Hy f o (x.drop i++y.drop j)
theorem Pk(l:List Keyed)(i k:Nat):l.take (i+k)=l.take i++(l.drop i).take k:=by rw[List.take_add]
theorem Ik(l:List Keyed)(i k:Nat):l.drop i=(l.drop i).take k++l.drop (i+k):=by
 have:=(List.take_append_drop k (l.drop i)).symm;rw[List.drop_drop]at this;exact this
theorem MI.lA{x y o:List Keyed}{i j k:Nat}(h:MI f x y i j o)(m:Da f x)(d:Hy f ((x.drop i).take k) (y.drop j)):MI f x y (i+k) j (o++(x.drop i).take k):=by
 obtain⟨n,r,c⟩:=h;have g:=Ik x i k;refine⟨?_,?_,?_⟩
 ·rw[Pk];refine(n.append_right _).trans ?_;rw[List.append_assoc,List.append_assoc];exact List.Perm.append_left _ List.perm_append_comm
 ·refine Hq r (Hb (Ha m i) k) λp e q b=>c p e q (gv _ (List.mem_of_mem_take b))
 ·intro p e q b;rcases fe.mp e with z|z
  ·rcases fe.mp b with a|a
   ·refine c p z q (gv _ ?_);rw[g];exact gd _ a
   ·exact c p z q (gd _ a)
  ·rcases fe.mp b with a|a
   ·have l:=Ha m i;rw[g]at l;exact(List.pairwise_append.mp l).2.2 p z q a
   ·exact d p z q a
theorem MI.swap{x y o:List Keyed}{i j:Nat}(h:MI f x y i j o):MI f y x j i o:=⟨h.1.trans List.perm_append_comm,h.2.1,λp a q b=>h.2.2 p a q (List.perm_append_comm.mem_iff.mp b)⟩
theorem MI.JR{x y o:List Keyed}{i j k:Nat}(h:MI f x y i j o)(b:Da f y)(a:Hy f ((y.drop j).take k) (x.drop i)):MI f x y i (j+k) (o++(y.drop j).take k):=(h.swap.lA b a).swap
def Co(f:Keyed->Nat)(x y r:List Keyed):Prop:=r.Perm (x++y)/\Da f r
theorem MI.done{x y o:List Keyed}{i j:Nat}(h:MI f x y i j o)(g:Da f x)(l:Da f y)(a:Hy f (x.drop i) (y.drop j)):Co f x y (o++x.drop i++y.drop j):=by
 obtain⟨b,c,d⟩:=h;refine⟨?_,?_⟩
 ·rw[List.append_assoc];refine(b.append_right _).trans ?_;have e:x++y=(x.take i++x.drop i)++(y.take j++y.drop j):=by rw[List.take_append_drop,List.take_append_drop]
  rw[e,List.append_assoc,List.append_assoc];refine List.Perm.append_left _ ?_;rw[<- List.append_assoc,<- List.append_assoc];exact List.Perm.append_right _ List.perm_append_comm
 ·rw[List.append_assoc];exact Hq c (Hq (Ha g i) (Ha l j) a) d
theorem MI.qT{x y o:List Keyed}{i j:Nat}(h:MI f x y i j o)(d:Da f x)(e:Da f y)(a:Hy f (y.drop j) (x.drop i)):Co f x y (o++y.drop j++x.drop i):=by
 obtain⟨b,c⟩:=h.swap.done e d a;exact⟨b.trans List.perm_append_comm,c⟩
theorem Qr{l:List Keyed}{i:Nat}{p:Keyed}(h:l[i]?=some p):(l.drop i).take 1=[p]:=by
 obtain⟨a,e⟩:=bG.mp h;rw[List.drop_eq_getElem_cons a,e];rfl
theorem MI.xY{x y o:List Keyed}{i j:Nat}{p q:Keyed}(h:MI f x y i j o)(n:Da f x)(r:Da f y)(e:x[i]?=some p)(m:y[j]?=some q)(c:f p<=f q):MI f x y (i+1) j (o++[p]):=by
 rw[<- Qr e];refine h.lA n λa d b g=>?_;rw[Qr e]at d;cases iv.mp d;obtain⟨k,l⟩:=En g;exact dI c (Nb r m l (by omega))
theorem MI.JS{x y o:List Keyed}{i j:Nat}{p q:Keyed}(h:MI f x y i j o)(d:Da f x)(e:Da f y)(b:x[i]?=some p)(c:y[j]?=some q)(a:f q<=f p):MI f x y i (j+1) (o++[q]):=(h.swap.xY e d c b a).swap
end
section
variable {f:Keyed->Nat}{a b o:Array Keyed}{i j k:Nat}
theorem Lh(a:Array Keyed)(i:Nat):(a.extract i).toList=a.toList.drop i:=by
 rw[Array.toList_extract];show(a.toList.drop i).take (a.size-i)=_;rw[List.take_of_length_le (by rw[List.length_drop,Array.length_toList];omega)]
theorem Hk(a:Array Keyed)(i k:Nat):(a.extract i (i+k)).toList=(a.toList.drop i).take k:=by
 simp[List.extract]
theorem Qh(a:Array Keyed)(k:Nat):(a.extract 0 k).toList=a.toList.take k:=by simp
theorem MI.aW(h:MI f a.toList b.toList i j o.toList)(g:Da f a.toList)(l:Da f b.toList)(e:j=b.size\/i=a.size):Co f a.toList b.toList (o++a.extract i++b.extract j).toList:=by
 rw[Array.toList_append,Array.toList_append,Lh,Lh];refine h.done g l ?_;rcases e with e|e
 ·rw[List.drop_of_length_le (l:=b.toList) (by rw[Array.length_toList];omega)];intro p _ q d;cases d
 ·rw[List.drop_of_length_le (l:=a.toList) (by rw[Array.length_toList];omega)];intro p c;cases c
theorem MI.gW(h:MI f a.toList b.toList i j o.toList)(s:Da f a.toList)(u:Da f b.toList)(e:i+1=a.size)(l:∀q∈b.toList,f q<=fa f a i):Co f a.toList b.toList (o++b.extract j++a.extract i).toList:=by
 rw[Array.toList_append,Array.toList_append,Lh,Lh];refine h.qT s u λp n q r=>?_;obtain⟨m,c⟩:=En r;have g:=(bG.mp c).1;rw[Array.length_toList]at g;obtain rfl:m=0:=by omega
 have d:=l p (List.mem_of_mem_drop n);rw[Nat.add_zero,Array.getElem?_toList]at c;rw[As c]at d;exact d
theorem MI.iA(h:MI f a.toList b.toList i j o.toList)(l:Da f a.toList)(m:Da f b.toList){p:Keyed}(g:a[i]?=some p)(e:j<b.size)(c:f p<=fa f b j):MI f a.toList b.toList (i+1) j (o.push p).toList:=by
 obtain⟨q,d⟩:=Bp e;rw[As d]at c;rw[Array.toList_push];exact h.xY l m (by rw[Array.getElem?_toList];exact g) (by rw[Array.getElem?_toList];exact d) c
theorem MI.jF(h:MI f a.toList b.toList i j o.toList)(g:Da f a.toList)(l:Da f b.toList){q:Keyed}(e:b[j]?=some q)(hi:i<a.size)(c:f q<=fa f a i):MI f a.toList b.toList i (j+1) (o.push q).toList:=by
 obtain⟨p,d⟩:=Bp hi;rw[As d]at c;rw[Array.toList_push];exact h.JS g l (by rw[Array.getElem?_toList];exact d) (by rw[Array.getElem?_toList];exact e) c
theorem MI.qU(h:MI f a.toList b.toList i j o.toList)(r:Da f a.toList)(s:Da f b.toList){q:Keyed}(p:b[j]?=some q)(c:∀m,m<k->fa f a (i+m)<=f q):MI f a.toList b.toList (i+k) j (o++a.extract i (i+k)).toList:=by
 rw[Array.toList_append,Hk];refine h.lA r λx g y u=>?_;obtain⟨m,n,e⟩:=Ee g;obtain⟨v,l⟩:=En u;have d:=c m n;rw[Array.getElem?_toList]at e;rw[As e]at d;exact dI d (Nb s (by rw[Array.getElem?_toList];exact p) l (by omega))
theorem MI.CD(h:MI f a.toList b.toList i j o.toList)(r:Da f a.toList)(s:Da f b.toList){p:Keyed}(q:a[i]?=some p)(c:∀m,m<k->fa f b (j+m)<=f p):MI f a.toList b.toList i (j+k) (o++b.extract j (j+k)).toList:=by
 rw[Array.toList_append,Hk];refine h.JR s λx g y u=>?_;obtain⟨m,n,e⟩:=Ee g;obtain⟨v,l⟩:=En u;have d:=c m n;rw[Array.getElem?_toList]at e;rw[As e]at d;exact dI d (Nb r (by rw[Array.getElem?_toList];exact q) l (by omega))
theorem Ll(h:Da f a.toList){lo hi:Nat}(m:hi<=a.size):Iv f a lo hi:=λi j g e l=>by
 obtain⟨p,c⟩:=Bp (a:=a) (i:=i) (by omega);obtain⟨q,d⟩:=Bp (a:=a) (i:=j) (by omega);rw[As c,As d];exact Nb h (by rw[Array.getElem?_toList];exact c) (by rw[Array.getElem?_toList];exact d) e
theorem Ev{m n:Nat}(h:m=n):(m==n)=true:=by simp[h]
theorem Eu{m n:Nat}(h:¬m=n):¬(m==n)=true:=by simp[h]
end
section
variable {prog:m8}{w:nP}{A:nf}{E:mr}{s:mI}{κ:SortKind}{f:Keyed->Nat}{a₀:Array Keyed}{st:SortSt}
def Gs(st a:SortSt):Prop:=∃g,a=SortSt.mk' (kindOf st) (arrOf st) (pendingOf st) g (failedOf st)
theorem Gs.refl:Gs st st:=⟨gallopOf st,rfl⟩
theorem jf{a b:Type}{M:Model}{c:Prop}[Decidable c]{Q:b->a->Prop}{st:a}{g:Nat->StateT a Sem b}{X Y:StateT a Sem b}(y x:Nat)(d:Y=g y)(ex:X=g x)(h:∀z,wpS M A E s (g z) Q st):wpS M A E s (if c then X else Y) Q st:=by
 subst d ex;split
 ·exact h x
 ·exact h y
theorem Lo{a b:Type}{M:Model}{c:Prop}[Decidable c]{Q:b->a->Prop}{st:a}{g:Array Keyed->Nat->StateT a Sem b}{X Y:StateT a Sem b}(P:Array Keyed->Nat->Prop)(o:Array Keyed)(i:Nat)(d:Y=g o i)(j:¬c->P o i)(e:c->(∀o i,P o i->wpS M A E s (g o i) Q st)->wpS M A E s X Q st)(h:∀o i,P o i->wpS M A E s (g o i) Q st):wpS M A E s (if c then X else Y) Q st:=by
 subst d;split
 ·rename_i z;exact e z h
 ·rename_i z;exact h o i (j z)
theorem Tz(hA:Ie prog w A s κ f a₀)(hk:kindOf st=κ){a b:Array Keyed}(ha:∀p,p∈a->p∈a₀)(hb:∀p,p∈b->p∈a₀)(C:Da f a.toList)(D:Da f b.toList)(ha0:0<a.size)(HJ:0<b.size)
  (cZ:fa f b 0<=fa f a 0)(jG:∀q∈b.toList,f q<=fa f a (a.size-1)){Q:Array Keyed->SortSt->Prop}(h:∀r B,Gs st B->Co f a.toList b.toList r.toList->Q r B):wpS (model prog w) A E s (cu a b) Q st:=by
 have last:∀i,i+1=a.size->∀q∈b.toList,f q<=fa f a i:=λi hi q N=>by
  have:=jG q N;rwa[show a.size-1=i by omega]at this
 have cK:∀g,kindOf (SortSt.mk' (kindOf st) (arrOf st) (pendingOf st) g (failedOf st))=κ:=λg=>hk;obtain⟨q0,HK⟩:=Bp HJ;refine wpS_bind (wpS_lift (kb ⟨rfl,?_⟩));refine wpS_bind (B7 HK ?_);have M0:MI f a.toList b.toList 0 0 (#[]:Array Keyed).toList:=⟨by simp,List.Pairwise.nil,λp H=>by cases H⟩;have M1:=M0.jF C D HK ha0 (by rw[As HK]at cZ;exact cZ);rw[show(#[]:Array Keyed).push q0=#[q0]from rfl]at M1;dsimp-zeta only;by_cases e1:0+1=b.size
 ·rw[if_pos (Ev e1)];exact wpS_pure (h _ _ Gs.refl (M1.aW C D (.inl e1)))
 rw[if_neg (Eu e1)];by_cases Z:0+1=a.size
 ·rw[if_pos (Ev Z)];exact wpS_pure (h _ _ Gs.refl (M1.gW C D Z (last 0 Z)))
 rw[if_neg (Eu Z)];refine wpS_bind (wpS_get ?_)
 refine wpS_bind (wpS_mono (wpS_forRange (I:=λx c B=>Gs st B/\∃o d l g,c=(none,o,d,l,g)/\MI f a.toList b.toList d l o.toList/\d+1<a.size/\l<b.size/\x+1<=d+l)
  (Q:=λc B=>Gs st B/\∃r z,c=(some r,z)/\Co f a.toList b.toList r.toList) ?_ ?_ ⟨Gs.refl,_,_,_,_,rfl,M1,by omega,by omega,by omega⟩) ?_)
 ·rintro x c bB _ cN ⟨I,o,d,l,g,rfl,M,u,n,L⟩;dsimp-zeta only
  refine wpS_bind (wpS_mono (wpS_forRange (I:=λy c B=>Gs st B/\∃o d l F G,c=(none,o,d,l,F,G)/\MI f a.toList b.toList d l o.toList/\d+1<a.size/\l<b.size/\x+1+y<=d+l)
   (Q:=λc B=>Gs st B/\((∃r z,c=(some r,z)/\Co f a.toList b.toList r.toList)\/∃o d l F G,c=(none,o,d,l,F,G)/\MI f a.toList b.toList d l o.toList/\d+1<a.size/\l<b.size/\x+2<=d+l)) ?_ ?_ ⟨I,_,_,_,_,_,rfl,M,u,n,by omega⟩) ?_)
  ·clear M u n L I;rintro y c bB _ jC ⟨I,o,d,l,F,G,rfl,M,u,n,L⟩;obtain⟨gx,rfl⟩:=I;obtain⟨q,N⟩:=Bp n;obtain⟨p,H⟩:=Bp (a:=a) (i:=d) (by omega);dsimp-zeta only;refine wpS_bind (B7 N (wpS_bind (B7 H (wpS_bind (Nv hA (cK gx) (hb q (Array.mem_of_getElem? N)) (ha p (Array.mem_of_getElem? H)) ?_)))));dsimp-zeta only;by_cases z:f q<f p
   ·rw[if_pos (decide_eq_true z)];have M2:=M.jF C D N (by omega) (by rw[As H];omega);refine wpS_bind (B7 N ?_);by_cases e:l+1=b.size
    ·rw[if_pos (Ev e)];exact wpS_pure ⟨⟨_,rfl⟩,.inl ⟨_,_,rfl,M2.aW C D (.inl e)⟩⟩
    rw[if_neg (Eu e)];split
    ·exact wpS_pure ⟨⟨_,rfl⟩,.inr ⟨_,_,_,_,_,rfl,M2,u,by omega,by omega⟩⟩
    ·exact wpS_pure ⟨⟨_,rfl⟩,_,_,_,_,_,rfl,M2,u,by omega,by omega⟩
   ·rw[if_neg (by rw[decide_eq_true_eq];exact z)];have M2:=M.iA C D H n (by rw[As N];omega);refine wpS_bind (B7 H ?_);by_cases e:d+1+1=a.size
    ·rw[if_pos (Ev e)];exact wpS_pure ⟨⟨_,rfl⟩,.inl ⟨_,_,rfl,M2.gW C D e (last _ e)⟩⟩
    rw[if_neg (Eu e)];split
    ·exact wpS_pure ⟨⟨_,rfl⟩,.inr ⟨_,_,_,_,_,rfl,M2,by omega,n,by omega⟩⟩
    ·exact wpS_pure ⟨⟨_,rfl⟩,_,_,_,_,_,rfl,M2,by omega,n,by omega⟩
  ·rintro c B ⟨I,o,d,l,F,G,rfl,M,u,n,L⟩;exact⟨I,.inr ⟨o,d,l,F,G,rfl,M,u,n,by omega⟩⟩
  clear M u n L I;rintro c aO ⟨P,⟨r,z,rfl,J⟩|⟨o,d,l,F,G,rfl,M,u,n,L⟩⟩
  ·dsimp-zeta only;exact wpS_pure ⟨P,r,_,rfl,J⟩
  dsimp-zeta only;refine wpS_bind (wpS_lift (kb ⟨rfl,?_⟩))
  refine wpS_bind (wpS_mono (wpS_forRange (I:=λy c B=>Gs st B/\∃o d l v F G,c=(none,o,d,l,v,F,G)/\MI f a.toList b.toList d l o.toList/\d+1<a.size/\l<b.size/\x+2<=d+l)
   (Q:=λc B=>Gs st B/\((∃r z,c=(some r,z)/\Co f a.toList b.toList r.toList)\/∃o d l v F G,c=(none,o,d,l,v,F,G)/\MI f a.toList b.toList d l o.toList/\d+1<a.size/\l<b.size/\x+2<=d+l)) ?_ ?_ ⟨P,_,_,_,_,_,_,rfl,M,u,n,L⟩) ?_)
  ·clear M u n L P;rintro y c bB _ jC ⟨I,o,d,l,v,F,G,rfl,M,u,n,L⟩;obtain⟨gx,rfl⟩:=I;obtain⟨q,N⟩:=Bp n;dsimp-zeta only
   have ga:∀{R:Option Nat->SortSt->Prop}{v},(∀k,d+k<=a.size->(∀m,m<k->fa f a (d+m)<=f q)->(∀m,k<=m->d+m<a.size->f q<fa f a (d+m))->R (some k) (SortSt.mk' (kindOf st) (arrOf st) (pendingOf st) v (failedOf st)))->
     wpS (model prog w) A E s (Jf false q a d (a.size-d) 0) R (SortSt.mk' (kindOf st) (arrOf st) (pendingOf st) v (failedOf st)):=λ{R}{v} vY=>by
    refine Di hA (cK v) (hb q (Array.mem_of_getElem? N)) ha (by omega) (by omega) (Ll C (by omega)) λk g1 U S=>vY k (by omega) (λm hm=>?_) (λm lB kL=>?_)
    ·have:=U m hm;simpa using this
    ·have:=S m lB (by omega);simpa using this
   have gb:∀{R:Option Nat->SortSt->Prop}{v i j p},a[i]?=some p->j<b.size->(∀k,j+k<=b.size->(∀m,m<k->fa f b (j+m)<=f p)->(∀m,k<=m->j+m<b.size->f p<=fa f b (j+m))->R (some k) (SortSt.mk' (kindOf st) (arrOf st) (pendingOf st) v (failedOf st)))->
     wpS (model prog w) A E s (Jf true p b j (b.size-j) 0) R (SortSt.mk' (kindOf st) (arrOf st) (pendingOf st) v (failedOf st)):=λ{R}{v i j p} H hj vY=>by
    refine Di hA (cK v) (ha p (Array.mem_of_getElem? H)) hb (by omega) (by omega) (Ll D (by omega)) λk g1 U S=>vY k (by omega) (λm hm=>?_) (λm lB kL=>?_)
    ·have:=U m hm;simp at this;omega
    ·have:=S m lB (by omega);simpa using this
   dsimp only;apply jf v (v-1) (Eq.refl _) (Eq.refl _);intro v;refine wpS_bind (wpS_modify ?_);refine wpS_bind (B7 N (wpS_bind (ga λk g1 U S=>?_)));dsimp only;apply Lo (λo2 O=>MI f a.toList b.toList O l o2.toList/\O+1<a.size/\f q<fa f a O/\d<=O) o d (Eq.refl _) (λz=>⟨M,u,S 0 (by omega) (by omega),da _⟩)
   ·intro z K;have M2:=M.qU C D N U;by_cases e:d+k+1=a.size
    ·rw[if_pos (Ev e)];exact wpS_pure ⟨⟨_,rfl⟩,.inl ⟨_,_,rfl,M2.gW C D e (last _ e)⟩⟩
    rw[if_neg (Eu e)];by_cases e':d+k=a.size
    ·rw[if_pos (Ev e')];exact wpS_pure ⟨⟨_,rfl⟩,.inl ⟨_,_,rfl,M2.aW C D (.inr e')⟩⟩
    rw[if_neg (Eu e')];exact K _ _ ⟨M2,by omega,S k (da _) (by omega),by omega⟩
   rintro o2 O ⟨M2,qA,g3',hle⟩;clear g1 U S M u;refine wpS_bind (B7 N ?_);have T:=M2.jF C D N (by omega) (kG g3');generalize SN:l+1=XH at T⊢;generalize o2.push q=o3 at T⊢;by_cases e:XH=b.size
   ·rw[if_pos (Ev e)];exact wpS_pure ⟨⟨_,rfl⟩,.inl ⟨_,_,rfl,T.aW C D (.inl e)⟩⟩
   rw[if_neg (Eu e)];obtain⟨p,H⟩:=Bp (a:=a) (i:=O) (by omega);refine wpS_bind (B7 H (wpS_bind (gb H (by omega) λk2 c1 c2 c3=>?_)));dsimp only;apply Lo (λo3 X=>MI f a.toList b.toList O X o3.toList/\X<b.size/\f p<=fa f b X/\l<X) o3 XH (Eq.refl _) (λz=>⟨T,by omega,c3 0 (by omega) (by omega),by omega⟩)
   ·intro z K;have Y:=T.CD C D H c2;by_cases e4:XH+k2=b.size
    ·rw[if_pos (Ev e4)];exact wpS_pure ⟨⟨_,rfl⟩,.inl ⟨_,_,rfl,Y.aW C D (.inl e4)⟩⟩
    rw[if_neg (Eu e4)];exact K _ _ ⟨Y,by omega,c3 k2 (da _) (by omega),by omega⟩
   rintro o4 X ⟨Y,hj,c4,aK⟩;clear c1 c2 c3 T M2;refine wpS_bind (B7 H ?_);have M5:=Y.iA C D H hj c4;by_cases e5:O+1+1=a.size
   ·rw[if_pos (Ev e5)];exact wpS_pure ⟨⟨_,rfl⟩,.inl ⟨_,_,rfl,M5.gW C D e5 (last _ e5)⟩⟩
   rw[if_neg (Eu e5)];split
   ·exact wpS_pure ⟨⟨_,rfl⟩,.inr ⟨_,_,_,_,_,_,rfl,M5,by omega,hj,by omega⟩⟩
   ·exact wpS_pure ⟨⟨_,rfl⟩,_,_,_,_,_,_,rfl,M5,by omega,hj,by omega⟩
  ·rintro c B ⟨I,o,d,l,v,F,G,rfl,M,u,n,L⟩;exact⟨I,.inr ⟨o,d,l,v,F,G,rfl,M,u,n,L⟩⟩
  clear M u n L P;rintro c aO ⟨P,⟨r,z,rfl,J⟩|⟨o,d,l,v,F,G,rfl,M,u,n,L⟩⟩
  ·dsimp-zeta only;exact wpS_pure ⟨P,r,_,rfl,J⟩
  dsimp-zeta only;obtain⟨gx,rfl⟩:=P;refine wpS_bind (wpS_modify ?_);exact wpS_pure ⟨⟨_,rfl⟩,_,_,_,_,rfl,M,u,n,by omega⟩
 ·rintro c B ⟨I,o,d,l,g,rfl,M,u,n,L⟩;exfalso;omega
 rintro c B ⟨I,r,z,rfl,J⟩;dsimp-zeta only;exact wpS_pure (h _ _ I J)
end
section
variable {f:Keyed->Nat}
def MH(f:Keyed->Nat)(x y:List Keyed)(i j:Nat)(o:List Keyed):Prop:=o.reverse.Perm (x.drop i++y.drop j)/\Da f o.reverse/\Hy f (x.take i++y.take j) o.reverse
theorem MH.swap{x y o:List Keyed}{i j:Nat}(h:MH f x y i j o):MH f y x j i o:=⟨h.1.trans List.perm_append_comm,h.2.1,λp a=>h.2.2 p (List.perm_append_comm.mem_iff.mp a)⟩
theorem MH.lA{x y o:List Keyed}{i j k:Nat}(h:MH f x y (i+k) j o)(n:Da f x)(g:Hy f (y.take j) ((x.drop i).take k)):MH f x y i j (o++((x.drop i).take k).reverse):=by
 obtain⟨r,s,d⟩:=h;have u:=Ik x i k;have m:=Pk x i k;have e:(o++((x.drop i).take k).reverse).reverse=(x.drop i).take k++o.reverse:=by rw[List.reverse_append,List.reverse_reverse]
 have b:Da f (x.take (i+k)):=Hb n _;rw[m]at b;unfold MH;rw[e];refine⟨?_,?_,?_⟩
 ·refine(List.Perm.append_left _ r).trans ?_;rw[<- List.append_assoc,<- u]
 ·refine Hq (Hb (Ha n i) k) s λp l q c=>d p (gv _ ?_) q c;rw[m];exact gd _ l
 ·intro p l q c;rcases fe.mp l with z|z
  ·rcases fe.mp c with a|a
   ·exact(List.pairwise_append.mp b).2.2 p z q a
   ·refine d p (gv _ ?_) q a;rw[m];exact gv _ z
  ·rcases fe.mp c with a|a
   ·exact g p z q a
   ·exact d p (gd _ z) q a
theorem MH.done{x y o:List Keyed}{i j:Nat}(h:MH f x y i j o)(g:Da f x)(l:Da f y)(a:Hy f (x.take i) (y.take j)):Co f x y (x.take i++y.take j++o.reverse):=by
 obtain⟨b,c,d⟩:=h;refine⟨?_,Hq (Hq (Hb g i) (Hb l j) a) c d⟩;refine(List.Perm.append_left _ b).trans ?_;have e:x++y=(x.take i++x.drop i)++(y.take j++y.drop j):=by rw[List.take_append_drop,List.take_append_drop]
 rw[e,List.append_assoc,List.append_assoc];refine List.Perm.append_left _ ?_;rw[<- List.append_assoc,<- List.append_assoc];exact List.Perm.append_right _ List.perm_append_comm
theorem MH.qT{x y o:List Keyed}{i j:Nat}(h:MH f x y i j o)(d:Da f x)(e:Da f y)(a:Hy f (y.take j) (x.take i)):Co f x y (y.take j++x.take i++o.reverse):=by
 obtain⟨b,c⟩:=h.swap.done e d a;exact⟨b.trans List.perm_append_comm,c⟩
variable {a b o:Array Keyed}{i j k:Nat}
theorem Ky{l:List Keyed}{i:Nat}{p:Keyed}(h:p∈l.take i):∃m,m<i/\l[m]?=some p:=by
 have d:p∈(l.drop 0).take i:=h;obtain⟨m,e,c⟩:=Ee d;exact⟨m,e,by rw[Nat.zero_add]at c;exact c⟩
theorem MH.aW(h:MH f a.toList b.toList i j o.toList)(g:Da f a.toList)(l:Da f b.toList)(e:i=0\/j=0):Co f a.toList b.toList (a.extract 0 i++b.extract 0 j++o.reverse).toList:=by
 rw[Array.toList_append,Array.toList_append,Qh,Qh,Array.toList_reverse];refine h.done g l ?_;rcases e with e|e<;>subst e
 ·intro p c;simp at c
 ·intro p _ q d;simp at d
theorem MH.dD(h:MH f a.toList b.toList i j o.toList)(n:Da f a.toList)(r:Da f b.toList)(e:j=1)(d:∀p∈a.toList,fa f b 0<=f p):Co f a.toList b.toList (b.extract 0 j++a.extract 0 i++o.reverse).toList:=by
 rw[Array.toList_append,Array.toList_append,Qh,Qh,Array.toList_reverse];refine h.qT n r λp g q l=>?_;obtain⟨m,s,c⟩:=Ky g;obtain rfl:m=0:=by omega
 rw[Array.getElem?_toList]at c;have:=d q (List.mem_of_mem_take l);rw[As c]at this;exact this
theorem MH.qU(h:MH f a.toList b.toList i j o.toList)(q:Da f a.toList)(v:Da f b.toList){m:Nat}(s:m<=i)(c:∀n,m<=n->n<i->∀l,l<j->fa f b l<=fa f a n):MH f a.toList b.toList m j (o++(a.extract m i).reverse).toList:=by
 obtain⟨k,rfl⟩:∃k,i=m+k:=⟨i-m,by omega⟩;rw[Array.toList_append,Array.toList_reverse,Hk];refine h.lA q λx g y r=>?_;obtain⟨l,p,e⟩:=Ky g;obtain⟨n,u,d⟩:=Ee r;rw[Array.getElem?_toList]at e d;have:=c (m+n) (by omega) (by omega) l p;rw[As e,As d]at this;exact this
theorem MH.CD(h:MH f a.toList b.toList i j o.toList)(e:Da f a.toList)(g:Da f b.toList){m:Nat}(d:m<=j)(c:∀n,m<=n->n<j->∀l,l<i->fa f a l<=fa f b n):MH f a.toList b.toList i m (o++(b.extract m j).reverse).toList:=(h.swap.qU g e d c).swap
theorem ki{a:Array Keyed}{i:Nat}{p:Keyed}(c:a[i]?=some p):(a.extract i (i+1)).toList=[p]:=by
 rw[Hk];exact Qr (by rw[Array.getElem?_toList];exact c)
theorem MH.iA(h:MH f a.toList b.toList (i+1) j o.toList)(g:Da f a.toList)(m:Da f b.toList){p:Keyed}(d:a[i]?=some p)(c:∀l,l<j->fa f b l<=f p):MH f a.toList b.toList i j (o.push p).toList:=by
 have:=h.qU g m (m:=i) (by omega) λn q r l e=>by
  obtain rfl:n=i:=by omega
  rw[As d];exact c l e
 rw[Array.toList_append,Array.toList_reverse,ki d]at this;rw[Array.toList_push];exact this
theorem MH.jF(h:MH f a.toList b.toList i (j+1) o.toList)(e:Da f a.toList)(g:Da f b.toList){q:Keyed}(d:b[j]?=some q)(c:∀l,l<i->fa f a l<=f q):MH f a.toList b.toList i j (o.push q).toList:=(h.swap.iA g e d c).swap
end
section
variable {prog:m8}{w:nP}{A:nf}{E:mr}{s:mI}{κ:SortKind}{f:Keyed->Nat}{a₀:Array Keyed}{st:SortSt}
theorem Ty(hA:Ie prog w A s κ f a₀)(hk:kindOf st=κ){a b:Array Keyed}(ha:∀p,p∈a->p∈a₀)(hb:∀p,p∈b->p∈a₀)(H:Da f a.toList)(I:Da f b.toList)(ha0:0<a.size)(HJ:0<b.size)
  (cZ:∀p∈a.toList,fa f b 0<=f p)(jG:∀j,j<b.size->fa f b j<=fa f a (a.size-1)){Q:Array Keyed->SortSt->Prop}(h:∀r C,Gs st C->Co f a.toList b.toList r.toList->Q r C):wpS (model prog w) A E s (cr a b) Q st:=by
 have cK:∀g,kindOf (SortSt.mk' (kindOf st) (arrOf st) (pendingOf st) g (failedOf st))=κ:=λg=>hk;have XI:∀{lo hi},hi<=a.size->Iv f a lo hi:=λh=>Ll H h;have iV:∀{lo hi},hi<=b.size->Iv f b lo hi:=λh=>Ll I h;obtain⟨p0,XJ⟩:=Bp (a:=a) (i:=a.size-1) (by omega);refine wpS_bind (wpS_lift (kb ⟨rfl,?_⟩));refine wpS_bind (B7 XJ ?_)
 have M0:MH f a.toList b.toList (a.size-1+1) b.size (#[]:Array Keyed).toList:=by
  refine⟨?_,List.Pairwise.nil,λp _ q P=>by cases P⟩;rw[List.drop_of_length_le (l:=a.toList) (by rw[Array.length_toList];omega),List.drop_of_length_le (l:=b.toList) (by rw[Array.length_toList];omega)];exact List.Perm.refl _
 have M1:=M0.iA H I XJ (λl U=>by have:=jG l U;rw[As XJ]at this;exact this);rw[show(#[]:Array Keyed).push p0=#[p0]from rfl]at M1;dsimp-zeta only;by_cases e1:a.size-1=0
 ·rw[if_pos (Ev e1)];exact wpS_pure (h _ _ Gs.refl (M1.aW H I (.inl e1)))
 rw[if_neg (Eu e1)];by_cases e2:b.size=1
 ·rw[if_pos (Ev e2)];exact wpS_pure (h _ _ Gs.refl (M1.dD H I e2 cZ))
 rw[if_neg (Eu e2)];refine wpS_bind (wpS_get ?_)
 refine wpS_bind (wpS_mono (wpS_forRange (I:=λx c C=>Gs st C/\∃o u d g,c=(none,u,d,o,g)/\MH f a.toList b.toList u d o.toList/\0<u/\u<=a.size/\1<d/\d<=b.size/\u+d+x+1<=a.size+b.size)
  (Q:=λc C=>Gs st C/\∃r z,c=(some r,z)/\Co f a.toList b.toList r.toList) ?_ ?_ ⟨Gs.refl,_,_,_,_,rfl,M1,by omega,by omega,by omega,by omega,by omega⟩) ?_)
 ·rintro x c bB _ cN ⟨O,o,u,d,g,rfl,M,B,D,F,G,R⟩;dsimp-zeta only
  refine wpS_bind (wpS_mono (wpS_forRange (I:=λy c C=>Gs st C/\∃o u d L N,c=(none,u,d,o,L,N)/\MH f a.toList b.toList u d o.toList/\0<u/\u<=a.size/\1<d/\d<=b.size/\u+d+x+1+y<=a.size+b.size)
   (Q:=λc C=>Gs st C/\((∃r z,c=(some r,z)/\Co f a.toList b.toList r.toList)\/∃o u d L N,c=(none,u,d,o,L,N)/\MH f a.toList b.toList u d o.toList/\0<u/\u<=a.size/\1<d/\d<=b.size/\u+d+x+2<=a.size+b.size)) ?_ ?_ ⟨O,_,_,_,_,_,rfl,M,B,D,F,G,by omega⟩) ?_)
  ·clear M B F R O D G;rintro y c bB _ jC ⟨O,o,u,d,L,N,rfl,M,B,D,F,G,R⟩;obtain⟨gx,rfl⟩:=O;obtain⟨q,P⟩:=Bp (a:=b) (i:=d-1) (by omega);obtain⟨p,S⟩:=Bp (a:=a) (i:=u-1) (by omega);dsimp-zeta only;refine wpS_bind (B7 P (wpS_bind (B7 S (wpS_bind (Nv hA (cK gx) (hb q (Array.mem_of_getElem? P)) (ha p (Array.mem_of_getElem? S)) ?_)))));dsimp-zeta only;by_cases z:f q<f p
   ·rw[if_pos (decide_eq_true z)];have M2:=MH.iA (i:=u-1) (by rw[show u-1+1=u by omega];exact M) H I S (λl U=>by have:=iV (lo:=0) (hi:=b.size) (da _) l (d-1) (by omega) (by omega) (by omega);rw[As P]at this;omega);refine wpS_bind (B7 S ?_);by_cases e:u-1=0
    ·rw[if_pos (Ev e)];exact wpS_pure ⟨⟨_,rfl⟩,.inl ⟨_,_,rfl,M2.aW H I (.inl e)⟩⟩
    rw[if_neg (Eu e)];split
    ·exact wpS_pure ⟨⟨_,rfl⟩,.inr ⟨_,_,_,_,_,rfl,M2,by omega,by omega,F,G,by omega⟩⟩
    ·exact wpS_pure ⟨⟨_,rfl⟩,_,_,_,_,_,rfl,M2,by omega,by omega,F,G,by omega⟩
   ·rw[if_neg (by rw[decide_eq_true_eq];exact z)];have M2:=MH.jF (j:=d-1) (by rw[show d-1+1=d by omega];exact M) H I P (λl U=>by have:=XI (lo:=0) (hi:=a.size) (da _) l (u-1) (by omega) (by omega) (by omega);rw[As S]at this;omega);refine wpS_bind (B7 P ?_);by_cases e:d-1=1
    ·rw[if_pos (Ev e)];exact wpS_pure ⟨⟨_,rfl⟩,.inl ⟨_,_,rfl,M2.dD H I e cZ⟩⟩
    rw[if_neg (Eu e)];split
    ·exact wpS_pure ⟨⟨_,rfl⟩,.inr ⟨_,_,_,_,_,rfl,M2,B,D,by omega,by omega,by omega⟩⟩
    ·exact wpS_pure ⟨⟨_,rfl⟩,_,_,_,_,_,rfl,M2,B,D,by omega,by omega,by omega⟩
  ·rintro c C ⟨O,o,u,d,L,N,rfl,M,B,D,F,G,R⟩;exact⟨O,.inr ⟨o,u,d,L,N,rfl,M,B,D,F,G,by omega⟩⟩
  clear M B F R O D G;rintro c aO ⟨X,⟨r,z,rfl,J⟩|⟨o,u,d,L,N,rfl,M,B,D,F,G,R⟩⟩
  ·dsimp-zeta only;exact wpS_pure ⟨X,r,_,rfl,J⟩
  dsimp-zeta only;refine wpS_bind (wpS_lift (kb ⟨rfl,?_⟩))
  refine wpS_bind (wpS_mono (wpS_forRange (I:=λy c C=>Gs st C/\∃o u d v L N,c=(none,u,d,o,v,L,N)/\MH f a.toList b.toList u d o.toList/\0<u/\u<=a.size/\1<d/\d<=b.size/\u+d+x+2<=a.size+b.size)
   (Q:=λc C=>Gs st C/\((∃r z,c=(some r,z)/\Co f a.toList b.toList r.toList)\/∃o u d v L N,c=(none,u,d,o,v,L,N)/\MH f a.toList b.toList u d o.toList/\0<u/\u<=a.size/\1<d/\d<=b.size/\u+d+x+2<=a.size+b.size)) ?_ ?_ ⟨X,_,_,_,_,_,_,rfl,M,B,D,F,G,R⟩) ?_)
  ·clear M B F R X D G;rintro y c bB _ jC ⟨O,o,u,d,v,L,N,rfl,M,B,D,F,G,R⟩;obtain⟨gx,rfl⟩:=O;obtain⟨q,P⟩:=Bp (a:=b) (i:=d-1) (by omega);dsimp-zeta only
   have ga:∀{Y:Option Nat->SortSt->Prop}{v},(∀k,k<=u->(∀m,m<k->fa f a m<=f q)->(∀m,k<=m->m<u->f q<=fa f a m)->Y (some k) (SortSt.mk' (kindOf st) (arrOf st) (pendingOf st) v (failedOf st)))->
     wpS (model prog w) A E s (Jf false q a 0 u (u-1)) Y (SortSt.mk' (kindOf st) (arrOf st) (pendingOf st) v (failedOf st)):=λ{Y}{v} vY=>by
    refine Di hA (cK v) (hb q (Array.mem_of_getElem? P)) ha (by omega) (by omega) (XI (by omega)) λk g1 Z g3=>vY k (by omega) (λm hm=>?_) (λm lB kL=>?_)
    ·have:=Z m hm;simpa using this
    ·have:=g3 m lB (by omega);simp at this;omega
   have gb:∀{Y:Option Nat->SortSt->Prop}{v i j p},a[i]?=some p->0<j->j<=b.size->(∀k,k<=j->(∀m,m<k->fa f b m<=f p)->(∀m,k<=m->m<j->f p<=fa f b m)->Y (some k) (SortSt.mk' (kindOf st) (arrOf st) (pendingOf st) v (failedOf st)))->
     wpS (model prog w) A E s (Jf true p b 0 j (j-1)) Y (SortSt.mk' (kindOf st) (arrOf st) (pendingOf st) v (failedOf st)):=λ{Y}{v i j p} S hj UA vY=>by
    refine Di hA (cK v) (ha p (Array.mem_of_getElem? S)) hb (by omega) (by omega) (iV (by omega)) λk g1 Z g3=>vY k (by omega) (λm hm=>?_) (λm lB kL=>?_)
    ·have:=Z m hm;simp at this;omega
    ·have:=g3 m lB (by omega);simpa using this
   dsimp only;apply jf v (v-1) (Eq.refl _) (Eq.refl _);intro v;refine wpS_bind (wpS_modify ?_);refine wpS_bind (B7 P (wpS_bind (ga λk g1 Z g3=>?_)));dsimp only
   have xZ:∀l,l<d->fa f b l<=f q:=λl U=>by
    have:=iV (lo:=0) (hi:=b.size) (da _) l (d-1) (by omega) (by omega) (by omega);rw[As P]at this;exact this
   generalize hac:u-k=ac2;apply Lo (λo2 T=>MH f a.toList b.toList T d o2.toList/\0<T/\T<=u/\∀l,l<T->fa f a l<=f q) o u (Eq.refl _) (λz=>⟨M,B,da _,λl U=>Z l (by omega)⟩)
   ·intro z K;have M2:=M.qU H I g1 (λn mL HL l U=>dI (xZ l U) (g3 n mL HL));by_cases e:k=0
    ·rw[if_pos (Ev e)];exact wpS_pure ⟨⟨_,rfl⟩,.inl ⟨_,_,rfl,M2.aW H I (.inl e)⟩⟩
    rw[if_neg (Eu e)];exact K _ _ ⟨M2,by omega,g1,Z⟩
   rintro o2 T ⟨M2,HL,hn2',WW⟩;clear Z g3 M xZ;refine wpS_bind (B7 P ?_);have M3:=MH.jF (j:=d-1) (by rw[show d-1+1=d by omega];exact M2) H I P WW;generalize hnb:d-1=UC at M3 P⊢;generalize o2.push q=o3 at M3⊢;by_cases e':UC=1
   ·rw[if_pos (Ev e')];exact wpS_pure ⟨⟨_,rfl⟩,.inl ⟨_,_,rfl,M3.dD H I e' cZ⟩⟩
   rw[if_neg (Eu e')];obtain⟨p,S⟩:=Bp (a:=a) (i:=T-1) (by omega);refine wpS_bind (B7 S (wpS_bind (gb S (by omega) (by omega) λk2 c1 c2 c3=>?_)));dsimp only;generalize hbc:UC-k2=bc2;apply Lo (λo4 j4=>MH f a.toList b.toList T j4 o4.toList/\1<j4/\j4<=UC/\∀l,l<j4->fa f b l<=f p) o3 UC (Eq.refl _) (λz=>⟨M3,by omega,da _,λl U=>c2 l (by omega)⟩)
   ·intro z K
    have M4:=M3.CD H I c1 (λn mL HL l U=>dI (by
     have:=XI (lo:=0) (hi:=a.size) (da _) l (T-1) (by omega) (by omega) (by omega);rw[As S]at this;exact this) (c3 n mL HL))
    by_cases e4:k2=1
    ·rw[if_pos (Ev e4)];exact wpS_pure ⟨⟨_,rfl⟩,.inl ⟨_,_,rfl,M4.dD H I e4 cZ⟩⟩
    rw[if_neg (Eu e4)];by_cases e5:k2=0
    ·rw[if_pos (Ev e5)];exact wpS_pure ⟨⟨_,rfl⟩,.inl ⟨_,_,rfl,M4.aW H I (.inr e5)⟩⟩
    rw[if_neg (Eu e5)];exact K _ _ ⟨M4,by omega,c1,c2⟩
   rintro o4 j4 ⟨M4,hj4,hj4',c2'⟩;clear c1 c2 c3 M3 M2;refine wpS_bind (B7 S ?_);have M5:=MH.iA (i:=T-1) (by rw[show T-1+1=T by omega];exact M4) H I S c2';by_cases e6:T-1=0
   ·rw[if_pos (Ev e6)];exact wpS_pure ⟨⟨_,rfl⟩,.inl ⟨_,_,rfl,M5.aW H I (.inl e6)⟩⟩
   rw[if_neg (Eu e6)];split
   ·exact wpS_pure ⟨⟨_,rfl⟩,.inr ⟨_,_,_,_,_,_,rfl,M5,by omega,by omega,hj4,by omega,by omega⟩⟩
   ·exact wpS_pure ⟨⟨_,rfl⟩,_,_,_,_,_,_,rfl,M5,by omega,by omega,hj4,by omega,by omega⟩
  ·rintro c C ⟨O,o,u,d,v,L,N,rfl,M,B,D,F,G,R⟩;exact⟨O,.inr ⟨o,u,d,v,L,N,rfl,M,B,D,F,G,R⟩⟩
  clear M B F R X D G;rintro c aO ⟨X,⟨r,z,rfl,J⟩|⟨o,u,d,v,L,N,rfl,M,B,D,F,G,R⟩⟩
  ·dsimp-zeta only;exact wpS_pure ⟨X,r,_,rfl,J⟩
  dsimp-zeta only;obtain⟨gx,rfl⟩:=X;refine wpS_bind (wpS_modify ?_);exact wpS_pure ⟨⟨_,rfl⟩,_,_,_,_,rfl,M,B,D,F,G,by omega⟩
 ·rintro c C ⟨O,o,u,d,g,rfl,M,B,D,F,G,R⟩;exfalso;omega
 rintro c C ⟨O,r,z,rfl,J⟩;dsimp-zeta only;exact wpS_pure (h _ _ O J)
end
section
variable {f:Keyed->Nat}
theorem Fa{xs:Array Keyed}{i j:Nat}(a:j<=xs.size)(k:Nat):fa f (mirror xs i j ((j-i)/2)) k=if i<=k/\k<j then fa f xs (i+j-1-k)else fa f xs k:=by
 have e:=getElem?_mirror_all (i:=i) a k;by_cases h:i<=k/\k<j
 ·rw[if_pos h]at e⊢;exact E9 e
 ·rw[if_neg h]at e⊢;exact E9 e
theorem Jd{xs:Array Keyed}{i j:Nat}(a:j<=xs.size)(h:∀k l,i<=k->k<j->i<=l->l<j->fa f xs k=fa f xs l)(k:Nat):fa f (mirror xs i j ((j-i)/2)) k=fa f xs k:=by
 rw[Fa a];split
 ·exact h _ _ (by omega) (by omega) (by omega) (by omega)
 ·rfl
theorem Yd{xs:Array Keyed}{a d:Nat}(h:a<xs.size)(g:d<=a)(k:Nat):fa f (bubble xs a d) k=if k=a-d then fa f xs a else if a-d<k/\k<=a then fa f xs (k-1)else fa f xs k:=by
 have e:=getElem?_bubble h d g k;by_cases b:k=a-d
 ·rw[if_pos b]at e⊢;exact E9 e
 ·rw[if_neg b]at e⊢;by_cases c:a-d<k/\k<=a
  ·rw[if_pos c]at e⊢;exact E9 e
  ·rw[if_neg c]at e⊢;exact E9 e
theorem jd:∀(m:List Keyed) (n base:Nat) (a:Array Keyed),base+n+m.length<=a.size->∀k:Nat,(List.foldl (λ(a:Array Keyed) (x:Keyed×Nat)=>a.setIfInBounds (base+x.snd) x.fst) a (m.zipIdx n))[k]?=if base+n<=k/\k<base+n+m.length then m[k-(base+n)]? else a[k]?
 |[],n,base,a,h,k=>by
  rw[if_neg (by rw[List.length_nil];omega)];rfl
 |p::m,n,base,a,h,k=>by
  rw[List.length_cons]at h;rw[List.zipIdx_cons,List.foldl_cons,jd m (n+1) base _ (by rw[Array.size_setIfInBounds];omega) k,List.length_cons];by_cases z:k=base+n
  ·subst z;rw[if_neg (by omega),if_pos (by omega),Nat.sub_self,List.getElem?_cons_zero];show(a.setIfInBounds (base+n) p)[base+n]?=some p;rw[Array.getElem?_setIfInBounds_self_of_lt (by omega)]
  ·by_cases y:base+n<=k/\k<base+n+(m.length+1)
   ·rw[if_pos (by omega),if_pos y,show k-(base+n)=(k-(base+(n+1)))+1 by omega,List.getElem?_cons_succ]
   ·rw[if_neg (by omega),if_neg y];show(a.setIfInBounds (base+n) p)[k]?=_;rw[Array.getElem?_setIfInBounds_ne (by omega)]
theorem n8{a:Array Keyed}{m:List Keyed}{base:Nat}(h:base+m.length<=a.size)(g:m.Perm ((a.toList.drop base).take m.length)):(List.foldl (λ(a:Array Keyed) (x:Keyed×Nat)=>a.setIfInBounds (base+x.snd) x.fst) a m.zipIdx).Perm a:=by
 generalize i:List.foldl (λ(a:Array Keyed) (x:Keyed×Nat)=>a.setIfInBounds (base+x.snd) x.fst) a m.zipIdx=r
 have e:∀k:Nat,r[k]?=if base<=k/\k<base+m.length then m[k-base]? else a[k]?:=λk=>by
  rw[<- i];exact jd m 0 base a (by omega) k
 have d:r.toList=a.toList.take base++(m++a.toList.drop (base+m.length)):=by
  apply List.ext_getElem?;intro k;rw[Array.getElem?_toList,e k];have b:(a.toList.take base).length=base:=by rw[List.length_take,Array.length_toList];omega
  by_cases z:k<base
  ·rw[if_neg (by omega),List.getElem?_append_left (by omega),List.getElem?_take_of_lt z,Array.getElem?_toList]
  ·rw[List.getElem?_append_right (by omega),b];by_cases y:k<base+m.length
   ·rw[if_pos (by omega),List.getElem?_append_left (by omega)]
   ·rw[if_neg (by omega),List.getElem?_append_right (by omega),List.getElem?_drop,Array.getElem?_toList];congr 1;omega
 have c:a.toList=a.toList.take base++((a.toList.drop base).take m.length++a.toList.drop (base+m.length)):=by
  rw[<- Ik,List.take_append_drop]
 refine Array.perm_iff_toList_perm.mpr ?_;rw[d];refine(List.Perm.append_left _ (g.append_right _)).trans ?_;rw[<- c]
end
section
variable {prog:m8}{w:nP}{A:nf}{E:mr}{s:mI}{κ:SortKind}{f:Keyed->Nat}{a₀:Array Keyed}{st:SortSt}
theorem Se(a:Array Keyed){i j:Nat}(h:i<=j):(a.extract i j).toList=(a.toList.drop i).take (j-i):=by
 obtain⟨k,rfl⟩:∃k,j=i+k:=⟨j-i,by omega⟩;rw[Hk];congr 1;omega
theorem Hj{a:Array Keyed}{i j:Nat}{p:Keyed}(h:p∈(a.extract i j).toList)(c:i<=j):∃k,i<=k/\k<j/\a[k]?=some p:=by
 rw[Se a c]at h;obtain⟨m,d,b⟩:=Ee h;rw[Array.getElem?_toList]at b;exact⟨i+m,by omega,by omega,b⟩
theorem Wl{a:Array Keyed}{i j k:Nat}(b:j<=a.size)(h:i+k<j):(a.extract i j)[k]?=a[i+k]?:=by
 rw[Array.getElem?_extract];split
 ·rfl
 ·omega
theorem W8{a:Array Keyed}{i j:Nat}(h:Iv f a i j)(d:j<=a.size)(p:i<=j):Da f (a.extract i j).toList:=by
 refine List.pairwise_iff_getElem.mpr λm n g l o=>?_;have e:(a.extract i j).toList.length=j-i:=by rw[Array.length_toList,Array.size_extract];omega
 rw[e]at g l;have b:(a.extract i j)[m]?=some (a.extract i j).toList[m]:=by rw[<- Array.getElem?_toList];exact dt _
 have c:(a.extract i j)[n]?=some (a.extract i j).toList[n]:=by rw[<- Array.getElem?_toList];exact dt _
 rw[Wl d (by omega)]at b c;have:=h (i+m) (i+n) (by omega) (by omega) (by omega);rw[As b,As c]at this;exact this
theorem aw{a:Array Keyed}{i j k:Nat}(b:j<=a.size)(h:i+k<j):fa f (a.extract i j) k=fa f a (i+k):=E9 (Wl b h)
theorem n9{a:Type}{s' st:a}{Q:PUnit->a->Prop}{M:Model}(h:Q ⟨⟩ s'):wpS M A E s (set s':StateT a Sem PUnit) Q st:=by
 unfold wpS;rw[StateT.run_set];exact bc ⟨rfl,h⟩
theorem Tx(hA:Ie prog w A s κ f a₀)(d:Bs κ a₀ st){i c o pw b C pb:Nat}(hi:(pendingOf st)[i]?=some (c,o,pw))(hj:(pendingOf st)[i+1]?=some (b,C,pb))(hs:b=c+o)(hna:0<o)(hnb:0<C)(hsz:b+C<=a₀.size)
  (N:Iv f (arrOf st) c b)(O:Iv f (arrOf st) b (b+C)){Q:Bool->SortSt->Prop}
  (h:∀X,Bs κ a₀ X->pendingOf X=((pendingOf st).setIfInBounds i (c,o+C,pw)).eraseIdxIfInBounds (i+1)->Iv f (arrOf X) c (b+C)->(∀k,k<c\/b+C<=k->fa f (arrOf X) k=fa f (arrOf st) k)->Q true X):wpS (model prog w) A E s (mergeAt' i) Q st:=by
 have hsize:=d.size;have pM:∀p,p∈arrOf st->p∈a₀:=λp I=>d.perm.mem_iff.mp I;refine wpS_bind (wpS_get ?_);dsimp only;rw[hi,hj];dsimp only;obtain⟨q,T⟩:=Bp (a:=arrOf st) (i:=b) (by omega);have pZ:∀P g,kindOf (SortSt.mk' (kindOf st) (arrOf st) P g (failedOf st))=κ:=λ_ _=>d.kind;refine wpS_bind (n9 ?_);refine wpS_bind (B7 T (wpS_bind (Di hA (pZ _ _) (d.mem T) pM (base:=c) (n:=o) (by omega) (by omega) (by rw[<- hs];exact N) λk k1 k2 k3=>?_)));dsimp only
 have Z:∀m,c<=m->m<c+k->fa f (arrOf st) m<=fa f (arrOf st) b:=λm m1 H=>by
  have:=k2 (m-c) (by omega);rw[show c+(m-c)=m by omega]at this;rw[As T];simpa using this
 have k3':∀m,c+k<=m->m<b->fa f (arrOf st) b<=fa f (arrOf st) m:=λm m1 H=>by
  have:=k3 (m-c) (by omega) (by omega);rw[show c+(m-c)=m by omega]at this;rw[As T];simp at this;omega
 by_cases e1:o-k=0
 ·rw[if_pos (Ev e1)];refine wpS_pure (h _ ⟨d.perm,d.kind,d.failed⟩ rfl (λm n v B F=>?_) λ_ _=>rfl);by_cases z:n<b
  ·exact N m n v B z
  ·by_cases y:m<b
   ·exact dI (Z m v (by omega)) (O b n (da _) (by omega) F)
   ·exact O m n (by omega) B F
 rw[if_neg (Eu e1)];obtain⟨p,I⟩:=Bp (a:=arrOf st) (i:=c+k+(o-k)-1) (by omega);have JT:(arrOf st)[b-1]?=some p:=by rw[<- I];congr 1;omega
 refine wpS_bind (B7 I (wpS_bind (Di hA (pZ _ _) (d.mem I) pM (base:=b) (n:=C) (by omega) (by omega) O λl l1 l2 l3=>?_)));dsimp only
 have l2':∀m,b<=m->m<b+l->fa f (arrOf st) m<=fa f (arrOf st) (b-1):=λm m1 H=>by
  have:=l2 (m-b) (by omega);rw[show b+(m-b)=m by omega]at this;rw[As JT];simp at this;omega
 have XN:∀m,b+l<=m->m<b+C->fa f (arrOf st) (b-1)<=fa f (arrOf st) m:=λm m1 H=>by
  have:=l3 (m-b) (by omega) (by omega);rw[show b+(m-b)=m by omega]at this;rw[As JT];simpa using this
 by_cases e2:l=0
 ·rw[if_pos (Ev e2)];refine wpS_pure (h _ ⟨d.perm,d.kind,d.failed⟩ rfl (λm n v B F=>?_) λ_ _=>rfl);by_cases z:n<b
  ·exact N m n v B z
  ·by_cases y:m<b
   ·exact dI (N m (b-1) v (by omega) (by omega)) (XN n (by omega) F)
   ·exact O m n (by omega) B F
 rw[if_neg (Eu e2)];have hx:Da f ((arrOf st).extract (c+k) b).toList:=W8 (λm n v B F=>N m n (by omega) B F) (by omega) (by omega);have hy:Da f ((arrOf st).extract b (b+l)).toList:=W8 (λm n v B F=>O m n v B (by omega)) (by omega) (by omega)
 have ax:∀p,p∈(arrOf st).extract (c+k) b->p∈a₀:=λp I=>by
  obtain⟨m,_,_,e⟩:=Hj (Array.mem_toList_iff.mpr I) (by omega);exact d.mem e
 have ay:∀p,p∈(arrOf st).extract b (b+l)->p∈a₀:=λp I=>by
  obtain⟨m,_,_,e⟩:=Hj (Array.mem_toList_iff.mpr I) (by omega);exact d.mem e
 have sx:((arrOf st).extract (c+k) b).size=o-k:=by rw[Array.size_extract];omega
 have sy:((arrOf st).extract b (b+l)).size=l:=by rw[Array.size_extract];omega
 have fx:∀m,m<o-k->fa f ((arrOf st).extract (c+k) b) m=fa f (arrOf st) (c+k+m):=λm R=>aw (by omega) (by omega);have fy:∀m,m<l->fa f ((arrOf st).extract b (b+l)) m=fa f (arrOf st) (b+m):=λm R=>aw (by omega) (by omega)
 have fin:∀(r:Array Keyed) (D:SortSt),Co f ((arrOf st).extract (c+k) b).toList ((arrOf st).extract b (b+l)).toList r.toList->kindOf D=κ->failedOf D=none->arrOf D=arrOf st->pendingOf D=((pendingOf st).setIfInBounds i (c,o+C,pw)).eraseIdxIfInBounds (i+1)->
   Q true (setArr D (List.foldl (λ(a:Array Keyed) (x:Keyed×Nat)=>a.setIfInBounds (c+k+x.snd) x.fst) (arrOf D) r.toList.zipIdx)):=λr D J g1 g2 g3 g4=>by
  have Y:r.toList.length=o-k+l:=by
   rw[J.1.length_eq,List.length_append,Array.length_toList,Array.length_toList,sx,sy]
  have XO:((arrOf st).extract (c+k) b).toList++((arrOf st).extract b (b+l)).toList=((arrOf st).toList.drop (c+k)).take r.toList.length:=by
   rw[Y,Se _ (by omega),Hk,show b-(c+k)=o-k by omega,List.take_add,List.drop_drop,show c+k+(o-k)=b by omega]
  have XQ:∀m:Nat,(List.foldl (λ(a:Array Keyed) (x:Keyed×Nat)=>a.setIfInBounds (c+k+x.snd) x.fst) (arrOf D) r.toList.zipIdx)[m]?=if c+k<=m/\m<c+k+r.toList.length then r.toList[m-(c+k)]? else(arrOf st)[m]?:=λm=>by
   rw[g3];exact jd r.toList 0 (c+k) (arrOf st) (by omega) m
  have aJ:(List.foldl (λ(a:Array Keyed) (x:Keyed×Nat)=>a.setIfInBounds (c+k+x.snd) x.fst) (arrOf D) r.toList.zipIdx).Perm (arrOf st):=by
   rw[g3];refine n8 (by omega) ?_;rw[<- XO];exact J.1
  generalize List.foldl (λ(a:Array Keyed) (x:Keyed×Nat)=>a.setIfInBounds (c+k+x.snd) x.fst) (arrOf D) r.toList.zipIdx=a' at XQ aJ⊢
  have U:∀m,m<c+k\/b+l<=m->fa f a' m=fa f (arrOf st) m:=λm R=>by
   refine E9 ?_;rw[XQ m,if_neg (by omega)]
  have u:∀m,c+k<=m->m<b+l->∃p,r.toList[m-(c+k)]?=some p/\fa f a' m=f p/\∃n,c+k<=n/\n<b+l/\(arrOf st)[n]?=some p:=λm v B=>by
   have R:m-(c+k)<r.toList.length:=by omega
   refine⟨r.toList[m-(c+k)],dt R,?_,?_⟩
   ·refine As ?_;rw[XQ m,if_pos (by omega)];exact dt R
   ·have bS:=J.1.mem_iff.mp (kI R);rcases fe.mp bS with z|z
    ·obtain⟨n,L,M,S⟩:=Hj z (by omega);exact⟨n,L,by omega,S⟩
    ·obtain⟨n,L,M,S⟩:=Hj z (by omega);exact⟨n,by omega,M,S⟩
  have K:∀m,c<=m->m<c+k->∀n,c+k<=n->n<b+l->fa f (arrOf st) m<=fa f (arrOf st) n:=λm m1 H n L M=>by
   by_cases z:n<b
   ·exact N m n m1 (by omega) z
   ·exact dI (Z m m1 H) (O b n (da _) (by omega) (by omega))
  have JU:∀m,b+l<=m->m<b+C->∀n,c+k<=n->n<b+l->fa f (arrOf st) n<=fa f (arrOf st) m:=λm m1 H n L M=>by
   by_cases z:n<b
   ·exact dI (N n (b-1) (by omega) (by omega) (by omega)) (XN m m1 H)
   ·exact O n m (by omega) (by omega) H
  refine h _ ⟨aJ.trans d.perm,g1,g2⟩ g4 (λm n v B F=>?_) (λm R=>U m (by omega));by_cases c1:m<c+k
  ·rw[U m (.inl c1)];by_cases c2:n<c+k
   ·rw[U n (.inl c2)];exact N m n v B (by omega)
   ·by_cases c3:n<b+l
    ·obtain⟨p,_,e,n',L,M,S⟩:=u n (by omega) c3;rw[e,<- As (f:=f) S];exact K m v c1 n' L M
    ·rw[U n (.inr (by omega))];exact dI (K m v c1 (b-1) (by omega) (by omega)) (XN n (by omega) F)
  ·by_cases c3:n<b+l
   ·obtain⟨p,e1,e2,_⟩:=u m (by omega) (by omega);obtain⟨q,e3,e4,_⟩:=u n (by omega) c3;rw[e2,e4];exact Nb J.2 e1 e3 (by omega)
   ·rw[U n (.inr (by omega))];by_cases c4:m<b+l
    ·obtain⟨p,_,e,n',L,M,S⟩:=u m (by omega) c4;rw[e,<- As (f:=f) S];exact JU n (by omega) F n' L M
    ·rw[U m (.inr (by omega))];exact O m n (by omega) B F
 by_cases e3:o-k<=l
 ·rw[if_pos e3];refine wpS_bind (Tz hA (pZ _ _) ax ay hx hy (by omega) (by omega) ?_ ?_ λr D G J=>?_)
  ·rw[fx 0 (by omega),fy 0 (by omega)];exact k3' _ (by omega) (by omega)
  ·intro q T;obtain⟨m,m1,H,m3⟩:=Hj T (by omega);rw[sx,fx _ (by omega),show c+k+(o-k-1)=b-1 by omega,<- As (f:=f) m3];exact l2' m m1 H
  ·obtain⟨g,rfl⟩:=G;refine wpS_bind (wpS_modify ?_);refine wpS_bind (wpS_get (wpS_pure ?_));have e:(failedOf st).isNone=true:=by rw[d.failed];rfl
   have:=fin r (SortSt.mk' (kindOf st) (arrOf st) (((pendingOf st).setIfInBounds i (c,o+C,pw)).eraseIdxIfInBounds (i+1)) g (failedOf st)) J d.kind d.failed rfl rfl;rw[<- e]at this;exact this
 ·rw[if_neg e3];refine wpS_bind (Ty hA (pZ _ _) ax ay hx hy (by omega) (by omega) ?_ ?_ λr D G J=>?_)
  ·intro p I;obtain⟨m,m1,H,m3⟩:=Hj I (by omega);rw[fy 0 (by omega),<- As (f:=f) m3];exact k3' m m1 H
  ·intro j hj;rw[sx,fx _ (by omega),fy j (by omega),show c+k+(o-k-1)=b-1 by omega];exact l2' _ (by omega) (by omega)
  ·obtain⟨g,rfl⟩:=G;refine wpS_bind (wpS_modify ?_);refine wpS_bind (wpS_get (wpS_pure ?_));have e:(failedOf st).isNone=true:=by rw[d.failed];rfl
   have:=fin r (SortSt.mk' (kindOf st) (arrOf st) (((pendingOf st).setIfInBounds i (c,o+C,pw)).eraseIdxIfInBounds (i+1)) g (failedOf st)) J d.kind d.failed rfl rfl;rw[<- e]at this;exact this
end
section
variable {prog:m8}{w:nP}{A:nf}{E:mr}{s:mI}{κ:SortKind}{f:Keyed->Nat}{a₀:Array Keyed}{st:SortSt}
def Ch(f:Keyed->Nat)(lo:Nat)(st a:SortSt):Prop:=pendingOf a=pendingOf st/\∀k,k<lo->fa f (arrOf a) k=fa f (arrOf st) k
theorem Ch.refl{lo:Nat}:Ch f lo st st:=⟨rfl,λ_ _=>rfl⟩
theorem Ch.trans{lo:Nat}{b a c:SortSt}(h:Ch f lo b a)(g:Ch f lo a c):Ch f lo b c:=⟨g.1.trans h.1,λk d=>(g.2 k d).trans (h.2 k d)⟩
theorem Jw{i j:Nat}{Q:Unit->SortSt->Prop}(h:Q () (setArr st (mirror (arrOf st) i j ((j-i)/2)))):wpS (model prog w) A E s (reverseSlice' i j) Q st:=by
 rw[reverseSlice'_eq];exact wpS_modify h
theorem Bs.rev(a:Bs κ a₀ st)(i j:Nat):Bs κ a₀ (setArr st (mirror (arrOf st) i j ((j-i)/2))):=⟨(mirror_perm _ _ _ _).trans a.perm,a.kind,a.failed⟩
theorem jp{a:Array Keyed}{lo:Nat}:Iv f a lo (lo+1):=λi j b c d=>by
 obtain rfl:i=j:=by omega
 exact da _
theorem Ru{a:Array Keyed}{lo n:Nat}(h:Iv f a lo (lo+n))(g:0<n)(e:fa f a (lo+n-1)<=fa f a (lo+n)):Iv f a lo (lo+(n+1)):=λi j b c d=>by
 by_cases z:j<lo+n
 ·exact h i j b c z
 ·obtain rfl:j=lo+n:=by omega
  by_cases y:i<lo+n
  ·exact dI (h i (lo+n-1) b (by omega) (by omega)) e
  ·obtain rfl:i=lo+n:=by omega
   exact da _
def nl(f:Keyed->Nat)(a:Array Keyed)(lo n q:Nat):Prop:=(∀i j,lo<=i->i<=j->j<lo+n->fa f a j<=fa f a i)/\q<n/\∀i,lo+n-(q+1)<=i->i<lo+n->fa f a i=fa f a (lo+n-1)
theorem nl.flat{a:Array Keyed}{lo n q:Nat}(h:nl f a lo n q)(g:lo+n<=a.size)(k:Nat):fa f (mirror a (lo+n-(q+1)) (lo+n) ((lo+n-(lo+n-(q+1)))/2)) k=fa f a k:=Jd g (λk l b c d e=>(h.2.2 k b c).trans (h.2.2 l d e).symm) k
theorem nl.asc{a b:Array Keyed}{lo n q:Nat}(h:nl f a lo n q)(c:lo+n<=b.size)(e:∀k,fa f b k=fa f a k):Iv f (mirror b lo (lo+n) ((lo+n-lo)/2)) lo (lo+n):=λi j d g l=>by
 rw[Fa c,Fa c,if_pos (by omega),if_pos (by omega),e,e];exact h.1 _ _ (by omega) (by omega) (by omega)
theorem Vz(N:Ie prog w A s κ f a₀)(G:Bs κ a₀ st){lo g:Nat}(qB:0<g)(hsz:lo+g<=a₀.size){Q:Option Nat->SortSt->Prop}
  (h:∀m a,0<m->m<=g->Bs κ a₀ a->Ch f lo st a->Iv f (arrOf a) lo (lo+m)->Q (some m) a):wpS (model prog w) A E s (countRun' lo g) Q st:=by
 refine wpS_bind (wpS_mono (wpS_forRange (I:=λx c a=>a=st/\c=(none,x)/\Iv f (arrOf st) lo (lo+x)) (Q:=λc a=>a=st/\∃n,c=(none,n)/\0<n/\n<=g/\Iv f (arrOf st) lo (lo+n)/\(n<g->fa f (arrOf st) (lo+n)<fa f (arrOf st) (lo+n-1))) ?_ ?_ ⟨rfl,rfl,jp⟩) ?_)
 ·rintro x c a X Y ⟨rfl,rfl,r⟩;dsimp only;refine wpS_bind (Hv N G (by omega) (by omega) ?_);dsimp only;by_cases z:fa f (arrOf a) (lo+x)<fa f (arrOf a) (lo+x-1)
  ·rw[if_pos (decide_eq_true z)];exact wpS_pure ⟨rfl,x,rfl,by omega,by omega,r,λ_=>z⟩
  ·rw[if_neg (by rw[decide_eq_true_eq];exact z)];exact wpS_pure ⟨rfl,rfl,Ru r (by omega) (by omega)⟩
 ·rintro c a ⟨rfl,rfl,r⟩;have e:max 1 g=g:=by omega
  rw[e]at r⊢;exact⟨rfl,g,rfl,qB,da _,r,λz=>absurd z (Nat.lt_irrefl _)⟩
 rintro c a ⟨rfl,n,rfl,X,Y,r,h4⟩;dsimp only;by_cases e1:n=g
 ·rw[if_pos (Ev e1)];exact wpS_pure (h _ _ X Y G Ch.refl r)
 rw[if_neg (Eu e1)];have h4':=h4 (by omega)
 have H:∀J,Bs κ a₀ J->pendingOf J=pendingOf a->(∀k,fa f (arrOf J) k=fa f (arrOf a) k)->(∀i,lo<=i->i<lo+n->fa f (arrOf a) i=fa f (arrOf a) (lo+n-1))->nl f (arrOf J) lo (n+1) 0:=λJ K p1 M I=>by
  refine⟨λi j o B i3=>?_,by omega,λi o B=>?_⟩
  ·rw[M,M];by_cases z:j<lo+n
   ·rw[I i o (by omega),I j (by omega) z];exact da _
   ·obtain rfl:j=lo+n:=by omega
    by_cases y:i<lo+n
    ·rw[I i o y];omega
    ·obtain rfl:i=lo+n:=by omega
     exact da _
  ·obtain rfl:i=lo+n:=by omega
   rfl
 by_cases e2:n>1
 case' pos=>
  rw[if_pos e2];refine wpS_bind (Hv N G (by omega) (by omega) ?_);dsimp only;by_cases z:fa f (arrOf a) lo<fa f (arrOf a) (lo+n-1)
  ·rw[if_pos (decide_eq_true z)];exact wpS_pure (h _ _ X Y G Ch.refl r)
  rw[if_neg (by rw[decide_eq_true_eq];exact z)]
  have I:∀i,lo<=i->i<lo+n->fa f (arrOf a) i=fa f (arrOf a) (lo+n-1):=λi o B=>by
   have U:=r lo i (da _) o B;have a2:=r i (lo+n-1) o (by omega) (by omega);omega
  refine wpS_bind (Jw ?_);have K:=G.rev lo (lo+n);have M:∀k,fa f (arrOf (setArr a (mirror (arrOf a) lo (lo+n) ((lo+n-lo)/2)))) k=fa f (arrOf a) k:=Jd (by rw[G.size];omega) λk l k1 k2 l1 l2=>(I k k1 k2).trans (I l l1 l2).symm;have T:=H _ K rfl M I;have S:Ch f lo a (setArr a (mirror (arrOf a) lo (lo+n) ((lo+n-lo)/2))):=⟨rfl,λk _=>M k⟩;generalize setArr a (mirror (arrOf a) lo (lo+n) ((lo+n-lo)/2))=J at K T S⊢
 case' neg=>
  rw[if_neg e2];obtain rfl:n=1:=by omega
  have T:=H a G rfl (λ_=>rfl) λi o B=>by
   obtain rfl:i=lo:=by omega
   rfl
  have S:Ch f lo a a:=Ch.refl;have K:=G
 all_goals
  refine wpS_bind (wpS_lift (kb ⟨rfl,?_⟩));refine wpS_bind (wpS_mono (wpS_forRange (I:=λx c b=>∃q,c=(none,x,q)/\x<=g/\Bs κ a₀ b/\Ch f lo a b/\nl f (arrOf b) lo x q) (Q:=λc b=>∃n q,c=(none,n,q)/\n<=g/\Bs κ a₀ b/\Ch f lo a b/\nl f (arrOf b) lo n q) ?_ ?_ ⟨0,rfl,by omega,K,S,T⟩) ?_)
  ·rintro x c b x1 x2 ⟨q,rfl,_,p,C,d⟩;dsimp only;have sz:=p.size;refine wpS_bind (Hv N p (by omega) (by omega) ?_);dsimp only;by_cases z:fa f (arrOf b) (lo+x)<fa f (arrOf b) (lo+x-1)
   ·rw[if_pos (decide_eq_true z)]
    have Z:∀D,(∀k,fa f (arrOf D) k=fa f (arrOf b) k)->nl f (arrOf D) lo (x+1) 0:=λD e3=>by
     have q1:=d.2.1;refine⟨λi j o B i3=>?_,by omega,λi o B=>?_⟩
     ·rw[e3,e3];by_cases y:j<lo+x
      ·exact d.1 i j o B y
      ·obtain rfl:j=lo+x:=by omega
       by_cases v:i<lo+x
       ·exact dI (kG z) (d.1 i (lo+x-1) o (by omega) (by omega))
       ·obtain rfl:i=lo+x:=by omega
        exact da _
     ·obtain rfl:i=lo+x:=by omega
      rfl
    by_cases e:q>0
    ·rw[if_pos e];exact wpS_bind (Jw (wpS_pure ⟨0,rfl,by omega,p.rev _ _,C.trans ⟨rfl,λk _=>d.flat (by omega) k⟩,Z _ λk=>d.flat (by omega) k⟩))
    ·rw[if_neg e];exact wpS_pure ⟨0,rfl,by omega,p,C,Z _ λ_=>rfl⟩
   ·rw[if_neg (by rw[decide_eq_true_eq];exact z)];refine wpS_bind (Hv N p (by omega) (by omega) ?_);dsimp only;by_cases y:fa f (arrOf b) (lo+x-1)<fa f (arrOf b) (lo+x)
    ·rw[if_pos (decide_eq_true y)];exact wpS_pure ⟨x,q,rfl,by omega,p,C,d⟩
    ·rw[if_neg (by rw[decide_eq_true_eq];exact y)];have q1:=d.2.1;refine wpS_pure ⟨q+1,rfl,by omega,p,C,λi j o B i3=>?_,by omega,λi o B=>?_⟩
     ·by_cases v:j<lo+x
      ·exact d.1 i j o B v
      ·obtain rfl:j=lo+x:=by omega
       by_cases u:i<lo+x
       ·have:=d.1 i (lo+x-1) o (by omega) (by omega);omega
       ·obtain rfl:i=lo+x:=by omega
        exact da _
     ·rw[show lo+(x+1)-1=lo+x by omega];by_cases v:i<lo+x
      ·have:=d.2.2 i (by omega) v;omega
      ·obtain rfl:i=lo+x:=by omega
       rfl
  ·rintro c b ⟨q,rfl,U,p,C,d⟩;exact⟨_,q,rfl,U,p,C,d⟩
  rintro c b ⟨m,q,rfl,U,p,C,d⟩;dsimp only;have sz:=p.size;have q1:=d.2.1;by_cases e:q>0
  case' pos=>
   rw[if_pos e];refine wpS_bind (Jw (wpS_bind (Jw ?_)));have L:=(p.rev (lo+m-(q+1)) (lo+m)).rev lo (lo+m);have P:Iv f (arrOf (setArr (setArr b (mirror (arrOf b) (lo+m-(q+1)) (lo+m) ((lo+m-(lo+m-(q+1)))/2))) (mirror (mirror (arrOf b) (lo+m-(q+1)) (lo+m) ((lo+m-(lo+m-(q+1)))/2)) lo (lo+m) ((lo+m-lo)/2)))) lo (lo+m):=d.asc (b:=mirror (arrOf b) (lo+m-(q+1)) (lo+m) ((lo+m-(lo+m-(q+1)))/2)) (by rw[mirror_size];omega) (λk=>d.flat (by omega) k)
   have R:Ch f lo a (setArr (setArr b (mirror (arrOf b) (lo+m-(q+1)) (lo+m) ((lo+m-(lo+m-(q+1)))/2))) (mirror (mirror (arrOf b) (lo+m-(q+1)) (lo+m) ((lo+m-(lo+m-(q+1)))/2)) lo (lo+m) ((lo+m-lo)/2))):=C.trans ⟨rfl,λk hk=>by
    show fa f (mirror (mirror (arrOf b) (lo+m-(q+1)) (lo+m) ((lo+m-(lo+m-(q+1)))/2)) lo (lo+m) ((lo+m-lo)/2)) k=_;rw[Fa (by rw[mirror_size];omega),if_neg (by omega)];exact d.flat (by omega) k⟩
   generalize setArr (setArr b (mirror (arrOf b) (lo+m-(q+1)) (lo+m) ((lo+m-(lo+m-(q+1)))/2))) (mirror (mirror (arrOf b) (lo+m-(q+1)) (lo+m) ((lo+m-(lo+m-(q+1)))/2)) lo (lo+m) ((lo+m-lo)/2))=D at L R P⊢
  case' neg=>
   rw[if_neg e];refine wpS_bind (Jw ?_);have L:=p.rev lo (lo+m);have P:Iv f (arrOf (setArr b (mirror (arrOf b) lo (lo+m) ((lo+m-lo)/2)))) lo (lo+m):=d.asc (b:=arrOf b) (by omega) (λk=>rfl)
   have R:Ch f lo a (setArr b (mirror (arrOf b) lo (lo+m) ((lo+m-lo)/2))):=C.trans ⟨rfl,λk hk=>by
    show fa f (mirror (arrOf b) lo (lo+m) ((lo+m-lo)/2)) k=_;rw[Fa (by omega),if_neg (by omega)]⟩
   generalize setArr b (mirror (arrOf b) lo (lo+m) ((lo+m-lo)/2))=D at L R P⊢
  all_goals
   refine wpS_bind (wpS_mono (wpS_forRange (I:=λx c F=>F=D/\c=(none,x)/\Iv f (arrOf D) lo (lo+x)) (Q:=λc F=>F=D/\∃n,c=(none,n)/\0<n/\n<=g/\Iv f (arrOf D) lo (lo+n)) ?_ ?_ ⟨rfl,rfl,P⟩) ?_)
   ·rintro x c F y1 y2 ⟨rfl,rfl,O⟩;dsimp only;refine wpS_bind (Hv N L (by omega) (by omega) ?_);dsimp only;by_cases z:fa f (arrOf F) (lo+x)<fa f (arrOf F) (lo+x-1)
    ·rw[if_pos (decide_eq_true z)];exact wpS_pure ⟨rfl,x,rfl,by omega,by omega,O⟩
    ·rw[if_neg (by rw[decide_eq_true_eq];exact z)];exact wpS_pure ⟨rfl,rfl,Ru O (by omega) (by omega)⟩
   ·rintro c F ⟨rfl,rfl,O⟩;have e:max m g=g:=by omega
    rw[e]at O⊢;exact⟨rfl,g,rfl,qB,da _,O⟩
   rintro c F ⟨rfl,n,rfl,n1,n2,n3⟩;dsimp only;exact wpS_pure (h _ _ n1 n2 L R n3)
end
section
variable {f:Keyed->Nat}
def Cp(f:Keyed->Nat)(a:Array Keyed):Nat->List (Nat×Nat×Nat)->Nat->Prop
 |s0,[],b=>s0=b
 |s0,x::r,b=>x.1=s0/\0<x.2.1/\Iv f a s0 (s0+x.2.1)/\Cp f a (s0+x.2.1) r b
theorem Cp.len{a:Array Keyed}:∀{l:List (Nat×Nat×Nat)}{s0 hi:Nat},Cp f a s0 l hi->s0+l.length<=hi
 |[],s0,hi,h=>Nat.le_of_eq h
 |x::r,s0,hi,h=>by
  have:=h.2.2.2.len;have b:=h.2.1;rw[List.length_cons];omega
theorem Cp.congr{a b:Array Keyed}:∀{l:List (Nat×Nat×Nat)}{s0 hi:Nat},Cp f a s0 l hi->(∀k,s0<=k->k<hi->fa f b k=fa f a k)->Cp f b s0 l hi
 |[],s0,hi,h,e=>h
 |x::r,s0,hi,h,e=>by
  obtain⟨g,m,n,c⟩:=h;have s:=c.len;refine⟨g,m,λi j d o p=>?_,c.congr λk u q=>e k (by omega) q⟩;rw[e i d (by omega),e j (by omega) (by omega)];exact n i j d o p
theorem Cp.app{a:Array Keyed}:∀{l m:List (Nat×Nat×Nat)}{c hi:Nat},Cp f a c (l++m) hi↔∃b,Cp f a c l b/\Cp f a b m hi
 |[],m,c,hi=>⟨λh=>⟨c,rfl,h⟩,λ⟨b,d,e⟩=>by rw[show c=b from d];exact e⟩
 |x::r,m,c,hi=>by
  constructor
  ·rintro⟨d,e,j,n⟩;obtain⟨b,g,i⟩:=Cp.app.mp n;exact⟨b,⟨d,e,j,g⟩,i⟩
  ·rintro⟨b,⟨d,e,j,g⟩,i⟩;exact⟨d,e,j,Cp.app.mpr ⟨b,g,i⟩⟩
theorem Cp.mod{a:Array Keyed}{c:Nat}:∀{l:List (Nat×Nat×Nat)}{i b hi:Nat},Cp f a b l hi->Cp f a b (l.modify i λx=>(x.fst,x.2.fst,c)) hi
 |[],i,b,hi,h=>by rw[List.modify_nil];exact h
 |x::r,0,b,hi,h=>by rw[List.modify_zero_cons];exact h
 |x::r,i+1,b,hi,h=>by
  rw[List.modify_succ_cons];exact⟨h.1,h.2.1,h.2.2.1,Cp.mod h.2.2.2⟩
theorem Wj(p:Array (Nat×Nat×Nat))(i:Nat)(x:Nat×Nat×Nat)(h:i+1<p.size):((p.setIfInBounds i x).eraseIdxIfInBounds (i+1)).toList=p.toList.take i++x::p.toList.drop (i+2):=by
 have e:((p.setIfInBounds i x).eraseIdxIfInBounds (i+1)).toList=(p.toList.set i x).eraseIdx (i+1):=by
  unfold Array.eraseIdxIfInBounds;rw[dif_pos (by rw[Array.size_setIfInBounds];exact h),Array.toList_eraseIdx,Array.toList_setIfInBounds]
 rw[e,List.eraseIdx_eq_take_drop_succ];have a:i<p.toList.length:=by rw[Array.length_toList];omega
 rw[List.drop_set_of_lt (by omega),List.take_set,List.take_add_one,List.getElem?_eq_getElem a];have b:(p.toList.take i).length=i:=by rw[List.length_take];omega
 rw[List.set_append_right _ _ (by omega),b,Nat.sub_self,List.append_assoc];rfl
end
section
variable {prog:m8}{w:nP}{A:nf}{E:mr}{s:mI}{κ:SortKind}{f:Keyed->Nat}{a₀:Array Keyed}{st:SortSt}
theorem je(L:Ie prog w A s κ f a₀)(M:Bs κ a₀ st){lo n ok:Nat}(O:0<ok)(U:ok<=n)(hsz:lo+n<=a₀.size)(N:Iv f (arrOf st) lo (lo+ok)){Q:Bool->SortSt->Prop}
  (h:∀a,Bs κ a₀ a->Ch f lo st a->Iv f (arrOf a) lo (lo+n)->Q true a):wpS (model prog w) A E s (binarySort' lo n ok) Q st:=by
 refine wpS_bind (wpS_mono (wpS_forRange (I:=λk c a=>c=(none,())/\Bs κ a₀ a/\Ch f lo st a/\Iv f (arrOf a) lo (lo+k)) (Q:=λc a=>c=(none,())/\Bs κ a₀ a/\Ch f lo st a/\Iv f (arrOf a) lo (lo+n)) ?_ ?_ ⟨rfl,M,Ch.refl,by rw[show max ok 1=ok by omega];exact N⟩) ?_)
 ·rintro k c a Z k2 ⟨rfl,g,u,d⟩;dsimp only;have sz:=g.size
  refine wpS_bind (wpS_mono (wpS_forRange (I:=λx c b=>b=a/\∃l r,c=(none,l,r)/\l<=r/\r<=k/\r+x<=l+k/\(∀i,i<l->fa f (arrOf a) (lo+i)<=fa f (arrOf a) (lo+k))/\(∀i,r<=i->i<k->fa f (arrOf a) (lo+k)<=fa f (arrOf a) (lo+i)))
   (Q:=λc b=>b=a/\∃l,c=(none,l,l)/\l<=k/\(∀i,i<l->fa f (arrOf a) (lo+i)<=fa f (arrOf a) (lo+k))/\(∀i,l<=i->i<k->fa f (arrOf a) (lo+k)<=fa f (arrOf a) (lo+i))) ?_ ?_ ⟨rfl,0,k,rfl,by omega,by omega,by omega,λi S=>by omega,λi P R=>by omega⟩) ?_)
  ·rintro x c b _ X ⟨rfl,l,r,rfl,J,y,K,p,q⟩;dsimp only;by_cases e:l>=r
   ·rw[if_pos e];obtain rfl:l=r:=by omega
    exact wpS_pure ⟨rfl,l,rfl,y,p,q⟩
   ·rw[if_neg e];refine wpS_bind (Hv L g (by omega) (by omega) ?_);dsimp only;by_cases z:fa f (arrOf b) (lo+k)<fa f (arrOf b) (lo+(l+r)/2)
    ·rw[if_pos (decide_eq_true z)];refine wpS_pure ⟨rfl,l,_,rfl,by omega,by omega,by omega,p,λi o B=>?_⟩;have:=d (lo+(l+r)/2) (lo+i) (by omega) (by omega) (by omega);omega
    ·rw[if_neg (by rw[decide_eq_true_eq];exact z)];refine wpS_pure ⟨rfl,_,r,rfl,by omega,by omega,by omega,λi o=>?_,q⟩;have:=d (lo+i) (lo+(l+r)/2) (by omega) (by omega) (by omega);omega
  ·rintro c b ⟨rfl,l,r,rfl,J,y,K,p,q⟩;obtain rfl:l=r:=by omega
   exact⟨rfl,l,rfl,y,p,q⟩
  rintro c b ⟨rfl,l,rfl,y,p,q⟩;dsimp only
  have C:∀m,fa f (bubble (arrOf b) (lo+k) (lo+k-(lo+l))) m=if m=lo+l then fa f (arrOf b) (lo+k)else if lo+l<m/\m<=lo+k then fa f (arrOf b) (m-1)else fa f (arrOf b) m:=λm=>by
   rw[Yd (by omega) (by omega),show lo+k-(lo+k-(lo+l))=lo+l by omega]
  refine wpS_bind (m:=moveDown' (lo+k) (lo+l)) ?_;rw[moveDown'_eq];refine wpS_modify (wpS_pure ⟨rfl,⟨(bubble_perm _ _ _).trans g.perm,g.kind,g.failed⟩,u.trans ⟨rfl,λm T=>?_⟩,λi j o B Y=>?_⟩)
  ·show fa f (bubble (arrOf b) (lo+k) (lo+k-(lo+l))) m=_;rw[C m,if_neg (by omega),if_neg (by omega)]
  ·show fa f (bubble (arrOf b) (lo+k) (lo+k-(lo+l))) i<=fa f (bubble (arrOf b) (lo+k) (lo+k-(lo+l))) j;rw[C i,C j]
   have D:∀i,lo<=i->i<lo+l->fa f (arrOf b) i<=fa f (arrOf b) (lo+k):=λi o B=>by
    have:=p (i-lo) (by omega);rwa[show lo+(i-lo)=i by omega]at this
   have F:∀i,lo+l<=i->i<lo+k->fa f (arrOf b) (lo+k)<=fa f (arrOf b) i:=λi o B=>by
    have:=q (i-lo) (by omega) (by omega);rwa[show lo+(i-lo)=i by omega]at this
   by_cases G:i=lo+l
   ·rw[if_pos G];by_cases v:j=lo+l
    ·rw[if_pos v];exact da _
    ·rw[if_neg v,if_pos (by omega)];exact F (j-1) (by omega) (by omega)
   ·rw[if_neg G];by_cases H:lo+l<i/\i<=lo+k
    ·rw[if_pos H,if_neg (by omega),if_pos (by omega)];exact d (i-1) (j-1) (by omega) (by omega) (by omega)
    ·rw[if_neg H];by_cases v:j=lo+l
     ·rw[if_pos v];exact D i o (by omega)
     ·rw[if_neg v];by_cases I:lo+l<j/\j<=lo+k
      ·rw[if_pos I];exact dI (D i o (by omega)) (F (j-1) (by omega) (by omega))
      ·rw[if_neg I];exact d i j o B (by omega)
 ·rintro c a ⟨rfl,g,u,d⟩;rw[show max (max ok 1) n=n by omega]at d;exact⟨rfl,g,u,d⟩
 rintro c a ⟨rfl,g,u,d⟩;exact wpS_pure (h _ g u d)
theorem Nw(I:Ie prog w A s κ f a₀)(J:Bs κ a₀ st){i hi:Nat}(K:Cp f (arrOf st) 0 (pendingOf st).toList hi)(R:hi<=a₀.size)(g:i+1<(pendingOf st).size){Q:Bool->SortSt->Prop}
  (h:∀a,Bs κ a₀ a->Cp f (arrOf a) 0 (pendingOf a).toList hi->(pendingOf a).size+1=(pendingOf st).size->(∀k,hi<=k->fa f (arrOf a) k=fa f (arrOf st) k)->Q true a):wpS (model prog w) A E s (mergeAt' i) Q st:=by
 have L:i+1<(pendingOf st).toList.length:=by rw[Array.length_toList];exact g
 obtain⟨b,c,m,y⟩:∃b c m,(pendingOf st).toList[i]?=some (b,c,m):=⟨_,_,_,dt (by omega)⟩;obtain⟨o,d,l,z⟩:∃o d l,(pendingOf st).toList[i+1]?=some (o,d,l):=⟨_,_,_,dt (by omega)⟩
 have H:(pendingOf st).toList=(pendingOf st).toList.take i++(b,c,m)::(o,d,l)::(pendingOf st).toList.drop (i+2):=by
  have B:=(List.take_append_drop i (pendingOf st).toList).symm;rw[List.drop_eq_getElem_cons (by omega),(List.getElem?_eq_some_iff.mp y).2,List.drop_eq_getElem_cons L,(List.getElem?_eq_some_iff.mp z).2]at B;exact B
 have e:=K;rw[H]at e;obtain⟨O,D,P⟩:=Cp.app.mp e;obtain⟨p,q,r,u,v,x,n⟩:=P;dsimp only at p q r u v x n;subst p u;have T:=D.len;have U:=n.len;refine Tx I J (by rw[<- Array.getElem?_toList];exact y) (by rw[<- Array.getElem?_toList];exact z) rfl q v (by omega) r x λa G C F j=>?_;refine h a G ?_ ?_ λk S=>j k (by omega)
 ·rw[C,Wj _ _ _ g];refine Cp.app.mpr ⟨b,D.congr λk M N=>j k (by omega),rfl,by show 0<c+d;omega,?_,?_⟩
  ·show Iv f (arrOf a) b (b+(c+d));rw[<- Nat.add_assoc];exact F
  ·show Cp f (arrOf a) (b+(c+d)) _ _;rw[<- Nat.add_assoc];exact n.congr λk M N=>j k (by omega)
 ·rw[C,<- Array.length_toList,Wj _ _ _ g,<- Array.length_toList (xs:=pendingOf st)];rw[List.length_append,List.length_cons,List.length_take,List.length_drop];omega
end
section
variable {prog:m8}{w:nP}{A:nf}{E:mr}{s:mI}{κ:SortKind}{f:Keyed->Nat}{a₀:Array Keyed}{st:SortSt}
theorem Cp.push{a b:Array Keyed}{p:Array (Nat×Nat×Nat)}{lo n i:Nat}(h:Cp f a 0 p.toList lo)(e:∀k,k<lo->fa f b k=fa f a k)(d:0<n)(g:Iv f b lo (lo+n)):Cp f b 0 (p.push (lo,n,i)).toList (lo+n):=by
 rw[Array.toList_push];exact Cp.app.mpr ⟨lo,h.congr λk _ c=>e k c,rfl,d,g,rfl⟩
theorem U0(F:Ie prog w A s κ f a₀)(hB:Bs κ a₀ st)(hp:pendingOf st=#[]){Q:Unit->SortSt->Prop}(h:∀l,Bs κ a₀ l->Iv f (arrOf l) 0 a₀.size->Q () l):wpS (model prog w) A E s sortRuns' Q st:=by
 have R:=hB.size;rw[sortRuns'_eq];refine wpS_bind (wpS_get ?_);refine wpS_bind (wpS_mono (wpS_forRange (I:=λx c l=>∃b,c=(none,b)/\Bs κ a₀ l/\Cp f (arrOf l) 0 (pendingOf l).toList b/\b<=a₀.size/\(b<a₀.size->x<=b)) (Q:=λc l=>c=(none,a₀.size)/\Bs κ a₀ l/\Cp f (arrOf l) 0 (pendingOf l).toList a₀.size) ?_ ?_ ⟨0,rfl,hB,by rw[hp];rfl,by omega,λ_=>da _⟩) ?_)
 ·rintro x c M _ x2 ⟨b,rfl,p,o,l1,l2⟩;dsimp only;rw[show(arrOf st).size=a₀.size from R];by_cases Y:b>=a₀.size
  ·rw[if_pos Y];obtain rfl:b=a₀.size:=by omega
   exact wpS_pure ⟨rfl,p,o⟩
  rw[if_neg Y];refine wpS_bind (Vz F p (by omega) (by omega) λm D m1 m2 T U S=>?_);dsimp only
  have R2:Cp f (arrOf D) 0 (pendingOf D).toList b:=by
   rw[U.1];exact o.congr λk _ O=>U.2 k O
  by_cases Z:m<minRun' a₀.size a₀.size 0
  case' pos=>
   rw[if_pos Z];refine wpS_bind (wpS_lift (kb ⟨rfl,?_⟩));generalize hn:min (a₀.size-b) (minRun' a₀.size a₀.size 0)=n;have G:0<n/\n<=a₀.size-b/\m<=n:=by omega
   refine wpS_bind (je F T m1 G.2.2 (by omega) S λz C X I=>?_);rw[if_neg (by decide)]
   have K:Cp f (arrOf z) 0 (pendingOf z).toList b:=by
    rw[X.1];exact R2.congr λk _ O=>X.2 k O
  case' neg=>
   rw[if_neg Z];obtain⟨n,rfl⟩:∃n,n=m:=⟨m,rfl⟩;have G:0<n/\n<=a₀.size-b:=⟨m1,m2⟩;have C:=T;have I:=S;have K:=R2;obtain⟨z,rfl⟩:∃z,z=D:=⟨D,rfl⟩
  all_goals
   refine wpS_bind (wpS_get ?_);cases hb:(pendingOf z).back? with
   |none=>
    dsimp only;refine wpS_bind (wpS_modify (wpS_pure ⟨b+n,rfl,⟨C.perm,C.kind,C.failed⟩,K.push (λ_ _=>rfl) G.1 I,by omega,λ_=>by omega⟩))
   |some v=>
    obtain⟨s1,n1,v1⟩:=v;dsimp only;refine wpS_bind (wpS_mono (wpS_forRange (I:=λy c a=>c=(none,())/\Bs κ a₀ a/\Cp f (arrOf a) 0 (pendingOf a).toList b/\Iv f (arrOf a) b (b+n)) (Q:=λc a=>c=(none,())/\Bs κ a₀ a/\Cp f (arrOf a) 0 (pendingOf a).toList b/\Iv f (arrOf a) b (b+n)) ?_ (λc a h4=>h4) ⟨rfl,C,K,I⟩) ?_)
    ·rintro y c a _ y2 ⟨rfl,g,d,B⟩;refine wpS_bind (wpS_get ?_);by_cases q:(pendingOf a).size>1
     ·rw[if_pos q];obtain⟨⟨u1,u2,u3⟩,hu⟩:∃u,(pendingOf a)[(pendingOf a).size-2]?=some u:=⟨_,getElem?_pos (pendingOf a) _ (by omega)⟩;rw[hu];dsimp only;split
      ·exact wpS_pure ⟨rfl,g,d,B⟩
      ·refine wpS_bind (Nw F g d l1 (by omega) λIT J L _ N=>?_);rw[if_neg (by decide)];refine wpS_pure ⟨rfl,J,L,λi j i1 i2 i3=>?_⟩;rw[N i i1,N j (by omega)];exact B i j i1 i2 i3
     ·rw[if_neg q];exact wpS_pure ⟨rfl,g,d,B⟩
    ·rintro c a ⟨rfl,g,d,B⟩;dsimp only;refine wpS_bind (wpS_modify (wpS_bind (wpS_modify (wpS_pure ⟨b+n,rfl,⟨g.perm,g.kind,g.failed⟩,?_,by omega,λ_=>by omega⟩))));refine Cp.push (a:=arrOf a) ?_ (λ_ _=>rfl) G.1 B;show Cp f (arrOf a) 0 ((pendingOf a).modify ((pendingOf a).size-1) _).toList b;rw[Array.toList_modify];exact d.mod
 ·rintro c M ⟨b,rfl,p,o,l1,l2⟩;obtain rfl:b=a₀.size:=by omega
  exact⟨rfl,p,o⟩
 rintro c M ⟨rfl,p,o⟩;dsimp only
 have n1:(pendingOf M).size<=a₀.size:=by
  have:=o.len;rw[Array.length_toList]at this;omega
 refine wpS_bind (wpS_mono (wpS_forRange (I:=λy c a=>c=(none,())/\Bs κ a₀ a/\Cp f (arrOf a) 0 (pendingOf a).toList a₀.size/\(pendingOf a).size+y<=a₀.size+1) (Q:=λc a=>c=(none,())/\Bs κ a₀ a/\Cp f (arrOf a) 0 (pendingOf a).toList a₀.size/\(pendingOf a).size<=1) ?_ ?_ ⟨rfl,p,o,by omega⟩) ?_)
 ·rintro y c a _ y2 ⟨rfl,g,d,H⟩;refine wpS_bind (wpS_get ?_);by_cases q:(pendingOf a).size<=1
  ·rw[if_pos q];exact wpS_pure ⟨rfl,g,d,q⟩
  rw[if_neg q];refine wpS_bind (Nw F g d (da _) ?_ λIT J L n5 N=>?_)
  ·(repeat' split)<;>omega
  rw[if_neg (by decide)];exact wpS_pure ⟨rfl,J,L,by omega⟩
 ·rintro c a ⟨rfl,g,d,H⟩;exact⟨rfl,g,d,by omega⟩
 rintro c a ⟨rfl,g,d,H⟩;dsimp only;refine wpS_pure (h _ g ?_);rw[<- Array.length_toList]at H
 match P:(pendingOf a).toList with
 |[]=>
  rw[P]at d;have e:0=a₀.size:=d;rw[<- e];exact λi j _ _ h3=>absurd h3 (kE _)
 |[x]=>
  rw[P]at d;obtain⟨_,_,r3,r4⟩:=d;rw[show 0+x.2.1=a₀.size from r4]at r3;exact r3
 |x::y::r=>
  rw[P,List.length_cons,List.length_cons]at H;omega
end
open PySem PySem.Spec PySem.SeqAt PyProof.Rows
section
variable {prog:m8}{w:nP}{E:mr}
def Ig:List nX->List nX->Prop
 |x::a,y::b=>if PyData.eqv x y=true then Ig a b else Ih x y
 |_,_=>True
def Zm:nX->nX->Prop
 | .tuple a,.tuple b=>Ig a b
 |_,_=>False
theorem Wb:∀{xs ys:List nX},aU xs ys->Ig xs ys
 |[],_,_=>by unfold Ig;trivial
 |_::_,[],_=>by unfold Ig;trivial
 |x::xs,y::ys,h=>by
  unfold Ig;split
  ·exact Wb h.2
  ·exact h.1
theorem Sm{A:nf}{s:mI}{b:Bool}{Q:Bool->mI->Prop}:∀(xs ys:List nX) (f ws:List mK) (F bs:List Addr) (i:Nat),ReadsAll s.heap f xs F->ReadsAll s.heap ws ys bs->PyData.canLayAll0 xs=true->PyData.canLayAll0 ys=true->Ig xs ys->
  A.units+min (PyData.depthAll xs) (PyData.depthAll ys)<cLine->(b=true->i=0->∀x D y K,xs=x::D->ys=y::K->∃m n,x=.int m/\y=.int n)->Q (aC xs ys) s->W.KatLex prog w A b (decide (xs.length<ys.length)) Q (f.zip ws) i s
 |[],ys,_,ws,_,_,i,c,d,_,_,_,_,_,h=>by
  cases c;rw[List.zip_nil_left];refine W.kat_nil ?_;cases ys<;>exact h
 |x::xs,[],_,_,_,_,i,c,d,_,_,_,_,_,h=>by
  cases d;rw[List.zip_nil_right];exact W.kat_nil h
 |x::xs,y::ys,_,_,_,_,i,c,d,g,j,a,o,J,h=>by
  have G:=eqAt_readsAll (x::xs) (y::ys) A s _ _ _ _ c d g j o 0;cases c with
  |@cons v f _ _ N O q M=>
   cases d with
   |@cons u S _ _ P R p L=>
    have r:x.canLay0=true/\PyData.canLayAll0 xs=true:=by simpa[PyData.canLayAll0]using g
    have B:y.canLay0=true/\PyData.canLayAll0 ys=true:=by simpa[PyData.canLayAll0]using j
    have l:A.units+min x.depth y.depth<cLine/\A.units+min (PyData.depthAll xs) (PyData.depthAll ys)<cLine:=by
     simp only[PyData.depthAll]at o;omega
    have H:SeqAt.EqAt A s v u (PyData.eqv x y):=G (by simp) (by simp);have I:decide ((x::xs).length<(y::ys).length)=decide (xs.length<ys.length):=by simp
    rw[List.zip_cons_cons,I];refine W.kat_cons (H prog w _ _ ?_);cases e:PyData.eqv x y with
    |true=>
     unfold Ig at a;rw[if_pos e]at a;refine W.kat_yes (Sm xs ys _ _ _ _ (i+1) M L r.2 B.2 a l.2 (λ_ z=>by omega) ?_);rw[aC,if_pos e]at h;exact h
    |false=>
     unfold Ig at a;rw[if_neg (by rw[e];decide)]at a;rw[aC,if_neg (by rw[e];decide)]at h;refine W.kat_no ?_;by_cases z:(b&&i==0)=true
     ·have C:b=true/\i=0:=by simpa using z
      obtain⟨m,n,rfl,rfl⟩:=J C.1 C.2 x xs y ys rfl rfl;cases q;cases p;rw[z];exact oneLt_int h
     ·rw[show(b&&i==0)=false from Bool.eq_false_iff.mpr z];refine W.kat_one _ _ ?_;exact Jj x y A s _ _ _ _ q p r.1 B.1 a l.1 prog w _ _ (show W.BoolBack Q (.bool (Jy x y)) s from h)
def K0(b:Bool)(d:nX):Prop:=∃x r,d=.tuple (x::r)/\if b=true then∃m,x=.int m else∃l,x=.tuple l
theorem c9{A:nf}{s:mI}{b:Bool}{Q:Bool->mI->Prop}{v u:mK}{d e:nX}{o bs:List Addr}(rv:Reads s.heap v d o)(N:Reads s.heap u e bs)(F:K0 b d)(G:K0 b e)(z:d.canLay0=true)(B:e.canLay0=true)(K:Zm d e)(S:A.units+d.depth<cLine)(h:Q (Jy d e) s):
  wpAny (model prog w) A (keyLt' (PyProof.Rows.tuples' b) v u) Q E s:=by
 obtain⟨x,r,rfl,g⟩:=F;obtain⟨y,l,rfl,i⟩:=G;cases rv with
 |@tuple U o1 O Y _ p H R I f=>
  cases N with
  |@tuple X o2 P Z _ q L T M j=>
   have a:O.size=(x::r).length:=by simpa using ReadsAll.length _ _ _ f
   have c:P.size=(y::l).length:=by simpa using ReadsAll.length _ _ _ j
   refine W.kat_lt H I L M ?_;rw[a,c];refine Sm (x::r) (y::l) _ _ _ _ 0 f j z B K ?_ (λJ _ x' _ y' _ C D=>?_) h
   ·have e:(PyData.tuple (x::r)).depth=PyData.depthAll (x::r)+1:=by simp[PyData.depth]
    omega
   ·cases C;cases D;rw[if_pos J]at g i;obtain⟨m,rfl⟩:=g;obtain⟨n,rfl⟩:=i;exact⟨m,n,rfl,rfl⟩
theorem Yo{A:nf}{s:mI}{b:Bool}{Q:SortKind->mI->Prop}:∀{g:List mK},g≠[]->(∀v∈g,∃d i,Reads s.heap v d i/\K0 b d)->Q (PyProof.Rows.tuples' b) s->wpAny (model prog w) A (keyKind' g.toArray) Q E s:=by
 intro g J c h
 have y:∀g:List mK,(∀v∈g,∃d i,Reads s.heap v d i/\K0 b d)->∃fs,W.KatTups s.heap g fs/\fs.length=g.length/\∀f∈fs,W.Looks (model prog w) s.heap (typeOf f) (.type (if b=true then "int" else "tuple")):=by
  intro g
  induction g with
  |nil=>exact λ_=>⟨[],W.KatTups.nil,rfl,λf q=>by cases q⟩
  |cons v g S=>
   intro c;obtain⟨fs,B,C,D⟩:=S λv R=>c v (dr _ R);obtain⟨d,i,rv,x,r,rfl,H⟩:=c v cL;cases rv with
   |tuple N O P j=>
    rename_i a o F n
    obtain⟨u,p,G⟩:∃u p,F.toList=u::p:=by
     cases T:F.toList with
     |nil=>rw[T]at j;cases j
     |cons u p=>exact⟨u,p,rfl⟩
    have K:F[0]?=some u:=by rw[<- Array.getElem?_toList,G];rfl
    refine⟨u::fs,W.KatTups.cons N O P K B,by simp[C],λf q=>?_⟩;rcases d3.mp q with z|z
    ·subst z;rw[G]at j;cases j with
     |cons I Y=>
      cases b with
      |true=>
       obtain⟨m,rfl⟩:=H;cases I;exact W.Looks.now
      |false=>
       obtain⟨l,rfl⟩:=H;cases I with
       |tuple L M U X=>
        show W.Looks (model prog w) s.heap _ (Value.type "tuple");rw[<- M];exact(W.Looks.ld L).andThen .now
    ·exact D f z
 obtain⟨fs,B,C,D⟩:=y g c;refine W.kat_kind B ?_ D (by cases b<;>rfl) ?_
 ·rw[C];exact List.length_pos_iff.mpr J
 ·have e:(Value.type (if b=true then "int" else "tuple") != Value.type "tuple")=b:=by cases b<;>decide
  rw[e];exact h
theorem Hf(a:List mK):a.toArray.zip a.toArray=(a.map λv=>(v,v)).toArray:=by
 apply Array.toList_inj.mp;rw[Array.toList_zip,List.toList_toArray]
 induction a with
 |nil=>rfl
 |cons v r b=>rw[List.zip_cons_cons,b,List.map_cons]
theorem Ws(a:List mK):(a.map λv=>(v,v)).map (λx:mK×mK=>x.2)=a:=by
 rw[List.map_map];exact List.map_id'' (λ_=>rfl) a
theorem To{A:nf}{s:mI}{a:Addr}{c:List mK}{n:Nat}{κ:SortKind}{g:mK->Nat}{P:PySem.Fin->mI->Prop}(B:s.heap.get? a=some (seqObj "list" c.toArray n))(hsz:c.length<=sizeLine)
  (qC:∀m:Heap,(∀b o,b≠a->s.heap.get? b=some o->m.get? b=some o)->2<=c.length->(∀Q,Q κ {s with heap:=m}->wpAny (model prog w) A (keyKind' c.toArray) Q E {s with heap:=m})/\Ie prog w A {s with heap:=m} κ (λp=>g p.1) (c.toArray.zip c.toArray))
  (h:∀l:Array mK,l.toList.Perm c->l.toList.Pairwise (λx y=>g x<=g y)->P (.done (.ret .none)) {s with heap:=sortedHeap s.heap a c l}):
  wpAny (model prog w) A (Builtin.«list.sort» ⟨[.ref a],[]⟩) P E s:=by
 rw[list_sort_plain];have ha:a<s.heap.objs.size:=dg B;refine a0 (listItems_at B rfl (a0 (listUpdate_at B rfl ?_ (by rw[List.size_toArray];exact hsz) (jT _))));obtain⟨u,R⟩:∃u,(s.heap.update a (Obj.mapSeq λ_=>(#[]:Array mK))).get? a=some (seqObj "list" #[] u):=⟨_,get?_update_seq B (λ_=>#[])⟩;refine a0 (seqEpoch_at R rfl (a0 (wpAny_newTuple (a0 (wpAny_newList (ft ?_))))));have q:(((s.heap.update a (Obj.mapSeq λ_=>(#[]:Array mK))).push (seqObj "tuple" c.toArray 0)).push (seqObj "list" #[] 0)).get? a=some (seqObj "list" #[] u):=bZ _ (bZ _ R);have O:∀b o,b≠a->s.heap.get? b=some o->(((s.heap.update a (Obj.mapSeq λ_=>(#[]:Array mK))).push (seqObj "tuple" c.toArray 0)).push (seqObj "list" #[] 0)).get? b=some o:=λb o Z e=>bZ _ (bZ _ ((ea _ _ (Ne.symm Z)).trans e));have N:=qC _ O;have fin:=h;unfold sortedHeap at fin;generalize((s.heap.update a (Obj.mapSeq λ_=>(#[]:Array mK))).push (seqObj "tuple" c.toArray 0)).push (seqObj "list" #[] 0)=m at q O N fin;show wpAny (model prog w) A _ P E {s with heap:=m};dsimp only;have C:c.toArray.size=c.length:=by simp
 by_cases f:c.toArray.size<2
 ·rw[if_pos f,if_pos f];refine a0 (bc ?_);rw[StateT.run_pure];refine a0 (bc ?_);dsimp only
  have K:Array.map (λx=>x.snd) (c.toArray.zip c.toArray)=c.toArray:=by
   rw[Hf];apply Array.toList_inj.mp;rw[Array.toList_map];exact Ws c
  refine a0 (seqEpoch_at q rfl (a0 (listUpdate_at q rfl ?_ (jT _) (by rw[K,C];omega))));simp only[bne_self_eq_false,Bool.false_eq_true,if_false];rw[show Array.map (λx=>x.snd) (arrOf (SortSt.mk' general' (c.toArray.zip c.toArray) #[] 7 none))=c.toArray from K];refine bc (fin c.toArray (by simp) ?_)
  match c,C,f with
  |[],_,_=>exact List.Pairwise.nil
  |[x],_,_=>exact List.pairwise_singleton _ _
  |x::y::r,C,f=>exact absurd f (by rw[C,List.length_cons,List.length_cons];omega)
 ·rw[if_neg f,if_neg f];obtain⟨pZ,vR⟩:=N (by omega);refine a0 (pZ _ ?_);have hz:(c.toArray.zip c.toArray).size=c.length:=by rw[Hf];simp
  refine a0 (ia (U0 (st:=SortSt.mk' κ (c.toArray.zip c.toArray) #[] 7 none) vR ⟨Array.Perm.refl _,rfl,rfl⟩ rfl (Q:=λ_ d=>Bs κ (c.toArray.zip c.toArray) d/\Iv (λp=>g p.1) (arrOf d) 0 (c.toArray.zip c.toArray).size) λd S T=>⟨S,T⟩) ?_ λ_ _ e=>e);rintro⟨⟨⟩,d⟩ s' ⟨rfl,z,L⟩;dsimp only at z L⊢
  have H:∀p∈arrOf d,p.1=p.2/\p.1∈c:=λp hp=>by
   have:=z.perm.mem_iff.mp hp;rw[Hf]at this;have Y:p∈c.map λv=>(v,v):=by simpa using this
   obtain⟨v,hv,rfl⟩:=eH.mp Y;exact⟨rfl,hv⟩
  have G:((arrOf d).map (·.2)).toList.Perm c:=by
   rw[Array.toList_map];have:=(Array.perm_iff_toList_perm.mp z.perm).map (·.2);rw[Hf,Ws]at this;exact this
  have U:((arrOf d).map (·.2)).toList.Pairwise (λx y=>g x<=g y):=by
   rw[Array.toList_map];refine List.pairwise_iff_getElem.mpr λi j M F vX=>?_;rw[List.length_map,Array.length_toList]at M F;have I:(arrOf d)[i]?=some (arrOf d)[i]:=getElem?_pos (arrOf d) i M;have J:(arrOf d)[j]?=some (arrOf d)[j]:=getElem?_pos (arrOf d) j F;have D:=L i j (jT _) (kG vX) (by rw[<- z.size];exact F);rw[As I,As J]at D;have u:=(H _ (Array.mem_of_getElem? I)).1;have X:=(H _ (Array.mem_of_getElem? J)).1;rw[u,X]at D;simpa using D
  refine a0 (seqEpoch_at q rfl (a0 (listUpdate_at q rfl ?_ (jT _) (by
   have:=G.length_eq;rw[Array.length_toList]at this;rw[this];omega))))
  rw[show failedOf d=none from z.failed];simp only[bne_self_eq_false,Bool.false_eq_true,if_false];exact bc (fin _ G U)
end
open PySem PySem.Spec PySem.SeqAt PyProof.Rows
section
variable {prog:m8}{w:nP}{E:mr}
theorem Za{A:nf}{s:mI}{d:List mK}{κ:SortKind}{g:mK->Nat}{r:mK}{Q:mr}{h1:Heap}{t1:Nat}(hsz:d.length<=sizeLine)(q:∀R:List mK->mI->Prop,R d {s with heap:=h1,toks:=t1}->wpAny (model prog w) A.in1 (collect r) R E s)
  (D:∀(f:Heap) (i:nf),i.units<=A.units+4->(∀b o,h1.get? b=some o->f.get? b=some o)->2<=d.length->(∀Q E,Q κ {s with heap:=f,toks:=t1}->wpAny (model prog w) i (keyKind' d.toArray) Q E {s with heap:=f,toks:=t1})/\Ie prog w i {s with heap:=f,toks:=t1} κ (λp=>g p.1) (d.toArray.zip d.toArray))
  (h:∀(a:Array mK) (h':Heap) (c:Nat),a.toList.Perm d->a.toList.Pairwise (λx y=>g x<=g y)->(∀b o,h1.get? b=some o->h'.get? b=some o)->h'.get? h1.objs.size=some (seqObj "list" a c)->Q (.ref h1.objs.size) {s with heap:=h',toks:=t1}):
  wpAny (model prog w) A (call (.builtin "sorted") [r]) Q E s:=by
 refine Calls.call_function_entry kind_sorted plain_sorted entry_sorted (args_sorted1 _) ?_;unfold Builtin.«sorted»;refine a0 (m:=checkCount "sorted" 1 1 _) (bc ?_);refine a0 (q _ (a0 (wpAny_newList ?_ )));have j:(h1.push (seqObj "list" d.toArray 0)).get? h1.objs.size=some (seqObj "list" d.toArray 0):=cI _ rfl;show wpAny _ _ _ _ _ {s with heap:=h1.push (seqObj "list" d.toArray 0),toks:=t1};refine a0 (ft (hH slot_list_sort ⟨_,j,rfl⟩ entry_list_sort (To (κ:=κ) (g:=g) (s:={s with heap:=h1.push (seqObj "list" d.toArray 0),toks:=t1}) j hsz (λf z l=>?_) λa B C=>⟨_,rfl,?_⟩) (args_list_sort _)))
 ·obtain⟨u,v⟩:=D f A.in1.in1 (show A.units+1+1<=A.units+4 by omega) (λb o e=>z b o (ed (dg e)) (bZ _ e)) l;exact⟨λQ n=>u Q _ n,v⟩
 ·obtain⟨c,m⟩:∃c,(sortedHeap (h1.push (seqObj "list" d.toArray 0)) h1.objs.size d a).get? h1.objs.size=some (seqObj "list" a c):=sortedHeap_at j;refine bc ⟨_,rfl,h a _ c B C (λb o e=>?_) m⟩;rw[sortedHeap_old (Nat.ne_of_lt (Heap.lt_size e)) (by rw[size_push'];exact Nat.lt_succ_of_lt (Heap.lt_size e))];exact bZ _ e
end
section
variable {X:Cx}{k:Nat}
def Nz:mK->Addr
 | .ref a=>a
 |_=>0
def Oe(H:Hp)(b:Bool)(D:V->nX)(g:V->Nat)(a:List V):Prop:=(∀u∈a,Rp H (D u) u/\K0 b (D u)/\(D u).depth<=50)/\∀u∈a,∀v∈a,Zm (D u) (D v)/\Jy (D u) (D v)=decide (g u<g v)
theorem Oe.ref{H:Hp}{b:Bool}{D:V->nX}{g:V->Nat}{c:List V}(h:Oe H b D g c):∃f:List Addr,c=f.map V.ref:=by
 have j:∀c:List V,(∀u∈c,Rp H (D u) u/\K0 b (D u))->∃f:List Addr,c=f.map V.ref:=by
  intro c
  induction c with
  |nil=>exact λ_=>⟨[],rfl⟩
  |cons u c o=>
   intro d;obtain⟨f,rfl⟩:=o λv n=>d v (dr _ n);obtain⟨i,x,r,e,_⟩:=d u cL;rw[e]at i;unfold Rp at i;obtain⟨a,p,m,_⟩:=i;exact⟨a::f,by rw[m];rfl⟩
 exact j c λu l=>⟨(h.1 u l).1,(h.1 u l).2.1⟩
theorem Oe.asks{P:m8}{w:nP}{i:List (Addr×Obj)}{Y:St}{H:Hp}{s:mI}{b:Bool}{D:V->nX}{g:V->Nat}{d:List Addr}{m:nf}{E:mr}(I:Aj X i Y H s)(L:X.prog=P)(M:X.w=w)(h:Oe H b D g (d.map V.ref))(hu:m.units+50<cLine)(Z:2<=d.length):
  (∀Q E,Q (PyProof.Rows.tuples' b) s->wpAny (model P w) m (keyKind' (d.map Value.ref).toArray) Q E s)/\Ie P w m s (PyProof.Rows.tuples' b) (λp=>g (.ref (Nz p.1))) ((d.map Value.ref).toArray.zip (d.map Value.ref).toArray):=by
 subst L M;have u:∀a∈d,∃l,Reads s.heap (.ref a) (D (.ref a)) l:=λa f=>Ce I _ _ _ (h.1 _ (List.mem_map_of_mem f)).1 rfl;refine⟨λQ E o=>Yo (b:=b) ?_ (λv q=>?_) o,λx y N O Q E o=>?_⟩
 ·intro e;have:=congrArg List.length e;rw[List.length_map,List.length_nil]at this;omega
 ·obtain⟨a,f,rfl⟩:=eH.mp q;obtain⟨l,r⟩:=u a f;exact⟨_,l,r,(h.1 _ (List.mem_map_of_mem f)).2.1⟩
 ·have mem:∀z,z∈(d.map Value.ref).toArray.zip (d.map Value.ref).toArray->∃a∈d,z.1=Value.ref a:=λz B=>by
   rw[Hf]at B;have K:z∈(d.map Value.ref).map λv=>(v,v):=by simpa using B
   obtain⟨v,q,rfl⟩:=eH.mp K;obtain⟨a,f,rfl⟩:=eH.mp q;exact⟨a,f,rfl⟩
  obtain⟨a,f,G⟩:=mem x N;obtain⟨c,A,J⟩:=mem y O;have j:=List.mem_map_of_mem (f:=V.ref) f;have n:=List.mem_map_of_mem (f:=V.ref) A;obtain⟨l,R⟩:=u a f;obtain⟨ys,S⟩:=u c A;obtain⟨C,F⟩:=h.2 _ j _ n;obtain⟨T,x2⟩:=x;obtain⟨U,y2⟩:=y;obtain rfl:T=Value.ref a:=G;obtain rfl:U=Value.ref c:=J;refine c9 R S (h.1 _ j).2.1 (h.1 _ n).2.1 (Ck _ _ (h.1 _ j).1) (Ck _ _ (h.1 _ n).1) C ?_ ?_
  ·have:=(h.1 _ j).2.2;omega
  ·rw[F];exact o
theorem Pl{g:V->Nat}{f:List Addr}{b:List mK}(i:b.Perm (f.map Value.ref))(m:b.Pairwise (λx y=>g (.ref (Nz x))<=g (.ref (Nz y)))):∃c:List V,Ay c b/\c.Perm (f.map V.ref)/\c.Pairwise (λx y=>g x<=g y):=by
 have j:∀v∈b,v=.ref (Nz v):=λv d=>by
  obtain⟨a,_,rfl⟩:=eH.mp (i.mem_iff.mp d);rfl
 refine⟨b.map λv=>.ref (Nz v),?_,?_,?_⟩
 ·have e:∀l:List mK,(∀v∈l,v=.ref (Nz v))->Ay (l.map λv=>V.ref (Nz v)) l:=by
   intro l
   induction l with
   |nil=>exact λ_=>.nil
   |cons v l n=>exact λh=>.cons (h v cL) (n λv d=>h v (dr _ d))
  exact e b j
 ·have:=i.map λv=>V.ref (Nz v);rw[List.map_map]at this;exact this
 ·rw[List.pairwise_map];exact m
def dw(K:W.Frag):List V->Hp->VK->Prop:=λd H Q=>∃(l:Addr) (a:List V) (b:Bool) (D:V->nX) (g:V->Nat),d=[.ref l]/\B6 K H l a/\a.length<=20000/\Oe H b D g a/\∀(p:Addr) (c:List V),H p=none->c.Perm a->c.Pairwise (λx y=>g x<=g y)->Q (.ref p) (upd H p (.lst c))
theorem Q7(w:Ba k X.A):D9 X (.builtin "sorted") (dw X.K):=by
 intro d s Y H xs us Q I r h;obtain⟨l,vs,b,D,g,rfl,J,p,n,q⟩:=h;obtain⟨u,rfl,S⟩:=r.one;cases S;obtain⟨A,rv,P,K⟩:=I.list J;obtain⟨f,rfl⟩:=n.ref;obtain rfl:=Pt f A rv;have hu:=w.units;have E:=Gp
 have a:(f.map Value.ref).length<=sizeLine:=by
  rw[List.length_map];rw[List.length_map]at p;exact dI p (by rw[sizeLine_eq];decide)
 have x:∀b o,s.heap.get? b=some o->((s.heap.push (seqObj "list" #[] 0)).update s.heap.objs.size (Obj.mapSeq (·++(f.map Value.ref).toArray))).get? b=some o:=λb o e=>(ea _ _ (Ne.symm (ed (dg e)))).trans (bZ _ e);refine Za (h1:=(s.heap.push (seqObj "list" #[] 0)).update s.heap.objs.size (Obj.mapSeq (·++(f.map Value.ref).toArray))) (t1:=s.toks) (κ:=PyProof.Rows.tuples' b) (g:=λv=>g (.ref (Nz v))) a (λR G=>collect_list P.isList G a) (λC Z F M m=>?_) λi h' c N O L B=>?_
 ·have z:Aj X d Y H {s with heap:=C}:=I.kept (t':=s.toks) λb o e=>M b o (x b o e);rw[List.length_map]at m;exact n.asks (E:=λ_ _=>True) z rfl rfl (by have:=w.un;omega) m
 ·obtain⟨j,T,y,U⟩:=Pl N O;refine⟨.ref _,upd H _ (.lst j),I.laid (t':=s.toks) (λb o e=>L b o (x b o e)) ?_ ?_,rfl,q _ j (I.aF.fresh ?_) y U⟩
  ·rw[Heap.size_update,size_push'];exact Nat.le_succ _
  ·exact⟨by rw[y.length_eq];exact K,i.toList,c,T,B⟩
  ·rw[Heap.size_update,size_push'];exact Nat.le_succ _
end
open PySem.W (KdxIt)
section
variable {P:m8}{w:nP}{A:nf}{E:mr}{s:mI}
theorem qm{it d a:Addr}{f:Bool}{B C:Obj}{i ep:Nat}{es:Array DictEntry}{c:DictEntry}{ok p:mK}{Q:Option mK->mI->Prop}(h:KdxIt s.heap it d i es.size ep ok p a f)(N:s.heap.get? a=some B)(I:a≠it)(z:s.heap.get? d=some C)(x:C.data=.dict es ep)(he:es[i]?=some c)
  (y:∀h',KdxIt h' it d (i+1) es.size ep ok p a true->h'.get? s.heap.objs.size=some {cls:=.type "tuple",data:=.seq #[c.key,c.val] }->(∀b o,b≠it->s.heap.get? b=some o->h'.get? b=some o)->Q (some (.ref s.heap.objs.size)) {s with heap:=h'}):wpAny (model P w) A (pyNext (.ref it)) Q E s:=by
 have l:s.TypeIs (.ref it) "dict_itemiterator":=⟨_,h,rfl⟩;have q:Builtin.Dict_items.ownsTuple "dict_itemiterator"=true:=by decide
 unfold pyNext;refine a0 (kQ (kM (name:=Str.ofString "__next__") l F.slot_dict_itemiterator_next (hH F.slot_dict_itemiterator_next l F.entry_dict_itemiterator_next ?_ (F.args_dict_itemiterator_next_1 _))));refine a0 (bc (a0 (a0 (a0 (wpAny_typeNameOfWhole_itemiter l (bc (a0 (wpAny_fieldsOf h rfl ?_))))))));simp only[q,if_true];show wpAny _ _ (if(Value.ref d==Value.none)=true then _ else _) _ _ s;rw[if_neg (show¬(Value.ref d==Value.none)=true from Bool.false_ne_true)];refine a0 (bc (a0 (wpAny_dictEntries z x ?_)));rw[if_neg (show¬((es.size:Int) != (es.size:Int))=true by simp)];refine a0 (bc (a0 (wpAny_dictEpoch z x ?_)));rw[if_neg (show¬((ep:Int) != (ep:Int))=true by simp)];refine bc ?_;simp only[show¬((i:Int)<0)by omega,if_false,Int.toNat_natCast,he];refine a0 (a0 (wpAny_typeNameOfWhole_itemiter l (bc (a0 (wpAny_isOneOf_itemiter l ?_)))));show wpAny _ _ (setField (.ref it) 3 (rawInt ((i:Int)+1))>>=_) _ _ s;refine a0 (wpAny_setField_rec h (by simp) λg J v=>?_)
 have u:KdxIt g it d (i+1) es.size ep ok p a f:=by
  have e:((i+1:Nat):Int)=(i:Int)+1:=by omega
  unfold KdxIt;rw[e];simpa[rawInt]using J
 have G:Shared.TypeIs {s with heap:=g} (.ref it) "dict_itemiterator":=⟨_,u,rfl⟩;refine a0 (ft (a0 (wpAny_isOneOf_itemiter G (a0 (wpAny_isOneOf_itemiter G ?_)))));have H:g.objs.size=s.heap.objs.size:=v.1;show wpAny _ _ (Builtin.Dict_items.pairFromOwner (.ref it) 6 c.key c.val) _ _ {s with heap:=g};unfold Builtin.Dict_items.pairFromOwner;refine a0 (wpAny_newTuple ?_);have O:it<s.heap.objs.size:=dg h;have j:KdxIt (g.push {cls:=.type "tuple",data:=.seq #[c.key,c.val] }) it d (i+1) es.size ep ok p a f:=bZ _ u;have r:(g.push {cls:=.type "tuple",data:=.seq #[c.key,c.val] }).get? s.heap.objs.size=some {cls:=.type "tuple",data:=.seq #[c.key,c.val] }:=by rw[<- H];exact cI _ rfl
 have n:∀b o,b≠it->s.heap.get? b=some o->(g.push {cls:=.type "tuple",data:=.seq #[c.key,c.val] }).get? b=some o:=λb o m e=>bZ _ (v.extBut b o m e);show wpAny _ _ (Builtin.Dict_items.ownedTupleIsFree (.ref it)>>=_) _ _ {s with heap:=g.push {cls:=.type "tuple",data:=.seq #[c.key,c.val] } };rw[show(Shared.heap {s with heap:=g}).objs.size=s.heap.objs.size from H];generalize g.push {cls:=.type "tuple",data:=.seq #[c.key,c.val] }=L at j r n;unfold Builtin.Dict_items.ownedTupleIsFree;refine a0 (a0 (wpAny_field j rfl (x:=rawInt a) rfl ?_));show wpAny _ _ (loadIfAlive ((a:Int).toNat)>>=_) _ _ _;rw[Int.toNat_natCast];refine a0 (W.kdx_alive (n a B I N) ?_);simp only[Option.isNone_some,Bool.false_eq_true,if_false];refine a0 (wpAny_field j rfl (x:=.bool f) rfl ?_);cases f with
 |true=>
  rw[if_neg (show¬(Value.bool true != Value.bool true)=true from Bool.false_ne_true)];refine bc ?_;simp only[Bool.false_eq_true,if_false];exact bc (bc ⟨_,rfl,bc (y L j r n)⟩)
 |false=>
  rw[if_pos (show(Value.bool false != Value.bool true)=true from rfl)];refine a0 (wpAny_setField_rec j (by simp) λM K D=>bc ?_);simp only[Bool.false_eq_true,if_false];exact bc (bc ⟨_,rfl,bc (y M K (D.extBut _ _ (Nat.ne_of_gt O) r) λb o m e=>D.extBut b o m (n b o m e))⟩)
theorem ql{it d a:Addr}{f:Bool}{o:Obj}{i ep:Nat}{es:Array DictEntry}{ok v:mK}{Q:Option mK->mI->Prop}(m:A.handled=none)(c:KdxIt s.heap it d i es.size ep ok v a f)(n:s.heap.get? d=some o)(j:o.data=.dict es ep)(he:es[i]?=none)
  (q:∀h',Heap.ExtBut it s.heap h'->Q none {s with heap:=h'}):wpAny (model P w) A (pyNext (.ref it)) Q E s:=by
 have g:s.TypeIs (.ref it) "dict_itemiterator":=⟨_,c,rfl⟩;have h:Builtin.Dict_items.ownsTuple "dict_itemiterator"=true:=by decide
 unfold pyNext;refine a0 (kQ (kM (name:=Str.ofString "__next__") g F.slot_dict_itemiterator_next (hH F.slot_dict_itemiterator_next g F.entry_dict_itemiterator_next ?_ (F.args_dict_itemiterator_next_1 _))));refine a0 (bc (a0 (a0 (a0 (wpAny_typeNameOfWhole_itemiter g (bc (a0 (wpAny_fieldsOf c rfl ?_))))))));simp only[h,if_true];show wpAny _ _ (if(Value.ref d==Value.none)=true then _ else _) _ _ s;rw[if_neg (show¬(Value.ref d==Value.none)=true from Bool.false_ne_true)];refine a0 (bc (a0 (wpAny_dictEntries n j ?_)));rw[if_neg (show¬((es.size:Int) != (es.size:Int))=true by simp)];refine a0 (bc (a0 (wpAny_dictEpoch n j ?_)));rw[if_neg (show¬((ep:Int) != (ep:Int))=true by simp)];refine bc ?_;simp only[show¬((i:Int)<0)by omega,if_false,Int.toNat_natCast,he];refine a0 (a0 (wpAny_typeNameOfWhole_itemiter g (bc ?_)));show wpAny _ _ (setField (.ref it) 2 Value.none>>=_) _ _ s;refine a0 (wpAny_setField c rfl (by simp) ?_);generalize u:Heap.update s.heap it (Obj.mapFields (·.setIfInBounds 2 Value.none))=l
 have p:Heap.ExtBut it s.heap l:=by
  rw[<- u];exact λb x r e=>(ea _ _ (Ne.symm r)).trans e
 show wpAny (model P w) _ (newExc (.type "StopIteration") []>>=_) _ _ {s with heap:=l};refine a0 ?_;simp only[newExc,newTuple];refine a0 (g6 (T:="tuple") ?_ (by size_fits));refine a0 (m:=firstArgMember _ _) (wpAny_of_eq (a:=Value.none) (by first|rfl|simp only[firstArgMember]) ?_);refine g6 (T:="StopIteration") ?_ (by size_fits);simp only[raiseNew];refine a0 (wpAny_handled ?_)
 first|rw[show A.in1.handled=Option.none from m]|rw[m]
 refine a0 (bc (wpAny_throw ?_));refine a0 (ka (T:="StopIteration") (b:=true) ⟨_,cI _ rfl,rfl⟩ isSubtype_stop ?_);exact bc (q _ ((p.push _).push _))
def U2(h:Heap)(it d S:Addr)(i n ep:Nat):Prop:=(i=0/\∃ok b,IsItemIter h it d 0 n ep ok b)\/∃ok b a f c,KdxIt h it d i n ep ok b a f/\h.get? a=some c/\a≠it/\a≠S
structure nj(es:Array DictEntry)(lo:Addr)(h:Heap)(as:List Addr):Prop where
 rise:as.Pairwise (·<·)
 above:∀a∈as,lo<a
 at_:∀(j:Nat) (a:Addr),as[j]?=some a->∃en,es[j]?=some en/\h.get? a=some {cls:=.type "tuple",data:=.seq #[en.key,en.val] }
theorem nj.lt{es:Array DictEntry}{lo:Addr}{h:Heap}{b:List Addr}(g:nj es lo h b){a:Addr}(c:a∈b):a<h.objs.size:=by
 obtain⟨j,d⟩:=gy.mp c;obtain⟨_,_,e⟩:=g.at_ j a d;exact dg e
theorem k9{it d S:Addr}{u:Obj}{i ep:Nat}{es:Array DictEntry}{e:DictEntry}{Q:Option mK->mI->Prop}(st:U2 s.heap it d S i es.size ep)(y:S<s.heap.objs.size)(q:s.heap.get? d=some u)(m:u.data=.dict es ep)(he:es[i]?=some e)
  (n:∀h',U2 h' it d S (i+1) es.size ep->h'.get? s.heap.objs.size=some {cls:=.type "tuple",data:=.seq #[e.key,e.val] }->(∀b o,b≠it->s.heap.get? b=some o->h'.get? b=some o)->Q (some (.ref s.heap.objs.size)) {s with heap:=h'}):wpAny (model P w) A (pyNext (.ref it)) Q E s:=by
 rcases st with⟨rfl,ok,v,c⟩|⟨ok,v,a,f,r,c,p,j,x⟩
 ·exact S8 c q m he λh' l g h=>n h' (.inr ⟨e.key,e.val,_,false,_,l,g,Nat.ne_of_gt (dg c),Nat.ne_of_gt y⟩) g h
 ·exact qm c p j q m he λh' l g h=>n h' (.inr ⟨ok,v,a,true,r,l,h a r j p,j,x⟩) g h
theorem jz{it d S:Addr}{j:Obj}{i ep:Nat}{es:Array DictEntry}{Q:Option mK->mI->Prop}(g:A.handled=none)(st:U2 s.heap it d S i es.size ep)(h:s.heap.get? d=some j)(c:j.data=.dict es ep)(he:es[i]?=none)
  (e:∀h',Heap.ExtBut it s.heap h'->Q none {s with heap:=h'}):wpAny (model P w) A (pyNext (.ref it)) Q E s:=by
 rcases st with⟨rfl,ok,l,b⟩|⟨ok,l,a,f,m,b,_,_,_⟩
 ·exact al g b h c he e
 ·exact ql g b h c he e
theorem U2.keep{h h':Heap}{it d S:Addr}{i n ep:Nat}(x:U2 h it d S i n ep)(g:∀b o,b≠S->h.get? b=some o->h'.get? b=some o)(m:it≠S):U2 h' it d S i n ep:=by
 rcases x with⟨e,ok,j,c⟩|⟨ok,j,a,f,r,c,q,p,l⟩
 ·exact .inl ⟨e,ok,j,g it _ m c⟩
 ·exact .inr ⟨ok,j,a,f,r,g it _ m c,g a _ l q,p,l⟩
theorem kc{S I d:Addr}{es:Array DictEntry}{ep:Nat}{od:Obj}{R:Result->mI->Prop}(hh:A.handled=none)(UE:S<I)(N:d≠S)(M:d≠I)(hn:es.size<=sizeLine)(res:mK)(dC:od.data=.dict es ep){h0:Heap}
  (hR:∀h' n f c g,(∀b o,b≠S->b≠I->h0.get? b=some o->h'.get? b=some o)->h'.get? S=some {cls:=.type "list",dict:=none,data:=.seq f c,slots:=#[] }->g.length=es.size->nj es I h' g->f.toList=g.map Value.ref->R (.ok (.ret res)) {s with heap:=h',toks:=n}):
  ∀(k i:Nat) (h:Heap) (n c:Nat) (f:Array mK) (g:List Addr),es.size-i=k->i<=es.size->U2 h I d S i es.size ep->h.get? d=some od->(∀b o,b≠S->b≠I->h0.get? b=some o->h.get? b=some o)->
   h.get? S=some {cls:=.type "list",dict:=none,data:=.seq f c,slots:=#[] }->f.toList=g.map Value.ref->g.length=i->nj es I h g->I<h.objs.size->
   codeAny (model P w) A (.builtin "list.extend.loop" ⟨[.ref S,.ref I,res],[]⟩) R {s with heap:=h,toks:=n}:=by
 have H:S≠I:=ed UE;intro k
 induction k with
 |zero=>
  intro i h n c f g hk hi Y B X u C D l G;refine codeAny_builtin F.entry_extend_loop ?_;rw[Around.under_plainId F.plain_extend_loop _];show wpAny _ A.in1 (pyNext (.ref I)>>=_) _ _ _;refine a0 (jz (s:={s with heap:=h,toks:=n}) (A:=A.in1) hh Y B dC (Array.getElem?_eq_none (by omega)) λh' Q=>bc (hR h' n f c g (λb o y r e=>Q b o r (X b o y r e)) (Q S _ H u) (by omega) ⟨l.rise,l.above,λj a m=>?_⟩ C));obtain⟨L,J,K⟩:=l.at_ j a m;exact⟨L,J,Q a _ (Nat.ne_of_gt (l.above a (cb m))) K⟩
 |succ k ih=>
  intro i h n c f g hk hi Y B X u C D l G;have aK:i<es.size:=by omega
  have hx:es[i]?=some es[i]:=getElem?_pos es i aK;have x:f.size=i:=by rw[<- Array.length_toList,C,List.length_map,D]
  refine codeAny_builtin F.entry_extend_loop ?_;rw[Around.under_plainId F.plain_extend_loop _];show wpAny _ A.in1 (pyNext (.ref I)>>=_) _ _ _;refine a0 (k9 (s:={s with heap:=h,toks:=n}) (S:=S) Y (dg u) B dC hx λh' aD U q=>?_);dsimp only at U q⊢;have Z:=q S _ H u;have up:∀b o,b≠S->h'.get? b=some o->(h'.update S (Obj.mapSeq (·.push (Value.ref h.objs.size)))).get? b=some o:=λb o p e=>(ea _ _ (Ne.symm p)).trans e;have v:S<h.objs.size:=dg u
  have hI':h'.get? I≠none:=by
   rcases aD with⟨_,_,_,z⟩|⟨_,_,_,_,_,z,_⟩<;>rw[z]<;>exact Option.some_ne_none _
  show wpAny _ A.in1 (updateSeq S (·.push (Value.ref h.objs.size))>>=_) _ _ _
  refine a0 (wpAny_updateSeq Z rfl (bc ⟨kA F.plain_extend_loop _,ih (i+1) _ n _ (f.push (Value.ref h.objs.size)) (g++[h.objs.size]) (by omega) aK (aD.keep up (Ne.symm H)) (up d _ N (q d _ M B))
   (λb o y r e=>up b o y (q b o r (X b o y r e))) (g0 _ Z rfl) (by rw[Array.toList_push,C,List.map_append];rfl) (by rw[List.length_append,D];rfl) ⟨?_,λa O=>?_,λj b m=>?_⟩ ?_⟩) (by rw[x];omega) (by show(f.push (Value.ref h.objs.size)).size<=sizeLine+1;rw[Array.size_push,x];omega))
  ·exact List.pairwise_append.mpr ⟨l.rise,List.pairwise_singleton _ _,λa O b p=>by rw[List.mem_singleton.mp p];exact l.lt O⟩
  ·rcases fe.mp O with z|z
   ·exact l.above a z
   ·rw[List.mem_singleton.mp z];exact G
  ·by_cases z:j<g.length
   ·rw[List.getElem?_append_left z]at m;obtain⟨L,J,K⟩:=l.at_ j b m;have p:=l.above b (cb m);exact⟨L,J,up b _ (Nat.ne_of_gt (Nat.lt_trans UE p)) (q b _ (Nat.ne_of_gt p) K)⟩
   ·rw[List.getElem?_append_right (by omega)]at m
    have T:j=i:=by
     have:=(bG.mp m).1;rw[List.length_singleton]at this;omega
    subst T;rw[D,Nat.sub_self]at m;cases m;exact⟨_,hx,up _ _ (Nat.ne_of_gt v) U⟩
  ·exact Nat.lt_trans G (dg (up _ _ (Nat.ne_of_gt v) U))
theorem Uk{r d:Addr}{G:Obj}{es:Array DictEntry}{ep:Nat}{R:List mK->mI->Prop}(hh:A.handled=none)(Z:s.heap.IsItemsView r d)(T:s.heap.get? d=some G)(X:G.data=.dict es ep)(hn:es.size<=sizeLine)
  (h:∀(h':Heap) (i:Nat) (g:List Addr),(∀b o,s.heap.get? b=some o->h'.get? b=some o)->g.length=es.size->nj es s.heap.objs.size h' g->R (g.map Value.ref) {s with heap:=h',toks:=i}):wpAny (model P w) A (collect (.ref r)) R E s:=by
 have hr:r<s.heap.objs.size:=let⟨_,C,_⟩:=Z;dg C;have Q:d<s.heap.objs.size:=dg T;unfold collect;refine a0 (wpAny_runValue (codeAny_builtin entry_proto_collect' ?_));rw[Around.under_plainId F.plain_proto_collect _];show wpAny _ A.in1 (newList []>>=λl=>again (.builtin "list.__iadd__" ⟨[l,.ref r],[]⟩)) _ _ s;refine a0 (g6 (bc ⟨kA F.plain_list_iadd _,codeAny_builtin entry_list_iadd' ?_⟩));rw[Around.under_plainId F.plain_list_iadd _];generalize J:({s with heap:=s.heap.push {cls:=.type "list",data:=.seq ([]:List mK).toArray} }:mI)=m;have z1:m.heap.objs.size=s.heap.objs.size+1:=by rw[<- J];exact Heap.size_push ..
 have I:s.heap.objs.size<m.heap.objs.size:=by rw[z1];exact Nat.lt_succ_self _
 have H:∀b o,s.heap.get? b=some o->m.heap.get? b=some o:=λb o e=>by rw[<- J];exact bZ _ e
 have hS:m.heap.get? s.heap.objs.size=some {cls:=.type "list",data:=.seq #[] }:=by rw[<- J];exact cI _ rfl
 have L:m.heap.IsItemsView r d:=let⟨o,C,x⟩:=Z;⟨o,H _ _ C,x⟩;have U:∀(h':Heap) (i:Nat),({m with heap:=h',toks:=i}:mI)={s with heap:=h',toks:=i}:=λ_ _=>by rw[<- J]
 show wpAny _ A.in1 (Builtin.List.listExtendWith (.ref s.heap.objs.size) (.ref r) (.ref s.heap.objs.size)) _ _ m
 have fin:∀(h':Heap) (i:Nat) (f:Array mK) (c:Nat) (g:List Addr),(∀b o,s.heap.get? b=some o->h'.get? b=some o)->h'.get? s.heap.objs.size=some {cls:=.type "list",dict:=none,data:=.seq f c,slots:=#[] }->g.length=es.size->nj es s.heap.objs.size h' g->f.toList=g.map Value.ref->
   wpAny (model P w) A (load s.heap.objs.size>>=λo=>match o.data with| .seq xs _=>pure xs.toList|_=>unsupported "internal:collect") R E {s with heap:=h',toks:=i}:=λh' i f c g q u v p y=>by
  refine a0 (wpAny_load u (bc ?_));show R f.toList _;rw[y];exact h h' i g q v p
 have D:∀(h:Heap) (n i:Nat) (K:Result->mI->Prop),(∀b o,b≠s.heap.objs.size->(m.heap.push {cls:=.type "dict_itemiterator",data:=.fields #[.none,.bool false,.ref d,.int 0 0,.int es.size 0,.int ep 0,.none,.none] }).get? b=some o->h.get? b=some o)->
   h.get? s.heap.objs.size=some {cls:=.type "list",data:=.seq #[] n}->
   (∀(h':Heap) (i:Nat) (f:Array mK) (c:Nat) (g:List Addr),(∀b o,s.heap.get? b=some o->h'.get? b=some o)->h'.get? s.heap.objs.size=some {cls:=.type "list",dict:=none,data:=.seq f c,slots:=#[] }->g.length=es.size->nj es s.heap.objs.size h' g->f.toList=g.map Value.ref->K (.ok (.ret (.ref s.heap.objs.size))) {m with heap:=h',toks:=i})->
   codeAny (model P w) A (.builtin "list.extend.loop" ⟨[.ref s.heap.objs.size,.ref m.heap.objs.size,.ref s.heap.objs.size],[]⟩) K {m with heap:=h,toks:=i}:=λh n i K S dY uY=>by
  have Y:=S m.heap.objs.size _ (by omega) (cI _ rfl)
  refine kc (s:=m) (S:=s.heap.objs.size) (I:=m.heap.objs.size) (h0:=m.heap) hh I (ed Q) (ed (Nat.lt_trans Q I)) hn (.ref s.heap.objs.size) X (λh' qW f c g q u v p y=>uY h' qW f c g (λb o e=>?_) u v ⟨p.rise,λa O=>?_,p.at_⟩ y)
   es.size 0 h i n #[] [] (Nat.sub_zero _) (jT _) (.inl ⟨rfl,.none,.none,Y⟩) (S d G (ed Q) (bZ _ (H d G T))) (λb o h1 _ e=>S b o h1 (bZ _ e)) dY rfl rfl ⟨List.Pairwise.nil,(λ_ O=>nomatch O),(λj a hj=>by simp at hj)⟩ (dg Y)
  ·have B:=dg e;exact q b o (ed B) (ed (Nat.lt_trans B I)) (H b o e)
  ·exact Nat.lt_trans I (p.above a O)
 unfold Builtin.List.listExtendWith;refine a0 (wpAny_typeOf (T:="dict_items") L.typeIs ?_);have q1:Builtin.List.listSameRef (.ref s.heap.objs.size) (.ref r)=false:=by simp[Builtin.List.listSameRef,Nat.ne_of_gt hr]
 have q2:(Value.type "dict_items"==Value.type "list")=false:=by decide
 have q3:(Value.type "dict_items"==Value.type "tuple")=false:=by decide
 simp only[q1,q2,q3,Bool.or_false,Bool.false_eq_true,if_false];refine a0 (Wh L (H d G T) X ?_);have M:=bZ {cls:=.type "dict_itemiterator",data:=.fields #[.none,.bool false,.ref d,.int 0 0,.int es.size 0,.int ep 0,.none,.none] } hS;refine a0 (ft (W.kdx_hint (let⟨o,C,hc,_⟩:=L;⟨o,bZ _ C,hc⟩) ?_));refine wpAny_ite_split (λ_=>?_) (λ_=>bc ⟨kA F.plain_extend_loop _,D _ 0 m.toks _ (λb o _ e=>e) M λh' i f c g q u v p y=>?_⟩)
 ·refine a0 (kb (a0 ?_));show wpAny _ _ (updateSeq s.heap.objs.size (·.push .none)>>=λ_=>updateSeq s.heap.objs.size (·.pop)) _ _ _;refine a0 (wpAny_updateSeq M rfl ?_);have z:=g0 (Obj.mapSeq (·.push Value.none)) M rfl;refine wpAny_updateSeq (hz:=by seq_fits) z rfl ?_;have N:=g0 (Obj.mapSeq (·.pop)) z rfl;refine bc ⟨kA F.plain_extend_loop _,D _ _ m.toks _ (λb o B e=>(ea _ _ (Ne.symm B)).trans ((ea _ _ (Ne.symm B)).trans e)) N λh' i f c g q u v p y=>?_⟩;rw[U];exact fin h' i f c g q u v p y
 ·rw[U];exact fin h' i f c g q u v p y
end
section
variable {prog:m8}{w:nP}{E:mr}
theorem Vi{A:nf}{s:mI}{r:mK}{Q:mr}{C:List mK->Heap->Nat->Prop}(v:∀R:List mK->mI->Prop,(∀a h1 t1,C a h1 t1->R a {s with heap:=h1,toks:=t1})->wpAny (model prog w) A.in1 (collect r) R E s)
  (n:∀a h1 t1,C a h1 t1->a.length<=sizeLine/\∃(κ:SortKind) (g:mK->Nat),
   (∀(f:Heap) (j:nf),j.units<=A.units+4->(∀b o,h1.get? b=some o->f.get? b=some o)->2<=a.length->(∀Q E,Q κ {s with heap:=f,toks:=t1}->wpAny (model prog w) j (keyKind' a.toArray) Q E {s with heap:=f,toks:=t1})/\Ie prog w j {s with heap:=f,toks:=t1} κ (λp=>g p.1) (a.toArray.zip a.toArray))/\
   (∀(d:Array mK) (h':Heap) (c:Nat),d.toList.Perm a->d.toList.Pairwise (λx y=>g x<=g y)->(∀b o,h1.get? b=some o->h'.get? b=some o)->h'.get? h1.objs.size=some (seqObj "list" d c)->Q (.ref h1.objs.size) {s with heap:=h',toks:=t1})):
  wpAny (model prog w) A (call (.builtin "sorted") [r]) Q E s:=by
 refine Calls.call_function_entry kind_sorted plain_sorted entry_sorted (args_sorted1 _) ?_;unfold Builtin.«sorted»;refine a0 (m:=checkCount "sorted" 1 1 _) (bc (a0 (v _ λa h1 t1 i=>a0 (wpAny_newList ?_ (n a h1 t1 i).1))));obtain⟨l,κ,g,H,h⟩:=n a h1 t1 i;have m:(h1.push (seqObj "list" a.toArray 0)).get? h1.objs.size=some (seqObj "list" a.toArray 0):=cI _ rfl;show wpAny _ _ _ _ _ {s with heap:=h1.push (seqObj "list" a.toArray 0),toks:=t1};refine a0 (ft (hH slot_list_sort ⟨_,m,rfl⟩ entry_list_sort (To (κ:=κ) (g:=g) (s:={s with heap:=h1.push (seqObj "list" a.toArray 0),toks:=t1}) m l (λf D q=>?_) λd F G=>⟨_,rfl,?_⟩) (args_list_sort _)))
 ·obtain⟨z,B⟩:=H f A.in1.in1 (show A.units+1+1<=A.units+4 by omega) (λb o e=>D b o (ed (dg e)) (bZ _ e)) q;exact⟨λQ u=>z Q _ u,B⟩
 ·obtain⟨c,i⟩:∃c,(sortedHeap (h1.push (seqObj "list" a.toArray 0)) h1.objs.size a d).get? h1.objs.size=some (seqObj "list" d c):=sortedHeap_at m;refine bc ⟨_,rfl,h d _ c F G (λb o e=>?_) i⟩;rw[sortedHeap_old (Nat.ne_of_lt (Heap.lt_size e)) (by rw[size_push'];exact Nat.lt_succ_of_lt (Heap.lt_size e))];exact bZ _ e
end
section
variable {X:Cx}{k:Nat}{pins:List (Addr×Obj)}{σ:St}{H H':Hp}{s:mI}{h':Heap}
theorem Aj.qX{t':Nat}(I:Aj X pins σ H s)(d:∀b u,s.heap.get? b=some u->h'.get? b=some u)(a:∀b,b<s.heap.objs.size->H' b=H b)(new:∀b o,s.heap.objs.size<=b->H' b=some o->B8 X.prog X.w H' h' b o):Aj X pins σ H' {s with heap:=h',toks:=t'}:=by
 have up:∀b o,H b=some o->H' b=some o:=λb o e=>by rw[a b (I.aF.lt e)];exact e
 refine I.un ⟨λb u q _ _ _=>d b u q,λb u q _ _ _=>⟨u.slots,d b u q⟩,λb u q n _=>by rw[a b (Heap.lt_size q)];exact n,λb u q _=>⟨u,d b u q⟩,λb g q=>up b _ q,λb u g q=>up b _ q,λb h q=>⟨#[],by rw[up b _ q];simp⟩⟩ λb u e=>?_;by_cases f:b<s.heap.objs.size
 ·rw[a b f]at e;exact(I.aF b u e).cW (λc v _ q=>d c v q) (λc q=>up c _ q) λc g q=>up c _ q
 ·exact new b u (Nat.le_of_not_lt f) e
def Rr(v D:Addr):HO:=.ext λh=>h.IsItemsView v D
def mm:V->List V->Hp->VK->Prop:=λx b H Q=>∃D a,x=.ref D/\b=[]/\H D=some (.dT a)/\∀v,H v=none->Q (.ref v) (upd H v (Rr v D))
theorem Yy:yb X "dict.items" mm:=by
 intro pins s σ H x G v F Q I n rv h;obtain⟨D,d,rfl,rfl,i,q⟩:=h;cases n;have m:=rv.zero;subst m;obtain⟨C,c,K,E,o,r,p,j,a,A,B,J⟩:=(show B8 X.prog X.w H s.heap D (.dT d)from I.aF D _ i);have l:H s.heap.objs.size=none:=I.aF.fresh (da _);have e:(s.heap.push {cls:=.type "dict_items",data:=.fields #[.ref D] }).get? s.heap.objs.size=some {cls:=.type "dict_items",data:=.fields #[.ref D] }:=cI _ rfl;have new:B8 X.prog X.w (upd H s.heap.objs.size (Rr s.heap.objs.size D)) (s.heap.push {cls:=.type "dict_items",data:=.fields #[.ref D] }) s.heap.objs.size (Rr s.heap.objs.size D):=⟨⟨_,e,rfl,rfl⟩,⟨_,e⟩,λw y ⟨o,f,g⟩ k=>⟨o,k _ f,g⟩⟩;exact S7 c j a ⟨.ref s.heap.objs.size,_,I.laid (t':=s.toks) (λb u z=>bZ _ z) (da _) new,rfl,q _ l⟩
def xw(k:(mv×Int)):nX:=.tuple [.tuple (k.1.map PyData.int),.int k.2]
mutual
theorem o9{H H':Hp}(c:A9 H H'):∀(d:nX) (v:V),Rp H d v->Rp H' d v
 | .none,v,h=>h
 | .bool _,v,h=>h
 | .int _,v,h=>h
 | .str _,v,h=>h
 | .dict _,v,h=>h
 | .tuple f,v,h=>by
  unfold Rp at h⊢;obtain⟨a,b,e,g,i⟩:=h;exact⟨a,b,e,c _ _ g,mM c f b i⟩
 | .list f,v,h=>by
  unfold Rp at h⊢;obtain⟨a,b,e,g,i⟩:=h;exact⟨a,b,e,c _ _ g,mM c f b i⟩
theorem mM{H H':Hp}(b:A9 H H'):∀(a:List nX) (vs:List V),aB H a vs->aB H' a vs
 |[],vs,h=>by
  unfold aB at h⊢;exact h
 |d::a,vs,h=>by
  unfold aB at h⊢;obtain⟨x,c,e,f,g⟩:=h;exact⟨x,c,e,o9 b d x f,mM b a c g⟩
end
theorem Pf{H:Hp}:∀xs:mv,aB H (xs.map PyData.int) (xs.map V.int)
 |[]=>by unfold aB;rfl
 |x::xs=>by
  show aB H (PyData.int x::xs.map PyData.int) (V.int x::xs.map V.int);unfold aB;exact⟨_,_,rfl,by unfold Rp;rfl,Pf xs⟩
theorem vn{H:Hp}{b:Addr}{k:(mv×Int)}(h:F4 H b k):Rp H (xw k) (.ref b):=by
 obtain⟨u,a,c⟩:=h;unfold xw Rp;refine⟨b,_,rfl,a,?_⟩;unfold aB;refine⟨_,_,rfl,?_,?_⟩
 ·unfold Rp;exact⟨u,_,rfl,c,Pf _⟩
 ·unfold aB;refine⟨_,_,rfl,by unfold Rp;rfl,?_⟩;unfold aB;rfl
def y8(H:Hp)(c:(mv×Int)×V)(u:V):Prop:=∃a b,u=.ref a/\H a=some (.tup [.ref b,c.2])/\F4 H b c.1
def I8(b:(mv×Int)×V->nX)(a:(mv×Int)×V):nX:=.tuple [xw a.1,b a]
def vh:List V->Hp->VK->Prop:=λj H Q=>∃(v D:Addr) (c:mu) (d:(mv×Int)×V->nX) (g:(mv×Int)×V->Nat),j=[.ref v]/\H v=some (Rr v D)/\H D=some (.dT c)/\(∀f∈c,Rp H (d f) f.2/\(d f).depth<=40)/\
 (∀a∈c,∀b∈c,Zm (I8 d a) (I8 d b)/\Jy (I8 d a) (I8 d b)=decide (g a<g b))/\
 ∀(p:Addr) (i:List V) (h:mu) (e:Hp),A9 H e->H p=none->e p=some (.lst i)->h.Perm c->h.Pairwise (λx y=>g x<=g y)->Paired (y8 e) h i->Q (.ref p) e
theorem br{b:List Addr}(h:b.Nodup){j:Nat}{a:Addr}(e:b[j]?=some a):b.idxOf a=j:=by
 obtain⟨d,c⟩:=bG.mp e;rw[<- c];exact List.Nodup.idxOf_getElem h j d
theorem Ub(hr:Ba k X.A)(hc:X.calm=true):D9 X (.builtin "sorted") vh:=by
 intro B s σ H L us Q I r h;obtain⟨v,D,m,dv,g,rfl,hv,hD,JY,mO,q⟩:=h;obtain⟨u,rfl,ru⟩:=r.one;cases ru;obtain⟨JZ,_⟩:=I.aF v _ hv;obtain⟨hz,hsm,Y,pr,o,es,ep,ho,hex,hd,qD,wA⟩:=(show B8 X.prog X.w H s.heap D (.dT m)from I.aF D _ hD);have UH:m.length=Y.length:=pr.length;have vN:es.size=Y.length:=size_of_entries qD;have A:=hr.un;refine Vi (C:=λvs p F=>∃d:List Addr,vs=d.map Value.ref/\(∀b o,s.heap.get? b=some o->p.get? b=some o)/\d.length=es.size/\nj es s.heap.objs.size p d) (λR hR=>Uk (I.ok.hd hc) JZ ho hd (by omega) λp F d k1 k2 P=>hR _ p F ⟨d,rfl,k1,k2,P⟩) ?_;rintro vs p F ⟨d,rfl,k1,k2,P⟩;have KA:d.Nodup:=P.rise.imp λh=>ed h;have GX:∀a∈d,s.heap.objs.size<=a:=λa i=>kG (P.above a i)
 have kK:∀a∈d,∃(j:Nat) (w:(mv×Int)×V) (y:(mv×Int)×Addr×mK),d.idxOf a=j/\m[j]?=some w/\Y[j]?=some y/\w.1=y.1/\F4 H y.2.1 w.1/\B0 w.2 y.2.2/\p.get? a=some {cls:=.type "tuple",data:=.seq #[.ref y.2.1,y.2.2] }:=λa i=>by
  obtain⟨j,E⟩:=gy.mp i;obtain⟨en,e1,Z⟩:=P.at_ j a E;have XU:=(bG.mp E).1;obtain⟨w,y,f1,f2,f3,f4,f5⟩:=Fq pr (i:=j) (by omega);have e3:=entry_at qD j;rw[f2,e1]at e3;have e4:en=entryOfKey (Cn X.prog X.w) y:=d0 e3;rw[e4]at Z;exact⟨j,w,y,br KA E,f1,f2,f3,f4,f5,Z⟩
 let f:V->(mv×Int)×V:=λu=>match u with
  | .ref a=>m.getD (d.idxOf a) (([],0),.aP)
  |_=>(([],0),.aP)
 let G:Addr->Addr:=λa=>match Y[d.idxOf a]? with
  |some y=>y.2.1
  |none=>0
 have N:∀a∈d,∃y:(mv×Int)×Addr×mK,f (.ref a)∈m/\G a=y.2.1/\F4 H y.2.1 (f (.ref a)).1/\B0 (f (.ref a)).2 y.2.2/\p.get? a=some {cls:=.type "tuple",data:=.seq #[.ref y.2.1,y.2.2] }:=λa i=>by
  obtain⟨j,w,y,f0,f1,f2,f3,f4,f5,f6⟩:=kK a i
  have e1:f (.ref a)=w:=by
   show m.getD (d.idxOf a) _=w;rw[f0,List.getD_eq_getElem?_getD,f1];rfl
  have Z:G a=y.2.1:=by
   show(match Y[d.idxOf a]? with|some y=>y.2.1|none=>0)=_;rw[f0,f2]
  rw[e1];exact⟨y,cb f1,Z,f4,f5,f6⟩
 let n:Hp:=λb=>if b∈d then some (.tup [.ref (G b),(f (.ref b)).2])else H b
 have M:∀b,b∉d->n b=H b:=λb O=>by show(if b∈d then _ else H b)=_;rw[if_neg O]
 have XW:∀a,a∈d->n a=some (.tup [.ref (G a),(f (.ref a)).2]):=λa i=>by show(if a∈d then _ else H a)=_;rw[if_pos i]
 have S:∀b,b<s.heap.objs.size->n b=H b:=λb O=>M b λz=>Nat.lt_irrefl _ (eT O (GX b z));have K:A9 H n:=λb o e=>by rw[S b (I.aF.lt e)];exact e
 have I1:Aj X B σ n {s with heap:=p,toks:=F}:=I.qX k1 S λb o O e=>by
  by_cases z:b∈d
  ·rw[XW b z]at e;cases e;obtain⟨y,T,U,y3,y4,y5⟩:=N b z;rw[U];exact⟨⟨dI (by decide:2<=1000) (Ln (da _)),_,y5,rfl⟩,[.ref y.2.1,y.2.2],.cons rfl (.cons y4 .nil),⟨_,y5,rfl,0,rfl⟩⟩
  ·rw[M b z,I.aF.fresh O]at e;cases e
 have kY:(d.map V.ref).map f=m:=by
  apply List.ext_getElem?;intro j;rw[List.map_map,List.getElem?_map];cases E:d[j]? with
  |none=>
   have:=List.getElem?_eq_none_iff.mp E;rw[List.getElem?_eq_none (by omega)];rfl
  |some a=>
   have XU:=(bG.mp E).1;show some (m.getD (d.idxOf a) _)=_;rw[br KA E,List.getD_eq_getElem?_getD,List.getElem?_eq_getElem (by omega)];rfl
 have sD:Oe n false (λu=>I8 dv (f u)) (λu=>g (f u)) (d.map V.ref):=by
  refine⟨λu A=>?_,λu A u' VU=>?_⟩
  ·obtain⟨a,i,rfl⟩:=eH.mp A;obtain⟨y,T,U,y3,y4,y5⟩:=N a i;obtain⟨d1,d2⟩:=JY _ T;refine⟨?_,⟨xw (f (.ref a)).1,[dv (f (.ref a))],rfl,by rw[if_neg (by decide)];exact⟨_,rfl⟩⟩,?_⟩
   ·unfold I8 Rp;refine⟨a,_,rfl,XW a i,?_⟩;unfold aB;refine⟨_,_,rfl,vn (by rw[U];exact y3.up λb L e=>K b _ e),?_⟩;unfold aB;refine⟨_,_,rfl,o9 K _ _ d1,?_⟩;unfold aB;rfl
   ·show(PyData.tuple [xw (f (.ref a)).1,dv (f (.ref a))]).depth<=50;simp only[PyData.depth,PyData.depthAll,xw]
    have C:∀l:mv,PyData.depthAll (l.map PyData.int)=0:=by
     intro l
     induction l with
     |nil=>rfl
     |cons x l ih=>simp only[List.map_cons,PyData.depthAll,PyData.depth,ih];rfl
    rw[C];omega
  ·obtain⟨a,i,rfl⟩:=eH.mp A;obtain⟨a',qV,rfl⟩:=eH.mp VU;obtain⟨_,T,_⟩:=N a i;obtain⟨_,z1,_⟩:=N a' qV;exact mO _ T _ z1
 refine⟨by rw[List.length_map];omega,PyProof.Rows.tuples' false,λv=>g (f (.ref (Nz v))),λh6 A' hA' k6 h2=>?_,λout h' c p1 p2 k' e'=>?_⟩
 ·have I6:Aj X B σ n {s with heap:=h6,toks:=F}:=I1.kept (t':=F) k6;rw[List.length_map]at h2;exact sD.asks (E:=λ_ _=>True) I6 rfl rfl (by omega) h2
 ·obtain⟨J,v1,v2,v3⟩:=Pl (g:=λu=>g (f u)) p1 p2;have iP:n p.objs.size=none:=I1.aF.fresh (da _);refine⟨.ref _,upd n _ (.lst J),I1.laid (t':=F) k' (da _) ⟨by rw[v2.length_eq,List.length_map];omega,out.toList,c,v1,e'⟩,rfl,q _ J (J.map f) _ (λb o e=>?_) ?_ A5 ?_ ?_ ?_⟩
  ·rw[Ab (Ae (K b o e) iP)];exact K b o e
  ·cases e:H p.objs.size with
   |none=>rfl
   |some o=>rw[K _ _ e]at iP;cases iP
  ·have:=v2.map f;rw[kY]at this;exact this
  ·rw[List.pairwise_map];exact v3
  ·have key:∀l:List V,(∀u∈l,∃a∈d,u=.ref a)->Paired (y8 (upd n p.objs.size (.lst J))) (l.map f) l:=by
    intro l
    induction l with
    |nil=>exact λ_=>.nil
    |cons u l ih=>
     intro hl;refine .cons ?_ (ih λu A=>hl u (dr _ A));obtain⟨a,i,rfl⟩:=hl u cL;obtain⟨y,T,U,y3,y4,y5⟩:=N a i;have up:∀b L,n b=some (.tup L)->upd n p.objs.size (.lst J) b=some (.tup L):=λb L e=>by rw[Ab (Ae e iP)];exact e
     exact⟨a,G a,rfl,up _ _ (XW a i),(U▸y3.up λb L e=>K b _ e:F4 n (G a) _).up up⟩
   refine key J λu A=>?_;obtain⟨a,i,e⟩:=eH.mp (v2.mem_iff.mp A);exact⟨a,i,e.symm⟩
end
section
variable {P:m8}{w:nP}{A:nf}{E:mr}{s:mI}{κ:Type} [DecidableEq κ] {knd:KeyKind P w κ}
abbrev Ex(led:Bool):Obj:={cls:=.type "set",dict:=none,data:=.set #[] 0 (.fresh 0 0 led) }
end
open PySem PySem.Spec PySem.SeqAt PyProof.Rows
section
variable {prog:m8}{w:nP}{E:mr}
theorem Tp(hi:IntsAre d ns)(q:d.length<64)(l:∀R:List mK->mI->Prop,R d {s with heap:=h1,toks:=t1}->wpAny (model prog w) A.in1 (collect r) R E s)
  (h:∀(a:Array mK) (f:mv) (h':Heap) (c:Nat),IntsAre a.toList f->f.Perm ns->f.Pairwise (·<=·)->(∀b o,h1.get? b=some o->h'.get? b=some o)->h'.get? h1.objs.size=some (seqObj "list" a c)->Q (.ref h1.objs.size) {s with heap:=h',toks:=t1}):
  wpAny (model prog w) A (call (.builtin "sorted") [r]) Q E s:=by
 have g:d.length<=sizeLine:=by rw[sizeLine_eq];omega
 refine Calls.call_function_entry kind_sorted plain_sorted entry_sorted (args_sorted1 _) ?_;unfold Builtin.«sorted»;refine a0 (m:=checkCount "sorted" 1 1 _) (bc ?_);refine a0 (l _ (a0 (wpAny_newList ?_ g)));have i:(h1.push (seqObj "list" d.toArray 0)).get? h1.objs.size=some (seqObj "list" d.toArray 0):=cI _ rfl;show wpAny _ _ _ _ _ {s with heap:=h1.push (seqObj "list" d.toArray 0),toks:=t1};refine a0 (ft (hH slot_list_sort ⟨_,i,rfl⟩ entry_list_sort (list_sort_tree (s:={s with heap:=h1.push (seqObj "list" d.toArray 0),toks:=t1}) i hi q λa f m n p=>⟨_,rfl,?_⟩) (args_list_sort _)));obtain⟨c,j⟩:∃c,(sortedHeap (h1.push (seqObj "list" d.toArray 0)) h1.objs.size d a).get? h1.objs.size=some (seqObj "list" a c):=sortedHeap_at i;refine bc ⟨_,rfl,h a f _ c m n p (λb o e=>?_) j⟩;rw[sortedHeap_old (Nat.ne_of_lt (Heap.lt_size e)) (by rw[size_push'];exact Nat.lt_succ_of_lt (Heap.lt_size e))];exact bZ _ e
end
section
variable {X:Cx}
def dz(K:W.Frag):List V->Hp->VK->Prop:=λc H Q=>∃(l:Addr) (b:mv),c=[.ref l]/\B6 K H l (b.map V.int)/\b.length<64/\∀(p:Addr) (a:mv),H p=none->a.Perm b->a.Pairwise (·<=·)->Q (.ref p) (upd H p (.lst (a.map V.int)))
theorem J5(K:W.Frag)(p:X.K=K:=by rfl):D9 X (.builtin "sorted") (dz K):=by
 subst p;intro m s M H L J Q I r h;obtain⟨l,z,rfl,w,F,q⟩:=h;obtain⟨u,rfl,D⟩:=r.one;cases D;obtain⟨a,rv,C,G⟩:=I.list w;have f:=Fl rv;have g:a.length=z.length:=f.length;have y:∀b o,s.heap.get? b=some o->((s.heap.push (seqObj "list" #[] 0)).update s.heap.objs.size (Obj.mapSeq (·++a.toArray))).get? b=some o:=λb o e=>(ea _ _ (Ne.symm (ed (dg e)))).trans (bZ _ e);refine Tp (h1:=(s.heap.push (seqObj "list" #[] 0)).update s.heap.objs.size (Obj.mapSeq (·++a.toArray))) (t1:=s.toks) f (by omega) (λR v=>collect_list C.isList v (by rw[sizeLine_eq];omega)) λd i E c A j B x n=>?_;refine⟨.ref _,upd H _ (.lst (i.map V.int)),I.laid (t':=s.toks) (λb o e=>x b o (y b o e)) ?_ ?_,rfl,q _ i (I.aF.fresh ?_) j B⟩
 ·rw[Heap.size_update,size_push'];exact Nat.le_succ _
 ·refine⟨?_,d.toList,c,Hu A,n⟩;rw[List.length_map,j.length_eq,sizeLine_eq];omega
 ·rw[Heap.size_update,size_push'];exact Nat.le_succ _
end
open PySem PySem.Spec PySem.SeqAt PyProof.Rows
section
variable {prog:m8}{w:nP}
structure Lam(params:Arguments)(body:Expr)(scope:Scope)(x y:Str):Prop where
 bod:∃p1 p2 p3,body=.Subscript (.Name y p1) (.Name x p2) p3
 bind:∀(name qual:Str) (cl:List (Str×Addr)) (pm cd ct u:mK),bindArgs (W.kla_fn name qual params body scope cl pm cd ct) ⟨[u],[]⟩=pure [(x,u)]
 kind:scope.kind=.function
 lx:scope.names.lookup x=some .local
 ly:scope.names.lookup y=some .free
 nc:∀z∈scope.names,z.2≠ .cell
 co:scope.isCoroutine=false
 ge:scope.isGenerator=false
 dx:(x==("__debug__":Str))=false
 dy:(y==("__debug__":Str))=false
 cy:(y==("__classdict__":Str))=false
theorem cj{A:nf}{s:mI}{a:Arguments}{d:Expr}{c:Scope}{x y name g:Str}{f p l D:Addr}{M O:mK}{j:List mK}{i:Nat}{t:Tok}{v:mK}{R:Result->mI->Prop}
  (L:Lam a d c x y)(B:A.depth<recursionLimit)(H:s.heap.get? f=some (W.kla_obj name g a d c [(y,l)] M p O))(J:s.heap.CodeRec (.ref p) g)(C:s.heap.IsCell l (some (.ref D)))
  (G:s.heap.IsList D j.toArray)(I:s.heap.NoLimit)(hi:j[i]?=some v)(hz:j.length<=sizeLine)
  (h:∀h' N,(∀b o,s.heap.get? b=some o->h'.get? b=some o)->R (.ok (.ret v)) {s with heap:=h',toks:=N}):
  codeAny (model prog w) A (.call (.ref f) ⟨[.int (i:Int) t],[]⟩) R s:=by
 obtain⟨Q,S,T,rfl⟩:=L.bod;refine W.kla_callFunE B H rfl L.co L.ge rfl J ?_;rw[L.bind];refine bc (wpAny_newFunctionEnv L.nc (λz u=>by rw[List.mem_singleton.mp u];exact L.lx) (λn K q=>?_) L.kind);have m:∀b o,s.heap.get? b=some o->n.get? b=some o:=λb o e=>q.extBut b o (ed (dg e)) (bZ _ e);refine⟨I.keeps m,W.kla_codeExpr ?_⟩;have P:i<j.length:=(bG.mp hi).1;have F:=Gp;refine Subscript_ (wpAny_Name (wpAny_loadName_free L.kind L.ly ?_ (C.keeps m) ?_ L.cy) L.dy)
 ·show List.lookup y [(y,l)]=some l;simp
 refine wpAny_Name (wpAny_loadName_local (v:=.int (i:Int) t) L.kind L.lx K ?_ ?_) L.dx
 ·show List.lookup x [(x,Value.int (i:Int) t)].reverse=some (.int (i:Int) t);simp
 have E:n.IsList D j.toArray:=let⟨o,e,r⟩:=G;⟨o,m _ _ e,r⟩;exact item_listR (s:={s with heap:=n,toks:=s.toks+1}) E (by omega) (by omega) (by simpa using hi) (h _ _ m) rfl
theorem S1{A:nf}{E:mr}{s:mI}{a b c:Int}{t u v:Tok}{n:Nat}{Q:List mK->mI->Prop}(G:A.handled=none)(I:IsRange s.heap r a b c t u v)(B:Builtin.Range.small a b c=true)(H:Builtin.Range.rangeSize a b c=n)(x:n<=2^24)
  (z:∀h' g d,(∀b o,s.heap.get? b=some o->h'.get? b=some o)->ItemsOf (λi v=>∃t,v=.int (a+i*c) t) d n->Q d.toList {s with heap:=h',toks:=g}):wpAny (model prog w) A (collect (.ref r)) Q E s:=by
 unfold collect;refine a0 (wpAny_runValue (codeAny_builtin F.entry_proto_collect ?_));rw[Around.under_plainId F.plain_proto_collect _];show wpAny _ A.in1 (newList []>>=λl=>again (.builtin "list.__iadd__" ⟨[l,.ref r],[]⟩)) _ _ s;refine a0 (g6 ?_);refine bc ⟨kA F.plain_list_iadd _,codeAny_builtin F.entry_list_iadd ?_⟩;rw[Around.under_plainId F.plain_list_iadd _];show wpAny _ A.in1 (Builtin.List.listExtendWith (.ref s.heap.objs.size) (.ref r) (.ref s.heap.objs.size)) _ _ _
 have fin:∀(p:Result->mI->Prop),(∀h' g d h,(∀b o,s.heap.get? b=some o->h'.get? b=some o)->h'.get? s.heap.objs.size=some {cls:=.type "list",dict:=none,data:=.seq d h,slots:=#[] }->ItemsOf (λi v=>∃t,v=.int (a+i*c) t) d n->p (.ok (.ret (.ref s.heap.objs.size))) {s with heap:=h',toks:=g})->
   wpAny (model prog w) A.in1 (Builtin.List.listExtendWith (.ref s.heap.objs.size) (.ref r) (.ref s.heap.objs.size)) (λfin j=>match fin with| .done f=>p (.ok f) j| .again h=>h.quiet=true/\codeAny (model prog w) A h p j) (λe j=>p (.error e) j) {s with heap:=s.heap.push {cls:=.type "list",data:=.seq #[] } }:=λp C=>
  wpAny_extend_range (s:={s with heap:=s.heap.push {cls:=.type "list",data:=.seq #[] } }) G (bZ _ I) B H x s.heap.objs.size _ 0 (cI _ rfl) λh' g d h k e m=>C h' g d h (λb o e=>k b o (ed (dg e)) (bZ _ e)) e m
 refine ia (fin (λr j=>∃h' g d h,r=.ok (.ret (.ref s.heap.objs.size))/\j={s with heap:=h',toks:=g}/\(∀b o,s.heap.get? b=some o->h'.get? b=some o)/\h'.get? s.heap.objs.size=some {cls:=.type "list",dict:=none,data:=.seq d h,slots:=#[] }/\ItemsOf (λi v=>∃t,v=.int (a+i*c) t) d n) λh' g d h k e m=>⟨h',g,d,h,rfl,rfl,k,e,m⟩) (λf j q=>?_) (λe j D=>?_)
 ·cases f with
  |done f=>
   obtain⟨h',g,d,h,y,rfl,k,e,m⟩:=q;cases y;show wpAny _ A (load s.heap.objs.size>>=_) _ _ _;exact a0 (wpAny_load e (bc (z h' g d k m)))
  |again J=>
   refine⟨q.1,codeAny_mono q.2 λr j q=>?_⟩;obtain⟨h',g,d,h,rfl,rfl,k,e,m⟩:=q;show wpAny _ A (load s.heap.objs.size>>=_) _ _ _;exact a0 (wpAny_load e (bc (z h' g d k m)))
 ·obtain⟨_,_,_,_,y,_⟩:=D;cases y
theorem Vh{A:nf}{E:mr}{s:mI}{m:Str->Option mK}{d:List (Addr×Obj)}{kz:mv}{f r:mK}{Q:mr}{C:List mK->Prop}(F:Fr h₀ L s.heap m)(N:News h₀ L s.heap d)(S:f=.ref q)(wB:kz.length<64)
  (Z:∀R:List mK->mI->Prop,(∀a h1 t1,C a->(∀b o,s.heap.get? b=some o->h1.get? b=some o)->R a {s with heap:=h1,toks:=t1})->wpAny (model prog w) A.in1 (collect r) R E s)
  (P:∀a,C a->kz.length=a.length)
  (u:∀a,C a->∀(i:Nat) (v:mK) (k:Int),a[i]?=some v->kz[i]?=some k->∀(h:Heap) (l:Nat) (j:List (Addr×Obj)),Fr h₀ L h m->News h₀ L h (d++j)->
   wpAny (model prog w) A.in1.in1 (call f [v]) (KskEnd h₀ L m (d++j) k {s with heap:=h,toks:=l}) (λ_ _=>False) {s with heap:=h,toks:=l})
  (done:∀a D h' l g c,C a->Fr h₀ L h' m->News h₀ L h' ((D,seqObj "list" g c)::d)->(∀q∈d,q.1<D)->L<D->h₀.get? D=none->KskOut false kz a g.toList->Q (.ref D) {s with heap:=h',toks:=l}):
  wpAny (model prog w) A (call (.builtin "sorted") [r] [(Str.ofString "key",f)]) Q E s:=by
 subst S;refine call_function_entry_kw kind_sorted plain_sorted entry_sorted (ksk_s1 _ _) ?_;unfold Builtin.«sorted»;refine a0 (m:=checkCount "sorted" 1 1 _) (bc ?_);refine a0 (Z _ λa h1 t1 H K=>?_);have n:=P a H;have I:a.length<=sizeLine:=by rw[sizeLine_eq];omega
 refine a0 (wpAny_newList ?_ I);have y:Fr h₀ L h1 m:=F.kept K;have B:News h₀ L h1 d:=N.grown K;have G:L<h1.objs.size:=y.ns.lt;have J:(h1.push (seqObj "list" a.toArray 0)).get? h1.objs.size=some (seqObj "list" a.toArray 0):=cI _ rfl;have M:∀b o,h1.get? b=some o->(h1.push (seqObj "list" a.toArray 0)).get? b=some o:=λb o e=>bZ _ e;have O:h₀.get? h1.objs.size=none:=Heap.get?_none_of_le (dI y.above (kG G));show wpAny _ _ _ _ _ {s with heap:=h1.push (seqObj "list" a.toArray 0),toks:=t1};refine a0 (ft (wpAny_call_entry_kw slot_list_sort ⟨_,J,rfl⟩ entry_list_sort ?body (ksk_l1 _ _)))
 case body=>
  show wpAny (model prog w) A.in1.in1 (Builtin.«list.sort» ⟨[.ref h1.objs.size],[(Str.ofString "key",.ref q)]⟩) _ _ _;rw[ksk_t1];refine ksk_sort (s:={s with heap:=h1.push (seqObj "list" a.toArray 0),toks:=t1}) (y.kept M) (B.grown M) J (Nat.ne_of_gt G) O (λp U=>ed (dg (B p U).1)) n (by omega) (λi v k Y T h l j x z=>u a H i v k Y T h l j x z) λh' l g c x z k'=>⟨_,rfl,?_⟩;exact bc ⟨_,rfl,done a _ h' l g c H x z (λq X=>dg (B q X).1) G O k'⟩
end
open PySem PySem.Spec PySem.SeqAt PyProof.Rows
section
variable {X:Cx}{pins:List (Addr×Obj)}{σ:St}{H:Hp}{s:mI}{h':Heap}
theorem Aj.CH{pos:Pos}{t':Nat}(I:Aj X pins σ H s)(h:H P=some (.tab q pos))(k:∀b u,b≠P->s.heap.get? b=some u->h'.get? b=some u)(j:s.heap.objs.size<=c)(x:∃o,h'.get? c=some o)
  (g:h'.get? P=some (W.tabObj #[rawInt pos.line,rawInt pos.col,.ref c]))(r:h'.CodeRec (.ref c) q):Aj X pins σ (upd H c (.own P)) {s with heap:=h',toks:=t'}:=by
 have f:H c=none:=I.aF.fresh j;have i:c≠P:=λz=>by rw[z,h]at f;cases f
 have l:∀b,H b=none->b≠P:=λb e z=>by rw[z,h]at e;cases e
 have w:∀b o,s.heap.get? b=some o->b≠c:=λb o e z=>absurd (eT (dg e) (z▸j)) (Nat.lt_irrefl _);refine I.un ⟨λb o e n _ _=>k b o (l b n) e,λb o e n _ _=>⟨o.slots,k b o (l b n) e⟩,λb o e n _=>(Ab (w b o e)).trans n,λb o e _=>?_,λb A e=>(Ab (Ae e f)).trans e,λb o u e=>(Ab (Ae e f)).trans e,λb C e=>⟨#[],by rw[Ab (Ae e f),e];simp⟩⟩ λb u e=>?_
 ·by_cases z:b=P
  ·exact⟨_,z▸g⟩
  ·exact⟨o,k b o z e⟩
 ·by_cases p:b=c
  ·subst p;rw[A5]at e;cases e;exact x
  ·rw[Ab p]at e;by_cases m:b=P
   ·subst m;rw[h]at e;cases e;exact .inr ⟨c,A5,i,g,r⟩
   ·refine(I.aF b u e).cW (λd o a v=>k d o ?_ v) (λd a=>(Ab (Ae a f)).trans a) λd A a=>(Ab (Ae a f)).trans a;rcases a with y|y
    ·rw[y];exact m
    ·intro B;rw[B,h]at y;cases y
def U1(base:Heap)(mg:Str->Option mK):Prop:=∃a o,mg "__builtins__"=some (.ref a)/\a≠builtinsNs/\a≠mainGlobals/\base.get? a=some o/\o.cls=.type "module"/\o.dict=some builtinsNs/\o.data=.plain
theorem ci{x y q:Str}(I:Aj X pins σ H s)(CJ:defaultsOf a X.env=([],[]))(kN:closureFor m X.env=pure [(y,w)])(nY:X.env.code=.ref c)(hK:W.codeHdIn X.K c P=true)(hq:X.env.qual++"<lambda>"=q)(A:H P=some (.tab q lpos))(hB:U1 X.base X.mg)
  (h:∀(f g:Addr) (l pm:mK) (s':mI) (F:Hp),Aj X pins σ F s'->A9 H F->s'.heap.get? f=some (W.kla_obj "<lambda>" q a d m [(y,w)] pm g l)->s'.heap.CodeRec (.ref g) q->(∀b o,b≠P->s.heap.get? b=some o->s'.heap.get? b=some o)->s.heap.objs.size<=f->F f=none->Q (.ref f) s'):
  wpAny (model X.prog X.w) X.A (eval (.Lambda a d m lpos) X.env) Q X.xe s:=by
 refine W.kla_eval CJ ?_;rw[hq];have Y:s.heap.Ns mainGlobals X.mg:=I.ok.mod.glob.keeps I.bk;have C:=W.codeHd_of_K I.iY hK;obtain⟨K,ob,b1,b2,b3,U,b5,b6,b7⟩:=hB;have vA:=I.bk _ _ U
 have M:K≠P:=λz=>by
  have:=(I.bs K ob U).2;rw[z,A]at this;cases this
 have T:s.heap.BuiltinsAt X.mg P:=⟨K,ob,b1,b2,b3,M,vA,b5,b6,b7⟩
 have N:mainGlobals≠P:=λz=>by
  obtain⟨o,es,ep,e,_⟩:=I.ok.mod.glob;have:=(I.bs mainGlobals o e).2;rw[z,A]at this;cases this
 rcases(show B8 X.prog X.w H s.heap P (.tab q lpos)from I.aF P _ A)with L|⟨g,Z,ne,L,CI⟩
 ·refine W.kla_makeFunction (mg:=X.mg) kN I.ok.glob Y nY C L trivial rfl N T λg l h' B hx J aK E O=>?_;have k1:∀b o,b≠P->s.heap.get? b=some o->h'.get? b=some o:=λb o R e=>hx b o R e
  have yD:∃o,h'.get? g=some o:=by
   obtain⟨v,p,D,t,n,u,_⟩:=E;cases n;exact⟨p,u⟩
  have XX:h'.get? P=some (W.tabObj #[rawInt lpos.line,rawInt lpos.col,.ref g]):=by simpa using O
  have S:=I.CH (t':=B) A k1 J yD XX E;have j:∀b o,h'.get? b=some o->(h'.push (W.kla_obj "<lambda>" q a d m [(y,w)] ((X.mg "__name__").getD .none) g l)).get? b=some o:=λb o e=>bZ _ e;have G:=S.kept (t':=B) j;have i:s.heap.objs.size<=h'.objs.size:=kG (kH J aK);exact h _ g l _ _ _ G (A9.upd (I.aF.fresh J)) (cI _ rfl) (by obtain⟨v,p,D,t,n,u,r⟩:=E;exact⟨v,p,D,t,n,j _ _ u,r⟩) (λb o R e=>j _ _ (k1 b o R e)) i (S.aF.fresh (da _))
 ·have CL:codeAmong lpos [rawInt lpos.line,rawInt lpos.col,.ref g]=some (.ref g):=codeAmong_snoc [] trivial rfl;refine W.kla_makeFunctionHit (mg:=X.mg) kN I.ok.glob Y nY C L trivial CL T λl h' B hk i=>?_;have j:∀b o,s.heap.get? b=some o->(h'.push (W.kla_obj "<lambda>" q a d m [(y,w)] ((X.mg "__name__").getD .none) g l)).get? b=some o:=λb o e=>bZ _ (hk b o e);have G:=I.kept (t':=B) j;exact h _ g l _ _ _ G (A9.refl _) (cI _ rfl) (by obtain⟨v,p,D,t,n,u,r⟩:=CI;exact⟨v,p,D,t,n,j _ _ u,r⟩) (λb o _ e=>j _ _ e) i (I.aF.fresh i)
end
open PySem PySem.Spec PySem.SeqAt PyProof.Rows
section
variable {X:Cx}
theorem Zy:D9 X (.type "range") (λxs H Q=>∃j:Int,xs=[.int j]/\∀p,H p=none->Q (.ref p) (upd H p (.pX 0 j))):=by
 intro a s d H xs c Q I r h;obtain⟨j,rfl,q⟩:=h;obtain⟨u,rfl,t,rfl⟩:=Eg r;refine call_range_1 ⟨.ref _,upd H _ (.pX 0 j),I.laid (t':=_) (λb o e=>bZ _ e) (da _) ⟨_,_,_,cI _ rfl⟩,rfl,q _ (I.aF.fresh (da _))⟩
theorem yw{h:Heap}{a:Addr}{m g:Str->Option mK}(h1:h.Ns a m)(j:h.Ns a g):m=g:=by
 obtain⟨o,n,l,e,d,_,f⟩:=h1;obtain⟨p,q,r,c,b,_,i⟩:=j;rw[e]at c;cases c;rw[d]at b;cases b;funext x;rw[<- f,<- i]
theorem Uu(G:c.length=ns.length)(hi:∀(i:Nat) (v:mK),c[i]?=some v->∃t:Tok,v=Value.int ((i:Nat):Int) t)(h:KskOut false ns c f):
  ∃ord:List Nat,Ay (ord.map λ(k:Nat)=>V.int ((k:Nat):Int)) f/\ord.Perm (List.range ns.length)/\ord.Pairwise (λa b=>ns.getD a 0<=ns.getD b 0):=by
 obtain⟨j,n,u,w⟩:=h
 have g:∀p∈j,∃(k:Nat) (t:Tok),k<ns.length/\p=(ns.getD k 0,Value.int ((k:Nat):Int) t):=λp o=>by
  have q:=n.mem_iff.mp o;obtain⟨i,y⟩:=List.getElem?_of_mem q;obtain⟨s,A⟩:=List.getElem?_zip_eq_some.mp y;obtain⟨t,l⟩:=hi i p.2 A;have C:=(bG.mp s).1;refine⟨i,t,C,?_⟩;rw[List.getD_eq_getElem?_getD,s];show p=(p.1,_);rw[<- l]
 refine⟨j.map λp=>(numOf p.2).toNat,?_,?_,?_⟩
 ·rw[u];clear n u w
  induction j with
  |nil=>exact .nil
  |cons p j E=>
   obtain⟨k,t,_,e⟩:=g p cL;refine .cons ?_ (E λx D=>g x (dr _ D));rw[e];exact⟨t,rfl⟩
 ·have m:=n.map (λp:Int×mK=>(numOf p.2).toNat);refine m.trans (List.Perm.of_eq ?_);apply List.ext_getElem?;intro i;rw[List.getElem?_map];by_cases r:i<ns.length
  ·have q:(ns.zip c)[i]?=some (ns[i],c[i]'(by omega)):=List.getElem?_zip_eq_some.mpr ⟨dt r,dt (by omega)⟩;obtain⟨t,l⟩:=hi i (c[i]'(by omega)) (dt (by omega));rw[q,List.getElem?_range r];show some (numOf (c[i]'(by omega))).toNat=some i;rw[l];rfl
  ·rw[List.getElem?_eq_none (by rw[List.length_zip];omega),List.getElem?_eq_none (by rw[List.length_range];omega)];rfl
 ·rw[List.pairwise_map];refine w.imp_of_mem λ{p F} m B d=>?_;obtain⟨k,t,_,e⟩:=g p m;obtain⟨H,I,_,z⟩:=g F B;rw[e,z]at d⊢;exact d
variable {k:Nat}{params:Arguments}{body:Expr}{bM:Scope}{x y q:Str}{lpos kpos p pos:Pos}{c P:Addr}{j:Nat}{e:Expr}{tr:TA}
def j8(K:W.Frag)(P:Addr)(q:Str)(lpos:Pos)(j:Nat)(tr:TA):TE:=λi H Q=>tr i H λl g=>∃(r D:Addr) (f:mv),l=[.ref r]/\g r=some (.pX 0 ((f.length:Nat):Int))/\i[j]?=some (some (.ref D))/\B6 K g D (f.map V.int)/\f.length<64/\g P=some (.tab q lpos)/\
 ∀(p:Addr) (d:List Nat) (h:Hp),A9 g h->g p=none->h p=some (.lst (d.map λ(k:Nat)=>V.int ((k:Nat):Int)))->d.Perm (List.range f.length)->d.Pairwise (λa b=>f.getD a 0<=f.getD b 0)->Q (.ref p) h
theorem V2(hr:Ba k X.A)(L:Lam params body bM x y)(kN:∀l,X.env.cells.lookup y=some l->closureFor bM X.env=pure [(y,l)])(hky:X.env.kindOf y=some .cell)(hN:X.N[j]?=some y)(hv:yj X.env.scope y)(CJ:defaultsOf params X.env=([],[]))(nY:X.env.code=.ref c)(hK:W.codeHdIn X.K c P=true)(hq:X.env.qual++"<lambda>"=q)(hB:U1 X.base X.mg)
  (hg:Gl X "sorted")(hm:X.mg "sorted"=none)(ha:PA X [e] tr)(he:starEach [e] X.env=[(false,eval e X.env)]:=by rfl):PE X (.Call (.Name "sorted" p) [e] [⟨some "key",.Lambda params body bM lpos,kpos⟩] pos) (j8 X.K P q lpos j tr):=by
 intro J s σ H Q I h;refine wpAny_Call_Name_kw (Ea I hg hm boot_sorted ?_ (by decide) (by decide));refine callWith_kw (he:=by rw[he];rfl) (hplain:=by rw[he];rfl) (Bj (ha pos J s σ H _ I h) λus s1 aR=>?_);obtain⟨Y,H1,I1,r1,q1⟩:=aR;obtain⟨r,D,O,rfl,XY,hσ,hD,wB,hP,q2⟩:=q1;obtain⟨u,rfl,ru⟩:=Eg r1;cases ru;obtain⟨m0,qB,hl0⟩:=I1.loc;obtain⟨u0,ru0,lk⟩:=hl0 j y (.ref D) hN hσ hv;cases ru0
 obtain⟨l,IP,fD⟩:∃l,X.env.cells.lookup y=some l/\s1.heap.IsCell l (some (.ref D)):=by
  rcases lk with⟨z,_⟩|⟨_,l,z1,z2⟩
  ·rw[hky]at z;cases z
  ·exact⟨l,z1,z2⟩
 show wpAny _ _ (evalAll [(do let v <- eval (.Lambda params body bM lpos) X.env;standAt pos;pure v)]) _ _ s1;refine wpAny_evalAll_cons (a0 (ci (x:=x) I1 CJ (kN l IP) nY hK hq hP hB λf c' uZ pm a H' g sm ef CI kk hfz SS=>?_));refine a0 (wpAny_standAt (bc (wpAny_evalAll_nil ?_)));show wpAny _ _ (call (.builtin "sorted") [.ref r] [(Str.ofString "key",.ref f)]) _ _ a;obtain⟨m,hn,_⟩:=g.loc;have F:Fr X.base X.env.locals a.heap m:=⟨hn,g.bk,dI g.ok.vI g.ok.above⟩;have N:News X.base X.env.locals a.heap (Hg X.base a.heap X.env.locals):=d5;obtain⟨aA,rv,pl,hz⟩:=g.list (sm.seq hD);have XE:aA.length=O.length:=by rw[<- rv.length,List.length_map]
 have nZ:∀(b:Addr) (o:Obj),a.heap.get? b=some o->(∀es ep,o.data≠ .dict es ep)->b≠X.env.locals:=λb o e w z=>by
  obtain⟨o',es,ep,e',d',_⟩:=hn;rw[z,e']at e;cases e;exact w _ _ d'
 obtain⟨t1,t2,t3,XZ⟩:=(show B8 X.prog X.w H' a.heap r (.pX 0 ((O.length:Nat):Int))from g.aF r _ (sm _ _ XY))
 have CM:l≠P:=λz=>by
  have:=I1.bE y l IP;rw[z,hP]at this;cases this
 have CN:a.heap.IsCell l (some (.ref D)):=by
  obtain⟨o,B,G⟩:=fD;exact⟨o,kk _ _ CM B,G⟩
 have kept:∀{h:Heap}{S:List (Addr×Obj)},Fr X.base X.env.locals h m->News X.base X.env.locals h (Hg X.base a.heap X.env.locals++S)->∀b o,b≠X.env.locals->a.heap.get? b=some o->h.get? b=some o:=λ{h S} A M b o nb e=>by
  cases qq:X.base.get? b with
  |some o'=>
   have:=g.bk b o' qq;rw[e]at this;cases this;exact A.keep b _ qq
  |none=>exact(M (b,o) (gv _ (Kx nb qq e))).1
 refine Vh (h₀:=X.base) (L:=X.env.locals) (m:=m) (kz:=O) (C:=λY=>Y.length=O.length/\∀(i:Nat) (v:mK),Y[i]?=some v->∃t:Tok,v=Value.int ((i:Nat):Int) t) F N rfl wB (λR hR=>?_) (λY U=>U.1.symm) (λY U i v kk' hvi hki h tk S A M=>?_) λY K C tk out c2 U A M aK hL hD0 ko=>?_
 ·refine S1 (A:=X.A.in1) hr.hd XZ (small_one (by omega) (by omega) (by omega) (by omega)) (n:=O.length) (by rw[rangeSize_one];split<;>omega) (by omega) λh1 tk acc k1 hI=>hR _ h1 tk ⟨by rw[Array.length_toList];exact hI.1,λi v hv=>?_⟩ k1;obtain⟨t,e⟩:=hI.2 i v (by rw[<- Array.getElem?_toList];exact hv);exact⟨t,by rw[e];congr 1;omega⟩
 ·obtain⟨t,rfl⟩:=U.2 i v hvi;have hi:i<O.length:=(bG.mp hki).1;obtain⟨w',ew,jP⟩:=rv.get (show(O.map V.int)[i]?=some (.int kk')by rw[List.getElem?_map,hki];rfl);obtain⟨t',rfl⟩:=jP;have E:=kept A M;have hfD:f≠X.env.locals:=nZ f _ ef λ_ _ z=>by cases z
  have YA:h.CodeRec (.ref c') q:=by
   obtain⟨c3,oc,vs3,t4,G,qJ,w,YB⟩:=CI;cases G;exact⟨_,oc,vs3,t4,rfl,E _ _ (nZ _ _ qJ λ_ _ z=>by rw[w]at z;cases z) qJ,w,YB⟩
  have CO:h.IsCell l (some (.ref D)):=by
   obtain⟨o,B,G⟩:=CN;exact⟨o,E _ _ (nZ _ _ B λ_ _ z=>by rw[G]at z;cases z) B,G⟩
  have KC:h.IsList D aA.toArray:=by
   obtain⟨o,B,G,n2,e3⟩:=pl.isList;exact⟨o,E _ _ (nZ _ _ B λ_ _ z=>by rw[e3]at z;cases z) B,G,n2,e3⟩
  refine wpAny_call (codeAny_mono (cj (s:={a with heap:=h,toks:=tk}) L hr.depth (E _ _ hfD ef) YA CO KC (g.ok.mod.nolimit.keeps A.keep) ew (by rw[XE,sizeLine_eq];omega) (R:=λres s3=>∃C qW,res=.ok (.ret (.int kk' t'))/\s3={a with heap:=C,toks:=qW}/\∀b o,h.get? b=some o->C.get? b=some o) λC qW k'=>⟨C,qW,rfl,rfl,k'⟩) λres s3 vY=>?_);obtain⟨C,qW,rfl,rfl,k'⟩:=vY;exact⟨C,qW,t',rfl,rfl,A.kept k',M.grown k'⟩
 ·obtain⟨ord,KD,aJ,KG⟩:=Uu U.1 U.2 ko
  have Z:a.heap.get? K=none:=by
   cases qq:a.heap.get? K with
   |none=>rfl
   |some o=>exact absurd (aK _ (Kx (Nat.ne_of_gt hL) hD0 qq)) (Nat.lt_irrefl _)
  have T:H' K=none:=g.aF.off Z;have N2:News X.base X.env.locals C (Hg X.base a.heap X.env.locals++[]):=λp hp=>M p (dr _ (by simpa using hp));have E:=kept A N2;have B:=(M _ cL).1
  have I2:Aj X J σ (upd H' K (.lst (ord.map λ(k:Nat)=>V.int ((k:Nat):Int)))) {a with heap:=C,gens:=a.gens,drawn:=a.drawn,toks:=tk}:=by
   refine g.step (ch:=[]) (λ_ z=>nomatch z) (λb o hb _ _ e _=>E b o hb e) (λb o hb _ _ e _=>⟨o.slots,E b o hb e⟩) (λb o _ e n=>(Ab λz=>by rw[z,Z]at e;cases e).trans n) (λb o _ e=>?_) (λb xs e=>(Ab (Ae e T)).trans e) (λb o u e=>(Ab (Ae e T)).trans e) (λb ps e=>⟨#[],by rw[Ab (Ae e T),e];simp⟩) (λm1 h1=>?_) (λb u e=>?_) g.bare
   ·by_cases z:b=X.env.locals
    ·obtain⟨o',es,ep,e',_⟩:=A.ns;exact⟨o',z▸e'⟩
    ·exact⟨o,E b o z e⟩
   ·rw[yw h1 hn];exact A.ns
   ·by_cases z:b=K
    ·subst z;rw[A5]at e;cases e;refine⟨?_,out.toList,c2,KD,by simpa using B⟩;rw[List.length_map,aJ.length_eq,List.length_range,sizeLine_eq];omega
    ·rw[Ab z]at e;refine(g.aF b u e).cW (λd o w ho=>E d o ?_ ho) (λd w=>(Ab (Ae w T)).trans w) λd xs w=>(Ab (Ae w T)).trans w;intro y;have hJ:=g.free;rcases w with w1|w1
     ·rw[<- y,w1,e]at hJ;cases hJ
     ·rw[<- y,w1]at hJ;cases hJ
  exact⟨.ref K,_,I2,rfl,q2 K ord _ (sm.trans (A9.upd T)) (sm.free T) A5 aJ KG⟩
end
theorem Yp{P:m8}{w:nP}{K:W.Frag}{mg mb:Str->Option mK}{CX:Zl}{k:Nat}{fa a pt:Addr}{q:Str}{pos:Pos}{fd:nr}{x:Str}{sp:Sp}{c:mI}{A:List mK}{ns:mv}
  (KX:K.In c.heap)(nW:c.heap.Ns mainGlobals mg)(y:c.heap.Ns builtinsNs mb)(X:∀x:Str,x≠"__name__"->mb x=bootBuiltins x)(YC:c.heap.NoLimit)(hg:c.gens=#[])
  (D:c.heap.get? pt=some (W.tabObj #[]))(YD:K.lookup pt=none)(YE:isCodeTable c.heap pt)
  (C:c.heap.get? a=some {cls:=.type "list",data:=.seq A.toArray})(hi:IntsAre A ns)(hl:ns.length<=sizeLine)(hr:Ba k callerA)
  (hB:c.heap.BuiltinsAt mg pt)(F:∀base:Heap,K.In base->base.Ns mainGlobals mg->U1 base mg->Bf P w K mg base CX k fa fd [x] sp)(KH:∀(s:mI) (u:mK),BindsTo s fd ⟨[u],[]⟩ [(x,u)])
  (uU:∀H:Hp,H pt=some (.tab q pos)->B6 K H a (ns.map V.int)->sp [.ref a] H (λv O=>v=.bl true/\O pt=some (.tab q pos)) λ_ _ _=>False)
  (YF:∀H e s',CX [] H c (λ_ _ _=>False) e s'->False):
  codeAny (model P w) callerA (.call (.ref fa) ⟨[.ref a],[]⟩) (λr s'=>r=.ok (.ret (.bool true))/\OldK c.heap s'.heap/\s'.os=c.os/\AllBare s'.gens) c:=by
 have rv:=Hu hi;have YG:=hi.length
 have M:pt≠a:=λz=>by
  rw[z,C]at D;cases D
 have p:∀H:Hp,(∀b,b≠pt->H b=none\/∃o xs,H b=some (.bA o (.lst xs)))->H pt=some (.tab q pos)->B6 K H a (ns.map V.int)->Ga P w H c.heap->(∀b,H b≠none->b=a\/b=pt)->(H a≠none->K.lookup a=none)->
   codeAny (model P w) callerA (.call (.ref fa) ⟨[.ref a],[]⟩) (λr s'=>r=.ok (.ret (.bool true))/\OldK c.heap s'.heap/\s'.os=c.os/\AllBare s'.gens) c:=by
  intro H hO U hS aF S hK;have Z:∀{b:Addr}{o:Obj},c.heap.get? b=some o->H b=none->(O4 c.heap H).get? b=some o:=λe n=>bo e n
  have IW:∀{b:Addr}{o:Obj}{I:Array DictEntry}{G:Nat},c.heap.get? b=some o->o.data=.dict I G->H b=none:=λ{b o I G} e d=>by
   cases i:H b with
   |none=>rfl
   |some u=>
    rcases S b (by rw[i];simp)with g|g
    ·subst g;rw[C]at e;cases e;have d':Data.seq A.toArray _=Data.dict I G:=d;cases d'
    ·subst g;rw[D]at e;cases e;cases d
  have N:∀{b:Addr}{m:Str->Option mK},c.heap.Ns b m->(O4 c.heap H).Ns b m:=λ{b m} ⟨o,I,G,e,d,r⟩=>⟨o,I,G,Z e (IW e d),d,r⟩
  have J:K.In (O4 c.heap H):=λb o e=>Z (KX b o e) (by
   cases i:H b with
   |none=>rfl
   |some u=>
    rcases S b (by rw[i];simp)with g|g
    ·subst g;rw[hK (by rw[i];simp)]at e;cases e
    ·subst g;rw[YD]at e;cases e)
  have hM:Mod K mg (O4 c.heap H):=⟨J,N nW,⟨mb,N y,X⟩,let⟨mc,h1,h2⟩:=YC;⟨mc,N h1,h2⟩⟩
  have T:U1 (O4 c.heap H) mg:=by
   obtain⟨R,o,b1,b2,b3,b4,Q,b6,b7,b8⟩:=hB;refine⟨R,o,b1,b2,b3,Z Q ?_,b6,b7,b8⟩;cases i:H R with
   |none=>rfl
   |some u=>
    rcases S R (by rw[i];simp)with g|g
    ·rw[g,C]at Q;cases Q;cases b8
    ·exact absurd g b4
  have e0:jj P w K mg (O4 c.heap H) callerA [] c H:=⟨rfl,hM,λb o e=>lf e,Nat.le_of_eq (Yi _ _),trivial,λb y=>absurd (show b∈([]:List Addr)from y) (by simp),aF,.of_eq hg⟩;refine codeAny_mono ((F _ J (N nW) T).run callerA [] c H ⟨[.ref a],[]⟩ [.ref a] [.ref a] _ _ hr e0 (KH c (.ref a)) (.cons rfl .nil) (uU H U hS)) λr s' h=>?_;cases r with
  |error e=>exact(YF H e s' h).elim
  |ok fl=>
   cases fl with
   |next=>exact False.elim h
   |brk=>exact False.elim h
   |cont=>exact False.elim h
   |ret u=>
    obtain⟨v,O,os,E,un,KI,r',q1,q2⟩:=h;subst q1;obtain rfl:u=Value.bool true:=r';refine⟨rfl,⟨λb o e=>?_,λb o e=>un.there b o e (by simp)⟩,os,E⟩;by_cases L:b=pt
    ·subst L;rw[D]at e;cases e;rcases(show B8 P w O s'.heap b (.tab q pos)from KI b _ q2)with B|⟨c',_,_,B,_⟩
     ·exact .inl B
     ·exact .inr (.inl ⟨YE,rfl,#[],_,rfl,by simpa using B⟩)
    ·refine .inl ?_;cases i:H b with
     |none=>exact un.keep b o e i (by intro z;exact absurd (show b∈([]:List Addr)from z) (by simp)) (by simp)
     |some u=>
      rcases hO b L with z|⟨ob,xs,z⟩
      ·rw[i]at z;cases z
      ·have z2:=un.cX b ob _ z;obtain⟨B,_⟩:=aF b _ z;obtain⟨e2,_⟩:=KI b _ z2;rw[e]at B;cases B;exact e2
 have yE:∀H:Hp,B8 P w H c.heap pt (.tab q pos):=λH=>.inl D;cases Y:K.lookup a with
 |some o=>
  have e:=KX a o Y;rw[C]at e;cases e;refine p (λb=>if b=pt then some (.tab q pos)else none) (λb y=>.inl (if_neg y)) (if_pos rfl) (.inr ⟨_,A.toArray,_,Y,rfl,rfl,rfl,by rw[List.size_toArray,YG];exact hl,by simpa using rv⟩) (λb u z=>?_) (λb z=>?_) λz=>absurd (if_neg M.symm) z
  ·by_cases f:b=pt
   ·have l:=(if_pos f).symm.trans z;cases l;subst f;exact yE _
   ·have l:=(if_neg f).symm.trans z;cases l
  ·by_cases f:b=pt
   ·exact .inr f
   ·exact absurd (if_neg f) z
 |none=>
  refine p (λb=>if b=pt then some (.tab q pos)else if b=a then some (.bA {cls:=.type "list",data:=.seq A.toArray} (.lst (ns.map V.int)))else none) (λb y=>?_) (if_pos rfl) (.inl (.inr ⟨{cls:=.type "list",data:=.seq A.toArray},(if_neg M.symm).trans (if_pos rfl)⟩)) (λb u z=>?_) (λb z=>?_) λ_=>Y
  ·by_cases j:b=a
   ·exact .inr ⟨_,_,(if_neg y).trans (if_pos j)⟩
   ·exact .inl ((if_neg y).trans (if_neg j))
  ·by_cases f:b=pt
   ·have l:=(if_pos f).symm.trans z;cases l;subst f;exact yE _
   ·have z1:=(if_neg f).symm.trans z;by_cases j:b=a
    ·have l:=(if_pos j).symm.trans z1;cases l;subst j;exact⟨C,by rw[List.length_map];exact hl,A,_,rv,C⟩
    ·have l:=(if_neg j).symm.trans z1;cases l
  ·by_cases f:b=pt
   ·exact .inr f
   ·by_cases j:b=a
    ·exact .inl j
    ·exact absurd ((if_neg f).trans (if_neg j)) z
theorem walk_ofT{l:W.OpenLaw}{n k:Nat}{q:m8}{j:List Str}{Z:(Str->Option mK)->Heap->Prop}{A:nP->Heap->Prop}{d:DefRec}{K:Params->W.Frag}{CX:nP->Zl}{sp:nP->Sp}{x:Str}{pt:Addr}{lq:Str}{lpos:Pos}
  (hn:l.most=some n)(U:n<=sizeLine)(I:d.params.defaults=[])(hr:Ba k callerA)
  (hY:∀(w:nP) (h:Heap),A w h->(K w.params).In h)(P:∀(w:nP) (h:Heap),A w h->h.get? pt=some (W.tabObj #[]))
  (F:∀(w:nP) (mg:Str->Option mK) (fa:Addr) (h:Heap),(K w.params).In h->h.Ns mainGlobals mg->mg d.name=some (.ref fa)->
   ((K w.params).lookup pt=none/\∃c,W.codeHdIn (K w.params) c pt=true)/\∃C:nr,(∀(s:mI) (u:mK),BindsTo s C ⟨[u],[]⟩ [(x,u)])/\
    ∀base:Heap,(K w.params).In base->base.Ns mainGlobals mg->U1 base mg->Bf l.prog w (K w.params) mg base (CX w) k fa C [x] (sp w))
  (uU:∀(w:nP) (H:Hp) (a:Addr) (ns:mv),ns.length<=n->(∀z∈ns,PySem.Builtin.Int.intBits z<=2^20)->H pt=some (.tab lq lpos)->B6 (K w.params) H a (ns.map V.int)->sp w [.ref a] H (λv T=>v=.bl true/\T pt=some (.tab lq lpos)) λ_ _ _=>False)
  (YF:∀(w:nP) (H:Hp) (s:mI) (e:mK) (s':mI),CX w [] H s (λ_ _ _=>False) e s'->False):
  W.WalkO q j Z A l.row.toRowW d [] (λf p=>PySem.call f p):=by
 intro w Q b mg mb G Y fa o pm cd doc dV kV ho hd mD O J hg L S as vP YH UK xO hlo;obtain rfl:dV=.none:=W.Dflts.none O I;obtain rfl:kV=.none:=W.Dflts.noKw O;obtain⟨a,p,ns,rfl,rfl,YI,i,g⟩:=Att.pI hn vP xO
 have big:∀z∈ns,PySem.Builtin.Int.intBits z<=2^20:=λz hz=>by
  have l1:=(W.layW_cons YH).1;have l2:=W.layableW_item l1 (.int z) (eH.mpr ⟨z,hz,rfl⟩);have l3:=(W.layableW_iff.mp l2).2.2;simpa only[W.WData.weight,Builtin.Int.intBits]using l3
 have y:=hY w _ Y;obtain⟨⟨YD,c,E⟩,C,hb,hF⟩:=F w mg fa _ y G.T.g J
 have YE:isCodeTable b.heap pt:=by
  obtain⟨o,p,N,tf,D,tg,inF,R,tt,e1,e2,e3,e4,_⟩:=W.codeHd_of_K y E;exact⟨c,o,p,e1,e2,e3,e4⟩
 have X:b.heap.BuiltinsAt mg pt:=by
  obtain⟨bm,ob,b1,b2,m,M,b5,B⟩:=G.T.bmain;refine⟨bm,ob,b1,b2,λz=>?_,λz=>?_,m,M,b5,B⟩
  ·obtain⟨o',es,ep,e,fB,_⟩:=G.T.g;rw[z,e]at m;cases m;rw[fB]at B;cases B
  ·have:=P w _ Y;rw[z,this]at m;cases m;cases M
 refine W.enter_call (codeAny_mono (Yp (q:=lq) (pos:=lpos) y G.T.g G.T.b G.T.builtins G.T.nolimit hg (P w _ Y) YD YE YI i (dI g U) hr X hF hb (λH hP hS=>uU w H a ns g big hP hS) λH e s'=>YF w H b e s') λr s' hq=>?_);obtain⟨rfl,h2,h3,h4⟩:=hq;exact⟨.inl ⟨.bool true,.bool true,[],rfl,λ_=>rfl,.bool true,Att.pJ l _,λ_=>⟨List.Pairwise.nil,λ_ hm=>(nomatch hm)⟩⟩,h2,h3,h4⟩
structure jm(K:W.Frag)(x qual:Str)(st:Stmt)(f:Addr)(fd:nr)(c pt:Addr):Prop where
 fn:Dn K x qual st f fd
 code:fd.code=.ref c
 tab:W.codeHdIn K c pt=true
theorem jm.xV{P:m8}{w:nP}{K:W.Frag}{mg:Str->Option mK}{base:Heap}{x a:Str}{st:Stmt}{f:Addr}{d:nr}{c pt:Addr}{N ps:List Str}{k:Nat}{sp:Sp}(F:jm K x a st f d c pt)(S:Ai N ps (A8 st))(len:∀b H Q E,sp b H Q E->b.length=ps.length)
  (h:∀(A:nf) (outer:List Env) (s:mI) (H:Hp) (b:List V) (Q:VK) (E:XK),Ba k (A.deeper (envOfC a (A8 st) s.heap.objs.size f (.ref c)))->sp b H Q E->
   ∃t,Od (F9 (CX1 P w) P w K mg base N a (A8 st) f (.ref c) A outer s H E) (Bi st) t/\t {nx:=λ_ e=>Q .aP e,rt:=Q} (start N b) H):Bf P w K mg base (CX1 P w) (k+1) f d ps sp:=by
 obtain⟨p,q,kV,i,r,m,g,n,o,rfl,j,l⟩:=F.fn.ex;obtain rfl:g=.ref c:=F.code;exact b9 j l S len h
theorem S0{env:Env}(c:b.names=[(x,.local),(y,.free)])(h:env.cells.lookup y=some a):closureFor b env=pure [(y,a)]:=by
 unfold closureFor;rw[c];simp[cellOf,h]
def Ls(xs:Array Nat):Prop:=xs.toList.Pairwise (·<·)
theorem Ua(q:Ls xs):∀(fuel lo hi:Nat),hi-lo<=fuel->lo<=hi->hi<=xs.size->(∀i a,i<lo->xs[i]?=some a->a<j)->(∀i a,hi<=i->xs[i]?=some a->j<=a)->
  SetTable.below.go xs j fuel lo hi<=xs.size/\(∀i a,i<SetTable.below.go xs j fuel lo hi->xs[i]?=some a->a<j)/\∀i a,SetTable.below.go xs j fuel lo hi<=i->xs[i]?=some a->j<=a
 |0,lo,hi,y,p,m,h,l=>by
  unfold SetTable.below.go;have e:lo=hi:=by omega
  subst e;exact⟨m,h,l⟩
 |fuel+1,lo,hi,y,p,m,h,l=>by
  unfold SetTable.below.go;by_cases r:lo<hi
  ·rw[if_pos r];have g:(lo+hi)/2<xs.size:=by omega
   have f:xs[(lo+hi)/2]?=some (xs[(lo+hi)/2]'g):=Array.getElem?_eq_getElem g;have x:xs.getD ((lo+hi)/2) j=xs[(lo+hi)/2]'g:=by simp[Array.getD,g]
   dsimp only;rw[x];generalize xs[(lo+hi)/2]'g=b at f
   have up:∀i k a c,i<k->xs[i]?=some a->xs[k]?=some c->a<c:=λi k a c o d w=>by
    have u:=iT.mp d;have s:=iT.mp w;have:=List.pairwise_iff_getElem.mp q i k (by simpa using u.1) (by simpa using s.1) o;simp only[Array.getElem_toList]at this;rw[u.2,s.2]at this;exact this
   by_cases n:b<j
   ·rw[if_pos n];refine Ua q fuel _ _ (by omega) (by omega) m (λi a v d=>?_) l;rcases il i ((lo+hi)/2)with z|z
    ·have:=up i _ a b z d f;omega
    ·rw[show i=(lo+hi)/2 by omega,f]at d;cases d;exact n
   ·rw[if_neg n];refine Ua q fuel _ _ (by omega) (by omega) (by omega) h (λi a v d=>?_);rcases il ((lo+hi)/2) i with z|z
    ·have:=up _ i b a z f d;omega
    ·rw[show i=(lo+hi)/2 by omega,f]at d;cases d;omega
  ·rw[if_neg r];have e:lo=hi:=by omega
   subst e;exact⟨m,h,l⟩
theorem UL(j:Nat)(b:Ls xs):SetTable.below xs j<=xs.size/\(∀i a,i<SetTable.below xs j->xs[i]?=some a->a<j)/\∀i a,SetTable.below xs j<=i->xs[i]?=some a->j<=a:=
 Ua b xs.size 0 xs.size (by omega) (jT _) (da _) (λi a h=>absurd h (kE _)) λi a h e=>by
  have:=(iT.mp e).1;omega
theorem qd(f:Ls xs)(h:xs[i]?=some a):SetTable.below xs (a+1)=i+1:=by
 obtain⟨g,b,c⟩:=UL (a+1) f;have e:=iT.mp h;generalize SetTable.below xs (a+1)=p at g b c;rcases Nat.lt_trichotomy p (i+1)with z|z|z
 ·have:=c i a (by omega) h;omega
 ·exact z
 ·have j:xs[i+1]?=some (xs[i+1]'(by omega)):=Array.getElem?_eq_getElem (by omega);have:=b (i+1) _ z j;have d:=List.pairwise_iff_getElem.mp f i (i+1) (by simpa using e.1) (by simp;omega) (by omega);simp only[Array.getElem_toList]at d;rw[e.2]at d;omega
theorem Zw(e:Ls xs):SetTable.below xs 0=0:=by
 obtain⟨b,a,c⟩:=UL 0 e;generalize SetTable.below xs 0=p at b a c;cases p with
 |zero=>rfl
 |succ p=>
  have d:xs[0]?=some (xs[0]'(by omega)):=Array.getElem?_eq_getElem (by omega);exact absurd (a 0 _ (by omega) d) (kE _)
theorem Va(g:Ls xs)(q:j∉xs.toList):Ls (SetTable.insertAt xs (SetTable.below xs j) j):=by
 obtain⟨o,h,l⟩:=UL j g;generalize SetTable.below xs j=p at o h l⊢;unfold Ls;rw[SetTable.toList_insertAt]
 have n:∀a∈xs.toList.take p,a<j:=λa f=>by
  obtain⟨i,c⟩:=gy.mp f;rw[List.getElem?_take]at c;split at c
  ·exact h i a (by assumption) (by simpa using c)
  ·cases c
 have m:∀b∈xs.toList.drop p,j<b:=λb d=>by
  obtain⟨i,c⟩:=gy.mp d;rw[List.getElem?_drop]at c;have:=l (p+i) b (by omega) (by simpa using c);have r:j≠b:=λe=>q (e▸List.mem_of_mem_drop d);omega
 refine List.pairwise_append.mpr ⟨List.Pairwise.sublist (List.take_sublist ..) g,List.pairwise_cons.mpr ⟨m,List.Pairwise.sublist (List.drop_sublist ..) g⟩,λa f b d=>?_⟩;rcases d3.mp d with e|d
 ·rw[e];exact n a f
 ·exact Nat.lt_trans (n a f) (m b d)
theorem Z7(n:Nat):Ls (Array.range n):=by
 unfold Ls;rw[Array.toList_range];exact List.pairwise_lt_range
structure Bm(t:SetTable)(led:Bool):Prop where
 vC:Ls t.place
 YJ:t.dummies=#[]
 led:t.led=led
theorem Bm.fresh(a b:Nat)(led:Bool):Bm (.fresh a b led) led:=⟨List.Pairwise.nil,rfl,rfl⟩
theorem Bm.standIn{t:SetTable}{led:Bool}(h:Bm t led)(n:Nat):Bm (t.standIn n) led:=⟨Z7 n,rfl,h.led⟩
theorem Bm.off{t:SetTable}{led:Bool}(h:Bm t led):Bm {t with plain:=false} led:=⟨h.vC,h.YJ,h.led⟩
theorem Wx(j:Nat):SetTable.has #[] j=false:=by
 unfold SetTable.has;simp
theorem Bm.probe{t:SetTable}{led:Bool}(g:Bm t led)(f:Nat->Int)(h:Int):∀(fuel:Nat) (p:SetTable.Probe) (j:Nat) (d:Option Nat),SetTable.probe.go t f h fuel p=some (.empty j d)->d=p.dummy/\t.slot j=.empty
 |0,p,j,d,e=>by
  unfold SetTable.probe.go at e;cases e
 |fuel+1,p,j,d,e=>by
  unfold SetTable.probe.go at e;split at e
  ·rename_i a;cases e;exact⟨rfl,a⟩
  ·rename_i a;unfold SetTable.slot at a;simp only[g.YJ,Wx]at a;split at a
   ·cases a
   ·cases a
  ·split at e
   ·cases e
   ·have:=Bm.probe g f h fuel _ j d e;refine⟨this.1.trans ?_,this.2⟩;unfold SetTable.advance;split<;>rfl
theorem Bm.free{t:SetTable}{led:Bool}(g:Bm t led){h:Int}{j:Nat}{b:Bool}(e:t.freeSlot h=some (j,b)):j∉t.place.toList:=by
 unfold SetTable.freeSlot at e;split at e
 ·rename_i a d w;obtain⟨s,f⟩:=g.probe _ _ _ _ _ _ w;have o:d=none:=s;subst o;cases e;intro v;obtain⟨i,u⟩:=gy.mp v;obtain⟨x,p,q⟩:=UL a g.vC;have c:t.place[i]?=some a:=by simpa using u
  have m:i=SetTable.below t.place a:=by
   rcases Nat.lt_trichotomy i (SetTable.below t.place a)with z|z|z
   ·have:=p i a z c;omega
   ·exact z
   ·have n:=(iT.mp c).1;have r:t.place[SetTable.below t.place a]?=some (t.place[SetTable.below t.place a]'(by omega)):=Array.getElem?_eq_getElem (by omega);have y:=q _ _ (da _) r;have l:=List.pairwise_iff_getElem.mp g.vC _ i (by simp;omega) (by simpa using n) z;simp only[Array.getElem_toList]at l;rw[(Array.getElem?_eq_some_iff.mp c).2]at l;omega
  unfold SetTable.slot at f;dsimp only at f;rw[<- m,c]at f;simp at f
 ·cases e
theorem Bm.put{t:SetTable}{led:Bool}(g:Bm t led){j:Nat}(h:j∉t.place.toList):Bm (t.put j).1 led:=by
 refine⟨Va g.vC h,?_,g.led⟩;show(if SetTable.has t.dummies j then _ else t.dummies)=_;rw[g.YJ,Wx];rfl
theorem Bm.orStandIn{t:SetTable}{led:Bool}(g:Bm t led)(n:Nat):Bm (t.orStandIn n) led:=by
 unfold SetTable.orStandIn;split
 ·exact g
 ·exact g.standIn n
theorem Bm.layNew{t:SetTable}{led:Bool}(g:Bm t led)(es:Array (Int×mK))(h:Int)(x:mK):Bm (layNew t es h x).2.1 led:=by
 unfold PySem.layNew;split
 ·rename_i a b e;exact(g.put (g.free e)).orStandIn _
 ·exact g.standIn _
theorem Bm.laid{g a b:Nat}{led h:Bool}{q:Array Int}{t:SetTable}{o:Array Nat}(e:SetTable.laid g a b led h q=some (t,o)):Bm t led:=by
 unfold SetTable.laid at e;cases p:SetTable.layClean g q with
 |none=>rw[p]at e;cases e
 |some f=>
  rw[p]at e;cases e;refine⟨?_,rfl,rfl⟩;show List.Pairwise _ _;simp only[List.toList_toArray];rw[List.map_filterMap];refine List.Pairwise.filterMap _ (R:=(·<·)) (λi k r a j b l=>?_) List.pairwise_lt_range;cases m:f.getD i none with
  |none=>simp[m]at j
  |some c=>
   cases n:f.getD k none with
   |none=>simp[n]at l
   |some d=>
    simp[m]at j;simp[n]at l;omega
theorem Bm.KJ{t:SetTable}{led:Bool}(g:Bm t led)(es:Array (Int×mK))(n:Nat):Bm (relayAll t es n).2.1 led:=by
 unfold relayAll;split
 ·rename_i b a e;dsimp only;split
  ·have:=Bm.laid e;rw[g.led]at this;exact this
  ·exact g.standIn _
 ·exact g.standIn _
section
variable {P:m8}{w:nP}{A:nf}{E:mr}{s:mI}{κ:Type} [DecidableEq κ]
def Lu(knd:KeyKind P w κ)(h:Heap)(a:Addr)(led:Bool)(d:List κ)(n:Nat):Prop:=
 ∃(o:Obj) (b:Array (Int×mK)) (c:Nat) (t:SetTable),h.get? a=some o/\o.ExactSet/\o.data=.set b c t/\ElemsOf knd b.toList/\(∀k,k∈d↔∃e∈b.toList,knd.is k e.2=true)/\b.size<=n/\t.fits b.size=true/\Bm t led
variable {knd:KeyKind P w κ}
theorem Lu.at{led:Bool}{c:List κ}{n:Nat}(g:Lu knd h a led c n)(keep:∀o,h.get? a=some o->h'.get? a=some o):Lu knd h' a led c n:=by
 obtain⟨o,e,d,t,f,b⟩:=g;exact⟨o,e,d,t,keep _ f,b⟩
theorem stored{h:Heap}{a:Addr}{o:Obj}{c es:Array (Int×mK)}{ep:Nat}{t0:SetTable}(t:SetTable)(d:h.get? a=some o)(b:o.data=.set c ep t0):
  (h.update a (Obj.putSet es t)).get? a=some {o with data:=.set es (ep+1) t}:=by
 have e:=g0 (Obj.putSet es t) d (by rw[putSet_of es t b];rfl);rw[putSet_of es t b]at e;exact e
theorem pe{v:Bool->Sem Unit}(m:∀(b:Bool) (z:mI) (R:Unit->mI->Prop),R () z->wpAny (model P w) A (v b) R E z){a:Addr}{o:Obj}{F es:Array (Int×mK)}{ep n:Nat}{t0 t:SetTable}{led:Bool}{B:List κ}(y:s.heap.get? a=some o)(ex:o.ExactSet)(x:o.data=.set F ep t0)
  (r:ElemsOf knd es.toList)(mem:∀k,k∈B↔∃e∈es.toList,knd.is k e.2=true)(le:es.size<=n)(H:n<scanBound)(h:t.fits es.size=true)(c:Bm t led){G:Bool}{R:Option Bool->mI->Prop}
  (q:∀h',Heap.SameBut a s.heap h'->Lu knd h' a led B n->R (some true) {s with heap:=h'}):
  wpAny (model P w) A (do
    storeSet a es t
    if(!G&&t.tooFull)=true then do
      v (relayAll t es (SetTable.grown es.size)).2.2
      storeSet a (relayAll t es (SetTable.grown es.size)).1 (relayAll t es (SetTable.grown es.size)).2.1
      pure (some true)
     else pure (some true)) R E s:=by
 have g:es.size<=sizeLine:=fits_of_scanBound (by omega);refine a0 (wpAny_storeSet_of y x ?_ g);have p:=stored (es:=es) t y x;have D:=hX s.heap a (Obj.putSet es t);split
 ·have d:=relayAll_perm t es (SetTable.grown es.size);have i:=relayAll_fits t es (SetTable.grown es.size);have j:=c.KJ es (SetTable.grown es.size);generalize relayAll t es (SetTable.grown es.size)=all at d i j⊢;obtain⟨f,C,u⟩:=all;dsimp only at d i j⊢
  have sz:f.size=es.size:=by
   have:=d.length_eq;simpa using this
  refine a0 (m _ _ _ ?_);refine a0 (wpAny_storeSet_of p rfl ?_ (by omega));refine bc (q _ (D.trans (hX _ a _)) ⟨_,f,_,C,stored C p rfl,ex,rfl,r.perm d,λk=>(mem k).trans ⟨λ⟨e,l,z⟩=>⟨e,d.mem_iff.mpr l,z⟩,λ⟨e,l,z⟩=>⟨e,d.mem_iff.mp l,z⟩⟩,by omega,i,j⟩)
 ·exact bc (q _ D ⟨_,es,_,t,p,ex,rfl,r,mem,le,h,c⟩)
theorem A0s{a:Addr}{led:Bool}{D:List κ}{n:Nat}{k:κ}{x:mK}{Q:Bool->mI->Prop}(B:knd.is k x=true)(F:x.scannable=true)(g:Lu knd s.heap a led D n)(O:n+1<scanBound)
  (q:∀b h',Heap.SameBut a s.heap h'->Lu knd h' a led (k::D) (n+1)->Q b {s with heap:=h'}):wpAny (model P w) A (setAddHashed a x (knd.hash k)) Q E s:=by
 obtain⟨o,d,S,t,C,G,y,r,mem,Y,m,f⟩:=g;unfold setAddHashed setAddHashedIn;refine ft (a0 (wpAny_setState_of C y m ?_));dsimp only;rw[byScan_of F (by omega) r];simp only[↓reduceIte];unfold setAddByScan;refine a0 ?_;refine a0 (kb ?_);refine a0 (wpAny_setScan_of B C y m r ?_);cases J:List.findIdx? (λe=>knd.is k e.2) d.toList with
 |some j=>
  dsimp only;obtain⟨T,U,_⟩:=List.findIdx?_eq_some_iff_getElem.mp J;have p:k∈D:=(mem k).mpr ⟨d.toList[j],kI T,U⟩;refine bc (bc ?_);have e:s={s with heap:=s.heap}:=by cases s;rfl
  rw[e];refine q _ s.heap (Heap.SameBut.refl a s.heap) ⟨o,d,S,t,C,G,y,r,λl=>?_,by omega,m,f⟩;rw[List.mem_cons,<- mem l];exact⟨λz=>z.elim (λe=>e▸p) id,.inr⟩
 |none=>
  dsimp only;have c:=layNew_perm t d (knd.hash k) x;have u:=layNew_fits t d (knd.hash k) x;have v:=f.layNew d (knd.hash k) x;generalize layNew t d (knd.hash k) x=all at c u v⊢;obtain⟨L,Z,X,N⟩:=all;dsimp only at c u v⊢;rw[Array.toList_push]at c
  have sz:L.size=d.size+1:=by
   have:=c.length_eq;simpa using this
  have M:∀l,l∈k::D↔∃e∈L.toList,knd.is l e.2=true:=λl=>by
   rw[List.mem_cons,mem l];constructor
   ·rintro(rfl|⟨e,i,z⟩)
    ·exact⟨(knd.hash l,x),c.mem_iff.mpr (gd _ (iv.mpr rfl)),B⟩
    ·exact⟨e,c.mem_iff.mpr (gv _ i),z⟩
   ·rintro⟨e,i,z⟩;rcases fe.mp (c.mem_iff.mp i)with i|i
    ·exact .inr ⟨e,i,z⟩
    ·rw[List.mem_singleton]at i;subst i;exact .inl (knd.inj x l k z B)
  have I:∀(b:Bool) {z:mI}{R:Unit->mI->Prop},R () z->wpAny (model P w) A (match b with|true=>rule "set.scan.the-table-gave-way"|false=>pure ()) R E z:=λb z R h=>by
   cases b
   ·exact bc h
   ·exact kb h
  refine a0 (I _ ?_);split
  ·refine a0 ?_;rw[hashByValue_scannable 8 F];refine bc ?_;refine pe (led:=led) (λb z R h=>?_) C G y ((r.push B F).perm c) M (n:=n+1) (by omega) O ?_ ?_ λh' K H=>?_
   ·exact I b h
   ·split
    ·exact u
    ·exact SetTable.fits_plain_off u
   ·split
    ·exact v
    ·exact v.off
   ·exact bc (q _ h' K H)
  ·refine a0 (bc ?_);simp only[↓reduceIte];refine pe (led:=led) (λb z R h=>?_) C G y ((r.push B F).perm c) M (n:=n+1) (by omega) O u v λh' K H=>?_
   ·exact I b h
   ·exact bc (q _ h' K H)
end
section
variable {P:m8}{w:nP}{A:nf}{R:Result->mI->Prop}{κ:Type} [DecidableEq κ] {knd:KeyKind P w κ}
theorem yu{led:Bool}{B l:List Addr}{G:Array GenState->Array GenState->Prop}{n:Nat}{Pr:Nat->mK->Prop}{St:Nat->mI->Prop}(W:WalksS P w A.in1 I B l G n Pr St)(j:S∉B){f:Nat->κ}(Y:∀i v,Pr i v->knd.is (f i) v=true/\v.scannable=true)(mJ:n+1<scanBound):
  ∀(m i:Nat) (s:mI),n=i+m->St i s->Lu knd s.heap S led ((List.range i).map f) i->
   (∀z,Moved (S::l) G s z->Lu knd z.heap S led ((List.range n).map f) n->R (.ok (.ret .none)) z)->codeAny (model P w) A (.builtin "set.update.loop" ⟨[.ref S,.ref I],[]⟩) R s:=by
 have x:S∉l:=λz=>j (W.sub _ z);have a:∀b∈l,b∈S::l:=λb z=>dr _ z;intro m
 induction m with
 |zero=>
  intro i s e u g q;obtain rfl:n=i:=by omega
  refine codeAny_builtin PyProof.Rows.F.entry_set_update_loop ?_;rw[Around.under_plainId PyProof.Rows.F.plain_set_update_loop _];show wpAny _ A.in1 (pyNext (.ref I)>>=_) _ _ s;refine a0 (W.done s _ _ u λz h=>?_);show wpAny _ A.in1 (ret Value.none) _ _ z;exact bc (q z (h.mono a) (g.at λo c=>h.heap S o x c))
 |succ m Z=>
  intro i s e u g q;refine codeAny_builtin PyProof.Rows.F.entry_set_update_loop ?_;rw[Around.under_plainId PyProof.Rows.F.plain_set_update_loop _];show wpAny _ A.in1 (pyNext (.ref I)>>=_) _ _ s;refine a0 (W.item i s _ _ (by omega) u λv z pr E h=>?_);obtain⟨C,pK⟩:=Y i v pr;have O:=g.at λo c=>h.heap S o x c;show wpAny _ A.in1 (holding [v] (setAdd S v)>>=_) _ _ z;refine a0 (ft ?_);unfold setAdd;refine ft (a0 (knd.pyHash C ?_));refine A0s (s:={z with toks:=z.toks+1}) C pK O (by omega) λb X D Q=>?_
  have T:Lu knd X S led ((List.range (i+1)).map f) (i+1):=by
   obtain⟨o,N,M,t,F,H,J,K,L,d⟩:=Q;refine⟨o,N,M,t,F,H,J,K,λk=>?_,d⟩;rw[<- L k,List.range_succ,List.map_append,List.mem_append,List.mem_cons];simp only[List.map_cons,List.map_nil,List.mem_singleton];exact⟨λz=>z.elim .inr .inl,λz=>z.elim .inr .inl⟩
  refine bc ⟨kA PyProof.Rows.F.plain_set_update_loop _,Z (i+1) _ (by omega) (W.frame _ z _ _ E (Nat.le_succ _) λb r o c=>?_) T λy my U=>?_⟩
  ·rw[D.2 b (λp:b=S=>j (by rw[<- p];exact r))];exact c
  ·refine q y (Moved.trans W.gtrans ((h.mono a).then_heap (Nat.le_succ _) λb o r c=>?_) my) U;rw[D.2 b (λp:b=S=>r (by rw[p];exact List.mem_cons_self))];exact c
end
section
variable {P:m8}{w:nP}{A:nf}{E:mr}{s:mI}{κ:Type} [DecidableEq κ] {knd:KeyKind P w κ}
abbrev P2(w:nP):Bool:= !w.params.followText "set-order"
theorem Y3(a:mK)(q:Q (.ref s.heap.objs.size) {s with heap:=s.heap.push (Ex (P2 w)) }):
  codeAny (model P w) A (.call (.builtin "set.__new__") ⟨[.type "set",a],[]⟩) (wants Q E) s:=by
 refine codeAny_of_tree ?_;show wpAny _ A.in1 (checkBuiltinCall "set.__new__" ⟨[.type "set",a],[]⟩>>=λ_=>again (.builtin "set.__new__" ⟨[.type "set",a],[]⟩)) _ _ s;refine a0 (wpAny_of_eq (PySem.F.newCall_set_1 a) (bc ⟨kA PySem.F.plain_set_new _,codeAny_builtin PySem.F.entry_set_new ?_⟩));rw[Around.under_plainId PySem.F.plain_set_new _];unfold Builtin.«set.__new__» Builtin.Frozenset.newClass;have b:=sub_set_self;obtain⟨c,g,d,f,e⟩:=s;dsimp only
 wp_walk
 refine wpAny_askSetting (bc ?_);dsimp only;simp only[newObj];refine a0 (wpAny_alloc (bc ?_));exact bc q
theorem yk{a:Array mK}{f:Nat->κ}{Q:mr}(no:A.handled=none)(Y:s.heap.IsList l a)(U:∀i v,a[i]?=some v->knd.is (f i) v=true/\v.scannable=true)(mJ:a.size+1<scanBound)
  (q:∀(d:Heap) (h:Nat),Lu knd d s.heap.objs.size (P2 w) ((List.range a.size).map f) a.size->(∀b o,b<s.heap.objs.size->s.heap.get? b=some o->d.get? b=some o)->Q (.ref s.heap.objs.size) {s with heap:=d,toks:=h}):
  wpAny (model P w) A (call (.type "set") [.ref l]) Q E s:=by
 have L:=PySem.F.called_set.mro;obtain⟨cc,tl,L⟩:=L;have md:=PySem.F.called_set.made;have sb:=PySem.F.called_set.sub;refine wpAny_call (codeAny_of_tree ?_);show wpAny _ _ (callAny (.type "set") _) _ _ _;refine bc (And.intro (Code.quiet_builtin _ (by decide+kernel)) (codeAny_builtin PySem.F.entry_type_call ?_));rw[Around.under_plain (weight_type_call_type "set" [.ref l] []) rfl];have nt:=PySem.F.called_set.notType;have cn:=PySem.F.called_set.canCreate;have tc:=PySem.F.typeCall_set_1 (.ref l)
 repeat (any_goals (first|wp_step|assumption))
 refine codeAny_mono (Y3 (.ref l) (E:=E) (Q:=λx z=>x=.ref s.heap.objs.size/\z={s with heap:=s.heap.push (Ex (P2 w)) }) ⟨rfl,rfl⟩) λr z n=>?_;cases r with
 |error e=>exact n
 |ok S=>
  cases S with
  |ret x=>
   obtain⟨rfl,rfl⟩:=n;generalize G:P2 w=c at*;have ne:(s.heap.push (Ex c)).get? s.heap.objs.size=some (Ex c):=cI _ rfl;have ty:Shared.TypeIs {s with heap:=s.heap.push (Ex c) } (.ref s.heap.objs.size) "set":=⟨_,ne,rfl⟩;have li:=PySem.F.called_set.init.lookup;have bi:=PySem.F.called_set.init.bind (.ref s.heap.objs.size)
   repeat (any_goals (first|wp_step|assumption))
   refine codeAny_mono (codeAny_call_builtin (R:=wants (λr y=>r=.none/\∃d h,y={s with heap:=d,toks:=h}/\Lu knd d s.heap.objs.size c ((List.range a.size).map f) a.size/\∀b o,b<s.heap.objs.size->s.heap.get? b=some o->d.get? b=some o) E) PySem.F.called_set.init.plain PySem.F.entry_set_init (check_set_init_1 ty ?_)) λr2 y p=>?_
   ·obtain⟨⟨c0,M,O,B⟩,H,D,J,F⟩:=Y;simp only at D F;subst D F;have uX:(s.heap.push (Ex c)).get? l=some {cls:=.type "list",dict:=M,data:=.seq a J,slots:=B}:=bZ _ H;have n1:=PySem.F.sub_list_set;have n2:=PySem.F.sub_list_frozenset;have n3:(Value.type "list"==Value.type "dict")=false:=by decide
    have I:(s.heap.push (Ex c)).IsList l a:=⟨_,uX,rfl,J,rfl⟩;have K:l<s.heap.objs.size:=dg H;unfold Builtin.«set.__init__» noKeywords Builtin.Frozenset.updateFrom;generalize m:pyIter=it
    wp_walk
    subst m;refine wpAny_pyIter_list I (a0 (wpAny_runValue ?_));have u:A.in1.in1.in1.handled=none:=by simp[no]
    have sz:(s.heap.push (Ex c)).objs.size=s.heap.objs.size+1:=Heap.size_push ..;refine yu (knd:=knd) (f:=f) (led:=c) ((Walks.list u _ l (by rw[sz];exact ed (Nat.lt_succ_of_lt K)) a).toS) (S:=s.heap.objs.size) (λz=>by rcases d3.mp z with e|e;exact absurd e (by rw[sz];exact ed (Nat.lt_succ_self _));exact absurd (iv.mp e) (Nat.ne_of_gt K)) U mJ a.size 0 _ (by omega) ⟨⟨_,cI _ rfl,rfl,rfl⟩,(I.push _)⟩ ?_ λz j g=>?_
    ·have X:((s.heap.push (Ex c)).push {cls:=.type "list_iterator",data:=.fields #[.ref l,.int 0 0] }).get? s.heap.objs.size=some (Ex c):=bZ _ ne;exact⟨_,#[],0,_,X,⟨rfl,rfl,rfl⟩,rfl,(λe z=>by simp at z),(λk=>by simp),da _,rfl,Bm.fresh 0 0 c⟩
    ·obtain⟨d,T,N,h,os⟩:=z;obtain rfl:T=s.gens:=j.gens;obtain rfl:N=s.drawn:=j.drawn;obtain rfl:os=s.os:=j.os;show wpAny _ _ _ _ _ _;refine bc ?_;show wpAny _ _ (ret Value.none) _ _ _;refine bc ⟨rfl,d,h,rfl,g,λb o C e=>j.heap b o (λz=>?_) (bZ _ (bZ _ e))⟩;rcases d3.mp z with y|y
     ·exact absurd y (ed C)
     ·exact absurd (iv.mp y) (by rw[sz];exact ed (Nat.lt_succ_of_lt C))
   ·cases r2 with
    |error e=>exact p
    |ok R=>
     cases R with
     |ret r=>
      obtain⟨rfl,d,h,rfl,g,Z⟩:=p
      repeat (any_goals (first|wp_step|assumption))
      exact q _ _ g Z
     |_=>exact p.elim
  |_=>exact n.elim
end
theorem Tm:Manifest.owners.lookup (String.ofList ['r','o','t','a','r','e','t','i','_','t','e','s'].reverse)=some Manifest.sig_set_iterator:=by kernel_rfl
theorem Fv:Slot "set_iterator" "__next__" "set_iterator.__next__":=.of (owner:="set_iterator") (n:="__next__") (by rw[typeLookup_type,builtinLookup_eq_fast];kernel_rfl) (by decide+kernel) (by decide+kernel) (by decide+kernel) (by first|exact .inl (by decide+kernel)|exact .inr (by decide+kernel)) (by rw[isSubtype_type];kernel_rfl)
theorem Tl:entryFor table "set_iterator.__next__"=some Builtin.«set_iterator.__next__»:=entryFor_of_tree (by kernel_rfl)
theorem Xk(a:mK):argsOk "set_iterator.__next__" ⟨[a],[]⟩:=by
 unfold argsOk;rw[signature?_of (id:="set_iterator.__next__") (n:=['_','_','t','x','e','n','_','_']) (o:=['r','o','t','a','r','e','t','i','_','t','e','s']) (by kernel_rfl) Tm]
 kernel_rfl
theorem Xl:Slot "set_iterator" "__iter__" "set_iterator.__iter__":=.of (owner:="set_iterator") (n:="__iter__") (by rw[typeLookup_type,builtinLookup_eq_fast];kernel_rfl) (by decide+kernel) (by decide+kernel) (by decide+kernel) (by first|exact .inl (by decide+kernel)|exact .inr (by decide+kernel)) (by rw[isSubtype_type];kernel_rfl)
theorem Ra(a:mK):argsOk "set_iterator.__iter__" ⟨[a],[]⟩:=by
 unfold argsOk;rw[signature?_of (id:="set_iterator.__iter__") (n:=['_','_','r','e','t','i','_','_']) (o:=['r','o','t','a','r','e','t','i','_','t','e','s']) (by kernel_rfl) Tm]
 kernel_rfl
theorem O9:entryFor table "set_iterator.__iter__"=some Builtin.«dict_keyiterator.__iter__»:=entryFor_alias (id':="dict_keyiterator.__iter__") (by kernel_rfl) (by first|rfl|decide+kernel|(unfold String.splitOn;simp+decide [String.splitOnAux])) (by decide+kernel) (by kernel_rfl)
theorem Nk:entryFor table "set.__iter__"=some Builtin.«frozenset.__iter__»:=entryFor_alias (id':="frozenset.__iter__") (by kernel_rfl) (by first|rfl|decide+kernel|(unfold String.splitOn;simp+decide [String.splitOnAux])) (by decide+kernel) (by kernel_rfl)
def F6(h:Heap)(it:Addr)(first:mK)(i:Nat)(S:Addr)(n ep:Nat):Prop:=∃o,h.get? it=some o/\o.cls=.type "set_iterator"/\o.data=.fields #[first,rawInt i,.ref S,rawInt n,rawInt ep]
theorem F6.ty{s:mI}{it S:Addr}{first:mK}{i n ep:Nat}(x:F6 s.heap it first i S n ep):s.TypeIs (.ref it) "set_iterator":=let⟨o,b,a,_⟩:=x;⟨o,b,a⟩
theorem F6.at{first:mK}(x:F6 h it first i S n ep)(k:∀o,h.get? it=some o->h'.get? it=some o):F6 h' it first i S n ep:=let⟨o,a,r⟩:=x;⟨o,k _ a,r⟩
theorem Il:∀{l:List a}{i:Nat}{x:a},l[i]?=some x->(x::l.eraseIdx i).Perm l
 |[],i,x,h=>by cases h
 |y::l,0,x,h=>by
  cases h;exact List.Perm.refl _
 |y::l,i+1,x,h=>by
  have b:=Il (l:=l) (i:=i) (x:=x) (by simpa using h);exact(List.Perm.swap y x _).trans (b.cons y)
theorem X1(a:Nat->Nat):∀(fuel k:Nat) (left:List d) (b:Array d),left.length<=fuel->(pickOrder.go a fuel k left b).toList.Perm (b.toList++left)
 |0,k,left,b,h=>by
  unfold pickOrder.go;have e:left=[]:=List.length_eq_zero_iff.mp (by omega);rw[e];simp
 |fuel+1,k,left,b,h=>by
  unfold pickOrder.go;split
  ·rename_i x c;have f:=(bG.mp c);have i:=X1 a fuel (k+1) (left.eraseIdx (a k%left.length)) (b.push x) (by rw[List.length_eraseIdx,if_pos f.1];omega);refine i.trans ?_;rw[Array.toList_push,List.append_assoc];refine List.Perm.append_left _ ?_;exact Il c
  ·rename_i c;have:left.length<=a k%left.length:=List.getElem?_eq_none_iff.mp c
   have g:left.length=0:=by
    rcases Nat.eq_zero_or_pos left.length with z|z
    ·exact z
    ·have:=Nat.mod_lt (a k) z;omega
   rw[List.length_eq_zero_iff.mp g];simp
theorem Z5(a:Nat->Nat)(xs:Array b):(pickOrder a xs).toList.Perm xs.toList:=by
 have:=X1 a xs.size 0 xs.toList #[] (by simp);simpa[pickOrder]using this
section
variable {P:m8}{w:nP}{A:nf}{E:mr}{s:mI}
theorem Zh(a:0<n)(q:∀i d,i<n->Q i {s with drawn:=d}):wpAny (model P w) A (choose .order n) Q E s:=λc p b=>by
 show Sem.wp _ _ (.choose .order n .pure) _ _ _ _;rw[Sem.wp_choose];refine⟨by omega,?_⟩;show Sem.wp _ _ (Sem.pure _) _ _ _ _;rw[Sem.wp_pure];exact q _ _ (Nat.mod_lt _ a)
theorem Jx:∀(n:Nat) (xs:List c) (s:mI) {Q:List c->mI->Prop},xs.length=n->(∀ys d,ys.Perm xs->Q ys {s with drawn:=d})->wpAny (model P w) A (drawOrder n xs) Q E s
 |0,xs,s,Q,h,q=>by
  rw[List.length_eq_zero_iff.mp h]at q⊢;unfold drawOrder;have e:s={s with drawn:=s.drawn}:=by cases s;rfl
  rw[e];exact bc (q [] s.drawn (List.Perm.refl _))
 |n+1,[],s,Q,h,q=>by cases h
 |n+1,x::xs,s,Q,h,q=>by
  unfold drawOrder;refine a0 (Zh (by rw[h];omega) λi d a=>?_);have b:(x::xs)[i]?=some ((x::xs)[i]'a):=dt a;rw[b];dsimp only;refine a0 (Jx n _ _ (by rw[List.length_eraseIdx,if_pos a];omega) λys f g=>bc ?_);refine q _ f ?_;exact(List.Perm.cons _ g).trans (Il b)
end
def Qg(es:Array (Int×mK))(t:SetTable):Bool:= !t.plain&&decide (es.size>1)
inductive Ny(w:nP)(h:Heap)(S:Addr)(es:Array (Int×mK))(ep:Nat)(t:SetTable)(T:Addr)(ord:List mK)(i:Nat):mK->Prop
 |text (slot:Nat):w.params.followText "set-order"=true->ord=(pickOrder (w.params.setOrder S ep) es).toList.map (·.2)->Ny w h S es ep t T ord i (rawInt slot)
 |plain (slot:Nat):w.params.followText "set-order"=false->Qg es t=false->t.led=true->Ls t.place->ord=es.toList.map (·.2)->SetTable.below t.place slot=i->Ny w h S es ep t T ord i (rawInt slot)
 |drawn (pl:List Nat):h.IsTuple T (pl.map λ(k:Nat)=>rawInt k).toArray->(∀k∈pl,k<es.size)->ord=pl.filterMap (λk=>(es[k]?).map (·.2))->ord.length=pl.length->Ny w h S es ep t T ord i (.ref T)
theorem nz{b d:Type}{f:b->Option d}:∀{l:List b},(∀x∈l,(f x).isSome)->∀(i:Nat),(l.filterMap f)[i]?=l[i]?.bind f
 |[],_,i=>by simp
 |x::l,h,i=>by
  have a:=h x cL;cases e:f x with
  |none=>rw[e]at a;cases a
  |some y=>
   rw[List.filterMap_cons_some e];cases i with
   |zero=>simp[e]
   |succ i=>simpa using nz (λz c=>h z (dr _ c)) i
section
variable {P:m8}{w:nP}{A:nf}{E:mr}{s:mI}{S:Addr}{o:Obj}{es:Array (Int×mK)}{ep:Nat}{t:SetTable}
theorem P6(d:s.heap.get? S=some o)(c:o.data=.set es ep t)(b:t.fits es.size=true)(bt:w.params.followText "set-order"=true)
  (q:Q (((pickOrder (w.params.setOrder S ep) es)[i]?).map λe=>(e.2,a)) s):wpAny (model P w) A (setNext S a i ep) Q E s:=by
 unfold setNext;refine a0 (wpAny_setState_of d c b ?_);dsimp only;refine a0 (a0 (wpAny_askSetting (bc ?_)));show wpAny _ _ (if(w.params.followText "set-order")=true then _ else _) _ _ _;rw[if_pos bt];show wpAny _ _ (if(ep != ep)=true then _ else _) _ _ _;rw[if_neg (by simp)];refine a0 ?_;unfold setWalk;refine a0 (wpAny_setState_of d c b ?_);dsimp only;refine a0 (a0 (wpAny_askSetting (bc ?_)));show wpAny _ _ (if(w.params.followText "set-order")=true then _ else _) _ _ _;rw[if_pos bt];refine a0 (wpAny_askSetting (bc (bc ?_)));exact q
theorem N0(d:s.heap.get? S=some o)(c:o.data=.set es ep t)(b:t.fits es.size=true)(bt:w.params.followText "set-order"=false)(e:Qg es t=false)(led:t.led=true)
  (q:Q (match es[SetTable.below t.place a]?,t.place[SetTable.below t.place a]? with|some (_,x),some j=>some (x,j+1)|_,_=>none) s):wpAny (model P w) A (setNext S a i ep) Q E s:=by
 unfold setNext;refine a0 (wpAny_setState_of d c b ?_);dsimp only;refine a0 (a0 (wpAny_askSetting (bc ?_)));show wpAny _ _ (if(w.params.followText "set-order")=true then _ else _) _ _ _;rw[if_neg (by rw[bt];decide)];show wpAny _ _ (if Qg es t=true then _ else _) _ _ _;rw[if_neg (by rw[e];decide)];refine a0 ?_;show wpAny _ _ (if(!t.led&& !es.isEmpty)=true then _ else _) _ _ _;rw[if_neg (by rw[led];simp)];exact bc (bc q)
theorem Lm{h:Heap}{it S:Addr}{a:Obj}{first x y:mK}{i n ep:Nat}(d:h.get? it=some a)(c:a.cls=.type "set_iterator")(b:a.data=.fields #[first,rawInt i,.ref S,rawInt n,rawInt ep]):
  F6 (h.update it (Obj.mapFields (·.setIfInBounds 1 (rawInt ((i:Int)+1))))) it first (i+1) S n ep/\(h.update it (Obj.mapFields (·.setIfInBounds 0 x))).get? it=some (Obj.mapFields (·.setIfInBounds 0 x) a)/\(Obj.mapFields (·.setIfInBounds 0 x) a).cls=.type "set_iterator"/\(Obj.mapFields (·.setIfInBounds 0 x) a).data=.fields #[x,rawInt i,.ref S,rawInt n,rawInt ep]:=by
 refine⟨⟨_,g0 _ d (Obj.isFreed_of_fields (Obj.data_mapFields b _)),(Obj.cls_mapFields ..).trans c,?_⟩,g0 _ d (Obj.isFreed_of_fields (Obj.data_mapFields b _)),(Obj.cls_mapFields ..).trans c,?_⟩
 ·rw[Obj.data_mapFields b];simp[rawInt]
 ·rw[Obj.data_mapFields b];simp
theorem bz{it T:Addr}{first v:mK}{i:Nat}{ord:List mK}{Q:Option mK->mI->Prop}(r:F6 s.heap it first i S es.size ep)(H:s.heap.get? S=some o)(G:o.data=.set es ep t)(b:t.fits es.size=true)(hm:Ny w s.heap S es ep t T ord i first)(h:ord[i]?=some v)(nT:it≠T)
  (q:∀X h',F6 h' it X (i+1) S es.size ep->Ny w h' S es ep t T ord (i+1) X->Heap.SameBut it s.heap h'->Q (some v) {s with heap:=h'}):wpAny (model P w) A (pyNext (.ref it)) Q E s:=by
 have ty:=r.ty;obtain⟨o',n,N,p⟩:=r;unfold pyNext;refine a0 (kQ (kM (name:=Str.ofString "__next__") ty Fv (hH Fv ty Tl ?_ (Xk _))));unfold Builtin.«set_iterator.__next__»;refine a0 (wpAny_of_eq (a:=(Value.ref it,[])) rfl ?_);refine a0 (wpAny_fieldsOf n p ?_);show wpAny _ _ (setEntries S>>=_) _ _ _;refine a0 (wpAny_setEntries_of H G b ?_);show wpAny _ _ (if(((es.size:Nat):Int) != ((es.size:Nat):Int))=true then _ else _) _ _ _;rw[if_neg (by simp)]
 have d:∀(l:Nat),Ny w ((s.heap.update it (Obj.mapFields (·.setIfInBounds 0 (rawInt l)))).update it (Obj.mapFields (·.setIfInBounds 1 (rawInt ((i:Int)+1))))) S es ep t T ord (i+1) (rawInt l)->∀{R:Fin->mI->Prop}{F:mr},(∀j,Q (some v) j->R (.done (.ret v)) j)->wpAny (model P w) A.in1 (do setField (.ref it) 0 (rawInt l);setField (.ref it) 1 (rawInt ((i:Int)+1));ret v) R F s:=λl dZ R F hR=>
  ia (Q:=λf j=>f=.done (.ret v)/\Q (some v) j) (E:=λ_ _=>False) (by
   obtain⟨_,L,e2,M⟩:=Lm (x:=rawInt l) (y:=v) n N p;refine a0 (wpAny_setField n p (by simp) ?_);refine a0 (wpAny_setField (s:={s with heap:=s.heap.update it (Obj.mapFields (·.setIfInBounds 0 (rawInt l))) }) L M (by simp) ?_);obtain⟨I,_⟩:=Lm (x:=rawInt l) (y:=v) L e2 M;exact bc ⟨rfl,q _ _ I dZ ((hX ..).trans (hX ..))⟩) (λf j ⟨e,u⟩=>by rw[e];exact hR j u) λ_ _ z=>z.elim
 cases hm with
 |text a m c=>
  show wpAny _ _ (setNext S (a:Int).toNat ((i:Nat):Int).toNat ((ep:Nat):Int).toNat>>=_) _ _ _;refine a0 (P6 H G b m ?_);simp only[Int.toNat_natCast];rw[c,List.getElem?_map,Array.getElem?_toList]at h;obtain⟨e,g,rfl⟩:=dm.mp h;rw[g];exact d a (.text a m c) λj u=>⟨_,rfl,bc u⟩
 |plain a m Y y Z c hb=>
  show wpAny _ _ (setNext S (a:Int).toNat ((i:Nat):Int).toNat ((ep:Nat):Int).toNat>>=_) _ _ _;refine a0 (N0 H G b m Y y ?_);simp only[Int.toNat_natCast];rw[c,List.getElem?_map,Array.getElem?_toList]at h;obtain⟨e,g,rfl⟩:=dm.mp h
  have hsz:t.place.size=es.size:=by
   simp only[SetTable.fits,Bool.and_eq_true,beq_iff_eq]at b;exact b.1
  have hi:=(iT.mp g).1;have U:t.place[i]?=some (t.place[i]'(by omega)):=Array.getElem?_eq_getElem (by omega);rw[hb,g,U];exact d _ (.plain _ m Y y Z c (qd Z U)) λj u=>⟨_,rfl,bc u⟩
 |drawn B O J c hl=>
  obtain⟨oT,YL,_,nT2,YM⟩:=id O;show wpAny _ _ (seqItems? (Value.ref T)>>=_) _ _ _;refine a0 (fC YL YM ?_);have hi:=(bG.mp h).1;have D:B[i]?=some (B[i]'(by omega)):=dt (by omega);have C:=J _ (cb D);generalize B[i]'(by omega)=k at D C;have g:es[k]?=some (es[k]'C):=Array.getElem?_eq_getElem C;generalize es[k]'C=e at g
  have K:v=e.2:=by
   rw[c,nz (λx hx=>by rw[Array.getElem?_eq_getElem (J x hx)];rfl),D]at h;simp[g]at h;exact h.symm
  subst K
  have YN:(B.map λ(k:Nat)=>rawInt k).toArray[((i:Nat):Int).toNat]?=some (rawInt k):=by
   rw[Int.toNat_natCast,List.getElem?_toArray,List.getElem?_map,D];rfl
  dsimp only;rw[YN];show wpAny _ _ (setNextDrawn S ((k:Nat):Int).toNat ((ep:Nat):Int).toNat>>=_) _ _ _;refine a0 ?_;unfold setNextDrawn;refine a0 (wpAny_setState_of H G b ?_);dsimp only;rw[if_neg (by simp)];simp only[Int.toNat_natCast,g];refine bc ?_;obtain⟨I,_⟩:=Lm (x:=e.2) (y:=e.2) n N p;refine a0 (wpAny_setField n p (by simp) ?_);refine bc ⟨_,rfl,bc (q _ _ I (.drawn B ?_ J c hl) (hX ..))⟩;exact O.at λo e=>(ea _ _ nT).trans e
theorem j0{it T:Addr}{first:mK}{i:Nat}{ord:List mK}{Q:Option mK->mI->Prop}(G:A.handled=none)(h:F6 s.heap it first i S es.size ep)(p:s.heap.get? S=some o)(m:o.data=.set es ep t)(c:t.fits es.size=true)(H:Ny w s.heap S es ep t T ord i first)(I:ord.length=i)(O:ord.length=es.size)
  (q:∀h',Heap.ExtBut it s.heap h'->Q none {s with heap:=h'}):wpAny (model P w) A (pyNext (.ref it)) Q E s:=by
 have ty:=h.ty;obtain⟨Z,f,C,g⟩:=h;unfold pyNext;refine a0 (kQ (kM (name:=Str.ofString "__next__") ty Fv (hH Fv ty Tl ?_ (Xk _))));unfold Builtin.«set_iterator.__next__»;refine a0 (wpAny_of_eq (a:=(Value.ref it,[])) rfl ?_);refine a0 (wpAny_fieldsOf f g ?_);show wpAny _ _ (setEntries S>>=_) _ _ _;refine a0 (wpAny_setEntries_of p m c ?_);show wpAny _ _ (if(((es.size:Nat):Int) != ((es.size:Nat):Int))=true then _ else _) _ _ _;rw[if_neg (by simp)]
 have d:∀(r:Heap) {R:Fin->mI->Prop},Heap.ExtBut it s.heap r->wpAny (model P w) A.in1 (do let e <- newExc (.type "StopIteration") [];raiseNew e) R (λe N=>wpAny (model P w) A (do let b <- isInstance e (Value.type "StopIteration");if b=true then pure none else throw e) Q E N) {s with heap:=r}:=λr R J=>by
  refine a0 ?_;simp only[newExc,newTuple];refine a0 (g6 ?_ (by size_fits));refine a0 (m:=firstArgMember _ _) (wpAny_of_eq (a:=Value.none) (by first|rfl|(simp only[firstArgMember];rfl)) ?_);refine g6 ?_ (by size_fits);simp only[raiseNew];refine a0 (wpAny_handled ?_);rw[show A.in1.handled=none from G];refine a0 (bc (wpAny_throw ?_));refine a0 (ka (T:="StopIteration") (b:=true) ⟨_,cI _ rfl,rfl⟩ isSubtype_stop ?_);exact bc (q _ ((J.push _).push _))
 cases H with
 |text a j l=>
  show wpAny _ _ (setNext S (a:Int).toNat ((i:Nat):Int).toNat ((ep:Nat):Int).toNat>>=_) _ _ _;refine a0 (P6 p m c j ?_);simp only[Int.toNat_natCast]
  have n:(pickOrder (w.params.setOrder S ep) es)[i]?=none:=by
   rw[Array.getElem?_eq_none_iff];rw[l,List.length_map,Array.length_toList]at I;omega
  rw[n];refine a0 (wpAny_setField f g (by simp) ?_);exact d _ (hX ..).extBut
 |plain a j L u vC l F=>
  show wpAny _ _ (setNext S (a:Int).toNat ((i:Nat):Int).toNat ((ep:Nat):Int).toNat>>=_) _ _ _;refine a0 (N0 p m c j L u ?_);simp only[Int.toNat_natCast]
  have n:es[i]?=none:=by
   rw[Array.getElem?_eq_none_iff];omega
  rw[F,n];refine a0 (wpAny_setField f g (by simp) ?_);exact d _ (hX ..).extBut
 |drawn M D X l Y=>
  obtain⟨oT,v,_,K,x⟩:=id D;show wpAny _ _ (seqItems? (Value.ref T)>>=_) _ _ _;refine a0 (fC v x ?_)
  have y:(M.map λ(k:Nat)=>rawInt k).toArray[((i:Nat):Int).toNat]?=none:=by
   rw[Int.toNat_natCast,List.getElem?_toArray,List.getElem?_map,List.getElem?_eq_none (by omega)];rfl
  dsimp only;rw[y];obtain⟨_,z,U,B⟩:=Lm (x:=rawInt 0) (y:=rawInt 0) f C g;refine a0 (wpAny_setField f g (by simp) ?_);refine a0 (wpAny_setField (s:={s with heap:=s.heap.update it (Obj.mapFields (·.setIfInBounds 0 (rawInt 0))) }) z B (by simp) ?_);exact d _ ((hX ..).trans (hX ..)).extBut
theorem gq{first:mK}(a:F6 s.heap it first i S n ep)(q:Q (.ref it) s):wpAny (model P w) A (pyIter (.ref it)) Q E s:=by
 refine wpAny_pyIter_slot a.ty Xl (hH Xl a.ty O9 ?_ (Ra _));show wpAny _ _ (ret (.ref it)) _ _ s;refine bc ⟨_,rfl,"set_iterator",_,a.ty,Fv.lookup,q⟩
theorem Zf{ord:List mK}(G:A.handled=none)(I:it≠S)(J:it≠T)(x:o.data=.set es ep t)(r:t.fits es.size=true)(C:ord.length=es.size):
  Walks P w A it [it,S,T] [it] ord.length (λi v=>ord[i]?=some v) (λi h=>h.get? S=some o/\∃first,F6 h it first i S es.size ep/\Ny w h S es ep t T ord i first)where
 sub:=λb n=>by simp at n;simp[n]
 frame:=λi h m ⟨j,first,g,p⟩ u=>⟨u S (by simp) _ j,first,g.at λo e=>u it (by simp) o e,by
  cases p with
  |text l a b=>exact .text l a b
  |plain l a b c d e f=>exact .plain l a b c d e f
  |drawn K a b c d=>exact .drawn K (a.at λo e=>u T (by simp) o e) b c d⟩
 item:=λi s Q E y ⟨j,first,g,p⟩ q=>by
  have z:ord[i]?=some (ord[i]'y):=dt y;refine bz g j x r p z J λH m D F B=>?_;have e:({s with heap:=m}:mI)={s with heap:=m,toks:=s.toks}:=rfl;rw[e];refine q _ m s.toks z ⟨(B.2 S (Ne.symm I)).trans j,H,D,F⟩ λb o n j=>(B.2 b (by simpa using n)).trans j
 done:=λs Q E ⟨j,first,g,p⟩ q=>by
  refine j0 G g j x r p rfl C λm L=>?_;have e:({s with heap:=m}:mI)={s with heap:=m,toks:=s.toks}:=rfl;rw[e];exact q m s.toks λb o n j=>L b o (by simpa using n) j
 self:=λi s Q E ⟨j,first,g,p⟩ q=>gq g q
end
open PySem PySem.Spec PySem.SeqAt PyProof.Rows
theorem Ts:isSubtype (.type "set") (.type "set")=pure true:=by rw[isSubtype_type];kernel_rfl
theorem az{es:Array (Int×mK)}{a:List Nat}(h:a.Perm (List.range es.size)):(a.filterMap λk=>(es[k]?).map (·.2)).Perm (es.toList.map (·.2)):=by
 refine(h.filterMap _).trans ?_
 have e:(List.range es.size).filterMap (λk=>(es[k]?).map (·.2))=es.toList.map (·.2):=by
  rw[<- filterMap_getElem?_range es,List.map_filterMap]
 rw[e]
section
variable {P:m8}{w:nP}{A:nf}{E:mr}{s:mI}{S:Addr}{o:Obj}{es:Array (Int×mK)}{ep:Nat}{t:SetTable}
theorem c8{Q:mr}(g:s.heap.get? S=some o)(ex:o.ExactSet)(l:o.data=.set es ep t)(f:t.fits es.size=true)(c:Bm t (P2 w))(F:es.size<=1000)
  (q:∀(first:mK) (T it:Addr) (ord:List mK) (h':Heap) (d:Drawn),(∀b u,s.heap.get? b=some u->h'.get? b=some u)->s.heap.objs.size<=it->it≠T->(T=S\/s.heap.objs.size<=T)->ord.Perm (es.toList.map (·.2))->F6 h' it first 0 S es.size ep->Ny w h' S es ep t T ord 0 first->Q (.ref it) {s with heap:=h',drawn:=d}):wpAny (model P w) A (pyIter (.ref S)) Q E s:=by
 have v:s.TypeIs (.ref S) "set":=⟨o,g,ex.1⟩;refine wpAny_pyIter_slot v PySem.F.slot_set_iter (hH PySem.F.slot_set_iter v Nk ?_ (PySem.F.args_set_iter_1 _));unfold Builtin.«frozenset.__iter__»;refine a0 (wpAny_of_eq (a:=S) rfl ?_);refine a0 (a0 (wpAny_setEntries_of g l f (bc ?_)));unfold setDrawn;refine a0 (a0 (wpAny_setState_of g l f ?_));dsimp only;refine a0 (a0 (wpAny_askSetting (bc ?_)));refine bc ?_;have r:=dg g;have a:∀{h:Heap}{x:Obj}{b u},h.get? b=some u->(h.push x).get? b=some u:=λe=>bZ _ e;refine wpAny_ite_split (λy=>?_) (λy=>?_)
 ·refine a0 (Jx _ _ _ List.length_range λm d p=>?_);have D:m.length=es.size:=by rw[p.length_eq,List.length_range]
  refine a0 (wpAny_newTuple ?_ (by rw[List.length_map,sizeLine_eq];omega));refine a0 (wpAny_setEpoch_of (a g) l f ?_);refine a0 (g6 (bc ⟨_,rfl,"set_iterator",_,⟨_,cI _ rfl,rfl⟩,Fv.lookup,?_⟩));have B:∀x:Obj,(s.heap.push x).objs.size=s.heap.objs.size+1:=λx=>Heap.size_push ..;have n:∀k∈m,k<es.size:=λk n=>lP.mp (p.mem_iff.mp n);have i:=az p;refine q (.ref s.heap.objs.size) s.heap.objs.size _ (m.filterMap λk=>(es[k]?).map (·.2)) _ d (λb u e=>a (a e)) (by rw[B];exact Nat.le_succ _) (by rw[B];exact Nat.succ_ne_self _) (.inr (da _)) i ⟨_,cI _ rfl,rfl,rfl⟩ (.drawn m ⟨_,a (cI _ rfl),rfl,_,rfl⟩ n rfl ?_);rw[i.length_eq,List.length_map,Array.length_toList,D]
 ·refine a0 (bc ?_);refine a0 (wpAny_setEpoch_of g l f ?_);refine a0 (g6 (bc ⟨_,rfl,"set_iterator",_,⟨_,cI _ rfl,rfl⟩,Fv.lookup,?_⟩));have z:¬((!w.params.followText "set-order"&&Qg es t)=true):=y;cases j:w.params.followText "set-order" with
  |true=>
   exact q (rawInt 0) S _ ((pickOrder (w.params.setOrder S ep) es).toList.map (·.2)) _ s.drawn (λb u e=>a e) (da _) (Nat.ne_of_gt r) (.inl rfl) ((Z5 _ es).map _) ⟨_,cI _ rfl,rfl,rfl⟩ (.text 0 j rfl)
  |false=>
   rw[j]at z;have C:t.led=true:=by rw[c.led];show(!w.params.followText "set-order")=true;rw[j];rfl
   exact q (rawInt 0) S _ (es.toList.map (·.2)) _ s.drawn (λb u e=>a e) (da _) (Nat.ne_of_gt r) (.inl rfl) (List.Perm.refl _) ⟨_,cI _ rfl,rfl,rfl⟩ (.plain 0 j (by simpa using z) C c.vC rfl (Zw c.vC))
theorem bq(b:s.TypeIs (.ref S) "set")(q:Q false s):wpAny (model P w) A (Builtin.List.listLengthHint (.ref S)) Q E s:=by
 unfold Builtin.List.listLengthHint;refine a0 (wpAny_specialOf b PySem.F.slot_set_len.lookup ?_);generalize a:("set.__len__":String)=c
 wp_delta;rw[show splitId c=some ("set","__len__")from by subst a;decide+kernel];subst a;refine a0 (ka (T:="set") (b:=true) b Ts ?_);refine wpAny_ite_split (λz=>absurd z (by decide)) (λ_=>?_);refine wpAny_ite_split (λ_=>?_) (λz=>absurd (by decide+kernel) z);refine a0 (wpAny_typeOf b ?_);exact bc q
end
open PySem PySem.Spec PySem.SeqAt PyProof.Rows
section
variable {P:m8}{w:nP}{A:nf}{E:mr}{s:mI}{S:Addr}{o:Obj}{es:Array (Int×mK)}{ep:Nat}{t:SetTable}
theorem a9(hh:A.handled=none)(ho:s.heap.get? S=some o)(ex:o.ExactSet)(Y:o.data=.set es ep t)(j:t.fits es.size=true)(m:Bm t (P2 w))(mJ:es.size<=1000)
  (q:∀(vs:List mK) (h':Heap) (d:Drawn) (tk:Nat),(∀b u,s.heap.get? b=some u->h'.get? b=some u)->s.heap.objs.size<=h'.objs.size->vs.Perm (es.toList.map (·.2))->Q vs {s with heap:=h',drawn:=d,toks:=tk}):wpAny (model P w) A (collect (.ref S)) Q E s:=by
 have C:=dg ho;unfold collect;refine a0 (wpAny_runValue (codeAny_builtin F.entry_proto_collect ?_));rw[Around.under_plainId F.plain_proto_collect _];show wpAny _ A.in1 (newList []>>=λl=>again (.builtin "list.__iadd__" ⟨[l,.ref S],[]⟩)) _ _ s;refine a0 (g6 ?_);refine bc ⟨kA F.plain_list_iadd _,codeAny_builtin F.entry_list_iadd ?_⟩;rw[Around.under_plainId F.plain_list_iadd _];show wpAny _ A.in1 (Builtin.List.listExtendWith (.ref s.heap.objs.size) (.ref S) (.ref s.heap.objs.size)) _ _ _;have pO:∀x:Obj,(s.heap.push x).objs.size=s.heap.objs.size+1:=λx=>Heap.size_push ..;have B:(s.heap.push {cls:=.type "list",data:=.seq ([]:List mK).toArray}).get? S=some o:=bZ _ ho;have X:(s.heap.push {cls:=.type "list",data:=.seq ([]:List mK).toArray}).get? s.heap.objs.size=some {cls:=.type "list",data:=.seq ([]:List mK).toArray}:=cI _ rfl;generalize U:s.heap.push {cls:=.type "list",data:=.seq ([]:List mK).toArray}=r at B X;have N:r.objs.size=s.heap.objs.size+1:=by rw[<- U];exact pO _
 have eC:∀b u,s.heap.get? b=some u->r.get? b=some u:=λb u e=>by rw[<- U];exact bZ _ e
 unfold Builtin.List.listExtendWith;refine a0 (wpAny_typeOf (T:="set") ⟨o,B,ex.1⟩ ?_);have k1:Builtin.List.listSameRef (.ref s.heap.objs.size) (.ref S)=false:=by simp[Builtin.List.listSameRef];exact Nat.ne_of_gt C
 have k2:(Value.type "set"==Value.type "list")=false:=by decide
 have k3:(Value.type "set"==Value.type "tuple")=false:=by decide
 simp only[k1,k2,k3,Bool.or_false,Bool.false_eq_true,if_false];refine a0 (c8 (s:={s with heap:=r}) B ex Y j m mJ λfirst T v c n d D a nT J R UE G=>?_);have a:r.objs.size<=v:=a;rw[N]at a;refine a0 (ft (bq (S:=S) ⟨o,D _ _ B,ex.1⟩ ?_));refine wpAny_ite_split (λ_=>?_) (λz=>absurd (by decide+kernel) z);refine a0 (kb ?_);refine a0 ?_;show wpAny _ A.in1 (updateSeq s.heap.objs.size (·.push .none)>>=λ_=>updateSeq s.heap.objs.size (·.pop)) _ _ _;have O:=D _ _ X;refine a0 (wpAny_updateSeq O rfl ?_);have p:=g0 (Obj.mapSeq (·.push Value.none)) O rfl;refine wpAny_updateSeq p rfl ?_;have H:=g0 (Obj.mapSeq (·.pop)) p rfl
 have off:∀b u,b≠s.heap.objs.size->n.get? b=some u->((n.update s.heap.objs.size (Obj.mapSeq (·.push Value.none))).update s.heap.objs.size (Obj.mapSeq (·.pop))).get? b=some u:=
  λb u f e=>(ea _ _ (Ne.symm f)).trans ((ea _ _ (Ne.symm f)).trans e)
 have nS:v≠S:=λe=>by
  rw[e]at a;exact absurd (eT (Nat.lt_succ_self _) a) (Nat.not_lt.mpr (kG C))
 have L:c.length=es.size:=by rw[R.length_eq,List.length_map,Array.length_toList]
 have nN:s.heap.objs.size∉[v,S,T]:=λz=>by
  rcases d3.mp z with e|z
  ·rw[<- e]at a;exact absurd a (Nat.not_succ_le_self _)
  ·rcases d3.mp z with e|z
   ·exact absurd e (Nat.ne_of_gt C)
   ·have e:=iv.mp z;rcases J with h|h
    ·rw[h]at e;exact absurd e (Nat.ne_of_gt C)
    ·have h:r.objs.size<=T:=h;rw[N,<- e]at h;exact absurd h (Nat.not_succ_le_self _)
 have W:=Zf (P:=P) (w:=w) (A:=A.in1) (it:=v) (T:=T) (ord:=c) (show A.in1.handled=none from hh) nS nT Y j L
 have I:(λi h=>h.get? S=some o/\∃first,F6 h v first i S es.size ep/\Ny w h S es ep t T c i first) 0 ((n.update s.heap.objs.size (Obj.mapSeq (·.push Value.none))).update s.heap.objs.size (Obj.mapSeq (·.pop))):=
  W.frame 0 n _ ⟨D _ _ B,first,UE,G⟩ λb f u e=>off b u (λz=>nN (z▸f)) e
 refine bc ⟨kA F.plain_extend_loop _,codeAny_extend_loopS W.toS (by rw[L,sizeLine_eq];omega) _ nN _ c.length 0 _ _ _ rfl (jT _) I H (ItemsOf.nil _) λK g c' Z M ha=>?_⟩;show wpAny _ A (load s.heap.objs.size>>=_) _ _ K;refine a0 (wpAny_load M (bc ?_))
 have YQ:g.toList=c:=by
  obtain⟨n,h2⟩:=ha;refine List.ext_getElem? λi=>?_;rcases il i g.size with z|z
  ·have e:=h2 i g[i] (Array.getElem?_eq_getElem z);rw[e];simp[z]
  ·rw[List.getElem?_eq_none (by simpa using z),List.getElem?_eq_none (by omega)]
 rw[Moved.eq_with Z];refine q _ K.heap d K.toks (λb u e=>Z.heap b u (λz=>?_) (off b u (ed (dg e)) (D _ _ (eC b u e)))) (kG (dg M)) (by rw[YQ];exact R);have f:=dg e;rcases d3.mp z with y|y
 ·exact absurd y (ed f)
 ·rw[List.mem_singleton.mp y]at f;exact absurd (eT f (Nat.le_of_succ_le a)) (Nat.lt_irrefl _)
end
theorem Wn:∀{b:List mK},(∀v∈b,∃y t,v=.int y t)->∃ys:mv,IntsAre b ys/\ys.length=b.length/\∀y,y∈ys↔∃t,Value.int y t∈b
 |[],_=>⟨[],.nil,rfl,λy=>by simp⟩
 |v::b,h=>by
  obtain⟨y,t,rfl⟩:=h v cL;obtain⟨ys,c,d,f⟩:=Wn λv g=>h v (dr _ g);refine⟨y::ys,.cons y t c,by rw[List.length_cons,List.length_cons,d],λz=>?_⟩;rw[List.mem_cons,f z];constructor
  ·rintro(rfl|⟨u,a⟩)
   ·exact⟨t,cL⟩
   ·exact⟨u,dr _ a⟩
  ·rintro⟨u,a⟩;rcases d3.mp a with e|a
   ·cases e;exact .inl rfl
   ·exact .inr ⟨u,a⟩
section
variable {prog:m8}{w:nP}{E:mr}
theorem Tq{A:nf}{s:mI}{r:mK}{Q:mr}{C:mv->Prop}(y:∀R:List mK->mI->Prop,(∀f ns h1 d g,IntsAre f ns->f.length<64->C ns->(∀b u,s.heap.get? b=some u->h1.get? b=some u)->s.heap.objs.size<=h1.objs.size->R f {s with heap:=h1,drawn:=d,toks:=g})->wpAny (model prog w) A.in1 (collect r) R E s)
  (h:∀(a:Array mK) (ns i:mv) (N:Addr) (h':Heap) (d:Drawn) (g c:Nat),C ns->IntsAre a.toList i->i.Perm ns->i.Pairwise (·<=·)->(∀b u,s.heap.get? b=some u->h'.get? b=some u)->s.heap.objs.size<=N->i.length<64->h'.get? N=some (seqObj "list" a c)->Q (.ref N) {s with heap:=h',drawn:=d,toks:=g}):
  wpAny (model prog w) A (call (.builtin "sorted") [r]) Q E s:=by
 refine Calls.call_function_entry kind_sorted plain_sorted entry_sorted (args_sorted1 _) ?_;unfold Builtin.«sorted»;refine a0 (m:=checkCount "sorted" 1 1 _) (bc ?_);refine a0 (y _ λf ns h1 d g n q v z j=>?_);have l:f.length<=sizeLine:=by rw[sizeLine_eq];omega
 refine a0 (wpAny_newList ?_ l);have m:(h1.push (seqObj "list" f.toArray 0)).get? h1.objs.size=some (seqObj "list" f.toArray 0):=cI _ rfl;show wpAny _ _ _ _ _ {s with heap:=h1.push (seqObj "list" f.toArray 0),drawn:=d,toks:=g};refine a0 (ft (hH slot_list_sort ⟨_,m,rfl⟩ entry_list_sort (list_sort_tree (s:={s with heap:=h1.push (seqObj "list" f.toArray 0),drawn:=d,toks:=g}) m n q λa i B p D=>⟨_,rfl,?_⟩) (args_list_sort _)));obtain⟨c,x⟩:∃c,(sortedHeap (h1.push (seqObj "list" f.toArray 0)) h1.objs.size f a).get? h1.objs.size=some (seqObj "list" a c):=sortedHeap_at m;refine bc ⟨_,rfl,h a ns i _ _ d g c v B p D (λb o e=>?_) j (by rw[p.length_eq,<- n.length];exact q) x⟩;have e:=z b o e;rw[sortedHeap_old (Nat.ne_of_lt (Heap.lt_size e)) (by rw[size_push'];exact Nat.lt_succ_of_lt (Heap.lt_size e))];exact bZ _ e
end
open PySem PySem.Spec PySem.SeqAt PyProof.Rows
section
variable {X:Cx}
theorem Aj.draws(I:Aj X a b H s)(d:Drawn):Aj X a b H {s with drawn:=d}:=⟨I.ok,I.os,I.bare,I.base,I.loc,I.cell,I.free,I.bE,I.pin,I.aF,I.len⟩
def j9(K:W.Frag)(d:TA):TE:=λf H Q=>d f H λe b=>∃(l:Addr) (c:mv),e=[.ref l]/\B6 K b l (c.map V.int)/\c.length<64/\∀(p:Addr) (a:mv),b p=none->a.length<64->(∀y,y∈a↔y∈c)->a.Pairwise (·<=·)->Q (.ref p) (upd b p (.lst (a.map V.int)))
theorem r6{ns:mv}{a:List mK}(r:Ay (ns.map V.int) a){i:Nat}{v:mK}(h:a[i]?=some v):∃t,v=.int (ns.getD i 0) t:=by
 have f:=(bG.mp h).1;have c:=r.length;rw[List.length_map]at c
 have e:(ns.map V.int)[i]?=some (.int (ns.getD i 0)):=by
  rw[List.getElem?_map,List.getElem?_eq_getElem (by omega),List.getD_eq_getElem?_getD,List.getElem?_eq_getElem (by omega)];rfl
 obtain⟨u,b,d⟩:=r.get e;rw[h]at b;cases b;exact d
theorem O5{ns:mv}{k:Int}:k∈(List.range ns.length).map (λi=>ns.getD i 0)↔k∈ns:=by
 have e:(List.range ns.length).map (λk=>ns.getD k 0)=ns:=by
  refine List.ext_getElem (by simp) λi a b=>?_;simp[List.getElem_map,List.getElem_range,List.getD_eq_getElem?_getD,List.getElem?_eq_getElem b]
 rw[e]
theorem V3{a:Expr}{ta:TA}{p j pos B:Pos}(hc:X.calm=true)(hg:Gl X "sorted")(hm:X.mg "sorted"=none)(TY:Gl X "set")(kL:X.mg "set"=none)(ha:PA X [a] ta)
  (hs:starEach [a] X.env=[(false,eval a X.env)]:=by rfl)(pG:starEach [Expr.Call (.Name "set" j) [a] [] B] X.env=[(false,eval (.Call (.Name "set" j) [a] [] B) X.env)]:=by rfl):
  PE X (.Call (.Name "sorted" p) [.Call (.Name "set" j) [a] [] B] [] pos) (j9 X.K ta):=by
 intro A s σ H Q I h;refine wpAny_Call_Name_kw (Ea I hg hm boot_sorted (PyProof.Rows.callWith_builtin1 ?_ pG rfl));rw[pG];show wpAny _ _ (spliced ((false,eval (.Call (.Name "set" j) [a] [] B) X.env)::[])) _ _ s;refine Calls.spliced_cons (wpAny_Call_Name_kw (Ea I TY kL PyProof.Rows.boot_set (PyProof.Rows.callWith_type1 (Bj (ha B A s σ H _ I h) λus m ⟨Z,H1,n,r1,q1⟩=>?_) hs rfl)));obtain⟨l,E,e,hq,mJ,q⟩:=q1;subst e;obtain⟨u1,rfl,vT⟩:=Eg r1;cases vT;obtain⟨aA,rv,pl,hz⟩:=n.list hq;have f:=rv.length;rw[List.length_map]at f;have e3:aA.toArray.size=E.length:=by rw[List.size_toArray,f]
 refine yk (knd:=intKind X.prog X.w) (f:=λi=>E.getD i 0) (n.ok.hd hc) pl.isList (λi v P=>?_) (by rw[e3];unfold scanBound;omega) λD tk g kp=>?_
 ·obtain⟨t,rfl⟩:=r6 rv (by rw[<- List.getElem?_toArray];exact P);exact⟨intKind_is _ _ _ _,rfl⟩
 refine Calls.spliced_nil ?_;rw[e3]at g;obtain⟨o,es,ep,tb,ho,K,hd,JK,bS,hsz,YR,r⟩:=g;have S:∀b u,m.heap.get? b=some u->D.get? b=some u:=λb u e=>kp b u (dg e) e;refine Tq (s:={m with heap:=D,toks:=tk}) (C:=λF=>∀y,y∈F↔y∈E) (λR hR=>?_) λT F U N J d Y c hC p0 p1 j G hN wB e'=>?_
 ·refine a9 (s:={m with heap:=D,toks:=tk}) (show X.A.in1.handled=none from n.ok.hd hc) ho K hd YR r (by omega) λZ J d Y G O C=>?_
  have w:∀v∈Z,∃y t,v=.int y t:=λv P=>by
   obtain⟨e,x,rfl⟩:=eH.mp (C.mem_iff.mp P);obtain⟨⟨k,M,_⟩,_⟩:=JK e x;obtain⟨t,z⟩:=Value.isInt_shape M;exact⟨k,t,z⟩
  obtain⟨F,h1,jS,h3⟩:=Wn w;refine hR Z F J d Y h1 ?_ (λy=>?_) G O
  ·rw[C.length_eq,List.length_map,Array.length_toList];omega
  ·rw[h3 y,<- O5 (ns:=E),bS y];constructor
   ·rintro⟨t,z⟩;obtain⟨e,x,ee⟩:=eH.mp (C.mem_iff.mp z);exact⟨e,x,by rw[ee];exact intKind_is _ _ _ _⟩
   ·rintro⟨e,x,M⟩;obtain⟨t,z⟩:=Value.isInt_shape M;exact⟨t,C.mem_iff.mpr (eH.mpr ⟨e,x,z⟩)⟩
 ·have kk:∀b u,m.heap.get? b=some u->J.get? b=some u:=λb u e=>G b u (S b u e)
  have KP:m.heap.objs.size<=N:=by
   have L:m.heap.objs.size<D.objs.size:=dg ho;exact dI (kG L) hN
  have I2:=(n.laid (a:=N) (o:=.lst (U.map V.int)) (t':=Y) kk KP ⟨by rw[List.length_map,sizeLine_eq];omega,T.toList,c,Hu p0,e'⟩).draws d;exact⟨.ref N,upd H1 N (.lst (U.map V.int)),I2,rfl,q N U (n.aF.fresh KP) wB (λy=>(p1.mem_iff).trans (hC y)) j⟩
end
section
variable {X:Cx}{p pos kpos:Pos}{e d:Expr}{t:TA}{td:TE}{x:Str}
def A0c(K:W.Frag)(t:TA)(td:TE):TE:=λg H Q=>t g H λi h=>j7 td xg g h λj f=>∃(a:Addr) (c:mv),i=[.ref a]/\j=[.aP]/\B6 K f a (c.map V.int)/\(c=[]->Q .aP f)/\∀m:Int,m∈c->(∀b∈c,b<=m)->Q (.int m) f
theorem lw(O:X.calm=true)(P:Gl X x)(S:X.mg x=none)(Y:bootBuiltins x=some (.builtin "max"))(N:PA X [e] t)(g:PE X d td)(T:x≠"__name__":=by decide)(Z:(x==("__debug__":Str))=false:=by decide)
  (he:starEach [e] X.env=[(false,eval e X.env)]:=by rfl):PE X (.Call (.Name x p) [e] [⟨some "default",d,kpos⟩] pos) (A0c X.K t td):=by
 intro f s E H Q I h;refine wpAny_Call_Name_kw (Ea I P S Y ?_ T Z);refine callWith_kw (he:=by rw[he];rfl) (hplain:=by rw[he];rfl) (Bj (N pos f s E H _ I h) λus s1 o=>?_);obtain⟨vs,F,G,r1,q1⟩:=o;refine Bj (m9 (kpos:=kpos) (nm:=some "default") g ve pos f s1 E F _ G q1) λks s2 o=>?_;obtain⟨n,v,l,r2,q2⟩:=o
 ·obtain⟨a,D,rfl,rfl,U,q0,q⟩:=q2;obtain⟨u,rfl,ru⟩:=Eg r1;cases ru;obtain⟨u2,rfl,J⟩:=Eg r2;obtain⟨aA,rv,pl,hz⟩:=l.list U;have B:=Fl rv;obtain⟨n,y⟩:=B.allInts.items
  have r:D=n.toList.map (·.1):=by
   have L:=B.numsOf;have w:=nums_intItems n;rw[<- y]at w;exact L.symm.trans w
  have c:D.length=n.size:=by rw[r,List.length_map,Array.length_toList]
  have C:=pl.isList;rw[y]at C;refine Yb (l.ok.hd O) C (λz M tk g=>?_) λz m t M tk top g=>?_
  ·refine⟨.aP,v,l.kept g,J,q0 ?_⟩;rw[z]at c;exact List.length_eq_zero_iff.mp c
  ·refine⟨.int m,v,l.kept g,⟨t,rfl⟩,q _ ?_ λb A=>?_⟩
   ·obtain⟨⟨i,dX,K⟩,_⟩:=top;rw[K,r,numAt_eq];exact getD_mem (by rw[List.length_map,Array.length_toList];omega)
   ·rw[r]at A;obtain⟨j,R,rfl⟩:=mem_getD A;rw[List.length_map,Array.length_toList]at R;rw[<- numAt_eq];exact top.2 j (by omega)
end
end L2
namespace Law
local macro_rules | `(tactic| ac_rfl) => `(tactic| first | exact ⟨rfl,rfl,rfl,by decide +kernel,rfl,by decide +kernel,by decide +kernel⟩ | exact ⟨rfl,by decide +kernel,by decide +kernel,by decide +kernel,by decide +kernel⟩)
local macro_rules | `(tactic| omega) => `(tactic| lia)
open PySem L2 PyProof.Rows
open PySem.Builtin.Int (intBits)
def top(i:Nat):Stmt:=PySem.Challenge.pw_roundcall_k98_whole_wheels_and_standings.main.body.getD i (.Pass ⟨0,0,0,0⟩)
abbrev fw:Stmt:=top 10
abbrev f8:Stmt:=top 11
abbrev Xi:Stmt:=top 12
abbrev Xd:Stmt:=top 14
abbrev fi:Stmt:=top 15
abbrev ff:Stmt:=top 16
abbrev vz:Stmt:=top 17
abbrev Jr:Stmt:=top 18
abbrev fo:Stmt:=top 19
abbrev Tk:Stmt:=top 20
abbrev f9:Stmt:=top 21
abbrev Tj:Stmt:=top 22
abbrev fj:Stmt:=top 23
abbrev Xg:Stmt:=top 24
abbrev G3:Stmt:=top 28
abbrev fk:Stmt:=top 29
abbrev fq:Stmt:=top 30
abbrev fb:Stmt:=top 31
abbrev vv:Stmt:=top 32
abbrev X9:Stmt:=top 33
abbrev w6:Stmt:=top 34
abbrev G6:Stmt:=top 35
abbrev fg:Stmt:=top 36
abbrev w8:Stmt:=top 37
abbrev fu:Stmt:=top 38
abbrev Xh:Stmt:=top 39
abbrev Xe:Stmt:=top 40
abbrev vx:Stmt:=top 42
abbrev fz:Stmt:=top 43
abbrev vt:Stmt:=top 44
abbrev Xj:Stmt:=top 45
abbrev g8:Stmt:=top 46
abbrev Xb:Stmt:=top 47
abbrev Xf:Stmt:=top 48
abbrev wc:Stmt:=top 49
abbrev fh:Stmt:=top 51
abbrev Xa:Stmt:=top 52
abbrev g7:Stmt:=top 53
abbrev X8:Stmt:=top 54
abbrev g9:Stmt:=top 56
abbrev fm:Stmt:=top 58
abbrev fc:Stmt:=top 59
abbrev vq:Stmt:=top 60
abbrev Xc:Stmt:=top 61
abbrev vy:Stmt:=top 62
abbrev Ic:Stmt:=top 63
theorem R8:Ai (["one","other","rest"]:List Str) ["one","other"] (A8 fw):=by ac_rfl
theorem R6:Ai (["numbers","common","number"]:List Str) ["numbers"] (A8 f8):=by ac_rfl
theorem R9:Ai (["numbers","bottom","top","both"]:List Str) ["numbers"] (A8 Xi):=by ac_rfl
def S5:Scope:={kind:=.function,names:=[(Str.ofString ".0",NameKind.local),(Str.ofString "number",NameKind.local),(Str.ofString "bottom",NameKind.free)],isGenerator:=false,isCoroutine:=false,more:=[] }
theorem S2:Bo (A8 Xi) S5 (["numbers","bottom","top","both"]:List Str) (["number"]:List Str) [1]:=by ac_rfl
theorem Sy:(B9 (["numbers","bottom","top","both"]:List Str) (["number"]:List Str) [1]).Nodup:=by decide+kernel
theorem gi:Ai (["periods","rising"]:List Str) ["periods"] (A8 Xd):=by ac_rfl
def Ma:Scope:={kind:=.function,names:=[(Str.ofString ".0",NameKind.local),(Str.ofString "earlier",NameKind.local),(Str.ofString "later",NameKind.local)],isGenerator:=false,isCoroutine:=false,more:=[] }
theorem Lz:Bo (A8 Xd) Ma (["periods","rising"]:List Str) (["earlier","later"]:List Str) []:=by ac_rfl
theorem Gq:(B9 (["periods","rising"]:List Str) (["earlier","later"]:List Str) []).Nodup:=by decide+kernel
theorem gj:Ai (["periods","told"]:List Str) ["periods"] (A8 fi):=by ac_rfl
theorem Hc:Ai (["levels","taken","first","step","period","size"]:List Str) ["levels","taken"] (A8 ff):=by ac_rfl
theorem Nj:Ai (["periods","levels","taken","firsts","period"]:List Str) ["periods"] (A8 vz):=by ac_rfl
theorem Nh:Ai (["periods","order","rows","number","first"]:List Str) ["periods"] (A8 Jr):=by ac_rfl
def K9:Scope:={kind:=.function,names:=[(Str.ofString ".0",NameKind.local),(Str.ofString "period",NameKind.local)],isGenerator:=false,isCoroutine:=false,more:=[] }
theorem K5:Bo (A8 Jr) K9 (["periods","order","rows","number","first"]:List Str) (["period"]:List Str) []:=by ac_rfl
theorem Kj:(B9 (["periods","order","rows","number","first"]:List Str) (["period"]:List Str) []).Nodup:=by decide+kernel
def Ka:Scope:={kind:=.function,names:=[(Str.ofString ".0",NameKind.local),(Str.ofString "period",NameKind.local)],isGenerator:=false,isCoroutine:=false,more:=[] }
theorem K6:Bo (A8 Jr) Ka (["periods","order","rows","number","first"]:List Str) (["period"]:List Str) []:=by ac_rfl
theorem Kk:(B9 (["periods","order","rows","number","first"]:List Str) (["period"]:List Str) []).Nodup:=by decide+kernel
theorem gm:Ai (["wait","base","times"]:List Str) ["wait","base"] (A8 fo):=by ac_rfl
theorem wn:Ai (["waits","base"]:List Str) ["waits","base"] (A8 Tk):=by ac_rfl
def Qb:Scope:={kind:=.function,names:=[(Str.ofString ".0",NameKind.local),(Str.ofString "wait",NameKind.local),(Str.ofString "base",NameKind.free)],isGenerator:=false,isCoroutine:=false,more:=[] }
theorem Q9:Bo (A8 Tk) Qb (["waits","base"]:List Str) (["wait"]:List Str) [1]:=by ac_rfl
theorem Qp:(B9 (["waits","base"]:List Str) (["wait"]:List Str) [1]).Nodup:=by decide+kernel
def Qc:Scope:={kind:=.function,names:=[(Str.ofString ".0",NameKind.local),(Str.ofString "wait",NameKind.local),(Str.ofString "doubling",NameKind.globalImplicit),(Str.ofString "base",NameKind.free)],isGenerator:=false,isCoroutine:=false,more:=[] }
theorem Qa:Bo (A8 Tk) Qc (["waits","base"]:List Str) (["wait"]:List Str) [1]:=by ac_rfl
theorem Qq:(B9 (["waits","base"]:List Str) (["wait"]:List Str) [1]).Nodup:=by decide+kernel
theorem gc:Ai (["wait","most"]:List Str) ["wait","most"] (A8 f9):=by ac_rfl
theorem Vc:Ai (["waits","least","bases"]:List Str) ["waits"] (A8 Tj):=by ac_rfl
def Mb:Scope:={kind:=.function,names:=[(Str.ofString ".0",NameKind.local),(Str.ofString "wait",NameKind.local),(Str.ofString "halved_down",NameKind.globalImplicit),(Str.ofString "least",NameKind.free)],isGenerator:=false,isCoroutine:=false,more:=[] }
theorem M6:Bo (A8 Tj) Mb (["waits","least","bases"]:List Str) (["wait"]:List Str) [1]:=by ac_rfl
theorem Mv:(B9 (["waits","least","bases"]:List Str) (["wait"]:List Str) [1]).Nodup:=by decide+kernel
def Mc:Scope:={kind:=.function,names:=[(Str.ofString ".0",NameKind.local),(Str.ofString "base",NameKind.local),(Str.ofString "have_room",NameKind.globalImplicit),(Str.ofString "doubled",NameKind.globalImplicit),(Str.ofString "waits",NameKind.free)],isGenerator:=false,isCoroutine:=false,more:=[] }
theorem M7:Bo (A8 Tj) Mc (["waits","least","bases"]:List Str) (["base"]:List Str) [0]:=by ac_rfl
theorem Mw:(B9 (["waits","least","bases"]:List Str) (["base"]:List Str) [0]).Nodup:=by decide+kernel
theorem gk:Ai (["waits","base"]:List Str) ["waits"] (A8 fj):=by ac_rfl
theorem Ve:Ai (["waits","turns","needed"]:List Str) ["waits"] (A8 Xg):=by ac_rfl
def O3:Scope:={kind:=.function,names:=[(Str.ofString ".0",NameKind.local),(Str.ofString "wait",NameKind.local),(Str.ofString "turns",NameKind.free)],isGenerator:=false,isCoroutine:=false,more:=[] }
theorem O1:Bo (A8 Xg) O3 (["waits","turns","needed"]:List Str) (["wait"]:List Str) [1]:=by ac_rfl
theorem O7:(B9 (["waits","turns","needed"]:List Str) (["wait"]:List Str) [1]).Nodup:=by decide+kernel
theorem wq:Ai (["waits","calm"]:List Str) ["waits","calm"] (A8 G3):=by ac_rfl
theorem wk:Ai (["hall"]:List Str) ["hall"] (A8 fk):=by ac_rfl
theorem wm:Ai (["hall","standing"]:List Str) ["hall","standing"] (A8 fq):=by ac_rfl
theorem we:Ai (["hall","who"]:List Str) ["hall","who"] (A8 fb):=by ac_rfl
theorem A00:Ai (["hall","standing","who","lost"]:List Str) ["hall","standing","who","lost"] (A8 vv):=by ac_rfl
theorem gf:Ai (["hall","standing","who","lost","left"]:List Str) ["hall","standing","who","lost"] (A8 X9):=by ac_rfl
def Kb:Scope:={kind:=.function,names:=[(Str.ofString ".0",NameKind.local),(Str.ofString "turns",NameKind.local)],isGenerator:=false,isCoroutine:=false,more:=[] }
theorem K7:Bo (A8 X9) Kb (["hall","standing","who","lost","left"]:List Str) (["turns"]:List Str) []:=by ac_rfl
theorem Kl:(B9 (["hall","standing","who","lost","left"]:List Str) (["turns"]:List Str) []).Nodup:=by decide+kernel
theorem A01:Ai (["hall","standing","lost"]:List Str) ["hall","standing","lost"] (A8 w6):=by ac_rfl
theorem gn:Ai (["hall","standing","who","lost","left"]:List Str) ["hall","standing","who","lost"] (A8 G6):=by ac_rfl
theorem gh:Ai (["hall","standing","who","behind"]:List Str) ["hall","standing","who"] (A8 fg):=by ac_rfl
theorem A02:Ai (["hall"]:List Str) ["hall"] (A8 w8):=by ac_rfl
theorem R7:Ai (["hall","product","wait"]:List Str) ["hall"] (A8 fu):=by ac_rfl
theorem Kq:Ai (["waits","rows","wait","longer","row"]:List Str) ["waits"] (A8 Xh):=by ac_rfl
def O2:Scope:={kind:=.function,names:=[(Str.ofString ".0",NameKind.local),(Str.ofString "turns",NameKind.local),(Str.ofString "row",NameKind.free)],isGenerator:=false,isCoroutine:=false,more:=[] }
theorem O0:Bo (A8 Xh) O2 (["waits","rows","wait","longer","row"]:List Str) (["turns"]:List Str) [4]:=by ac_rfl
theorem O6:(B9 (["waits","rows","wait","longer","row"]:List Str) (["turns"]:List Str) [4]).Nodup:=by decide+kernel
theorem Vd:Ai (["hall","told","left"]:List Str) ["hall"] (A8 Xe):=by ac_rfl
def Me:Scope:={kind:=.function,names:=[(Str.ofString ".0",NameKind.local),(Str.ofString "quiet",NameKind.local),(Str.ofString "left",NameKind.free)],isGenerator:=false,isCoroutine:=false,more:=[] }
theorem M9:Bo (A8 Xe) Me (["hall","told","left"]:List Str) (["quiet"]:List Str) [2]:=by ac_rfl
theorem Mz:(B9 (["hall","told","left"]:List Str) (["quiet"]:List Str) [2]).Nodup:=by decide+kernel
theorem Pj:Ai (["hall","pending","standing","calls","who","behind"]:List Str) ["hall"] (A8 vx):=by ac_rfl
theorem Ir:Ai (["pending","ways","standing","calls","who","behind","later"]:List Str) ["pending"] (A8 fz):=by ac_rfl
theorem Ph:Ai (["pending","ways","ranked","bare","later","standing","who","calls"]:List Str) ["pending","ways","ranked"] (A8 vt):=by ac_rfl
theorem Fu:Ai (["hall","pending","ways","table","rank","ranked","standing"]:List Str) ["hall"] (A8 Xj):=by ac_rfl
def Uh:Scope:={kind:=.function,names:=[(Str.ofString ".0",NameKind.local),(Str.ofString "standing",NameKind.local),(Str.ofString "calls",NameKind.local)],isGenerator:=false,isCoroutine:=false,more:=[] }
theorem Ud:Bo (A8 Xj) Uh (["hall","pending","ways","table","rank","ranked","standing"]:List Str) (["standing","calls"]:List Str) []:=by ac_rfl
theorem My:(B9 (["hall","pending","ways","table","rank","ranked","standing"]:List Str) (["standing","calls"]:List Str) []).Nodup:=by decide+kernel
theorem wu:Ai (["table","behind"]:List Str) ["table","behind"] (A8 g8):=by ac_rfl
theorem wj:Ai (["hall","table","standing","who"]:List Str) ["hall","table","standing","who"] (A8 Xb):=by ac_rfl
def L6:Scope:={kind:=.function,names:=[(Str.ofString ".0",NameKind.local),(Str.ofString "behind",NameKind.local),(Str.ofString "worth",NameKind.globalImplicit),(Str.ofString "table",NameKind.free)],isGenerator:=false,isCoroutine:=false,more:=[] }
theorem L4:Bo (A8 Xb) L6 (["hall","table","standing","who"]:List Str) (["behind"]:List Str) [1]:=by ac_rfl
theorem La:(B9 (["hall","table","standing","who"]:List Str) (["behind"]:List Str) [1]).Nodup:=by decide+kernel
theorem gl:Ai (["hall","table","standing","worths"]:List Str) ["hall","table","standing"] (A8 Xf):=by ac_rfl
def Md:Scope:={kind:=.function,names:=[(Str.ofString ".0",NameKind.local),(Str.ofString "who",NameKind.local),(Str.ofString "call_worth",NameKind.globalImplicit),(Str.ofString "hall",NameKind.free),(Str.ofString "standing",NameKind.free),(Str.ofString "table",NameKind.free)],isGenerator:=false,isCoroutine:=false,more:=[] }
theorem M8:Bo (A8 Xf) Md (["hall","table","standing","worths"]:List Str) (["who"]:List Str) [0,1,2]:=by ac_rfl
theorem Mx:(B9 (["hall","table","standing","worths"]:List Str) (["who"]:List Str) [0,1,2]).Nodup:=by decide+kernel
theorem oj:Ai (["hall","table","standing","who","reached"]:List Str) ["hall","table","standing","who"] (A8 wc):=by ac_rfl
theorem Ni:Ai (["hall","table","calls","coming","standing"]:List Str) ["hall"] (A8 fh):=by ac_rfl
theorem wf:Ai (["hall","table","standing"]:List Str) ["hall","table","standing"] (A8 Xa):=by ac_rfl
def K8:Scope:={kind:=.function,names:=[(Str.ofString ".0",NameKind.local),(Str.ofString "who",NameKind.local),(Str.ofString "worst_answer",NameKind.globalImplicit),(Str.ofString "hall",NameKind.free),(Str.ofString "standing",NameKind.free),(Str.ofString "table",NameKind.free)],isGenerator:=false,isCoroutine:=false,more:=[] }
theorem K4:Bo (A8 Xa) K8 (["hall","table","standing"]:List Str) (["who"]:List Str) [0,1,2]:=by ac_rfl
theorem Ki:(B9 (["hall","table","standing"]:List Str) (["who"]:List Str) [0,1,2]).Nodup:=by decide+kernel
theorem oh:Ai (["hall","standing","answers","behind"]:List Str) ["hall","standing","answers"] (A8 g7):=by ac_rfl
def Gi:Scope:={kind:=.function,names:=[(Str.ofString ".0",NameKind.local),(Str.ofString "who",NameKind.local),(Str.ofString "lost",NameKind.local),(Str.ofString "after",NameKind.globalImplicit),(Str.ofString "hall",NameKind.free),(Str.ofString "standing",NameKind.free)],isGenerator:=false,isCoroutine:=false,more:=[] }
theorem Gg:Bo (A8 g7) Gi (["hall","standing","answers","behind"]:List Str) (["who","lost"]:List Str) [0,1]:=by ac_rfl
theorem Dr:(B9 (["hall","standing","answers","behind"]:List Str) (["who","lost"]:List Str) [0,1]).Nodup:=by decide+kernel
def Gj:Scope:={kind:=.function,names:=[(Str.ofString ".0",NameKind.local),(Str.ofString "later",NameKind.local)],isGenerator:=false,isCoroutine:=false,more:=[] }
theorem Gh:Bo (A8 g7) Gj (["hall","standing","answers","behind"]:List Str) (["later"]:List Str) []:=by ac_rfl
theorem Gr:(B9 (["hall","standing","answers","behind"]:List Str) (["later"]:List Str) []).Nodup:=by decide+kernel
theorem Ng:Ai (["hall","table","told","coming","standing"]:List Str) ["hall"] (A8 X8):=by ac_rfl
def Jb:Scope:={kind:=.function,names:=[(Str.ofString ".0",NameKind.local),(Str.ofString "standing",NameKind.local),(Str.ofString "answers",NameKind.local),(Str.ofString "table",NameKind.free)],isGenerator:=false,isCoroutine:=false,more:=[] }
theorem Ja:Bo (A8 X8) Jb (["hall","table","told","coming","standing"]:List Str) (["standing","answers"]:List Str) [1]:=by ac_rfl
theorem Eo:(B9 (["hall","table","told","coming","standing"]:List Str) (["standing","answers"]:List Str) [1]).Nodup:=by decide+kernel
theorem Vf:Ai (["wheel","turn","number","row"]:List Str) ["wheel","turn"] (A8 g9):=by ac_rfl
theorem wl:Ai (["found"]:List Str) ["found"] (A8 fm):=by ac_rfl
theorem wg:Ai (["script","k"]:List Str) ["script","k"] (A8 fc):=by ac_rfl
theorem Pg:Ai (["waits","top","bottom","wait"]:List Str) ["waits"] (A8 vq):=by ac_rfl
theorem Hd:Ai (["hall","waits","wheel","begin","cells","standing","left","k","who"]:List Str) ["hall","waits","wheel","begin","cells"] (A8 Xc):=by ac_rfl
def L7:Scope:={kind:=.function,names:=[(Str.ofString ".0",NameKind.local),(Str.ofString "number",NameKind.local)],isGenerator:=false,isCoroutine:=false,more:=[] }
theorem L5:Bo (A8 Xc) L7 (["hall","waits","wheel","begin","cells","standing","left","k","who"]:List Str) (["number"]:List Str) []:=by ac_rfl
theorem Lb:(B9 (["hall","waits","wheel","begin","cells","standing","left","k","who"]:List Str) (["number"]:List Str) []).Nodup:=by decide+kernel
theorem oi:Ai (["paper","standing","row"]:List Str) ["paper","standing"] (A8 vy):=by ac_rfl
theorem F0:Ai (["script","many","waits","begin","hall","wheel","kept","broken","within","rank"]:List Str) ["script"] (A8 Ic):=by ac_rfl
def af:Scope:={kind:=.function,names:=[(Str.ofString ".0",NameKind.local),(Str.ofString "k",NameKind.local),(Str.ofString "_law_cell_at",NameKind.globalImplicit),(Str.ofString "script",NameKind.free)],isGenerator:=false,isCoroutine:=false,more:=[] }
theorem ae:Bo (A8 Ic) af (["script","many","waits","begin","hall","wheel","kept","broken","within","rank"]:List Str) (["k"]:List Str) [0]:=by ac_rfl
theorem d4:(B9 (["script","many","waits","begin","hall","wheel","kept","broken","within","rank"]:List Str) (["k"]:List Str) [0]).Nodup:=by decide+kernel
abbrev lamQ:Str:="chain_wheel.<locals>.<lambda>"
abbrev lamP:Pos:=⟨69,44,69,74⟩
set_option genInjectivity false in
set_option genSizeOf false in
structure Ads where
 dE:Addr
 dG:Addr
 fI:Addr
 fJ:Addr
 dH:Addr
 fK:Addr
 lC:Addr
 cB:Addr
 fL:Addr
 dJ:Addr
 fM:Addr
 fN:Addr
 fO:Addr
 fP:Addr
 cC:Addr
 cP:Addr
 cQ:Addr
 fQ:Addr
 lD:Addr
 fR:Addr
 lF:Addr
 bI:Addr
 cR:Addr
 jX:Addr
 fS:Addr
 fT:Addr
 fU:Addr
 lG:Addr
 fV:Addr
 lH:Addr
 dM:Addr
 dN:Addr
 fW:Addr
 fX:Addr
 lI:Addr
 fY:Addr
 fZ:Addr
 lJ:Addr
 gA:Addr
 gB:Addr
 dQ:Addr
 gC:Addr
 lK:Addr
 gD:Addr
 lL:Addr
 gE:Addr
structure Txt(K:W.Frag)(mg:Str->Option mK)(ad:Ads)(aE aH aI aN:Addr):Prop where
 yG:mg "divisor"=some (.ref ad.dE)
 yH:W.keepIn K (.ref ad.dE)=true
 yI:mg "least_round"=some (.ref ad.dG)
 yJ:W.keepIn K (.ref ad.dG)=true
 KQ:mg "shares"=some (.ref ad.fI)
 KR:W.keepIn K (.ref ad.fI)=true
 KS:mg "are_chain"=some (.ref ad.fJ)
 KU:W.keepIn K (.ref ad.fJ)=true
 yK:mg "have_room"=some (.ref ad.dH)
 yL:W.keepIn K (.ref ad.dH)=true
 KW:mg "free_first"=some (.ref ad.fK)
 KY:W.keepIn K (.ref ad.fK)=true
 YT:mg "rising_firsts"=some (.ref ad.lC)
 YU:W.keepIn K (.ref ad.lC)=true
 KZ:mg "chain_wheel"=some (.ref ad.cB)
 oA:W.keepIn K (.ref ad.cB)=true
 LA:mg "doubling"=some (.ref ad.fL)
 LB:W.keepIn K (.ref ad.fL)=true
 yM:mg "doubled"=some (.ref ad.dJ)
 yN:W.keepIn K (.ref ad.dJ)=true
 LC:mg "halved_down"=some (.ref ad.fM)
 LD:W.keepIn K (.ref ad.fM)=true
 LF:mg "best_base"=some (.ref ad.fN)
 LG:W.keepIn K (.ref ad.fN)=true
 LH:mg "wheel_for"=some (.ref ad.fO)
 LI:W.keepIn K (.ref ad.fO)=true
 yO:mg "too_much"=some (.ref ad.fP)
 yP:W.keepIn K (.ref ad.fP)=true
 LJ:mg "hall_of"=some (.ref ad.cC)
 rA:W.keepIn K (.ref ad.cC)=true
 lM:mg "beginning"=some (.ref ad.cP)
 lN:W.keepIn K (.ref ad.cP)=true
 rB:mg "may_lose"=some (.ref ad.cQ)
 rC:W.keepIn K (.ref ad.cQ)=true
 LK:mg "is_listener"=some (.ref ad.fQ)
 LL:W.keepIn K (.ref ad.fQ)=true
 YV:mg "refuse_wrong_turn"=some (.ref ad.lD)
 YW:W.keepIn K (.ref ad.lD)=true
 LM:mg "left_behind"=some (.ref ad.fR)
 LN:W.keepIn K (.ref ad.fR)=true
 YX:mg "quiet_behind"=some (.ref ad.lF)
 YY:W.keepIn K (.ref ad.lF)=true
 jH:mg "after"=some (.ref ad.bI)
 gF:W.keepIn K (.ref ad.bI)=true
 rD:mg "all_behind"=some (.ref ad.cR)
 rE:W.keepIn K (.ref ad.cR)=true
 LO:mg "quiet_values"=some (.ref ad.jX)
 LP:W.keepIn K (.ref ad.jX)=true
 LQ:mg "how_many"=some (.ref ad.fS)
 LR:W.keepIn K (.ref ad.fS)=true
 LS:mg "all_left"=some (.ref ad.fT)
 LU:W.keepIn K (.ref ad.fT)=true
 LV:mg "standings"=some (.ref ad.fU)
 LW:W.keepIn K (.ref ad.fU)=true
 YZ:mg "calls_by_standing"=some (.ref ad.lG)
 ZA:W.keepIn K (.ref ad.lG)=true
 LX:mg "ways_to"=some (.ref ad.fV)
 LY:W.keepIn K (.ref ad.fV)=true
 ZC:mg "without_calls_left"=some (.ref ad.lH)
 ZD:W.keepIn K (.ref ad.lH)=true
 yQ:mg "ranks"=some (.ref ad.dM)
 yR:W.keepIn K (.ref ad.dM)=true
 rF:mg "worth"=some (.ref ad.dN)
 rG:W.keepIn K (.ref ad.dN)=true
 LZ:mg "call_worth"=some (.ref ad.fW)
 MA:W.keepIn K (.ref ad.fW)=true
 MB:mg "best_call"=some (.ref ad.fX)
 MC:W.keepIn K (.ref ad.fX)=true
 ZE:mg "worst_answer"=some (.ref ad.lI)
 ZF:W.keepIn K (.ref ad.lI)=true
 MD:mg "kept_paper"=some (.ref ad.fY)
 ME:W.keepIn K (.ref ad.fY)=true
 MF:mg "all_answers"=some (.ref ad.fZ)
 MG:W.keepIn K (.ref ad.fZ)=true
 ZG:mg "unbroken_behind"=some (.ref ad.lJ)
 ZH:W.keepIn K (.ref ad.lJ)=true
 MJ:mg "broken_paper"=some (.ref ad.gA)
 MK:W.keepIn K (.ref ad.gA)=true
 ML:mg "heard"=some (.ref ad.gB)
 MM:W.keepIn K (.ref ad.gB)=true
 rH:mg "_law_whole"=some (.ref ad.dQ)
 rJ:W.keepIn K (.ref ad.dQ)=true
 rK:mg "_law_cell_at"=some (.ref ad.gC)
 rL:W.keepIn K (.ref ad.gC)=true
 ZI:mg "_law_shares_above_one"=some (.ref ad.lK)
 ZJ:W.keepIn K (.ref ad.lK)=true
 MN:mg "_law_walked"=some (.ref ad.gD)
 MO:W.keepIn K (.ref ad.gD)=true
 ZK:mg "_law_first_rank"=some (.ref ad.lL)
 ZL:W.keepIn K (.ref ad.lL)=true
 m_law:mg "law"=some (.ref ad.gE)
 rM:W.keepIn K (.ref ad.gE)=true
 yS:mg "sum"=none
 bO:mg "sorted"=none
 MP:mg "all"=none
 yT:mg "zip"=none
 yU:mg "any"=none
 bJ:mg "range"=none
 bP:mg "len"=none
 lO:mg "min"=none
 rN:mg "max"=none
 MQ:mg "set"=none
 cF:mg "tuple"=none
 gG:mg "enumerate"=none
 bT:mg "isinstance"=none
 MR:mg "int"=none
 CQ:mg "bool"=none
 iC:mg "list"=none
 eP:∃t,mg "MOST_LISTENERS"=some (.int 8 t)
 eR:∃t,mg "MOST_STANDINGS"=some (.int 3000 t)
 eS:mg "NoWheel"=some (.ref aE)
 pP:mg "NoChain"=some (.ref aH)
 pQ:mg "TooMuch"=some (.ref aI)
 bQ:jl K aE
 eU:jl K aH
 eV:jl K aI
inductive Xn(p0 p1 p2:Prop):Prop where
 |mk (h0:p0) (h1:p1) (h2:p2):Xn p0 p1 p2
inductive Rl(p0 p1 p2 p3:Prop):Prop where
 |mk (h0:p0) (h1:p1) (h2:p2) (h3:p3):Rl p0 p1 p2 p3
inductive G8(p0 p1 p2 p3 p4:Prop):Prop where
 |mk (h0:p0) (h1:p1) (h2:p2) (h3:p3) (h4:p4):G8 p0 p1 p2 p3 p4
inductive Jz(p0 p1 p2 p3 p4 p5:Prop):Prop where
 |mk (h0:p0) (h1:p1) (h2:p2) (h3:p3) (h4:p4) (h5:p5):Jz p0 p1 p2 p3 p4 p5
inductive Nx(p0 p1 p2 p3 p4 p5 p6:Prop):Prop where
 |mk (h0:p0) (h1:p1) (h2:p2) (h3:p3) (h4:p4) (h5:p5) (h6:p6):Nx p0 p1 p2 p3 p4 p5 p6
inductive Pu(p0 p1 p2 p3 p4 p5 p6 p7:Prop):Prop where
 |mk (h0:p0) (h1:p1) (h2:p2) (h3:p3) (h4:p4) (h5:p5) (h6:p6) (h7:p7):Pu p0 p1 p2 p3 p4 p5 p6 p7
inductive Pw(p0 p1 p2 p3 p4 p5 p6 p7 p8:Prop):Prop where
 |mk (h0:p0) (h1:p1) (h2:p2) (h3:p3) (h4:p4) (h5:p5) (h6:p6) (h7:p7) (h8:p8):Pw p0 p1 p2 p3 p4 p5 p6 p7 p8
inductive Lp(p0 p1 p2 p3 p4 p5 p6 p7 p8 p9:Prop):Prop where
 |mk (h0:p0) (h1:p1) (h2:p2) (h3:p3) (h4:p4) (h5:p5) (h6:p6) (h7:p7) (h8:p8) (h9:p9):Lp p0 p1 p2 p3 p4 p5 p6 p7 p8 p9
inductive W3(p0 p1 p2 p3 p4 p5 p6 p7 p8 p9 rO:Prop):Prop where
 |mk (h0:p0) (h1:p1) (h2:p2) (h3:p3) (h4:p4) (h5:p5) (h6:p6) (h7:p7) (h8:p8) (h9:p9) (ZM:rO):W3 p0 p1 p2 p3 p4 p5 p6 p7 p8 p9 rO
inductive ng(p0 p1 p2 p3 p4 p5 p6 p7 p8 p9 rO yV yW yX:Prop):Prop where
 |mk (h0:p0) (h1:p1) (h2:p2) (h3:p3) (h4:p4) (h5:p5) (h6:p6) (h7:p7) (h8:p8) (h9:p9) (ZM:rO) (h11:yV) (h12:yW) (h13:yX):ng p0 p1 p2 p3 p4 p5 p6 p7 p8 p9 rO yV yW yX
inductive nh(p0 p1 p2 p3 p4 p5 p6 p7 p8 p9 rO yV yW yX MS:Prop):Prop where
 |mk (h0:p0) (h1:p1) (h2:p2) (h3:p3) (h4:p4) (h5:p5) (h6:p6) (h7:p7) (h8:p8) (h9:p9) (ZM:rO) (h11:yV) (h12:yW) (h13:yX) (h14:MS):nh p0 p1 p2 p3 p4 p5 p6 p7 p8 p9 rO yV yW yX MS
inductive ni(p0 p1 p2 p3 p4 p5 p6 p7 p8 p9 rO yV yW yX MS p15:Prop):Prop where
 |mk (h0:p0) (h1:p1) (h2:p2) (h3:p3) (h4:p4) (h5:p5) (h6:p6) (h7:p7) (h8:p8) (h9:p9) (ZM:rO) (h11:yV) (h12:yW) (h13:yX) (h14:MS) (h15:p15):ni p0 p1 p2 p3 p4 p5 p6 p7 p8 p9 rO yV yW yX MS p15
inductive Py{T0 T1:Type}(p:T0->T1->Prop):Prop where
 |mk (x0:T0) (x1:T1) (h:p x0 x1):Py p
inductive Pz{T0 T1 T2:Type}(p:T0->T1->T2->Prop):Prop where
 |mk (x0:T0) (x1:T1) (x2:T2) (h:p x0 x1 x2):Pz p
inductive Zp{T0 T1 T2 T3:Type}(p:T0->T1->T2->T3->Prop):Prop where
 |mk (x0:T0) (x1:T1) (x2:T2) (x3:T3) (h:p x0 x1 x2 x3):Zp p
inductive nk{T0 T1 T2 T3 T4:Type}(p:T0->T1->T2->T3->T4->Prop):Prop where
 |mk (x0:T0) (x1:T1) (x2:T2) (x3:T3) (x4:T4) (h:p x0 x1 x2 x3 x4):nk p
inductive y6{T0 T1 T2 T3 T4 T5:Type}(p:T0->T1->T2->T3->T4->T5->Prop):Prop where
 |mk (x0:T0) (x1:T1) (x2:T2) (x3:T3) (x4:T4) (x5:T5) (h:p x0 x1 x2 x3 x4 x5):y6 p
inductive ZN{T0 T1 T2 T3 T4 T5 T6:Type}(p:T0->T1->T2->T3->T4->T5->T6->Prop):Prop where
 |mk (x0:T0) (x1:T1) (x2:T2) (x3:T3) (x4:T4) (x5:T5) (x6:T6) (h:p x0 x1 x2 x3 x4 x5 x6):ZN p
inductive ph{T0 T1 T2 T3 T4 T5 T6 T7:Type}(p:T0->T1->T2->T3->T4->T5->T6->T7->Prop):Prop where
 |mk (x0:T0) (x1:T1) (x2:T2) (x3:T3) (x4:T4) (x5:T5) (x6:T6) (x7:T7) (h:p x0 x1 x2 x3 x4 x5 x6 x7):ph p
inductive ZO{T0 T1 T2 T3 T4 T5 T6 T7 T8:Type}(p:T0->T1->T2->T3->T4->T5->T6->T7->T8->Prop):Prop where
 |mk (x0:T0) (x1:T1) (x2:T2) (x3:T3) (x4:T4) (x5:T5) (x6:T6) (x7:T7) (x8:T8) (h:p x0 x1 x2 x3 x4 x5 x6 x7 x8):ZO p
inductive jk{T0 T1 T2 T3 T4 T5 T6 T7 T8 T9:Type}(p:T0->T1->T2->T3->T4->T5->T6->T7->T8->T9->Prop):Prop where
 |mk (x0:T0) (x1:T1) (x2:T2) (x3:T3) (x4:T4) (x5:T5) (x6:T6) (x7:T7) (x8:T8) (x9:T9) (h:p x0 x1 x2 x3 x4 x5 x6 x7 x8 x9):jk p
def Bk(H:Hp)(a:Addr)(ws:mv)(b:mx):Prop:=∃t,H a=some (.tup [.ref t,vO b])/\H t=some (.tup (ws.map V.int))
def Dp(H:Hp)(b:Addr)(ls:mv)(q:Int):Prop:=∃u,H b=some (.tup [.ref u,.int q])/\H u=some (.tup (ls.map V.int))
theorem Bk.same{H c:Hp}{a:Addr}{ws:mv}{b:mx}(s:A9 H c)(h:Bk H a ws b):Bk c a ws b:=by
 obtain⟨t,d,e⟩:=h;exact⟨t,s _ _ d,s _ _ e⟩
theorem Dp.same{H b:Hp}{a:Addr}{ls:mv}{q:Int}(s:A9 H b)(h:Dp H a ls q):Dp b a ls q:=by
 obtain⟨t,c,d⟩:=h;exact⟨t,s _ _ c,s _ _ d⟩
theorem xq(c:mx):decide (vO c=V.aP)=decide (c=none):=by cases c<;>simp[vO]
def Aw(ws ls:mv)(who:Nat)(lost:Bool):mv:=if lost=true then ls.map (λx=>x-1)else(ls.map (λx=>x-1)).set who (ws.getD who 0)
def Ef(a:mx)(q:Int)(lost:Bool):Int:=if lost=true then a.getD 0 else max (q-1) 0
def U4(a:mx)(q:Int)(lost:Bool):Prop:=lost=true->a≠none/\q=0
theorem Jh(ws ls:mv)(who:Nat)(lost:Bool):(Aw ws ls who lost).length=ls.length:=by
 unfold Aw;split<;>simp
theorem Si(x:Int):∀ns:mv,TH (.int x) (ns.map V.int)=decide (x∈ns)
 |[]=>rfl
 |n::ns=>by
  show(kf (V.int n) (V.int x)||TH (.int x) (ns.map V.int))=_;rw[Si x ns];show((n==x)||decide (x∈ns))=_;by_cases h:n=x
  ·simp[h]
  ·have a:¬x=n:=λe=>h e.symm;simp[h,a]
theorem Ot:∀ns:mv,(ns.map V.int).all Gn=true
 |[]=>rfl
 |n::ns=>by
  show(Gn (V.int n)&&(ns.map V.int).all Gn)=true;rw[Ot ns];rfl
theorem kj{ws:mv}{k:Nat}(h:k<ws.length):U9 (ws.map V.int) (k:Int)=some (.int (ws.getD k 0)):=by
 refine J1 ?_;rw[List.getElem?_map,List.getElem?_eq_getElem h,List.getD_eq_getElem?_getD,List.getElem?_eq_getElem h];rfl
theorem Qj{n k:Nat}(h:k<n):ji n (k:Int)=some k:=by
 unfold ji;rw[if_pos (by omega),if_pos (by omega)];simp
theorem Hh{a:Int}{n:Nat}(h:a.natAbs<2^n):intBits a<=n:=intBits_le h
theorem Dg(x:Int){m:Int}(h:0<m):0<=x%m/\x%m<m:=⟨ll x (by omega),me x h⟩
theorem zl:(0:Int)<10^(60:Int).toNat:=by decide+kernel
def Ue(xs:mv)(lo hi:mx):mv:=(xs.drop (HT.iM xs.length 0 lo)).take (HT.iM xs.length xs.length hi-HT.iM xs.length 0 lo)
theorem Oq(xs:mv)(lo hi:mx):Ug (xs.map V.int) lo hi=(Ue xs lo hi).map V.int:=by
 unfold Ug Ue;rw[List.length_map,List.map_take,List.map_drop]
theorem S3(xs:mv)(lo hi:mx):(Ue xs lo hi).length<=xs.length:=by
 unfold Ue;rw[List.length_take,List.length_drop];omega
theorem Xv{a b:Int}{m n:Nat}(e:intBits a<=m)(f:intBits b<=n):intBits (a*b)<=m+n:=by
 apply intBits_le;rw[Int.natAbs_mul,Nat.pow_add];have c:=eT (natAbs_lt_pow_bits a) (Nat.pow_le_pow_right (by decide) e);have d:=eT (natAbs_lt_pow_bits b) (Nat.pow_le_pow_right (by decide) f);exact Nat.mul_lt_mul'' c d
theorem Ff{n:Nat}(h:n<=10000):n<sizeLine:=kH h (by decide)
def An(H c:Hp):Prop:=∀b a,H b=some (.tup a)->c b=some (.tup a)
theorem An.of{H a:Hp}(s:A9 H a):An H a:=λb c e=>s b _ e
theorem An.trans{H d f:Hp}(a:An H d)(b:An d f):An H f:=λc g e=>b c g (a c g e)
theorem An.lst{H:Hp}{D:Addr}{a:List V}{o:HO}(h:H D=some (.lst a)):An H (upd H D o):=λb c e=>by
 rw[Ab (Bg e h (by intro z;cases z))];exact e
def Ek(H:Hp)(r:mv)(v:V):Prop:=∃p,v=.ref p/\H p=some (.tup (r.map V.int))
def F5(H:Hp)(z:mv×Int)(v:V):Prop:=∃p u,v=.ref p/\H p=some (.tup [.ref u,.int z.2])/\H u=some (.tup (z.1.map V.int))
theorem Ek.up{H a:Hp}{r:mv}{v:V}(t:An H a)(h:Ek H r v):Ek a r v:=by
 obtain⟨p,e,b⟩:=h;exact⟨p,e,t _ _ b⟩
theorem F5.up{H a:Hp}{z:mv×Int}{v:V}(t:An H a)(h:F5 H z v):F5 a z v:=by
 obtain⟨p,u,e,b,c⟩:=h;exact⟨p,u,e,t _ _ b,t _ _ c⟩
def Af{a:Type}(P:a->V->Prop)(b:List a)(c:List V):Prop:=c.length=b.length/\∀(i:Nat) (r:a) (v:V),b[i]?=some r->c[i]?=some v->P r v
theorem Af.nil{a:Type}{P:a->V->Prop}:Af P [] []:=⟨rfl,λi r v e=>by cases e⟩
theorem Af.imp{d:Type}{P a:d->V->Prop}{b:List d}{c:List V}(f:∀r v,P r v->a r v)(h:Af P b c):Af a b c:=⟨h.1,λi r v e g=>f _ _ (h.2 i r v e g)⟩
theorem Af.append{j:Type}{P:j->V->Prop}{c d:List j}{f e:List V}(h:Af P c f)(g:Af P d e):Af P (c++d) (f++e):=by
 refine⟨by rw[List.length_append,List.length_append,h.1,g.1],λi r v a b=>?_⟩;rcases il i c.length with z|z
 ·rw[List.getElem?_append_left z]at a;rw[List.getElem?_append_left (by rw[h.1];exact z)]at b;exact h.2 i r v a b
 ·rw[List.getElem?_append_right z]at a;rw[List.getElem?_append_right (by rw[h.1];exact z),h.1]at b;exact g.2 _ r v a b
theorem Af.one{b:Type}{P:b->V->Prop}{r:b}{v:V}(h:P r v):Af P [r] [v]:=by
 refine⟨rfl,λi d e a c=>?_⟩;cases i with
 |zero=>cases a;cases c;exact h
 |succ i=>cases a
theorem Af.get{d:Type}{P:d->V->Prop}{a:List d}{c:List V}(h:Af P a c){i:Nat}{v:V}(e:c[i]?=some v):∃r,a[i]?=some r/\P r v:=by
 have f:=(bG.mp e).1
 have g:i<a.length:=by
  rw[<- h.1];exact f
 have b:a[i]?=some a[i]:=dt g;exact⟨_,b,h.2 i _ v b e⟩
def qv:mx->Int
 |none=>1
 |some c=>c+1
def Bn(q:Int)(ws:mv):Int:=ws.foldl (·*·) q
def Qk(r:mv)(w:Int):List (mv):=(List.range w.toNat).map λt=>r++[1+((t:Nat):Int)]
def Bv(a:List (mv))(w:Int):List (mv):=a.flatMap λr=>Qk r w
def C6(ws:mv):List (mv):=ws.foldl Bv [[]]
def Fg(r:mv)(q:Int):List (mv×Int):=(List.range q.toNat).map λk=>(r,0+((k:Nat):Int))
def Ar(ws:mv)(q:Int):List (mv×Int):=(C6 ws).flatMap λr=>Fg r q
theorem Fb{a c:Type}(f:c->a->c)(b:c)(xs:List a){i:Nat}{x:a}(h:xs[i]?=some x):(xs.take (i+1)).foldl f b=f ((xs.take i).foldl f b) x:=by
 rw[List.take_add_one,h,List.foldl_append];rfl
theorem Ou{a b:Type}(f:a->List b)(xs:List a){i:Nat}{x:a}(h:xs[i]?=some x):(xs.take (i+1)).flatMap f=(xs.take i).flatMap f++f x:=by
 rw[List.take_add_one,h,List.flatMap_append];simp
theorem Pa{q:Int}(a:intBits q<=256):∀{ws:mv},(∀w∈ws,intBits w<=256)->∀i,i<=ws.length->intBits (Bn q (ws.take i))<=256*(i+1)
 |ws,h,0,_=>by simpa[Bn]using a
 |ws,h,i+1,d=>by
  have c:ws[i]?=some ws[i]:=dt (by omega);have b:=Pa a h i (by omega);unfold Bn at b⊢;rw[Fb _ _ _ c];exact dI (Xv b (h _ (kI _))) (by omega)
theorem V5(q:Int):∀(ws:mv) (a:Int),Bn (q*a) ws=q*Bn a ws
 |[],a=>rfl
 |w::ws,a=>by
  show Bn (q*a*w) ws=q*Bn (a*w) ws;rw[Int.mul_assoc,V5 q ws (a*w)]
theorem Mk{a c:Type}{f:a->List c}{n:Nat}:∀{xs:List a},(∀x∈xs,(f x).length=n)->(xs.flatMap f).length=xs.length*n
 |[],_=>by simp
 |x::xs,h=>by
  rw[List.flatMap_cons,List.length_append,h x (List.mem_cons_self ..),Mk λy b=>h y (List.mem_cons_of_mem _ b),List.length_cons,Nat.succ_mul];omega
theorem So(r:mv)(w:Int):(Qk r w).length=w.toNat:=by simp[Qk]
theorem Po(r:mv)(q:Int):(Fg r q).length=q.toNat:=by simp[Fg]
theorem Nn(a:List (mv))(w:Int):(Bv a w).length=a.length*w.toNat:=Mk λr _=>So r w
theorem Nd:∀(ws:mv) (rows:List (mv)),(∀w∈ws,1<=w)->((ws.foldl Bv rows).length:Int)=Bn (rows.length:Int) ws
 |[],rows,_=>rfl
 |w::ws,rows,h=>by
  have b:=h w (cL ..);show((ws.foldl Bv (Bv rows w)).length:Int)=Bn ((rows.length:Int)*w) ws;rw[Nd ws _ (λx a=>h x (List.mem_cons_of_mem _ a)),Nn];congr 1;rw[Int.natCast_mul];congr 1;omega
theorem Jn:∀(ws:mv) (a:Int),0<=a->(∀w∈ws,1<=w)->a<=Bn a ws
 |[],a,_,_=>Int.le_refl _
 |w::ws,a,c,h=>by
  have d:=h w (cL ..)
  have b:a<=a*w:=by
   have:=iB d c;rw[Int.mul_one]at this;exact this
  exact la b (Jn ws (a*w) (la c b) λx e=>h x (dr _ e))
theorem Z6{ws:mv}{a:Int}(c:0<=a)(h:∀w∈ws,1<=w)(i:Nat):Bn a (ws.take i)<=Bn a ws:=by
 have e:Bn a ws=Bn (Bn a (ws.take i)) (ws.drop i):=by
  unfold Bn;rw[<- List.foldl_append,List.take_append_drop]
 rw[e];refine Jn _ _ (la c (Jn _ _ c λw b=>h w (List.mem_of_mem_take b))) λw b=>h w (List.mem_of_mem_drop b)
theorem Qn{r x:mv}{w:Int}(h:x∈Qk r w):∃t:Nat,t<w.toNat/\x=r++[1+(t:Int)]:=by
 unfold Qk at h;obtain⟨t,a,rfl⟩:=eH.mp h;exact⟨t,lP.mp a,rfl⟩
theorem Jq(ws:mv):∀i,i<=ws.length->∀r∈C6 (ws.take i),r.length=i/\∀(k:Nat) (x w:Int),r[k]?=some x->ws[k]?=some w->1<=x/\x<=w
 |0,_,r,h=>by
  have e:r=[]:=iv.mp h;subst e;exact⟨rfl,λk x w e=>by cases e⟩
 |i+1,o,r,h=>by
  have d:ws[i]?=some ws[i]:=dt (by omega);have e:C6 (ws.take (i+1))=Bv (C6 (ws.take i)) ws[i]:=Fb _ _ _ d;rw[e]at h;obtain⟨f,g,j⟩:=List.mem_flatMap.mp h;obtain⟨t,n,rfl⟩:=Qn j;obtain⟨c,l⟩:=Jq ws i (by omega) f g;refine⟨by simp[c],λk x w a b=>?_⟩;rcases il k f.length with z|z
  ·rw[List.getElem?_append_left z]at a;exact l k x w a b
  ·have m:k=i:=by
    have:=(bG.mp a).1;rw[List.length_append,List.length_singleton]at this;omega
   subst m;rw[List.getElem?_append_right z,c,Nat.sub_self]at a;cases a;rw[d]at b;cases b;omega
def Xq(r s:mv):Prop:=aC (r.map PyData.int) (s.map PyData.int)=true
theorem Lg(a b:Int):PyData.eqv (.int a) (.int b)=decide (a=b):=by
 show(a==b)=_;by_cases h:a=b<;>simp[h]
theorem Ql:∀r:mv,¬Xq r r
 |[]=>by unfold Xq;simp[aC]
 |x::r=>λh=>by
  have a:=Ql r;unfold Xq at h a;rw[List.map_cons,aC,Lg,if_pos (by simp)]at h;exact a h
theorem Ss:∀{r s:mv}{x y:Int},r.length=s.length->Xq r s->Xq (r++[x]) (s++[y])
 |[],[],x,y,_,h=>absurd h (Ql [])
 |[],_::_,_,_,c,_=>by simp at c
 |_::_,[],_,_,c,_=>by simp at c
 |a::r,b::s,x,y,c,h=>by
  unfold Xq at h⊢;rw[List.cons_append,List.cons_append,List.map_cons,List.map_cons,aC]at*;by_cases e:PyData.eqv (.int a) (.int b)=true
  ·rw[if_pos e]at h⊢;exact Ss (r:=r) (s:=s) (by simpa using c) h
  ·rw[if_neg e]at h⊢;exact h
theorem Sr:∀{r:mv}{x y:Int},x<y->Xq (r++[x]) (r++[y])
 |[],x,y,h=>by
  unfold Xq;show aC [PyData.int x] [PyData.int y]=true;rw[aC,Lg,if_neg (by simp;omega),Jy];exact decide_eq_true h
 |a::r,x,y,h=>by
  unfold Xq;rw[List.cons_append,List.cons_append,List.map_cons,List.map_cons,aC,Lg,if_pos (by simp)];exact Sr (r:=r) h
theorem Uv(r:mv)(w:Int):(Qk r w).Pairwise Xq:=by
 unfold Qk;rw[List.pairwise_map];exact List.pairwise_lt_range.imp λh=>Sr (by omega)
theorem Kz(ws:mv):∀i,i<=ws.length->(C6 (ws.take i)).Pairwise Xq
 |0,_=>by
  show([[]]:List (mv)).Pairwise Xq;exact List.pairwise_singleton _ _
 |i+1,n=>by
  have f:ws[i]?=some ws[i]:=dt (by omega);have e:C6 (ws.take (i+1))=Bv (C6 (ws.take i)) ws[i]:=Fb _ _ _ f;rw[e];unfold Bv;rw[List.pairwise_flatMap];refine⟨λr _=>Uv r _,?_⟩;refine(Kz ws i (by omega)).imp_of_mem λ{a b} c d h x g y j=>?_;obtain⟨t,_,rfl⟩:=Qn g;obtain⟨u,_,rfl⟩:=Qn j;have l:=(Jq ws i (by omega) a c).1;have m:=(Jq ws i (by omega) b d).1;exact Ss (by omega) h
def dS(z:mv×Int):nX:=dP (dT z.1) (.int z.2)
theorem cp{a b:mv×Int}(h:Xq a.1 b.1\/(a.1=b.1/\a.2<b.2)):Jy (dS a) (dS b)=true:=by
 show aC [dT a.1,.int a.2] [dT b.1,.int b.2]=true;rw[aC,au];rcases h with h|⟨d,f⟩
 ·have c:¬a.1=b.1:=λe=>by
   rw[e]at h;exact Ql _ h
  rw[if_neg (by simpa using c)];exact h
 ·rw[if_pos (by simpa using d),aC,Lg,if_neg (by simp;omega),Jy];exact decide_eq_true f
theorem Qo{r:mv}{q:Int}{z:mv×Int}(h:z∈Fg r q):z.1=r/\0<=z.2/\z.2<q:=by
 unfold Fg at h;obtain⟨k,a,rfl⟩:=eH.mp h;have:=lP.mp a;exact⟨rfl,by show 0<=0+(k:Int);omega,by show 0+(k:Int)<q;omega⟩
theorem Df(ws:mv)(q:Int):(Ar ws q).Pairwise λa b=>Jy (dS a) (dS b)=true:=by
 unfold Ar;rw[List.pairwise_flatMap];refine⟨λr _=>?_,?_⟩
 ·unfold Fg;rw[List.pairwise_map];exact List.pairwise_lt_range.imp λ{a b} h=>cp (a:=(r,0+((a:Nat):Int))) (b:=(r,0+((b:Nat):Int))) (.inr ⟨rfl,by show 0+((a:Nat):Int)<0+((b:Nat):Int);omega⟩)
 ·have h:=Kz ws ws.length (da _);rw[List.take_length]at h;refine h.imp λ{a b} h x c y d=>?_;exact cp (.inl (by rw[(Qo c).1,(Qo d).1];exact h))
theorem Hs{ws:mv}{q:Int}(h:∀w∈ws,1<=w)(a:0<=q):((Ar ws q).length:Int)=Bn q ws:=by
 unfold Ar;rw[Mk λr _=>Po r q,Int.natCast_mul];have e:((C6 ws).length:Int)=Bn 1 ws:=Nd ws [[]] h;rw[e,Int.toNat_of_nonneg a,Int.mul_comm,<- V5,Int.mul_one]
theorem Pm{ws:mv}{q:Int}{z:mv×Int}(h:z∈Ar ws q):z.1.length=ws.length/\(∀(k:Nat) (x w:Int),z.1[k]?=some x->ws[k]?=some w->1<=x/\x<=w)/\0<=z.2/\z.2<q:=by
 obtain⟨r,b,c⟩:=List.mem_flatMap.mp h;obtain⟨d,e,f⟩:=Qo c;have a:=Jq ws ws.length (da _) r (by rw[List.take_length];exact b);rw[d];exact⟨a.1,a.2,e,f⟩
theorem Pd{ws:mv}(h:∀w∈ws,1<=w)(d:Bn 1 ws<=3000)(i:Nat):(C6 (ws.take i)).length<=3000:=by
 have e:=Nd (ws.take i) [[]] λw a=>h w (List.mem_of_mem_take a);have b:=Z6 (ws:=ws) (a:=1) (by decide) h i;have c:Bn (([[]]:List (mv)).length:Int) (ws.take i)=Bn 1 (ws.take i):=rfl;unfold C6;omega
theorem Mf(z:mv×Int):(dS z).depth=2:=by
 unfold dS;rw[S6,ak];rfl
def xv(H:Hp)(v:V):Option (mv×Int)->Prop
 |none=>v=.aP
 |some r=>∃b,v=.ref b/\Dp H b r.1 r.2
def qi:Option (mv×Int)->nX
 |none=>.none
 |some r=>dP (dT r.1) (.int r.2)
theorem vk{H:Hp}{v:V}{r:Option (mv×Int)}(h:xv H v r):Rp H (qi r) v:=by
 cases r with
 |none=>
  cases h;exact f7
 |some r=>
  obtain⟨b,rfl,t,a,c⟩:=h;exact eh a (o8 c) (Nf _)
theorem Af.tail{c:Type}{P:c->V->Prop}{r:c}{v:V}{d:List c}{e:List V}(h:Af P (r::d) (v::e)):P r v/\Af P d e:=⟨h.2 0 r v rfl rfl,by have:=h.1;simpa using this,λi a b f g=>h.2 (i+1) a b f g⟩
theorem Mu{a:Type}{P:a->Prop}{xs:List a}{x:a}(h:∀y∈xs,P y)(b:P x):∀y∈xs++[x],P y:=λy c=>by
 rcases fe.mp c with z|z
 ·exact h y z
 ·cases iv.mp z;exact b
theorem Dp.up{H a:Hp}{b:Addr}{ls:mv}{q:Int}(t:An H a)(h:Dp H b ls q):Dp a b ls q:=by
 obtain⟨u,c,d⟩:=h;exact⟨u,t _ _ c,t _ _ d⟩
theorem xv.up{H a:Hp}{v:V}{r:Option (mv×Int)}(s:An H a)(h:xv H v r):xv a v r:=by
 cases r with
 |none=>exact h
 |some r=>
  obtain⟨b,e,h⟩:=h;exact⟨b,e,h.up s⟩
def Cz(ws ls:mv)(cm:mx)(q:Int)(who:Nat)(lost:Bool):Option (mv×Int):=if(0:Int)∈Aw ws ls who lost then none else some (Aw ws ls who lost,Ef cm q lost)
def Ed(cm:mx)(q:Int):Bool:= !decide (cm=none)&&decide (q=0)
def Az(ws ls:mv)(cm:mx)(q:Int)(who:Nat):List (Option (mv×Int)):=Cz ws ls cm q who false::if Ed cm q=true then[Cz ws ls cm q who true]else[]
def Et(H:Hp)(r:Option (mv×Int))(v:V):Prop:=xv H v r
theorem Et.up{H a:Hp}{v:V}{r:Option (mv×Int)}(s:An H a)(h:Et H r v):Et a r v:=xv.up s h
theorem Af.cons{a:Type}{P:a->V->Prop}{r:a}{v:V}{b:List a}{c:List V}(h:P r v)(g:Af P b c):Af P (r::b) (v::c):=(Af.one h).append g
theorem Pe{H:Hp}:∀{a:List (Option (mv×Int))}{b:List V},Af (Et H) a b->aB H (a.map qi) b
 |[],[],_=>by unfold aB;rfl
 |[],_::_,h=>by have:=h.1;simp at this
 |_::_,[],h=>by have:=h.1;simp at this
 |r::a,u::b,h=>by
  obtain⟨c,d⟩:=h.tail;show aB H (qi r::a.map qi) (u::b);unfold aB;exact⟨_,_,rfl,vk c,Pe d⟩
theorem kg(r:Option (mv×Int)):PyData.eqv (qi r) .none=decide (r=none):=by cases r<;>rfl
theorem Q4:∀a:List (Option (mv×Int)),(a.map qi).any (λe=>PyData.eqv e .none)=decide (none∈a)
 |[]=>rfl
 |r::a=>by
  rw[List.map_cons,List.any_cons,Q4 a,kg,Bool.eq_iff_iff];simp only[Bool.or_eq_true,decide_eq_true_eq,List.mem_cons];exact⟨λz=>z.imp Eq.symm id,λz=>z.imp Eq.symm id⟩
def SV(H:Hp)(v:V):Prop:=∃b k,v=.ref b/\F4 H b k
def W5(H:Hp)(cs:List (Dz×V)):Prop:=∀e∈cs,(∃i:Int,e.1=.inl i)/\∃(l:Addr) (a:List V),e.2=.ref l/\H l=some (.lst a)/\a.length<=2/\∀u∈a,SV H u
def y0(H:Hp)(v:V):Prop:=∃(c:Addr) (a:List (Dz×V)),v=.ref c/\H c=some (.dK a)/\a.length<=8/\W5 H a
def LT(H a:Hp):Prop:=(∀b c,H b=some (.lst c)->a b=some (.lst c))/\An H a
theorem LT.of{H a:Hp}(s:A9 H a):LT H a:=⟨λb c e=>s b _ e,An.of s⟩
theorem LT.dT{H:Hp}{D:Addr}{kvs:mu}{o:HO}(h:H D=some (.dT kvs)):LT H (upd H D o):=
 ⟨λb a e=>by rw[Ab (Bg e h (by intro z;cases z))];exact e,λb a e=>by rw[Ab (Bg e h (by intro z;cases z))];exact e⟩
theorem LT.dK{H:Hp}{D:Addr}{kvs:List (Dz×V)}{o:HO}(h:H D=some (.dK kvs)):LT H (upd H D o):=
 ⟨λb a e=>by rw[Ab (Bg e h (by intro z;cases z))];exact e,λb a e=>by rw[Ab (Bg e h (by intro z;cases z))];exact e⟩
theorem LT.trans{H d f:Hp}(a:LT H d)(b:LT d f):LT H f:=⟨λc g e=>b.1 c g (a.1 c g e),a.2.trans b.2⟩
def Ii(H:Hp)(kvs:mu):Prop:=∀a∈kvs,y0 H a.2
theorem Te{κ:Type}[DecidableEq κ]{P:V->Prop}{kvs:List (κ×V)}{k:κ}{v:V}(h:∀a∈kvs,P a.2)(c:P v):∀a∈Bd kvs k v,P a.2:=λa b=>by
 unfold Bd at b;split at b
 ·obtain⟨x,d,rfl⟩:=eH.mp b;split
  ·exact c
  ·exact h x d
 ·rcases fe.mp b with z|z
  ·exact h a z
  ·cases iv.mp z;exact c
theorem Bu{n:Nat}(h:n<=200000):n<sizeLine:=kH h (by decide)
theorem Be{κ:Type}[DecidableEq κ]{kvs:List (κ×V)}{k:κ}{v:V}(h:Ag kvs k=some v):(k,v)∈kvs:=by
 unfold Ag at h;obtain⟨p,a,rfl⟩:=dm.mp h;have b:=List.find?_some a;have c:=List.mem_of_find?_eq_some a;have d:p.1=k:=by simpa using b
 rw[<- d];exact c
theorem L3{κ:Type}[DecidableEq κ]{kvs:List (κ×V)}{k:κ}{v:V}(h:(k,v)∈kvs):∃w,Ag kvs k=some w:=by
 cases e:Ag kvs k with
 |some w=>exact⟨w,rfl⟩
 |none=>exact absurd (List.mem_map_of_mem (f:=(·.1)) h) (Nt e)
def Eh(kvs:mu)(H a:Hp):Prop:=∀b o,H b=some o->(∀c∈kvs,c.2≠ .ref b)->a b=some o
theorem Eh.of{kvs:mu}{H a:Hp}(s:A9 H a):Eh kvs H a:=λb o e _=>s b o e
theorem Eh.trans{kvs:mu}{H d f:Hp}(a:Eh kvs H d)(b:Eh kvs d f):Eh kvs H f:=λc o e n=>b c o (a c o e n) n
theorem Eh.new{kvs:mu}{H c:Hp}{p:Addr}{o:HO}(a:Eh kvs H c)(h:H p=none):Eh kvs H (upd c p o):=λb u e n=>by
 rw[Ab (Ae e h)];exact a b u e n
theorem Eh.keep{kvs:mu}{H d:Hp}{b:Addr}{o:HO}(a:Eh kvs H d)(p:Ii H kvs)(e:H b=some o)(n:∀cs,o≠ .dK cs):d b=some o:=a b o e λi h z=>by
 obtain⟨c,cs,f,g,_⟩:=p i h;rw[z]at f;cases f;rw[e]at g;exact n cs (d0 g)
theorem Eh.lt{kvs:mu}{H c:Hp}(a:Eh kvs H c)(p:Ii H kvs):LT H c:=⟨λb f e=>a.keep p e (λd z=>nomatch z),λb f e=>a.keep p e (λd z=>nomatch z)⟩
theorem Eh.pop{kvs:mu}{H:Hp}{c:Addr}{o:HO}{a:(mv×Int)×V}(h:a∈kvs)(e:a.2=.ref c):Eh kvs H (upd H c o):=λb u d n=>by
 rw[Ab (λz=>n a h (by rw[e,z]))];exact d
def pc(H:Hp):V->Nat
 | .ref c=>match H c with
  |some (.dK a)=>a.length
  |_=>0
 |_=>0
def Cg(H:Hp)(kvs:mu):Nat:=(kvs.map λa=>pc H a.2).sum
theorem Nq{H:Hp}{c:Addr}{cs:List (Dz×V)}(h:H c=some (.dK cs)):pc H (.ref c)=cs.length:=by
 unfold pc;simp only[h]
theorem Ec{H a:Hp}:∀{kvs:mu},Ii H kvs->(∀c cs,H c=some (.dK cs)->a c=some (.dK cs))->Cg a kvs=Cg H kvs
 |[],_,_=>rfl
 |kv::kvs,p,k=>by
  obtain⟨c,cs,e,b,_⟩:=p kv (by simp);have d:=Ec (kvs:=kvs) (λx f=>p x (dr _ f)) k;unfold Cg at d⊢;rw[List.map_cons,List.map_cons,List.sum_cons,List.sum_cons,d,e,Nq b,Nq (k c cs b)]
theorem Mq{H:Hp}:∀{kvs:mu},Ii H kvs->Cg H kvs<=8*kvs.length
 |[],_=>jT _
 |kv::kvs,p=>by
  obtain⟨c,f,e,a,g,_⟩:=p kv (by simp);have d:=Mq (kvs:=kvs) (λx b=>p x (dr _ b));unfold Cg at d⊢;rw[List.map_cons,List.sum_cons,e,Nq a,List.length_cons];omega
theorem P3{H:Hp}{c:Addr}{cs a:List (Dz×V)}(e:H c=some (.dK cs))(g:a.length<cs.length):∀{kvs:mu},Cg (upd H c (.dK a)) kvs<=Cg H kvs/\((∃kv∈kvs,kv.2=.ref c)->Cg (upd H c (.dK a)) kvs+1<=Cg H kvs)
 |[]=>⟨da _,λ⟨kv,h,_⟩=>by cases h⟩
 |kv::kvs=>by
  obtain⟨m,f⟩:=P3 e g (kvs:=kvs)
  have one:pc (upd H c (.dK a)) kv.2<=pc H kv.2/\(kv.2=.ref c->pc (upd H c (.dK a)) kv.2+1<=pc H kv.2):=by
   by_cases z:kv.2=.ref c
   ·rw[z,Nq e,Nq A5];omega
   ·refine⟨Nat.le_of_eq ?_,λy=>absurd y z⟩;unfold pc;cases j:kv.2 with
    |ref d=>
     rw[j]at z;have i:d≠c:=λy=>z (by rw[y]);simp only[Ab i]
    |_=>rfl
  unfold Cg at m f⊢;rw[List.map_cons,List.map_cons,List.sum_cons,List.sum_cons];refine⟨by omega,λ⟨x,l,b⟩=>?_⟩;rcases d3.mp l with y|y
  ·subst y;have:=one.2 b;omega
  ·have:=f ⟨x,y,b⟩;omega
theorem jy{cs:List (Dz×V)}{k:Dz}{v:V}(h:Ag cs k=some v):(Br cs k).length<cs.length:=by
 have a:=Be h;unfold Br;exact List.length_filter_lt_length_iff_exists.mpr ⟨(k,v),a,by simp⟩
theorem Mh{cs:List (Dz×V)}{k:Dz}{e:Dz×V}(h:e∈Br cs k):e∈cs:=(l7.mp h).1
def Xr(B:Addr)(H:Hp)(kvs:mu):Prop:=∀b∈kvs,∀c a,b.2=.ref c->H c=some (.dK a)->∀e∈a,e.2≠ .ref B
theorem Xr.start{B:Addr}{H:Hp}{kvs:mu}(p:Ii H kvs)(h:H B=none):Xr B H kvs:=λq i c r j m e o z=>by
 obtain⟨d,s,a,b,_,n⟩:=p q i;rw[j]at a;cases a;rw[m]at b;cases b;obtain⟨_,l,u,f,g,_⟩:=n e o;rw[z]at f;cases f;rw[h]at g;cases g
theorem Xr.keep{B:Addr}{H a:Hp}{kvs:mu}(n:Xr B H kvs)(p:Ii H kvs)(k:∀c cs,H c=some (.dK cs)->a c=some (.dK cs)):Xr B a kvs:=λh e c cs f i=>by
 obtain⟨d,l,j,g,_⟩:=p h e;have b:=j;rw[f]at b;cases b;have:=k _ _ g;rw[i]at this;cases this;exact n h e c cs f g
theorem Xr.pop{B c:Addr}{H:Hp}{cs:List (Dz×V)}{k:Dz}{kvs:mu}(n:Xr B H kvs)(j:H c=some (.dK cs)):Xr B (upd H c (.dK (Br cs k))) kvs:=λh b d i f a e g=>by
 by_cases z:d=c
 ·subst z;rw[A5]at a;cases a;exact n h b d cs f j e (Mh g)
 ·rw[Ab z]at a;exact n h b d i f a e g
theorem Wr(k:mv×Int):Jy (dS k) (dS k)=false:=by
 have a:PyData.eqv (dT k.1) (dT k.1)=true:=by
  show PyData.eqvAll (k.1.map PyData.int) (k.1.map PyData.int)=true;rw[Em];simp
 show aC [dT k.1,.int k.2] [dT k.1,.int k.2]=false;rw[aC,if_pos a,aC,if_pos (show PyData.eqv (.int k.2) (.int k.2)=true from PySem.SeqAt.eqv_refl _ rfl)];rfl
theorem L1(ws:mv)(q:Int):(Ar ws q).Nodup:=(Df ws q).imp λ{a b} h e=>by
 rw[e,Wr]at h;cases h
theorem P7{c:Type}{xs:List c}{i:Nat}{x:c}(h:xs.Nodup)(e:xs[i]?=some x):x∉xs.take i:=λz=>by
 obtain⟨j,a⟩:=gy.mp z
 have b:j<i:=by
  apply Classical.byContradiction;intro y;rw[List.getElem?_take_eq_none (by omega)]at a;cases a
 rw[List.getElem?_take_of_lt b]at a;have m:=(bG.mp a);have n:=(bG.mp e);obtain⟨d,f⟩:=m;obtain⟨g,l⟩:=n;exact(List.pairwise_iff_getElem.mp h) j i d g b (f.trans l.symm)
theorem Ct{κ:Type}[DecidableEq κ]{kvs:List (κ×V)}{k:κ}{v:V}(a:(kvs.map (·.1)).Nodup)(h:(k,v)∈kvs):Ag kvs k=some v:=by
 induction kvs with
 |nil=>cases h
 |cons p r c=>
  rw[List.map_cons,List.nodup_cons]at a;rcases d3.mp h with z|z
  ·subst z;exact Bx rfl
  ·have b:¬p.1=k:=λe=>a.1 (by rw[e];exact List.mem_map_of_mem (f:=(·.1)) z);rw[Bw b];exact c a.2 z
theorem Rh{κ:Type}{kvs:List (κ×V)}{x y:κ×V}(b:(kvs.map (·.2)).Nodup)(c:x∈kvs)(d:y∈kvs)(e:x.2=y.2):x=y:=by
 induction kvs with
 |nil=>cases c
 |cons p r f=>
  rw[List.map_cons,List.nodup_cons]at b;rcases d3.mp c with z|z<;>rcases d3.mp d with a|a
  ·rw[z,a]
  ·subst z;exact absurd (by rw[e];exact List.mem_map_of_mem (f:=(·.2)) a) b.1
  ·subst a;exact absurd (by rw[<- e];exact List.mem_map_of_mem (f:=(·.2)) z) b.1
  ·exact f b.2 z a
theorem du{κ:Type}[DecidableEq κ]{kvs:List (κ×V)}{k:κ}{v:V}{e:κ×V}(h:e∈Bd kvs k v):e∈kvs\/e=(k,v):=by
 unfold Bd at h;split at h
 ·obtain⟨x,b,rfl⟩:=eH.mp h;split
  ·rename_i a;exact .inr (by rw[a])
  ·exact .inl b
 ·rcases fe.mp h with z|z
  ·exact .inl z
  ·exact .inr (iv.mp z)
theorem Uq{κ:Type}[DecidableEq κ]{kvs:List (κ×V)}{k j:κ}{v:V}(h:(Ag kvs j).isSome=true\/j=k):(Ag (Bd kvs k v) j).isSome=true:=by
 rw[Fi];split
 ·rfl
 ·rename_i a;rcases h with h|h
  ·exact h
  ·exact absurd h a
def Gb(ws:mv)(cm:mx)(z:mv×Int)(H:Hp)(cs:List (Dz×V)):Prop:=∀e∈cs,∃(a:Nat) (l:Addr) (b:List V),e.1=.inl (a:Int)/\a<ws.length/\none∉Az ws z.1 cm z.2 a/\e.2=.ref l/\H l=some (.lst b)/\Af (Et H) (Az ws z.1 cm z.2 a) b
def W4(ws:mv)(cm:mx)(H:Hp)(z:mv×Int)(v:V):Prop:=∃(c:Addr) (a:List (Dz×V)),v=.ref c/\H c=some (.dK a)/\a.length<=8/\Gb ws cm z H a
theorem Gb.up{ws:mv}{cm:mx}{z:mv×Int}{H b:Hp}{cs:List (Dz×V)}(t:LT H b)(h:Gb ws cm z H cs):Gb ws cm z b cs:=λe m=>by
 obtain⟨a,l,n,c,d,f,g,i,j⟩:=h e m;exact⟨a,l,n,c,d,f,g,t.1 _ _ i,j.imp λ_ _ y=>Et.up t.2 y⟩
theorem Gb.ok{ws:mv}{cm:mx}{z:mv×Int}{H:Hp}{cs:List (Dz×V)}(h:Gb ws cm z H cs):W5 H cs:=λe j=>by
 obtain⟨s,l,q,a,v,f,g,i,b⟩:=h e j;refine⟨⟨_,a⟩,l,q,g,i,?_,λu o=>?_⟩
 ·rw[b.1];unfold Az;split<;>simp
 ·obtain⟨m,n⟩:=gy.mp o;obtain⟨r,p,c⟩:=b.get n;cases r with
  |none=>exact absurd (cb p) f
  |some r=>
   obtain⟨d,e,a⟩:=c;exact⟨d,r,e,a⟩
theorem W4.up{ws:mv}{cm:mx}{z:mv×Int}{H a:Hp}{v:V}(t:LT H a)(k:∀c cs,H c=some (.dK cs)->a c=some (.dK cs))(h:W4 ws cm H z v):W4 ws cm a z v:=by
 obtain⟨c,cs,e,b,d,f⟩:=h;exact⟨c,cs,e,k _ _ b,d,f.up t⟩
def Cl(ws:mv)(cm:mx)(H:Hp)(kvs:mu):Prop:=(∀a∈kvs,W4 ws cm H a.1 a.2)/\(kvs.map (·.1)).Nodup/\(kvs.map (·.2)).Nodup
theorem Cl.ok{ws:mv}{cm:mx}{H:Hp}{kvs:mu}(h:Cl ws cm H kvs):Ii H kvs:=λi a=>by
 obtain⟨c,b,e,d,f,g⟩:=h.1 i a;exact⟨c,b,e,d,f,g.ok⟩
theorem Cl.keep{ws:mv}{cm:mx}{H a:Hp}{kvs:mu}(p:Cl ws cm H kvs)(t:LT H a)(k:∀c cs,H c=some (.dK cs)->a c=some (.dK cs)):Cl ws cm a kvs:=⟨λd b=>(p.1 d b).up t k,p.2⟩
def Lr(ws:mv)(cm:mx)(H:Hp)(kvs:mu):Prop:=∀b∈kvs,∀c d,b.2=.ref c->H c=some (.dK d)->∀a:Nat,a<ws.length->none∉Az ws b.1.1 cm b.1.2 a->(Ag d (.inl (a:Int))).isSome=true
theorem Lr.keep{ws:mv}{cm:mx}{H a:Hp}{kvs:mu}(f:Lr ws cm H kvs)(p:Cl ws cm H kvs)(k:∀c cs,H c=some (.dK cs)->a c=some (.dK cs)):Lr ws cm a kvs:=λi e c cs g j=>by
 obtain⟨d,m,l,h,_⟩:=p.1 i e;have b:=l;rw[g]at b;cases b;have:=k _ _ h;rw[j]at this;cases this;exact f i e c cs g h
def Am(H:Hp)(kvs:mu)(k:mv×Int)(who:Nat):Prop:=∃(c:Addr) (a:List (Dz×V)),Ag kvs k=some (.ref c)/\H c=some (.dK a)/\(Ag a (.inl (who:Int))).isSome=true
theorem Ep{c:Type}{xs:List c}{x:c}(h:xs.Nodup)(g:x∉xs):(xs++[x]).Nodup:=by
 rw[List.nodup_append];refine⟨h,by simp,λa d b f e=>?_⟩;rw[List.mem_singleton.mp f]at e;exact g (e▸d)
def Q3(ws:mv)(cm:mx)(kvs:mu)(H:Hp)(a:mv×Int)(u:V):Prop:=∃(t b:Addr) (c:Nat) (k:mv×Int),u=.ref t/\H t=some (.tup [.ref b,.int (c:Int)])/\F4 H b k/\(∃v,Ag kvs k=some v)/\some a∈Az ws k.1 cm k.2 c
theorem Q3.up{ws:mv}{cm:mx}{kvs:mu}{H d:Hp}{c:mv×Int}{u:V}(t:An H d)(h:Q3 ws cm kvs H c u):Q3 ws cm kvs d c u:=by
 obtain⟨a,b,i,k,e,f,g,j,l⟩:=h;exact⟨a,b,i,k,e,t _ _ f,g.up t,j,l⟩
def F7(ws:mv)(cm:mx)(d:Hp)(kvs:mu)(n:Nat)(H:Hp)(c:mu):Prop:=(∀b∈c,∃(l:Addr) (a:List V),b.2=.ref l/\d l=none/\H l=some (.lst a)/\a.length<=n/\∀u∈a,Q3 ws cm kvs H b.1 u)/\(c.map (·.2)).Nodup
theorem F7.up{ws:mv}{cm:mx}{b H a:Hp}{kvs c:mu}{n m:Nat}(t:LT H a)(r:n<=m)(h:F7 ws cm b kvs n H c):F7 ws cm b kvs m a c:=⟨λo d=>by
 obtain⟨l,p,e,f,g,q,i⟩:=h.1 o d;exact⟨l,p,e,f,t.1 _ _ g,by omega,λu j=>(i u j).up t.2⟩,h.2⟩
theorem F7.app{ws:mv}{cm:mx}{g H:Hp}{kvs f:mu}{n:Nat}{l:Addr}{b:List V}{x:V}{a:mv×Int}(h:F7 ws cm g kvs n H f)(v:(a,V.ref l)∈f)(s:H l=some (.lst b))(c:b.length<=n)(r:∀u∈b,Q3 ws cm kvs H a u)(w:Q3 ws cm kvs H a x):F7 ws cm g kvs (n+1) (upd H l (.lst (b++[x]))) f:=⟨λm i=>by
 have t:An H (upd H l (.lst (b++[x]))):=An.lst s;obtain⟨d,y,e,j,p,A,q⟩:=h.1 m i;by_cases z:d=l
 ·subst z;have o:m=(a,V.ref d):=Rh h.2 i v e;refine⟨d,b++[x],e,j,A5,by rw[List.length_append,List.length_singleton];omega,λu c=>?_⟩;rw[o];exact(Mu r w u c).up t
 ·exact⟨d,y,e,j,(Ab z).trans p,by omega,λu c=>(q u c).up t⟩,h.2⟩
def Ca(H:Hp)(d:mu)(a k:mv×Int)(who:Nat):Prop:=∃(l:Addr) (c:List V) (t b:Addr),Ag d a=some (.ref l)/\H l=some (.lst c)/\V.ref t∈c/\H t=some (.tup [.ref b,.int (who:Int)])/\F4 H b k
theorem Ca.up{H d:Hp}{e:mu}{c k:mv×Int}{who:Nat}(t:LT H d)(h:Ca H e c k who):Ca d e c k who:=by
 obtain⟨l,n,a,b,f,g,i,j,m⟩:=h;exact⟨l,n,a,b,f,t.1 _ _ g,i,t.2 _ _ j,m.up t.2⟩
theorem Ca.put{H:Hp}{f:mu}{c k g:mv×Int}{who:Nat}{v:V}(j:Ag f g=none)(h:Ca H f c k who):Ca H (Bd f g v) c k who:=by
 obtain⟨l,m,a,b,d,i⟩:=h;refine⟨l,m,a,b,?_,i⟩;rw[Fi,if_neg (λe=>by rw[e,j]at d;cases d)];exact d
theorem Ca.app{H:Hp}{o:mu}{c k:mv×Int}{who:Nat}{l:Addr}{f:List V}{x:V}(n:H l=some (.lst f))(h:Ca H o c k who):Ca (upd H l (.lst (f++[x]))) o c k who:=by
 have t:An H (upd H l (.lst (f++[x]))):=An.lst n;obtain⟨e,p,a,b,g,d,i,j,m⟩:=h;by_cases z:e=l
 ·subst z;rw[n]at d;cases d;exact⟨e,_,a,b,g,A5,gv _ i,t _ _ j,m.up t⟩
 ·exact⟨e,p,a,b,g,(Ab z).trans d,i,t _ _ j,m.up t⟩
theorem Sc{cs:List (Dz×V)}{k j:Dz}:Ag (Br cs k) j=if j=k then none else Ag cs j:=by
 induction cs with
 |nil=>split<;>rfl
 |cons p r a=>
  by_cases e:p.1=k
  ·rw[Yc e,a];by_cases z:j=k
   ·rw[if_pos z,if_pos z]
   ·rw[if_neg z,if_neg z,Bw (λy=>z (by rw[<- y,e]))]
  ·have b:Br (p::r) k=p::Br r k:=by
    unfold Br;rw[List.filter_cons,if_pos (by simpa using e)]
   rw[b];by_cases z:p.1=j
   ·rw[Bx z,Bx z,if_neg (λy=>e (z.trans y))]
   ·rw[Bw z,Bw z,a]
theorem Am.keep{ws:mv}{cm:mx}{H g:Hp}{kvs:mu}{k:mv×Int}{who:Nat}(p:Cl ws cm H kvs)(i:∀c cs,H c=some (.dK cs)->g c=some (.dK cs)):Am g kvs k who↔Am H kvs k who:=by
 constructor
 ·rintro⟨c,cs,a,b,f⟩;obtain⟨d,j,e,h,_⟩:=p.1 _ (Be a);cases e;have:=i _ _ h;rw[b]at this;cases this;exact⟨c,cs,a,h,f⟩
 ·rintro⟨c,cs,a,b,f⟩;exact⟨c,cs,a,i _ _ b,f⟩
theorem Am.pop{ws:mv}{cm:mx}{H:Hp}{kvs:mu}{k g:mv×Int}{who f:Nat}{c:Addr}{cs:List (Dz×V)}(p:Cl ws cm H kvs)(j:Ag kvs k=some (.ref c))(l:H c=some (.dK cs)):
  Am (upd H c (.dK (Br cs (.inl (who:Int))))) kvs g f↔Am H kvs g f/\¬(g=k/\f=who):=by
 constructor
 ·rintro⟨d,h,a,e,b⟩;by_cases z:d=c
  ·subst z;rw[A5]at e;cases e;have i:(g,V.ref d)=(k,V.ref d):=Rh p.2.2 (Be a) (Be j) rfl;cases i;rw[Sc]at b;by_cases y:(Sum.inl (f:Int):Dz)=.inl (who:Int)
   ·rw[if_pos y]at b;cases b
   ·rw[if_neg y]at b;exact⟨⟨d,cs,a,l,b⟩,λw=>y (by rw[w.2])⟩
  ·rw[Ab z]at e;refine⟨⟨d,h,a,e,b⟩,λw=>z ?_⟩;rw[w.1,j]at a;cases a;rfl
 ·rintro⟨⟨d,h,a,e,b⟩,m⟩;by_cases z:d=c
  ·subst z;have i:(g,V.ref d)=(k,V.ref d):=Rh p.2.2 (Be a) (Be j) rfl;cases i;rw[l]at e;cases e;refine⟨d,_,a,A5,?_⟩;rw[Sc,if_neg]
   ·exact b
   ·intro y;have n:(f:Int)=(who:Int):=Sum.inl.inj y;exact m ⟨rfl,by omega⟩
  ·exact⟨d,h,a,(Ab z).trans e,b⟩
theorem Cl.pop{ws:mv}{cm:mx}{H:Hp}{c:Addr}{cs:List (Dz×V)}{k:Dz}{kvs:mu}(p:Cl ws cm H kvs)(g:H c=some (.dK cs)):Cl ws cm (upd H c (.dK (Br cs k))) kvs:=⟨λl h=>by
 obtain⟨d,i,e,a,b,f⟩:=p.1 l h;have t:LT H (upd H c (.dK (Br cs k))):=LT.dK g;by_cases z:d=c
 ·subst z;rw[g]at a;cases a;exact⟨d,Br cs k,e,A5,dI (Sb cs k) b,λx j=>(f.up t) x (Mh j)⟩
 ·exact⟨d,i,e,(Ab z).trans a,b,f.up t⟩,p.2⟩
theorem Cl.MV{ws:mv}{cm:mx}{B:Addr}{H a:Hp}{kvs:mu}(p:Cl ws cm H kvs)(n:Xr B H kvs)(t:An H a)(x:∀l b,l≠B->H l=some (.lst b)->a l=some (.lst b))(k:∀c cs,H c=some (.dK cs)->a c=some (.dK cs)):Cl ws cm a kvs:=⟨λm f=>by
 obtain⟨c,cs,g,h,o,q⟩:=p.1 m f;refine⟨c,cs,g,k _ _ h,o,λe j=>?_⟩;obtain⟨d,l,b,r,s,u,i,v,w⟩:=q e j;exact⟨d,l,b,r,s,u,i,x _ _ (λz=>n m f c cs g h e j (by rw[i,z])) v,w.imp λ_ _ y=>Et.up t y⟩,p.2⟩
theorem Kw:∀{xs ys:mv},xs.map V.int=ys.map V.int->xs=ys
 |[],[],_=>rfl
 |[],_::_,h=>by cases h
 |_::_,[],h=>by cases h
 |x::xs,y::ys,h=>by
  rw[List.map_cons,List.map_cons]at h;injection h with a b;injection a with a;rw[a,Kw b]
def Ro(ws:mv)(cm:mx)(tv:mu)(k:mv×Int)(m:Int):Prop:=
 (∀b,b<ws.length->none∈Az ws k.1 cm k.2 b\/∃a c,some a∈Az ws k.1 cm k.2 b/\Ag tv a=some (.int c)/\c<=m-1)/\
 (m=1\/∃b,b<ws.length/\none∉Az ws k.1 cm k.2 b/\∀a c,some a∈Az ws k.1 cm k.2 b->Ag tv a=some (.int c)->m-1<=c)
def Bl(ws:mv)(cm:mx)(tv:mu):Prop:=
 (∀k v,Ag tv k=some v->∃m:Int,v=.int m/\1<=m/\k∈Ar ws (qv cm)/\Ro ws cm tv k m)/\
 (∀k,k∈Ar ws (qv cm)->Ag tv k=none->∃b,b<ws.length/\none∉Az ws k.1 cm k.2 b/\∀a,some a∈Az ws k.1 cm k.2 b->Ag tv a=none)
def Fy(ws:mv)(cm:mx)(tv:mu)(c:List (mv×Int))(r:Int)(d:(mv×Int)->Nat->Prop):Prop:=
 1<=r/\(∀e∈tv,∃n:Int,e.2=.int n/\1<=n/\n<r)/\(∀k∈c,k∈Ar ws (qv cm)/\Ag tv k=none)/\(∀k v,Ag tv k=some v->k∈Ar ws (qv cm))/\
 (∀k a,d k a↔(k∈Ar ws (qv cm)/\a<ws.length/\none∉Az ws k.1 cm k.2 a/\∀b,some b∈Az ws k.1 cm k.2 a->Ag tv b=none))/\
 (∀k,k∈Ar ws (qv cm)->((∀a,¬d k a)↔(k∈c\/(Ag tv k).isSome=true)))/\
 (∀k m,Ag tv k=some (.int m)->Ro ws cm tv k m)/\∀k∈c,Ro ws cm tv k r
theorem Fy.done{ws:mv}{cm:mx}{tv:mu}{r:Int}{b:(mv×Int)->Nat->Prop}(h:Fy ws cm tv [] r b):Bl ws cm tv:=by
 obtain⟨C,u,A,d,m,o,c,p⟩:=h;refine⟨λk v e=>?_,λk q e=>?_⟩
 ·obtain⟨n,f,g,_⟩:=u _ (Be e);have x:v=.int n:=f;subst x;exact⟨n,rfl,g,d k _ e,c k n e⟩
 ·have s:¬ ∀a,¬b k a:=λz=>by
   rcases(o k q).mp z with y|y
   ·cases y
   ·rw[e]at y;cases y
  obtain⟨a,w⟩:=Classical.not_forall.mp s;obtain⟨B,i,j,l⟩:=(m k a).mp (Classical.not_not.mp w);exact⟨a,i,j,l⟩
theorem Fy.step{ws:mv}{cm:mx}{tv d:mu}{f g:List (mv×Int)}{r:Int}{F G:(mv×Int)->Nat->Prop}(h:Fy ws cm tv f r F)
  (p:∀k,Ag d k=if k∈f then some (.int r)else Ag tv k)(U:∀kv∈d,∃n:Int,kv.2=.int n/\1<=n/\n<r+1)
  (Z:∀k who,G k who↔(F k who/\∀a∈f,some a∉Az ws k.1 cm k.2 who))(H:∀k,k∈g↔((∃who,F k who)/\∀who,¬G k who)):Fy ws cm d g (r+1) G:=by
 obtain⟨h0,hv,Y,dR,K,B,ZP,L⟩:=h
 have I:∀k,Ag d k=none↔(k∉f/\Ag tv k=none):=λk=>by
  rw[p];by_cases z:k∈f
  ·rw[if_pos z];exact⟨λy=>(nomatch y),λy=>absurd z y.1⟩
  ·rw[if_neg z];exact⟨λy=>⟨z,y⟩,λy=>y.2⟩
 have C:∀a b,Ag tv a=some (.int b)->Ag d a=some (.int b):=λa b e=>by
  rw[p,if_neg (λz=>by rw[(Y a z).2]at e;cases e)];exact e
 have c:∀a b,Ag d a=some (.int b)->(a∈f/\b=r)\/Ag tv a=some (.int b):=λa b e=>by
  rw[p]at e;by_cases z:a∈f
  ·rw[if_pos z]at e;cases e;exact .inl ⟨z,rfl⟩
  ·rw[if_neg z]at e;exact .inr e
 have i:∀k m,m<=r->Ro ws cm tv k m->Ro ws cm d k m:=λk m hm ⟨p1,p2⟩=>by
  refine⟨λwho l=>?_,?_⟩
  ·rcases p1 who l with y|⟨a,b,D,E,Q⟩
   ·exact .inl y
   ·exact .inr ⟨a,b,D,C _ _ E,Q⟩
  ·rcases p2 with y|⟨who,D,E,Q⟩
   ·exact .inl y
   ·refine .inr ⟨who,D,E,λa b S T=>?_⟩;rcases c a b T with⟨_,e⟩|e
    ·omega
    ·exact Q a b S e
 have iR:∀k who,G k who↔(k∈Ar ws (qv cm)/\who<ws.length/\none∉Az ws k.1 cm k.2 who/\∀a,some a∈Az ws k.1 cm k.2 who->Ag d a=none):=λk who=>by
  rw[Z,K];constructor
  ·rintro⟨⟨s,u,A,o⟩,g5⟩;exact⟨s,u,A,λa z=>(I a).mpr ⟨λy=>g5 a y z,o a z⟩⟩
  ·rintro⟨s,u,A,o⟩;exact⟨⟨s,u,A,λa z=>((I a).mp (o a z)).2⟩,λa y z=>((I a).mp (o a z)).1 y⟩
 refine⟨by omega,U,λk j=>?_,λk v e=>?_,iR,λk j=>?_,λk m e=>?_,λk j=>?_⟩
 ·obtain⟨⟨who,l⟩,hn⟩:=(H k).mp j;have N:=((K k who).mp l).1;refine⟨N,(I k).mpr ⟨λz=>?_,?_⟩⟩
  ·exact(B k N).mpr (.inl z) who l
  ·cases O:Ag tv k with
   |none=>rfl
   |some v=>exact absurd l ((B k N).mpr (.inr (by rw[O];rfl)) who)
 ·rw[p]at e;by_cases z:k∈f
  ·exact(Y k z).1
  ·rw[if_neg z]at e;exact dR k v e
 ·constructor
  ·intro z;by_cases y:∃who,F k who
   ·exact .inl ((H k).mpr ⟨y,z⟩)
   ·right;rcases(B k j).mp (λwho w=>y ⟨who,w⟩)with x|x
    ·rw[p,if_pos x];rfl
    ·obtain⟨v,R⟩:=Option.isSome_iff_exists.mp x;obtain⟨n,q,_⟩:=hv _ (Be R);have P:v=.int n:=q;rw[P]at R;rw[C k n R];rfl
  ·rintro(z|z) who w
   ·exact((H k).mp z).2 who w
   ·have w1:=((Z k who).mp w).1;rw[p]at z;by_cases y:k∈f
    ·exact(B k j).mpr (.inl y) who w1
    ·rw[if_neg y]at z;exact(B k j).mpr (.inr z) who w1
 ·rcases c k m e with⟨D,E⟩|y
  ·subst E;exact i k m (Int.le_refl _) (L k D)
  ·obtain⟨n,q,e2,e3⟩:=hv _ (Be y);cases q;exact i k m (by omega) (ZP k m y)
 ·obtain⟨⟨X,HQ⟩,hn⟩:=(H k).mp j;obtain⟨s,u,A,o⟩:=(K k X).mp HQ;refine⟨λwho l=>?_,.inr ⟨X,u,A,λa b S T=>?_⟩⟩
  ·by_cases y:none∈Az ws k.1 cm k.2 who
   ·exact .inl y
   ·right;have M:¬ ∀a,some a∈Az ws k.1 cm k.2 who->Ag d a=none:=λz=>hn who ((iR k who).mpr ⟨s,l,y,z⟩);obtain⟨a,hx⟩:=Classical.not_forall.mp M;obtain⟨x1,x2⟩:=Classical.not_imp.mp hx;cases J:Ag d a with
    |none=>exact absurd J x2
    |some v=>
     obtain⟨n,q,e2,e3⟩:=U _ (Be J);have P:v=.int n:=q;exact⟨a,n,x1,by rw[J,P],by omega⟩
  ·rcases c a b T with⟨_,e⟩|e
   ·omega
   ·rw[o a S]at e;cases e
theorem rm{κ:Type}[DecidableEq κ]{kvs:List (κ×V)}{k:κ}{v:V}(b:(kvs.map (·.1)).Nodup):((Bd kvs k v).map (·.1)).Nodup:=by
 cases e:Ag kvs k with
 |none=>
  rw[D4 v e,List.map_append];exact Ep b (Nt e)
 |some w=>
  have c:(kvs.any λa=>decide (a.1=k))=true:=by
   rw[Ds,e];rfl
  unfold Bd;rw[if_pos c,List.map_map]
  have:(kvs.map ((λx=>x.1) ∘ λa=>if a.1=k then(a.1,v)else a))=kvs.map (·.1):=by
   apply List.map_congr_left;intro x _;show(if x.1=k then(x.1,v)else x).1=x.1;split<;>rfl
  rw[this];exact b
def Zo(H:Hp)(v:V):Prop:=∃c,v=.ref c/\H c=some (.dK [])
theorem Fy.start{ws:mv}{cm:mx}{H:Hp}{kvs:mu}{s:List (mv×Int)}(h:Cl ws cm H kvs)(N:kvs.map (·.1)=Ar ws (qv cm))(M:Lr ws cm H kvs)(B:∀k,k∈s↔∃v,(k,v)∈kvs/\Zo H v):Fy ws cm [] s 1 (Am H kvs):=by
 have mem:∀k,k∈Ar ws (qv cm)↔∃v,(k,v)∈kvs:=λk=>by
  rw[<- N,List.mem_map];exact⟨λ⟨x,f,o⟩=>⟨x.2,by rw[<- o];exact f⟩,λ⟨v,f⟩=>⟨_,f,rfl⟩⟩
 have C:∀k a,Am H kvs k a↔(k∈Ar ws (qv cm)/\a<ws.length/\none∉Az ws k.1 cm k.2 a):=λk a=>by
  constructor
  ·rintro⟨c,n,f,o,A⟩;have b:=Be f;obtain⟨d,S,e,g,_,q⟩:=h.1 _ b;cases e;rw[o]at g;cases g;obtain⟨X,F⟩:=Option.isSome_iff_exists.mp A;obtain⟨E,l,P,i,r,w,_⟩:=q _ (Be F);have L:(a:Int)=(E:Int):=Sum.inl.inj i;have:a=E:=by omega
   subst this;exact⟨(mem k).mpr ⟨_,b⟩,r,w⟩
  ·rintro⟨f,o,A⟩;obtain⟨v,b⟩:=(mem k).mp f;obtain⟨c,n,e,g,_,q⟩:=h.1 _ b;have u:v=.ref c:=e;subst u;exact⟨c,n,Ct h.2.1 b,g,M _ b c n rfl g a o A⟩
 have D:∀k,k∈Ar ws (qv cm)->((∀a,¬Am H kvs k a)↔k∈s):=λk j=>by
  obtain⟨v,b⟩:=(mem k).mp j;obtain⟨c,n,e,g,_,q⟩:=h.1 _ b;have u:v=.ref c:=e;subst u;rw[B];constructor
  ·intro z;refine⟨_,b,c,rfl,?_⟩;cases n with
   |nil=>exact g
   |cons x Y=>
    obtain⟨a,l,P,i,_⟩:=q x (by simp);exact absurd ⟨c,_,Ct h.2.1 b,g,by rw[Bx i];rfl⟩ (z a)
  ·rintro⟨U,I,Q,J,K⟩ a ⟨R,G,i,r,w⟩;have f:=Ct h.2.1 b;rw[Ct h.2.1 I,J]at f;cases f;rw[Ct h.2.1 b]at i;cases i;rw[K]at r;cases r;cases w
 refine⟨Int.le_refl _,(λT z=>by cases z),λk p=>?_,(λk v z=>by cases z),λk a=>?_,λk j=>?_,(λk m z=>by cases z),λk p=>?_⟩
 ·obtain⟨v,b,_⟩:=(B k).mp p;exact⟨(mem k).mpr ⟨v,b⟩,rfl⟩
 ·rw[C];exact⟨λz=>⟨z.1,z.2.1,z.2.2,λ_ _=>rfl⟩,λz=>⟨z.1,z.2.1,z.2.2.1⟩⟩
 ·rw[D k j];exact⟨λz=>.inl z,λz=>z.elim id (λy=>by cases y)⟩
 ·obtain⟨v,b,_⟩:=(B k).mp p;have j:=(mem k).mpr ⟨v,b⟩;refine⟨λa O=>?_,.inl rfl⟩;left;apply Classical.byContradiction;intro y;exact(D k j).mpr p a ((C k a).mpr ⟨j,O,y⟩)
theorem bg{ls:mv}{j:Nat}(h:j<ls.length):ls[j]?=some (ls.getD j 0):=by
 rw[List.getD_eq_getElem?_getD,List.getElem?_eq_getElem h];rfl
theorem Kh{ls:mv}{j:Nat}(h:j<ls.length):ls.getD j 0∈ls:=cb (bg h)
def Fk(ws:mv)(cm:mx):Prop:=(∀w∈ws,1<=w/\w<=3000)/\(∀c,cm=some c->1<=c/\c<3000)/\0<ws.length/\ws.length<=8/\Bn (qv cm) ws<=300
theorem J2{w:Int}(h1:0<=w)(a:w<=3000):intBits w<=256:=dI (Hh (n:=12) (by omega)) (by decide)
theorem Fk.qv{ws:mv}{cm:mx}(h:Fk ws cm):1<=qv cm/\qv cm<=3000:=by
 cases cm with
 |none=>exact⟨Int.le_refl _,by decide⟩
 |some c=>
  have:=h.2.1 c rfl;show 1<=c+1/\c+1<=3000;omega
theorem Ys{ws ls:mv}{who i:Nat}{lost:Bool}(hi:i<ls.length):(Aw ws ls who lost)[i]?=some (if i=who/\lost=false then ws.getD who 0 else ls.getD i 0-1):=by
 have e:(ls.map λx=>x-1)[i]?=some (ls.getD i 0-1):=by
  rw[List.getElem?_map,List.getElem?_eq_getElem hi,List.getD_eq_getElem?_getD,List.getElem?_eq_getElem hi];rfl
 unfold Aw;cases lost with
 |true=>
  rw[if_pos rfl,if_neg (λz=>nomatch z.2)];exact e
 |false=>
  rw[if_neg Bool.false_ne_true,List.getElem?_set];by_cases z:i=who
  ·subst z;rw[if_pos rfl,if_pos (by rw[List.length_map];exact hi),if_pos ⟨rfl,rfl⟩]
  ·rw[if_neg (λy=>z y.symm),if_neg (λy=>z y.1)];exact e
def Ms(cm:mx)(q:Int):List Bool:=if Ed cm q=true then[false,true]else[false]
theorem Rv(ws ls:mv)(cm:mx)(q:Int)(who:Nat):Az ws ls cm q who=(Ms cm q).map λlost=>Cz ws ls cm q who lost:=by
 unfold Az Ms;split<;>rfl
theorem Ml{xs:mv}{i:Nat}(h:i<xs.length):xs[i]?=some (xs.getD i 0):=by
 rw[List.getD_eq_getElem?_getD,List.getElem?_eq_getElem h];rfl
theorem X5:∀(ws:mv) (rows:List (mv)) (a ext:mv),a∈rows->ext.length=ws.length->(∀i,i<ws.length->1<=ext.getD i 0/\ext.getD i 0<=ws.getD i 0)->a++ext∈ws.foldl Bv rows
 |[],rows,a,ext,h,b,_=>by
  have e:ext=[]:=List.length_eq_zero_iff.mp b;rw[e,List.append_nil];exact h
 |w::ws,rows,a,[],h,b,_=>by simp at b
 |w::ws,rows,a,x::ext,h,b,c=>by
  have g:=c 0 (by simp);have l:1<=x/\x<=w:=g
  have f:a++[x]∈Bv rows w:=by
   refine List.mem_flatMap.mpr ⟨a,h,eH.mpr ⟨(x-1).toNat,lP.mpr (by omega),?_⟩⟩;have e:1+(((x-1).toNat:Nat):Int)=x:=by omega
   rw[e]
  have d:=X5 ws (Bv rows w) (a++[x]) ext f (by simpa using b) λi j=>c (i+1) (by simp;omega);rw[List.append_assoc]at d;exact d
theorem Js{ws:mv}{q:Int}{z:mv×Int}(h1:z.1.length=ws.length)(a:∀i,i<ws.length->1<=z.1.getD i 0/\z.1.getD i 0<=ws.getD i 0)(b:0<=z.2)(c:z.2<q):z∈Ar ws q:=by
 refine List.mem_flatMap.mpr ⟨z.1,?_,eH.mpr ⟨z.2.toNat,lP.mpr (by omega),?_⟩⟩
 ·have:=X5 ws [[]] [] z.1 (by simp) h1 a;exact this
 ·have e:0+((z.2.toNat:Nat):Int)=z.2:=by omega
  rw[e]
theorem Ks{ws:mv}{q:Int}{z:mv×Int}(h:z∈Ar ws q):z.1.length=ws.length/\(∀i,i<ws.length->1<=z.1.getD i 0/\z.1.getD i 0<=ws.getD i 0)/\0<=z.2/\z.2<q:=by
 obtain⟨m1,b,c,d⟩:=Pm h;exact⟨m1,λi a=>b i _ _ (Ml (by omega)) (Ml a),c,d⟩
theorem Wq{ws ls:mv}{who i:Nat}{lost:Bool}(hi:i<ls.length):(Aw ws ls who lost).getD i 0=if i=who/\lost=false then ws.getD who 0 else ls.getD i 0-1:=by
 rw[List.getD_eq_getElem?_getD,Ys hi];rfl
theorem qc{ws ls:mv}{cm:mx}{q:Int}{who:Nat}{o:Option (mv×Int)}:o∈Az ws ls cm q who↔∃lost,lost∈Ms cm q/\Cz ws ls cm q who lost=o:=by
 rw[Rv,List.mem_map]
theorem Zu{ws ls:mv}{cm:mx}{q:Int}{who:Nat}{lost:Bool}{k:mv×Int}(h:Cz ws ls cm q who lost=some k):(0:Int)∉Aw ws ls who lost/\k=(Aw ws ls who lost,Ef cm q lost):=by
 unfold Cz at h;by_cases z:(0:Int)∈Aw ws ls who lost
 ·rw[if_pos z]at h;cases h
 ·rw[if_neg z]at h;exact⟨z,(d0 h).symm⟩
theorem U8{ws:mv}{cm:mx}{k l:mv×Int}{who:Nat}{lost:Bool}(f:∀w∈ws,1<=w)(o:k∈Ar ws (qv cm))(s:who<ws.length)(p:lost∈Ms cm k.2)(h:Cz ws k.1 cm k.2 who lost=some l):l∈Ar ws (qv cm):=by
 obtain⟨g,j,u,m⟩:=Ks o;obtain⟨r,rfl⟩:=Zu h;have q:1<=ws.getD who 0:=f _ (Kh s);have a:(Aw ws k.1 who lost).length=k.1.length:=Jh _ _ _ _;refine Js (by rw[a];exact g) (λi n=>?_) ?_ ?_
 ·have b:=j i n
  have d:(Aw ws k.1 who lost).getD i 0≠0:=λe=>by
   have:=Ml (xs:=Aw ws k.1 who lost) (i:=i) (by omega);rw[e]at this;exact r (cb this)
  show 1<=(Aw ws k.1 who lost).getD i 0/\(Aw ws k.1 who lost).getD i 0<=ws.getD i 0;rw[Wq (by omega)]at d⊢;by_cases y:i=who/\lost=false
  ·rw[if_pos y,y.1];omega
  ·rw[if_neg y]at d;rw[if_neg y];omega
 ·show 0<=Ef cm k.2 lost;unfold Ef;cases lost with
  |true=>
   rw[if_pos rfl];cases cm with
   |none=>exact Int.le_refl _
   |some c=>
    show 0<=c;have:k.2<c+1:=m;omega
  |false=>
   rw[if_neg Bool.false_ne_true];omega
 ·show Ef cm k.2 lost<qv cm;unfold Ef;cases lost with
  |true=>
   rw[if_pos rfl];cases cm with
   |none=>decide
   |some c=>
    show c<c+1;omega
  |false=>
   rw[if_neg Bool.false_ne_true];have:0<qv cm:=by omega
   omega
def wd(x:Int×Int):nX:=dP (.int x.1) (.int x.2)
def Fj(x y:Int×Int):Bool:=decide (y.1<x.1\/(x.1=y.1/\y.2<x.2))
theorem Kg(a b:Int):PyData.eqv (.int a) (.int b)=decide (a=b):=rfl
theorem qx(x y:Int×Int):Zk (wd x) (wd y)=Fj x y:=by
 obtain⟨a,b⟩:=x;obtain⟨c,d⟩:=y;show(if PyData.eqv (.int a) (.int c)=true then(if PyData.eqv (.int b) (.int d)=true then aV [] []else Zk (.int b) (.int d))else Zk (.int a) (.int c))=decide (c<a\/(a=c/\d<b));rw[Kg,Kg];show(if decide (a=c)=true then(if decide (b=d)=true then false else decide (b>d))else decide (a>c))=decide (c<a\/(a=c/\d<b));by_cases e:a=c
 ·rw[if_pos (decide_eq_true e)];by_cases f:b=d
  ·rw[if_pos (decide_eq_true f)];exact(jE (by omega)).symm
  ·rw[if_neg (by simpa using f)];exact decide_eq_decide.mpr (by omega)
 ·rw[if_neg (by simpa using e)];exact decide_eq_decide.mpr (by omega)
theorem cq(x y:Int×Int):Jy (wd x) (wd y)=Fj y x:=by
 obtain⟨a,b⟩:=x;obtain⟨c,d⟩:=y;show(if PyData.eqv (.int a) (.int c)=true then(if PyData.eqv (.int b) (.int d)=true then aC [] []else Jy (.int b) (.int d))else Jy (.int a) (.int c))=decide (a<c\/(c=a/\b<d));rw[Kg,Kg];show(if decide (a=c)=true then(if decide (b=d)=true then false else decide (b<d))else decide (a<c))=decide (a<c\/(c=a/\b<d));by_cases e:a=c
 ·rw[if_pos (decide_eq_true e)];by_cases f:b=d
  ·rw[if_pos (decide_eq_true f)];exact(jE (by omega)).symm
  ·rw[if_neg (by simpa using f)];exact decide_eq_decide.mpr (by omega)
 ·rw[if_neg (by simpa using e)];exact decide_eq_decide.mpr (by omega)
theorem Zz(x y:Int×Int):Ih (wd x) (wd y):=by
 show Ih (.tuple [.int x.1,.int x.2]) (.tuple [.int y.1,.int y.2]);simp[Ih,aU]
theorem Mg(x:Int×Int):(wd x).depth<=50:=by
 show(dP _ _).depth<=50;rw[S6];show max 0 0+1<=50;decide
theorem X7{H:Hp}{p:Addr}{x:Int×Int}(h:H p=some (.tup [.int x.1,.int x.2])):Rp H (wd x) (.ref p):=eh h (Nf _) (Nf _)
theorem av(x y:Int×Int):PyData.eqv (wd x) (wd y)=decide (x=y):=by
 obtain⟨a,b⟩:=x;obtain⟨c,d⟩:=y;show PyData.eqv (dP _ _) (dP _ _)=_;rw[qp,Kg,Kg];by_cases e:a=c<;>by_cases f:b=d<;>simp[e,f]
theorem Q5(f:Nat->Int×Int):∀k,argBest (λi j=>Fj (f i) (f j)) k<=k/\∀j,j<=k->Fj (f j) (f (argBest (λi j=>Fj (f i) (f j)) k))=false
 |0=>⟨da _,λj c=>by
  have e:j=0:=by omega
  subst e;show Fj (f 0) (f 0)=false;unfold Fj;exact jE (by omega)⟩
 |k+1=>by
  obtain⟨d,a⟩:=Q5 f k;rw[E2];generalize argBest (λi j=>Fj (f i) (f j)) k=b at d a⊢;by_cases z:Fj (f (k+1)) (f b)=true
  ·rw[if_pos z];refine⟨da _,λj c=>?_⟩;unfold Fj at z a⊢;have g:=of_decide_eq_true z;refine jE ?_;rcases il k j with y|y
   ·have e:j=k+1:=by omega
    subst e;omega
   ·have:=of_decide_eq_false (a j y);omega
  ·rw[if_neg z];refine⟨by omega,λj c=>?_⟩;rcases il k j with y|y
   ·have e:j=k+1:=by omega
    subst e;simpa using z
   ·exact a j y
def Pp:Option V->Int×Int
 |some (.int m)=>(0,m)
 |_=>(1,0)
def told(tv:mu):Option (mv×Int)->Int×Int
 |none=>(0,0)
 |some k=>Pp (Ag tv k)
def rk(x y:Int×Int):Int×Int:=if Fj x y=true then y else x
def Jv(tv:mu)(ws ls:mv)(cm:mx)(q:Int)(who:Nat):Int×Int:=
 if Ed cm q=true then rk (told tv (Cz ws ls cm q who false)) (told tv (Cz ws ls cm q who true))else told tv (Cz ws ls cm q who false)
def U6(tv:mu):Prop:=∀k v,Ag tv k=some v->∃m:Int,v=.int m
theorem Ri{tv:mu}{ws ls:mv}{cm:mx}{q:Int}{who:Nat}:(∀o∈Az ws ls cm q who,Fj (Jv tv ws ls cm q who) (told tv o)=false)/\∃o,o∈Az ws ls cm q who/\Jv tv ws ls cm q who=told tv o:=by
 rw[Rv];unfold Ms Jv;by_cases z:Ed cm q=true
 ·rw[if_pos z,if_pos z];show(∀o∈[Cz ws ls cm q who false,Cz ws ls cm q who true],_)/\∃o,o∈[Cz ws ls cm q who false,Cz ws ls cm q who true]/\_;unfold rk;by_cases y:Fj (told tv (Cz ws ls cm q who false)) (told tv (Cz ws ls cm q who true))=true
  ·rw[if_pos y];refine⟨λo a=>?_,_,by simp,rfl⟩;have b:o=Cz ws ls cm q who false\/o=Cz ws ls cm q who true:=by simpa using a
   unfold Fj at y⊢;have c:=of_decide_eq_true y;refine jE ?_;rcases b with e|e<;>subst e<;>omega
  ·rw[if_neg y];refine⟨λo a=>?_,_,by simp,rfl⟩;have b:o=Cz ws ls cm q who false\/o=Cz ws ls cm q who true:=by simpa using a
   unfold Fj at y⊢;refine jE ?_;have c:=λh=>y (decide_eq_true h);rcases b with e|e<;>subst e<;>omega
 ·rw[if_neg z,if_neg z];refine⟨λo a=>?_,Cz ws ls cm q who false,by simp,rfl⟩;have e:o=Cz ws ls cm q who false:=by simpa using a
  subst e;unfold Fj;exact jE (by omega)
theorem Tg{H:Hp}:∀{a:List nX}{us:List V},us.length=a.length->(∀(i:Nat) (d:nX) (u:V),a[i]?=some d->us[i]?=some u->Rp H d u)->aB H a us
 |[],us,b,_=>by
  unfold aB;exact List.length_eq_zero_iff.mp b
 |d::a,[],b,_=>by simp at b
 |d::a,u::us,b,h=>by
  unfold aB;exact⟨u,us,rfl,h 0 d u rfl rfl,Tg (by simpa using b) λi c g e f=>h (i+1) c g (by simpa using e) (by simpa using f)⟩
theorem js{f:Nat->Int×Int}{n:Nat}(q:0<n):Dk ((List.range n).map λi=>wd (f i))<n/\∀j,j<n->Fj (f j) (f (Dk ((List.range n).map λi=>wd (f i))))=false:=by
 have e:Dk ((List.range n).map λi=>wd (f i))=argBest (λi j=>Fj (f i) (f j)) (n-1):=by
  unfold Dk;rw[List.length_map,List.length_range]
  have a:∀k,k<=n-1->argBest (λi j=>Zk (((List.range n).map λi=>wd (f i)).getD i .none) (((List.range n).map λi=>wd (f i)).getD j .none)) k=argBest (λi j=>Fj (f i) (f j)) k:=λk=>by
   induction k with
   |zero=>exact λ_=>rfl
   |succ k l=>
    intro p;have b:=(Q5 f k).1;rw[E2,E2,l (by omega)];generalize argBest (λi j=>Fj (f i) (f j)) k=c at b⊢
    have g:∀i,i<n->((List.range n).map λi=>wd (f i)).getD i .none=wd (f i):=λi h=>by
     rw[List.getD_eq_getElem?_getD,List.getElem?_map,List.getElem?_range h];rfl
    show(if Zk (((List.range n).map λi=>wd (f i)).getD (k+1) .none) (((List.range n).map λi=>wd (f i)).getD c .none)=true then _ else _)=_;rw[g _ (by omega),g _ (by omega),qx]
  exact a (n-1) (da _)
 rw[e];obtain⟨m,d⟩:=Q5 f (n-1);exact⟨by omega,λj o=>d j (by omega)⟩
def Hz(f:Nat->Int×Int)(n j:Nat):Prop:=j<n/\(∀i,i<n->Fj (f i) (f j)=false)/\∀m,m<j->f m≠f j
theorem least{Pr:Nat->Prop}:∀(b:Nat),Pr b->∃j,j<=b/\Pr j/\∀m,m<j->¬Pr m:=λb=>by
 induction b using Nat.strongRecOn with
 |ind b g=>
  intro d;by_cases z:∃m,m<b/\Pr m
  ·obtain⟨m,a,c⟩:=z;obtain⟨j,l,h,i⟩:=g m a c;exact⟨j,by omega,h,i⟩
  ·exact⟨b,da _,d,λm e f=>z ⟨m,e,f⟩⟩
theorem Hz.of{f:Nat->Int×Int}{n j:Nat}(d:0<n)(l:j<=Dk ((List.range n).map λi=>wd (f i)))(e:f j=f (Dk ((List.range n).map λi=>wd (f i))))(h:∀m,m<j->¬f m=f (Dk ((List.range n).map λi=>wd (f i)))):Hz f n j:=by
 obtain⟨g,a⟩:=js (f:=f) d;refine⟨by omega,λi b=>by rw[e];exact a i b,λm c=>by rw[e];exact h m c⟩
def U7(H:Hp)(f:Nat->Int×Int)(ys:List V):Prop:=∀(i:Nat) (u:V),ys[i]?=some u->∃p,u=.ref p/\H p=some (.tup [.int (f i).1,.int (f i).2])
theorem U7.snoc{H b:Hp}{f:Nat->Int×Int}{ys:List V}{p:Addr}{n:Nat}(h:U7 H f ys)(t:An H b)(m:ys.length=n)(e:b p=some (.tup [.int (f n).1,.int (f n).2])):U7 b f (ys++[.ref p]):=λi u a=>by
 rcases il i ys.length with y|y
 ·rw[List.getElem?_append_left y]at a;obtain⟨l,d,g⟩:=h i u a;exact⟨l,d,t _ _ g⟩
 ·rw[List.getElem?_append_right y]at a
  have c:i-ys.length=0:=by
   have:=(bG.mp a).1;rw[List.length_singleton]at this;omega
  rw[c]at a;cases a;have j:i=n:=by omega
  subst j;exact⟨p,rfl,e⟩
theorem U7.rp{H:Hp}{f:Nat->Int×Int}{ys:List V}{n:Nat}(h:U7 H f ys)(l:ys.length=n):aB H ((List.range n).map λi=>wd (f i)) ys:=by
 refine Tg (by rw[List.length_map,List.length_range];exact l) λi d u b c=>?_;obtain⟨o,g,j⟩:=h i u c;subst g;rw[List.getElem?_map]at b;obtain⟨m,a,rfl⟩:=dm.mp b
 have e:i<n:=by
  have:=(bG.mp c).1;omega
 rw[List.getElem?_range e]at a;cases a;exact X7 j
theorem Wc(f:Nat->Int×Int)(n:Nat):∀d∈(List.range n).map λi=>wd (f i),∀e∈(List.range n).map λi=>wd (f i),Ih d e:=λd a e b=>by
 obtain⟨c,_,rfl⟩:=eH.mp a;obtain⟨g,_,rfl⟩:=eH.mp b;exact Zz _ _
theorem Wg(f:Nat->Int×Int)(n:Nat):∀d∈(List.range n).map λi=>wd (f i),d.depth<=50:=λd a=>by
 obtain⟨b,_,rfl⟩:=eH.mp a;exact Mg _
theorem km(f:Nat->Int×Int){n i:Nat}(h:i<n):((List.range n).map λi=>wd (f i))[i]?=some (wd (f i)):=by
 rw[List.getElem?_map,List.getElem?_range h];rfl
theorem bh{f:Nat->Int×Int}{n i:Nat}{e:nX}(h:((List.range n).map λi=>wd (f i))[i]?=some e):e=wd (f i):=by
 rw[List.getElem?_map]at h;obtain⟨c,a,rfl⟩:=dm.mp h
 have b:i<n:=by
  have:=(bG.mp a).1;rwa[List.length_range]at this
 rw[List.getElem?_range b]at a;cases a;rfl
def D7(tv:mu)(ws ls:mv)(cm:mx)(q:Int)(who:Nat):Bool:=Ed cm q&&Fj (told tv (Cz ws ls cm q who false)) (told tv (Cz ws ls cm q who true))
theorem Fh{tv:mu}{k:mv×Int}{m:Int}(h:Ag tv k=some (.int m)):told tv (some k)=(0,m):=by
 show Pp (Ag tv k)=_;rw[h];rfl
theorem Fw{ws:mv}{cm:mx}{tv:mu}(h:Bl ws cm tv)(o:Option (mv×Int)):(o=none/\told tv o=(0,0))\/(∃k m,o=some k/\Ag tv k=some (.int m)/\1<=m/\told tv o=(0,m))\/told tv o=(1,0):=by
 cases o with
 |none=>exact .inl ⟨rfl,rfl⟩
 |some k=>
  cases a:Ag tv k with
  |none=>
   refine .inr (.inr ?_);show Pp (Ag tv k)=_;rw[a];rfl
  |some v=>
   obtain⟨m,b,c,_⟩:=h.1 k v a;subst b;exact .inr (.inl ⟨k,m,rfl,a,c,Fh a⟩)
theorem Tw{ws:mv}{cm:mx}{tv:mu}{k b:mv×Int}{m:Int}{who:Nat}(h:Bl ws cm tv)(A:Ag tv k=some (.int m))(B:who<ws.length)(a:Cz ws k.1 cm k.2 who (D7 tv ws k.1 cm k.2 who)=some b):∃d:Int,Ag tv b=some (.int d)/\1<=d/\d<=m-1:=by
 obtain⟨m0,s,I,K,C,L⟩:=h.1 k _ A;cases s
 have least:∀o∈Az ws k.1 cm k.2 who,Fj (told tv (some b)) (told tv o)=false:=λo f=>by
  have g:∀x:Int×Int,Fj x x=false:=λx=>by
   unfold Fj;exact jE (by omega)
  have q:∀x y:Int×Int,Fj x y=true->Fj y x=false:=λx y e=>by
   unfold Fj at e⊢;have:=of_decide_eq_true e;exact jE (by omega)
  unfold D7 at a;unfold Az at f;by_cases z:Ed cm k.2=true
  ·rw[if_pos z]at f;rw[z,Bool.true_and]at a;have j:o=Cz ws k.1 cm k.2 who false\/o=Cz ws k.1 cm k.2 who true:=by simpa using f
   cases y:Fj (told tv (Cz ws k.1 cm k.2 who false)) (told tv (Cz ws k.1 cm k.2 who true))with
   |true=>
    rw[y]at a;rw[<- a];rcases j with e|e<;>rw[e]
    ·exact q _ _ y
    ·exact g _
   |false=>
    rw[y]at a;rw[<- a];rcases j with e|e<;>rw[e]
    ·exact g _
    ·exact y
  ·rw[if_neg z]at f;have D:Ed cm k.2=false:=by simpa using z
   rw[D,Bool.false_and]at a;have j:o=Cz ws k.1 cm k.2 who false:=by simpa using f
   rw[j,a];exact g _
 have l:∃c:Int,Fj (told tv (some b)) (0,c)=false/\c<=m-1:=by
  rcases C who B with z|⟨n,d,E,F,G⟩
  ·exact⟨0,least none z,by omega⟩
  ·have:=least _ E;rw[Fh F]at this;exact⟨d,this,G⟩
 obtain⟨c,p,H⟩:=l;unfold Fj at p;have i:=of_decide_eq_false p;rcases Fw h (some b)with⟨e,_⟩|⟨J,d,e,u,v,w⟩|e
 ·cases e
 ·cases e;rw[w]at i;have r:¬((0:Int)<0\/((0:Int)=0/\c<d)):=i;exact⟨d,u,v,by omega⟩
 ·rw[e]at i;have r:¬((0:Int)<1\/((1:Int)=0/\c<0)):=i;omega
theorem Xt{ws:mv}{cm:mx}{tv:mu}{k:mv×Int}{m:Int}{b:Nat}(h:Bl ws cm tv)(J:Ag tv k=some (.int m))(B:0<ws.length)(H:b<ws.length)
  (D:∀j,j<ws.length->Fj (Jv tv ws k.1 cm k.2 j) (Jv tv ws k.1 cm k.2 b)=false):Jv tv ws k.1 cm k.2 b=(0,m-1):=by
 obtain⟨m0,f,P,_,K,L⟩:=h.1 k _ J;cases f
 have up:∀j,j<ws.length->(Jv tv ws k.1 cm k.2 j).1=0/\0<=(Jv tv ws k.1 cm k.2 j).2/\(Jv tv ws k.1 cm k.2 j).2<=m-1:=λj I=>by
  obtain⟨v,o,i,w⟩:=Ri (tv:=tv) (ws:=ws) (ls:=k.1) (cm:=cm) (q:=k.2) (who:=j);rw[w]at v⊢
  have q:∃c:Int,Fj (told tv o) (0,c)=false/\c<=m-1:=by
   rcases K j I with z|⟨r,a,p,x,y⟩
   ·exact⟨0,v none z,by omega⟩
   ·have:=v _ p;rw[Fh x]at this;exact⟨a,this,y⟩
  obtain⟨c,A,N⟩:=q;unfold Fj at A;have n:=of_decide_eq_false A;rcases Fw h o with⟨_,e⟩|⟨_,a,_,_,F,e⟩|e
  ·rw[e];exact⟨rfl,Int.le_refl _,by show(0:Int)<=m-1;omega⟩
  ·rw[e]at n⊢;have E:¬((0:Int)<0\/((0:Int)=0/\c<a)):=n;exact⟨rfl,by show(0:Int)<=a;omega,by show a<=m-1;omega⟩
  ·rw[e]at n;have E:¬((0:Int)<1\/((1:Int)=0/\c<0)):=n;omega
 have s:∃j,j<ws.length/\m-1<=(Jv tv ws k.1 cm k.2 j).2:=by
  rcases L with z|⟨d,p,x,y⟩
  ·exact⟨0,B,by have:=up 0 B;omega⟩
  ·refine⟨d,p,?_⟩;have u:=up d p;obtain⟨_,o,i,w⟩:=Ri (tv:=tv) (ws:=ws) (ls:=k.1) (cm:=cm) (q:=k.2) (who:=d);rw[w]at u⊢;rcases Fw h o with⟨f,e⟩|⟨l,a,f,G,F,e⟩|e
   ·rw[f]at i;exact absurd i x
   ·rw[f]at i;have:=y l a i G;rw[e];exact this
   ·rw[e]at u;simp only at u;omega
 obtain⟨j,C,Q⟩:=s;have u:=up j C;have M:=up b H;have g:=D j C;unfold Fj at g;have O:=of_decide_eq_false g;refine Prod.ext M.1 ?_;show(Jv tv ws k.1 cm k.2 b).2=m-1;omega
def pi(tv:mu)(k:mv×Int)(o:Option (mv×Int)):Prop:=(Ag tv k=none->∃b,o=some b/\Ag tv b=none)/\∀m:Int,Ag tv k=some (.int m)->(o=none->m=1)/\∀(b:mv×Int) (a:Int),o=some b->Ag tv b=some (.int a)->m-1<=a
theorem ja{ws:mv}{cm:mx}{tv:mu}(h:Bl ws cm tv){o:Option (mv×Int)}(e:told tv o=(1,0)):∃b,o=some b/\Ag tv b=none:=by
 cases o with
 |none=>cases e
 |some b=>
  refine⟨b,rfl,?_⟩;cases a:Ag tv b with
  |none=>rfl
  |some v=>
   obtain⟨m,c,_⟩:=h.1 b v a;subst c;rw[Fh a]at e;cases e
theorem kn{ws:mv}{cm:mx}{tv:mu}{k:mv×Int}{j:Nat}{o:Option (mv×Int)}(h:Bl ws cm tv)(z:k∈Ar ws (qv cm))(A:0<ws.length)(l:Hz (λi=>Jv tv ws k.1 cm k.2 i) ws.length j)(B:o∈Az ws k.1 cm k.2 j):pi tv k o:=by
 obtain⟨D,J,L,M⟩:=Ri (tv:=tv) (ws:=ws) (ls:=k.1) (cm:=cm) (q:=k.2) (who:=j);have d:=D o B;refine⟨λg=>?_,λm g=>?_⟩
 ·obtain⟨c,E,F,G⟩:=h.2 k z g;obtain⟨K,q,r,C⟩:=Ri (tv:=tv) (ws:=ws) (ls:=k.1) (cm:=cm) (q:=k.2) (who:=c)
  have w:told tv q=(1,0):=by
   cases q with
   |none=>exact absurd r F
   |some b=>
    show Pp (Ag tv b)=_;rw[G b r];rfl
  have f:=l.2.1 c E;simp only at f;rw[C,w]at f;refine ja h ?_;unfold Fj at f d;have n:=of_decide_eq_false f;have a:=of_decide_eq_false d;rcases Fw h o with⟨_,e⟩|⟨_,p,_,_,H,e⟩|e
  ·rw[e]at a;simp only at n a;omega
  ·rw[e]at a;simp only at n a;omega
  ·exact e
 ·obtain⟨m0,v,I,_⟩:=h.1 k _ g;cases v;have u:=Xt h g A l.1 l.2.1;rw[u]at d;unfold Fj at d;have a:=of_decide_eq_false d;refine⟨λe=>?_,λb p e s=>?_⟩
  ·subst e;have x:told tv none=(0,0):=rfl;rw[x]at a;have y:¬((0:Int)<0\/((0:Int)=0/\(0:Int)<m-1)):=a;omega
  ·subst e;rw[Fh s]at a;have y:¬((0:Int)<0\/((0:Int)=0/\p<m-1)):=a;omega
theorem Mj(a b:mv×Int):PyData.eqv (dS a) (dS b)=decide (a=b):=by
 show(PyData.eqvAll (a.1.map PyData.int) (b.1.map PyData.int)&&(PyData.eqv (.int a.2) (.int b.2)&&true))=_;rw[Em]
 have e:PyData.eqv (.int a.2) (.int b.2)=decide (a.2=b.2):=by
  show(a.2==b.2)=_;rw[Bool.eq_iff_iff];simp
 rw[e,Bool.and_true,Bool.eq_iff_iff];simp[Prod.ext_iff]
def L9(o:Option HO):Nat:=match o with
 |some (.lst a)=>a.length
 |_=>0
def G0(o:Option HO):Nat:=match o with
 |some (.dT a)=>a.length
 |_=>0
theorem Wp{a:Type}{xs:List a}(h:0<xs.length):∃y,xs[xs.length-1]?=some y:=⟨xs[xs.length-1],dt (by omega)⟩
theorem Af.take{e:Type}{P:e->V->Prop}{c:List e}{d:List V}(h:Af P c d)(n:Nat):Af P (c.take n) (d.take n):=by
 refine⟨by rw[List.length_take,List.length_take,h.1],λi r v a b=>?_⟩;rcases il i n with z|z
 ·rw[List.getElem?_take_of_lt z]at a b;exact h.2 i r v a b
 ·rw[List.getElem?_take_eq_none z]at a;cases a
inductive UP(ws:mv)(cm:mx)(tv:mu):(mv×Int)->Prop
 |base:UP ws cm tv (ws,0)
 |step {k k':mv×Int}{j:Nat}:UP ws cm tv k->Hz (λi=>Jv tv ws k.1 cm k.2 i) ws.length j->some k'∈Az ws k.1 cm k.2 j->UP ws cm tv k'
def Sf(ws:mv)(cm:mx)(tv:mu)(k:mv×Int):Prop:=k∈Ar ws (qv cm)/\Ag tv k=none/\UP ws cm tv k
structure Q0(ws:mv)(cm:mx)(tv cv:mu)(E:List (mv×Int)):Prop where
 nd:(cv.map (·.1)).Nodup
 sf:∀k∈E,Sf ws cm tv k
 ent:∀kv∈cv,Sf ws cm tv kv.1/\∃j:Nat,kv.2=.int (j:Int)/\Hz (λi=>Jv tv ws kv.1.1 cm kv.1.2 i) ws.length j/\∀o∈Az ws kv.1.1 cm kv.1.2 j,∃k',o=some k'/\(k'∈cv.map (·.1)\/k'∈E)
 yZ:(ws,0)∈cv.map (·.1)\/(ws,0)∈E
theorem Q0.len{ws:mv}{cm:mx}{tv b:mu}{E:List (mv×Int)}(h:Q0 ws cm tv b E)(a:Fk ws cm):b.length<=300:=by
 have d:=List.Nodup.length_le_of_subset h.nd (show b.map (·.1) ⊆ Ar ws (qv cm)from λk e=>by
  obtain⟨g,c,rfl⟩:=eH.mp e;exact(h.ent g c).1.1)
 have i:=Hs (ws:=ws) (q:=qv cm) (λw f=>(a.1 w f).1) (by have:=a.qv.1;omega);have j:=a.2.2.2.2;rw[List.length_map]at d;omega
theorem Q0.start{ws:mv}{cm:mx}{tv:mu}(h:Sf ws cm tv (ws,0)):Q0 ws cm tv [] [(ws,0)]:=⟨List.nodup_nil,λk b=>by cases iv.mp b;exact h,(λc a=>by cases a),.inr (iv.mpr rfl)⟩
theorem Q0.skip{ws:mv}{cm:mx}{tv a:mu}{E:List (mv×Int)}{k:mv×Int}(h:Q0 ws cm tv a (E++[k]))(m:k∈a.map (·.1)):Q0 ws cm tv a E:=by
 have b:∀x,x∈a.map (·.1)\/x∈E++[k]->x∈a.map (·.1)\/x∈E:=λx c=>by
  rcases c with z|z
  ·exact .inl z
  ·rcases fe.mp z with y|y
   ·exact .inr y
   ·rw[List.mem_singleton.mp y];exact .inl m
 refine⟨h.nd,λx c=>h.sf x (gv _ c),λq d=>?_,b _ h.yZ⟩;obtain⟨f,j,g,i,l⟩:=h.ent q d;refine⟨f,j,g,i,λo n=>?_⟩;obtain⟨p,e,z⟩:=l o n;exact⟨p,e,b _ z⟩
theorem Q0.put{ws:mv}{cm:mx}{tv a:mu}{E d:List (mv×Int)}{k:mv×Int}{j:Nat}(h:Q0 ws cm tv a (E++[k]))(l:Ag a k=none)(u:Hz (λi=>Jv tv ws k.1 cm k.2 i) ws.length j)(he:Az ws k.1 cm k.2 j=d.map some)(v:∀x∈d,Sf ws cm tv x):Q0 ws cm tv (Bd a k (.int (j:Int))) (E++d):=by
 have g:=D4 (kvs:=a) (k:=k) (.int (j:Int)) l
 have c:∀x,x∈a.map (·.1)\/x∈E++[k]->x∈(Bd a k (.int (j:Int))).map (·.1)\/x∈E++d:=λx b=>by
  rw[g,List.map_append];rcases b with z|z
  ·exact .inl (gv _ z)
  ·rcases fe.mp z with y|y
   ·exact .inr (gv _ y)
   ·rw[List.mem_singleton.mp y];exact .inl (gd _ (by simp))
 refine⟨Wv _ h.nd l,λx b=>?_,λA n=>?_,c _ h.yZ⟩
 ·rcases fe.mp b with y|y
  ·exact h.sf x (gv _ y)
  ·exact v x y
 ·have m:=n;rw[g]at m;rcases fe.mp m with z|z
  ·obtain⟨p,i,q,r,s⟩:=h.ent A z;refine⟨p,i,q,r,λo f=>?_⟩;obtain⟨w,e,y⟩:=s o f;exact⟨w,e,c _ y⟩
  ·rw[List.mem_singleton.mp z];refine⟨h.sf k (by simp),j,rfl,u,λo f=>?_⟩;rw[he]at f;obtain⟨x,b,rfl⟩:=eH.mp f;exact⟨x,rfl,.inr (gd _ b)⟩
def y9(ws:mv)(cm:mx)(tv ps:mu):Prop:=Q0 ws cm tv ps []/\ps.Pairwise λx y=>Jy (dS x.1) (dS y.1)=true
theorem Q0.perm{ws:mv}{cm:mx}{tv b ps:mu}(h:Q0 ws cm tv b [])(c:ps.Perm b):Q0 ws cm tv ps []:=by
 have a:=c.map (·.1);refine⟨a.nodup_iff.mpr h.nd,h.sf,λp d=>?_,?_⟩
 ·obtain⟨f,j,g,i,l⟩:=h.ent p (c.mem_iff.mp d);refine⟨f,j,g,i,λo m=>?_⟩;obtain⟨n,e,z⟩:=l o m;exact⟨n,e,z.imp (λy=>a.mem_iff.mpr y) id⟩
 ·exact h.yZ.imp (λy=>a.mem_iff.mpr y) id
theorem jr{ws:mv}{cm:mx}{tv:mu}{k:mv×Int}{j:Nat}(B:Bl ws cm tv)(q:Fk ws cm)(h:Sf ws cm tv k)(m:Hz (λi=>Jv tv ws k.1 cm k.2 i) ws.length j):∃a:List (mv×Int),Az ws k.1 cm k.2 j=a.map some/\(∀x∈a,Sf ws cm tv x)/\a.length<=2:=by
 have all:∀o∈Az ws k.1 cm k.2 j,∃b,o=some b/\Sf ws cm tv b:=λo f=>by
  obtain⟨b,e,v⟩:=(kn B h.1 q.2.2.1 m f).1 h.2.1;subst e;obtain⟨r,c,d⟩:=qc.mp f;exact⟨b,rfl,U8 (λw z=>(q.1 w z).1) h.1 m.1 c d,v,.step h.2.2 m f⟩
 have p:∀l:List (Option (mv×Int)),(∀o∈l,∃b,o=some b/\Sf ws cm tv b)->∃a:List (mv×Int),l=a.map some/\(∀x∈a,Sf ws cm tv x):=by
  intro l
  induction l with
  |nil=>exact λ_=>⟨[],rfl,λx n=>by cases n⟩
  |cons o l A=>
   intro c;obtain⟨a,g,d⟩:=A λo f=>c o (dr _ f);obtain⟨b,s,u⟩:=c o cL;refine⟨b::a,by rw[s,g];rfl,λx n=>?_⟩;rcases d3.mp n with y|y
   ·rw[y];exact u
   ·exact d x y
 obtain⟨a,g,d⟩:=p _ all;refine⟨a,g,d,?_⟩;have c:a.length=(Az ws k.1 cm k.2 j).length:=by rw[g,List.length_map]
 rw[c];unfold Az;split<;>simp
theorem Zv{H:Hp}{a:List (mv×Int)}{c:List V}(h:Af (Et H) (a.map some) c):Af (F5 H) a c:=by
 refine⟨by rw[h.1,List.length_map],λi r v d e=>?_⟩;obtain⟨b,f,u,g,j⟩:=h.2 i (some r) v (by rw[List.getElem?_map,d];rfl) e;exact⟨b,u,f,g,j⟩
theorem Ey:∀xs ys:mv,aC (xs.map PyData.int) (ys.map PyData.int)=true->aC (ys.map PyData.int) (xs.map PyData.int)=false
 |[],[],_=>rfl
 |[],y::ys,h=>rfl
 |x::xs,[],h=>by simp[aC]at h
 |x::xs,y::ys,h=>by
  have e:∀a b:Int,PyData.eqv (.int a) (.int b)=decide (a=b):=λa b=>by
   show(a==b)=_;rw[Bool.eq_iff_iff];simp
  rw[List.map_cons,List.map_cons,aC,e]at h⊢;by_cases z:x=y
  ·subst z;rw[if_pos (by simp)]at h⊢;exact Ey xs ys h
  ·rw[if_neg (by simp;exact z)]at h;rw[if_neg (by simp;exact λy=>z y.symm)];have c:x<y:=of_decide_eq_true h;exact jE (by omega)
theorem Su{a b:mv×Int}(h:Jy (dS a) (dS b)=true):Jy (dS b) (dS a)=false:=by
 have c:aC [dT a.1,.int a.2] [dT b.1,.int b.2]=true:=h;show aC [dT b.1,.int b.2] [dT a.1,.int a.2]=false;rw[aC,au]at c⊢;by_cases z:a.1=b.1
 ·rw[if_pos (by simp[z])]at c⊢;exact Ey [a.2] [b.2] c
 ·rw[if_neg (by simp[z])]at c;rw[if_neg (by simp;exact λy=>z y.symm)];exact Ey a.1 b.1 c
theorem Hl{L:List (mv×Int)}(l:L.Pairwise λa b=>Jy (dS a) (dS b)=true){a b:mv×Int}(i:a∈L)(j:b∈L):Jy (dS a) (dS b)=decide (L.idxOf a<L.idxOf b):=by
 have f:=List.idxOf_lt_length_of_mem i;have g:=List.idxOf_lt_length_of_mem j;have c:L[L.idxOf a]=a:=List.getElem_idxOf f;have d:L[L.idxOf b]=b:=List.getElem_idxOf g;have h:=List.pairwise_iff_getElem.mp l;rcases Nat.lt_trichotomy (L.idxOf a) (L.idxOf b)with z|z|z
 ·have:=h _ _ f g z;rw[c,d]at this;rw[this,decide_eq_true z]
 ·have e:a=b:=by
   rw[<- c,<- d];congr 1
  subst e;rw[decide_eq_false (Nat.lt_irrefl _)];exact Wr a
 ·have:=h _ _ g f z;rw[c,d]at this;rw[Su this,decide_eq_false (by omega)]
theorem Qm(j:Int):aC [PyData.int j] [PyData.int j]=false:=by
 rw[aC,if_pos (show PyData.eqv (.int j) (.int j)=true from PySem.SeqAt.eqv_refl _ rfl)];rfl
def Iu(a:(mv×Int)×V):nX:=match a.2 with
 | .int i=>.int i
 |_=>.none
theorem Us{ws:mv}{cm:mx}{tv c:mu}(h:Q0 ws cm tv c []):∀a∈c,∀b∈c,Zm (I8 Iu a) (I8 Iu b)/\Jy (I8 Iu a) (I8 Iu b)=decide ((Ar ws (qv cm)).idxOf a.1<(Ar ws (qv cm)).idxOf b.1):=λa m b n=>by
 obtain⟨⟨q,_⟩,i,g,_⟩:=h.ent a m;obtain⟨⟨r,_⟩,j,f,_⟩:=h.ent b n;have o:Iu a=.int i:=by unfold Iu;rw[g]
 have p:Iu b=.int j:=by unfold Iu;rw[f]
 have s:∀x y:mv,aU (x.map PyData.int) (y.map PyData.int):=by
  intro x
  induction x with
  |nil=>intro y;unfold aU;trivial
  |cons u x A=>
   intro y;cases y with
   |nil=>unfold aU;trivial
   |cons v y=>exact⟨trivial,A y⟩
 refine⟨?_,?_⟩
 ·show Ig [dS a.1,Iu a] [dS b.1,Iu b];rw[o,p];exact Wb ⟨⟨s _ _,trivial,trivial⟩,trivial,trivial⟩
 ·show aC [dS a.1,Iu a] [dS b.1,Iu b]=_;rw[aC,Mj,o,p];by_cases z:a.1=b.1
  ·rw[if_pos (by simp[z])]
   have e:a=b:=by
    obtain⟨B,E⟩:=a;obtain⟨C,F⟩:=b;have D:B=C:=z;subst D;have w:=Ct h.nd m;have l:=Ct h.nd n;rw[w]at l;rw[Option.some.inj l]
   subst e
   have d:(i:Int)=j:=by
    rw[g]at f;injection f
   rw[d,decide_eq_false (Nat.lt_irrefl _)];exact Qm j
  ·rw[if_neg (by simp[z])];exact Hl (Df ws (qv cm)) q r
theorem kt{ws:mv}{cm:mx}{tv b ps:mu}(h:Q0 ws cm tv b [])(g:ps.Perm b)(i:ps.Pairwise λx y=>(Ar ws (qv cm)).idxOf x.1<=(Ar ws (qv cm)).idxOf y.1):y9 ws cm tv ps:=by
 have a:=h.perm g;refine⟨a,?_⟩;have f:=List.pairwise_map.mp a.nd;refine List.Pairwise.imp_of_mem (λ{x y} j l z=>?_) (i.and f);have c:=(a.ent x j).1.1;have d:=(a.ent y l).1.1;rw[Hl (Df ws (qv cm)) c d];refine decide_eq_true (Nat.lt_of_le_of_ne z.1 λe=>z.2 ?_);have m:=List.idxOf_lt_length_of_mem c;have n:=List.idxOf_lt_length_of_mem d;rw[<- List.getElem_idxOf m,<- List.getElem_idxOf n];congr 1
theorem N5{H:Hp}:∀{ps:mu}{a:List V},Paired (y8 H) ps a->Af (y8 H) ps a
 |_,_,.nil=>Af.nil
 |_,_,.cons r t=>Af.cons r (N5 t)
theorem yo{i:Nat}{v:V}{a:L2.St}{H:Hp}{Q:L2.St->Hp->Prop}(h:Q (List.set a i (some v)) H):Je i v a H Q:=h
theorem A0k{c:TT}{a u:TS}{D:Ix}{b:L2.St}{H:Hp}(h:Rg c a {D with nx:=u D} b H):A0g (Rg c a) u D b H:=h
theorem Ti{H:Hp}{b:Addr}{k:mv×Int}(h:F4 H b k):Rp H (dS k) (.ref b):=by
 obtain⟨u,a,c⟩:=h;exact eh a (o8 c) (by unfold Rp;rfl)
theorem eqI(a b:Int):decide (V.int a=V.int b)=decide (a=b):=by simp
theorem qh(a b:mv×Int):Ih (dS a) (dS b):=by
 have c:∀x y:mv,aU (x.map PyData.int) (y.map PyData.int):=by
  intro x
  induction x with
  |nil=>intro y;unfold aU;trivial
  |cons u x d=>
   intro y;cases y with
   |nil=>unfold aU;trivial
   |cons v y=>exact⟨trivial,d y⟩
 exact⟨c _ _,trivial,trivial⟩
def Hx(tv:mu)(ws ls:mv)(cm:mx)(q:Int):List Bool:=(List.range ws.length).map λw=>D7 tv ws ls cm q w
theorem Gf(tv:mu)(ws ls:mv)(cm:mx)(q:Int):(Hx tv ws ls cm q).length=ws.length:=by unfold Hx;rw[List.length_map,List.length_range]
theorem W6{tv:mu}{ws ls:mv}{cm:mx}{q:Int}{i:Nat}(h:i<ws.length):(Hx tv ws ls cm q)[i]?=some (D7 tv ws ls cm q i):=by
 unfold Hx;rw[List.getElem?_map,List.getElem?_range h];rfl
def P8(tv:mu)(ws:mv)(cm:mx)(k:mv×Int)(who:Nat):Option (mv×Int):=Cz ws k.1 cm k.2 who (D7 tv ws k.1 cm k.2 who)
inductive jo(ws:mv)(cm:mx)(tv:mu):(mv×Int)->Prop
 |base:jo ws cm tv (ws,0)
 |step {k k':mv×Int}{j:Nat}:jo ws cm tv k->j<ws.length->P8 tv ws cm k j=some k'->jo ws cm tv k'
def Uf(ws:mv)(cm:mx)(tv:mu)(k:mv×Int):Prop:=k∈Ar ws (qv cm)/\(∃m:Int,Ag tv k=some (.int m))/\jo ws cm tv k
structure Rj(ws:mv)(cm:mx)(tv cv:mu)(E:List (mv×Int)):Prop where
 nd:(cv.map (·.1)).Nodup
 sf:∀k∈E,Uf ws cm tv k
 ent:∀kv∈cv,Uf ws cm tv kv.1/\∀j k',j<ws.length->P8 tv ws cm kv.1 j=some k'->k'∈cv.map (·.1)\/k'∈E
 yZ:(ws,0)∈cv.map (·.1)\/(ws,0)∈E
theorem Rj.len{ws:mv}{cm:mx}{tv b:mu}{E:List (mv×Int)}(h:Rj ws cm tv b E)(a:Fk ws cm):b.length<=300:=by
 have d:=List.Nodup.length_le_of_subset h.nd (show b.map (·.1) ⊆ Ar ws (qv cm)from λk e=>by
  obtain⟨g,c,rfl⟩:=eH.mp e;exact(h.ent g c).1.1)
 have i:=Hs (ws:=ws) (q:=qv cm) (λw f=>(a.1 w f).1) (by have:=a.qv.1;omega);have j:=a.2.2.2.2;rw[List.length_map]at d;omega
theorem Rj.start{ws:mv}{cm:mx}{tv:mu}(h:Uf ws cm tv (ws,0)):Rj ws cm tv [] [(ws,0)]:=⟨List.nodup_nil,λk b=>by cases iv.mp b;exact h,(λc a=>by cases a),.inr (iv.mpr rfl)⟩
theorem Rj.skip{ws:mv}{cm:mx}{tv a:mu}{E:List (mv×Int)}{k:mv×Int}(h:Rj ws cm tv a (E++[k]))(i:k∈a.map (·.1)):Rj ws cm tv a E:=by
 have b:∀x,x∈a.map (·.1)\/x∈E++[k]->x∈a.map (·.1)\/x∈E:=λx c=>by
  rcases c with z|z
  ·exact .inl z
  ·rcases fe.mp z with y|y
   ·exact .inr y
   ·rw[List.mem_singleton.mp y];exact .inl i
 exact⟨h.nd,λx c=>h.sf x (gv _ c),λe d=>⟨(h.ent e d).1,λj l f g=>b _ ((h.ent e d).2 j l f g)⟩,b _ h.yZ⟩
theorem Rj.put{ws:mv}{cm:mx}{tv a:mu}{E:List (mv×Int)}{k:mv×Int}{v:V}(h:Rj ws cm tv a (E++[k]))(g:Ag a k=none)(o:∀x∈(List.range ws.length).filterMap (P8 tv ws cm k),Uf ws cm tv x):Rj ws cm tv (Bd a k v) (E++(List.range ws.length).filterMap (P8 tv ws cm k)):=by
 have f:=D4 (kvs:=a) (k:=k) v g
 have b:∀x,x∈a.map (·.1)\/x∈E++[k]->x∈(Bd a k v).map (·.1)\/x∈E++(List.range ws.length).filterMap (P8 tv ws cm k):=λx e=>by
  rw[f,List.map_append];rcases e with z|z
  ·exact .inl (gv _ z)
  ·rcases fe.mp z with y|y
   ·exact .inr (gv _ y)
   ·rw[List.mem_singleton.mp y];exact .inl (gd _ (by simp))
 refine⟨Wv _ h.nd g,λx e=>?_,λm n=>?_,b _ h.yZ⟩
 ·rcases fe.mp e with y|y
  ·exact h.sf x (gv _ y)
  ·exact o x y
 ·have i:=n;rw[f]at i;rcases fe.mp i with z|z
  ·exact⟨(h.ent m z).1,λj l c d=>b _ ((h.ent m z).2 j l c d)⟩
  ·rw[List.mem_singleton.mp z];exact⟨h.sf k (by simp),λj l c d=>.inr (gd _ (List.mem_filterMap.mpr ⟨j,lP.mpr c,d⟩))⟩
theorem Rj.perm{ws:mv}{cm:mx}{tv d ps:mu}(h:Rj ws cm tv d [])(b:ps.Perm d):Rj ws cm tv ps []:=by
 have a:=b.map (·.1);exact⟨a.nodup_iff.mpr h.nd,h.sf,λe c=>⟨(h.ent e (b.mem_iff.mp c)).1,λj i f g=>((h.ent e (b.mem_iff.mp c)).2 j i f g).imp (λy=>a.mem_iff.mpr y) id⟩,h.yZ.imp (λy=>a.mem_iff.mpr y) id⟩
theorem P5{tv:mu}{ws ls:mv}{cm:mx}{q:Int}{who:Nat}:U4 cm q (D7 tv ws ls cm q who):=λh=>by
 have a:Ed cm q=true:=by
  unfold D7 at h;exact(Bool.and_eq_true_iff.mp h).1
 unfold Ed at a;simpa using a
theorem rn{ws:mv}{cm:mx}{tv:mu}{k:mv×Int}(s:Bl ws cm tv)(f:Fk ws cm)(h:Uf ws cm tv k):∀x∈(List.range ws.length).filterMap (P8 tv ws cm k),Uf ws cm tv x:=λx p=>by
 obtain⟨j,l,e⟩:=List.mem_filterMap.mp p;have a:=lP.mp l;obtain⟨m,n⟩:=h.2.1;obtain⟨r,g,_⟩:=Tw s n a e;refine⟨U8 (λw o=>(f.1 w o).1) h.1 a ?_ e,⟨r,g⟩,.step h.2.2 a e⟩;have q:=P5 (tv:=tv) (ws:=ws) (ls:=k.1) (cm:=cm) (q:=k.2) (who:=j);unfold Ms;cases i:D7 tv ws k.1 cm k.2 j with
 |false=>split<;>simp
 |true=>
  obtain⟨c,d⟩:=q i
  have b:Ed cm k.2=true:=by
   unfold Ed;simp[c,d]
  first
   |(rw[if_pos b];simp)
   | (split
      ·simp
      ·exact absurd (by simpa[Ed]using b) (by assumption))
def Hw(tv:mu)(ws:mv)(cm:mx)(H:Hp)(a:(mv×Int)×V)(u:V):Prop:=∃(p b t:Addr) (m:Int),u=.ref p/\H p=some (.tup [.ref b,.int m,.ref t])/\F4 H b a.1/\Ag tv a.1=some (.int m)/\a.2=.ref t/\H t=some (.tup ((Hx tv ws a.1.1 cm a.1.2).map V.bl))
theorem Hw.up{tv:mu}{ws:mv}{cm:mx}{H a:Hp}{c:(mv×Int)×V}{u:V}(s:An H a)(h:Hw tv ws cm H c u):Hw tv ws cm a c u:=by
 obtain⟨p,b,t,m,d,e,f,g,i,j⟩:=h;exact⟨p,b,t,m,d,s _ _ e,f.up s,g,i,s _ _ j⟩
def UQ(tv:mu)(k:mv×Int):Int:=match Ag tv k with
 |some (.int m)=>m
 |_=>0
def Kc(tv:mu)(ws:mv)(cm:mx)(a:(mv×Int)×V):nX:=.tuple [dS a.1,.int (UQ tv a.1),.tuple ((Hx tv ws a.1.1 cm a.1.2).map PyData.bool)]
theorem Th{H:Hp}:∀l:List Bool,aB H (l.map PyData.bool) (l.map V.bl)
 |[]=>by unfold aB;rfl
 |x::l=>by
  show aB H (PyData.bool x::l.map PyData.bool) (V.bl x::l.map V.bl);unfold aB;exact⟨_,_,rfl,zx x,Th l⟩
theorem Hw.rp{tv:mu}{ws:mv}{cm:mx}{H:Hp}{a:(mv×Int)×V}{u:V}(h:Hw tv ws cm H a u):Rp H (Kc tv ws cm a) u:=by
 obtain⟨p,b,t,m,rfl,c,d,f,i,g⟩:=h;have e:UQ tv a.1=m:=by unfold UQ;rw[f]
 unfold Kc;rw[e];unfold Rp;refine⟨p,_,rfl,c,?_⟩;unfold aB;refine⟨_,_,rfl,Ti d,?_⟩;unfold aB;refine⟨_,_,rfl,Nf m,?_⟩;unfold aB;refine⟨_,_,rfl,?_,?_⟩
 ·unfold Rp;exact⟨t,_,rfl,g,Th _⟩
 ·unfold aB;rfl
theorem Ui(tv:mu)(ws:mv)(cm:mx)(c:(mv×Int)×V):(Kc tv ws cm c).depth<=50:=by
 have a:∀l:List Bool,PyData.depthAll (l.map PyData.bool)=0:=by
  intro l
  induction l with
  |nil=>rfl
  |cons x l b=>simp only[List.map_cons,PyData.depthAll,PyData.depth,b];rfl
 unfold Kc;simp only[PyData.depth,PyData.depthAll,Mf,a];omega
theorem Kv:∀l:List nX,PyData.canLayAll0 l=true->aC l l=false
 |[],_=>rfl
 |x::l,h=>by
  have a:x.canLay0=true/\PyData.canLayAll0 l=true:=by simpa[PyData.canLayAll0]using h
  rw[aC,if_pos (PySem.SeqAt.eqv_refl x a.1)];exact Kv l a.2
theorem Oo:∀l:List nX,PyData.canLayAll0 l=true->Ig l l
 |[],_=>by unfold Ig;trivial
 |x::l,h=>by
  have a:x.canLay0=true/\PyData.canLayAll0 l=true:=by simpa[PyData.canLayAll0]using h
  unfold Ig;rw[if_pos (PySem.SeqAt.eqv_refl x a.1)];exact Oo l a.2
theorem Zc{ws:mv}{cm:mx}{tv:mu}{H:Hp}{a b:(mv×Int)×V}{u:V}(g:Rp H (Kc tv ws cm a) u)(d:a.1∈Ar ws (qv cm))(f:b.1∈Ar ws (qv cm)):Zm (Kc tv ws cm a) (Kc tv ws cm b)/\Jy (Kc tv ws cm a) (Kc tv ws cm b)=decide ((Ar ws (qv cm)).idxOf a.1<(Ar ws (qv cm)).idxOf b.1):=by
 by_cases z:a.1=b.1
 ·have e:Kc tv ws cm b=Kc tv ws cm a:=by unfold Kc;rw[z]
  have c:PyData.canLayAll0 [dS a.1,.int (UQ tv a.1),.tuple ((Hx tv ws a.1.1 cm a.1.2).map PyData.bool)]=true:=Ck _ _ g;rw[e,z,decide_eq_false (Nat.lt_irrefl _)];exact⟨Oo _ c,Kv _ c⟩
 ·refine⟨?_,?_⟩
  ·show Ig (dS a.1::_) (dS b.1::_);unfold Ig;rw[Mj,if_neg (by simp[z])];exact qh _ _
  ·show aC (dS a.1::_) (dS b.1::_)=_;rw[aC,Mj,if_neg (by simp[z])];exact Hl (Df ws (qv cm)) d f
def Px(ws:mv)(cm:mx)(tv ps:mu):Prop:=Rj ws cm tv ps []/\ps.Pairwise λx y=>Jy (dS x.1) (dS y.1)=true
theorem Xw{ws:mv}{cm:mx}{tv b ps:mu}(h:Rj ws cm tv b [])(g:ps.Perm b)(i:ps.Pairwise λx y=>(Ar ws (qv cm)).idxOf x.1<=(Ar ws (qv cm)).idxOf y.1):Px ws cm tv ps:=by
 have a:=h.perm g;refine⟨a,?_⟩;have f:=List.pairwise_map.mp a.nd;refine List.Pairwise.imp_of_mem (λ{x y} j l z=>?_) (i.and f);have c:=(a.ent x j).1.1;have d:=(a.ent y l).1.1;rw[Hl (Df ws (qv cm)) c d];refine decide_eq_true (Nat.lt_of_le_of_ne z.1 λe=>z.2 ?_);have m:=List.idxOf_lt_length_of_mem c;have n:=List.idxOf_lt_length_of_mem d;rw[<- List.getElem_idxOf m,<- List.getElem_idxOf n];congr 1
theorem Pb{ws:mv}{cm:mx}{tv c:mu}(h:Bl ws cm tv)(h':Bl ws cm c):∀(n:Nat) (k:mv×Int) (m:Int),m<=n->Ag tv k=some (.int m)->(Ag c k).isSome=true
 |0,k,m,g,b=>by
  obtain⟨m0,e,f,_⟩:=h.1 k _ b;cases e;omega
 |n+1,k,m,g,b=>by
  obtain⟨m0,e,f,l,o,_⟩:=h.1 k _ b;cases e;cases i:Ag c k with
  |some v=>rfl
  |none=>
   obtain⟨d,p,q,r⟩:=h'.2 k l i;rcases o d p with z|⟨a,j,s,u,w⟩
   ·exact absurd z q
   ·have:=Pb h h' n a j (by omega) u;rw[r a s]at this;cases this
theorem eg{ws:mv}{cm:mx}{tv g:mu}(h:Bl ws cm tv)(h':Bl ws cm g)(k:mv×Int):(Ag tv k).isSome=(Ag g k).isSome:=by
 have c:∀{a b:mu},Bl ws cm a->Bl ws cm b->(Ag a k).isSome=true->(Ag b k).isSome=true:=λd i j=>by
  obtain⟨v,f⟩:=Option.isSome_iff_exists.mp j;obtain⟨m,e,l,_⟩:=d.1 k v f;subst e;exact Pb d i m.toNat k m (by omega) f
 rw[Bool.eq_iff_iff];exact⟨c h h',c h' h⟩
theorem bf{x y:Int}(c:0<=x)(d:0<y):Int.gcd y (x%y)=Int.gcd x y:=by
 obtain⟨a,rfl⟩:∃a:Nat,x=a:=⟨x.toNat,by omega⟩;obtain⟨b,rfl⟩:∃b:Nat,y=b:=⟨y.toNat,by omega⟩;rw[<- Int.natCast_emod,Int.gcd_natCast_natCast,Int.gcd_natCast_natCast,Nat.gcd_comm b,<- Nat.gcd_rec,Nat.gcd_comm]
def Mp(c:Nat)(xs:mv):Nat:=xs.foldl (λc n=>Nat.lcm c n.natAbs) c
def C8(xs:mv):Nat:=Mp 1 xs
theorem Yr(xs:mv)(x:Int):C8 (xs++[x])=Nat.lcm (C8 xs) x.natAbs:=by
 unfold C8 Mp;rw[List.foldl_append];rfl
theorem E5{xs:mv}{i:Nat}{x:Int}(h:xs[i]?=some x):xs.take (i+1)=xs.take i++[x]:=by
 rw[List.take_add_one,h];rfl
theorem ky{c:Nat}{x:Int}(a:1<=x):(c:Int)/((Int.gcd (c:Int) x:Nat):Int)*x=((Nat.lcm c x.natAbs:Nat):Int):=by
 obtain⟨n,rfl⟩:∃n:Nat,x=n:=⟨x.toNat,by omega⟩;rw[Int.gcd_natCast_natCast,Int.natAbs_natCast,<- Int.natCast_ediv,<- Int.natCast_mul];unfold Nat.lcm;rw[Nat.div_mul_right_comm (Nat.gcd_dvd_left c n)]
theorem qw{c:Nat}{x:Int}(e:0<c)(f:1<=x):0<((Int.gcd (c:Int) x:Nat):Int)/\((Int.gcd (c:Int) x:Nat):Int)<=x:=by
 have a:((Int.gcd (c:Int) x:Nat):Int)∣x:=Int.gcd_dvd_right ..;have b:=jW (by omega) a
 have d:Int.gcd (c:Int) x≠0:=λz=>by
  have:=(Int.gcd_eq_zero_iff.mp z).2;omega
 omega
def Cf(B:Int)(xs:mv):mv:=xs.map λx=>B/x
theorem Os(B:Int)(xs:mv)(x:Int):Cf B (xs++[x])=Cf B xs++[B/x]:=by
 unfold Cf;rw[List.map_append];rfl
theorem Wi{B:Int}(a:0<=B):∀{xs:mv},(∀x∈xs,1<=x)->0<=(Cf B xs).sum
 |[],_=>by simp[Cf]
 |x::xs,h=>by
  have b:=Wi a λy c=>h y (dr _ c);have d:=h x (cL ..);have e:0<=B/x:=jZ a (by omega);unfold Cf at b⊢;rw[List.map_cons,List.sum_cons];omega
def Rk(H:Hp)(r:Int×Int)(v:V):Prop:=∃p,v=.ref p/\H p=some (.tup [.int r.1,.int r.2])
theorem Rk.up{H a:Hp}{r:Int×Int}{v:V}(t:An H a)(h:Rk H r v):Rk a r v:=by
 obtain⟨p,e,b⟩:=h;exact⟨p,e,t _ _ b⟩
theorem Jk:1<=sizeLine:=by decide
theorem Jt{a:Type}{xs:List a}{i:Nat}{x:a}(h:xs[i]?=some x):xs.take (i+1)=xs.take i++[x]:=by
 rw[List.take_add_one,h];rfl
def rv:mv->Int->Int
 |p::q::r,u=>rv (q::r) (u/(p/q))+u%(p/q)*q
 |_,u=>u
inductive Lv:mv->Prop
 |one:Lv [1]
 |cons {p q:Int}{r:mv}:q<p->q∣p->Lv (q::r)->Lv (p::q::r)
theorem Lv.pos{q:Int}{r:mv}(h:Lv (q::r)):1<=q:=by
 generalize e:q::r=l at h
 induction h generalizing q r with
 |one=>cases e;decide
 |cons b c d a=>
  cases e;have:=a rfl;omega
theorem Cq{p q:Int}(b:1<=q)(a:1<=p)(h:q∣p):1<=p/q/\p=q*(p/q):=by
 obtain⟨c,rfl⟩:=h;rw[Int.mul_ediv_cancel_left _ (by omega)];refine⟨?_,rfl⟩;by_cases z:1<=c
 ·exact z
 ·have:q*c<=0:=Int.mul_nonpos_of_nonneg_of_nonpos (by omega) (by omega);omega
theorem Jc{u c q:Int}(a:1<=c)(h0:0<=u)(h:u<q*c):0<=u/c/\u/c<q:=
 ⟨jZ h0 (by omega),Int.ediv_lt_of_lt_mul (by omega) h⟩
theorem og:∀{l:mv},Lv l->∀{q:Int}{r:mv},l=q::r->
  (∀u,0<=u->u<q->0<=rv (q::r) u/\rv (q::r) u<q)/\∀u v,0<=u->u<q->0<=v->v<q->rv (q::r) u=rv (q::r) v->u=v:=by
 intro l h
 induction h with
 |one=>
  rintro q r e;cases e;exact⟨λu a b=>⟨a,b⟩,λu v a b c d _=>by omega⟩
 |@cons p q r S L M Q=>
  rintro Y Z e;cases e;obtain⟨O,P⟩:=Q rfl;have N:=M.pos;obtain⟨n,J⟩:=Cq N (by omega) L
  have f:∀u,0<=u->u<p->0<=rv (q::r) (u/(p/q))/\rv (q::r) (u/(p/q))<q/\0<=u%(p/q)/\u%(p/q)<p/q:=λu g i=>by
   have y:=Jc (q:=q) n g (by omega);have z:=O _ y.1 y.2;exact⟨z.1,z.2,ll _ (by omega),me _ (by omega)⟩
  have m:∀u,rv (p::q::r) u=rv (q::r) (u/(p/q))+u%(p/q)*q:=λu=>rfl;constructor
  ·intro u g i;obtain⟨o,s,w,C⟩:=f u g i;rw[m];have m1:0<=u%(p/q)*q:=Int.mul_nonneg w (by omega);have R:(u%(p/q)+1)*q<=p/q*q:=Int.mul_le_mul_of_nonneg_right (by omega) (by omega);rw[Int.add_mul,Int.one_mul,Int.mul_comm (p/q) q,<- J]at R;omega
  ·intro u v g i x K e;obtain⟨o,s,w,C⟩:=f u g i;obtain⟨D,E,T,U⟩:=f v x K;rw[m,m]at e;have j:=congrArg (·%q) e;simp only[Int.add_mul_emod_self_right]at j;rw[Int.emod_eq_of_lt o s,Int.emod_eq_of_lt D E]at j;have G:u%(p/q)*q=v%(p/q)*q:=by omega
   have H:=Int.eq_of_mul_eq_mul_right (show q≠0 by omega) G;have A:=Jc (q:=q) n g (by omega);have B:=Jc (q:=q) n x (by omega);have I:=P _ _ A.1 A.2 B.1 B.2 j;have F:=Int.mul_ediv_add_emod u (p/q);have X:=Int.mul_ediv_add_emod v (p/q);rw[I,H]at F;omega
theorem vp{p q:Int}{r:mv}(h:Lv (p::q::r)){u:Int}(h0:0<=u)(h1:u<p):rv (p::q::r) u%q=rv (q::r) (u/(p/q)):=by
 have d:Lv (q::r)/\q<p/\q∣p:=by
  cases h with
  |cons a b c=>exact⟨c,a,b⟩
 have i:=d.1.pos;obtain⟨g,j⟩:=Cq i (by omega) d.2.2;have e:=Jc (q:=q) g h0 (by omega);have f:=(og d.1 rfl).1 _ e.1 e.2;show(rv (q::r) (u/(p/q))+u%(p/q)*q)%q=_;rw[Int.add_mul_emod_self_right,Int.emod_eq_of_lt f.1 f.2]
theorem Lv.drop:∀{d:mv} (k:Nat),Lv d->k<d.length->Lv (d.drop k):=by
 intro d k h
 induction h generalizing k with
 |one=>intro e;cases k with
  |zero=>exact .one
  |succ k=>simp at e
 |cons a b c f=>intro e;cases k with
  |zero=>exact .cons a b c
  |succ k=>exact f k (by simpa using e)
theorem Lv.take{ls:mv}{i:Nat}(h:Lv ls.reverse)(h0:0<i)(hi:i<=ls.length):Lv (ls.take i).reverse:=by
 rw[List.reverse_take];exact h.drop _ (by rw[List.length_reverse];omega)
theorem Lv.dvd:∀{l:mv},Lv l->∀{q:Int}{r:mv},l=q::r->∀p∈l,p∣q:=by
 intro l h
 induction h with
 |one=>
  rintro q r e p d;cases e;rw[List.mem_singleton.mp d];exact Int.dvd_refl _
 |cons a b c f=>
  rintro q r e p d;cases e;rcases d3.mp d with rfl|d
  ·exact Int.dvd_refl _
  ·exact Int.dvd_trans (f rfl p d) b
theorem Lv.first{ls:mv}(h:Lv ls.reverse){p:Int}(h0:ls[0]?=some p):p=1:=by
 have c:0<ls.length:=(bG.mp h0).1;have a:=h.take (i:=1) (by decide) c;cases ls with
 |nil=>cases h0
 |cons x d=>
  have e:(List.take 1 (x::d)).reverse=[x]:=rfl;have b:x=p:=by simpa using h0
  rw[e,b]at a;cases a;rfl
inductive FF(ls:mv)(top t0:Int):Nat->Int->Int->Int->Prop
 |zero:FF ls top t0 0 0 t0 1
 |succ {i:Nat}{step:Int}{r:mv}:(ls.take i).reverse=step::r->FF ls top t0 i (rv (step::r) (t0/(top/step))) (t0%(top/step)) step
theorem FF.pos{ls:mv}{top t0:Int}{i:Nat}{f t s:Int}(h:FF ls top t0 i f t s)(a:Lv ls.reverse)(h0:0<=t0)(m:∃r,ls.reverse=top::r):1<=s/\s∣top/\0<=t:=by
 obtain⟨p,b⟩:=m;have j:1<=top:=by rw[b]at a;exact a.pos
 cases h with
 |zero=>exact⟨by decide,Int.one_dvd _,h0⟩
 |@succ _ _ r e=>
  have l:s∈ls.reverse:=by
   have:s∈(ls.take i).reverse:=by rw[e];exact cL
   exact List.mem_reverse.mpr (List.mem_of_mem_take (List.mem_reverse.mp this))
  have o:0<i:=by
   cases i with
   |zero=>simp at e
   |succ i=>omega
  have g:Lv (s::r):=by
   rw[<- e,List.reverse_take];refine a.drop _ ?_
   have:(ls.take i).length≠0:=λz=>by
    have:=congrArg List.length e;rw[List.length_reverse,z]at this;simp at this
   rw[List.length_take]at this;rw[List.length_reverse];omega
  have d:=g.pos;have c:=a.dvd b s l;obtain⟨n,_⟩:=Cq d j c;exact⟨d,c,ll _ (by omega)⟩
theorem rl{a b c:Int}(d:0<=a)(e:1<=b)(f:1<=c):a%(b*c)/b=a/b%c:=by
 obtain⟨a,rfl⟩:∃n:Nat,a=n:=⟨a.toNat,by omega⟩;obtain⟨b,rfl⟩:∃n:Nat,b=n:=⟨b.toNat,by omega⟩;obtain⟨c,rfl⟩:∃n:Nat,c=n:=⟨c.toNat,by omega⟩;have:=Nat.mod_mul_right_div_self a b c
 exact_mod_cast this
theorem FF.step{ls:mv}{top t0:Int}{i:Nat}{f t s p:Int}(h:FF ls top t0 i f t s)(d:Lv ls.reverse)(h0:0<=t0)(w:∃r,ls.reverse=top::r)(m:ls[i]?=some p):
  1<=top/p/\p∣top/\1<=p/\FF ls top t0 (i+1) (f+t/(top/p)*s) (t%(top/p)) p:=by
 have D:=h.pos d h0 w;obtain⟨J,q⟩:=w;have E:1<=top:=by rw[q]at d;exact d.pos
 have I:=(bG.mp m).1;have G:p∈ls.reverse:=List.mem_reverse.mpr (cb m);have v:=d.dvd q p G;have l:=d.take (i:=i+1) (by omega) (by omega)
 have j:(ls.take (i+1)).reverse=p::(ls.take i).reverse:=by
  rw[List.take_add_one,m];simp
 have o:1<=p:=by rw[j]at l;exact l.pos
 obtain⟨g,n⟩:=Cq o E v;refine⟨g,v,o,?_⟩;cases h with
 |zero=>
  have x:=d.first m;subst x;have:=FF.succ (top:=top) (t0:=t0) j;rw[List.take_zero,List.reverse_nil]at this
  have y:(0:Int)+t0/(top/1)*1=rv [1] (t0/(top/1)):=by
   show _=t0/(top/1);omega
  rw[y];exact this
 |@succ _ _ r e=>
  have:=FF.succ (top:=top) (t0:=t0) j;rw[e]at this;rw[j,e]at l
  have H:s∣p:=by
   cases l with
   |cons a b c=>exact b
  obtain⟨F,C⟩:=Cq D.1 o H
  have u:top/s=top/p*(p/s):=by
   have e:top=s*(top/p*(p/s)):=by
    calc top=p*(top/p):=n
     _=s*(p/s)*(top/p):=by rw[<- C]
     _=s*(top/p*(p/s)):=by rw[Int.mul_assoc,Int.mul_comm (p/s)]
   generalize top/p*(p/s)=z at e⊢;rw[e,Int.mul_ediv_cancel_left _ (by omega)]
  have A:rv (s::r) (t0/(top/s))+t0%(top/s)/(top/p)*s=rv (p::s::r) (t0/(top/p)):=by
   show _=rv (s::r) (t0/(top/p)/(p/s))+t0/(top/p)%(p/s)*s;rw[u,rl h0 g F,Int.ediv_ediv_of_nonneg (by omega)]
  have B:t0%(top/s)%(top/p)=t0%(top/p):=by
   rw[u,Int.emod_emod_of_dvd _ (Int.dvd_mul_right ..)]
  rw[A,B];exact this
theorem FF.last{ls:mv}{top t0:Int}{i:Nat}{f t s:Int}(h:FF ls top t0 i f t s)(hi:i=ls.length){r:mv}(a:ls.reverse=top::r)(b:1<=top):f=rv (top::r) t0:=by
 cases h with
 |zero=>
  have:ls=[]:=List.length_eq_zero_iff.mp (by omega);rw[this]at a;cases a
 |@succ _ _ c e=>
  rw[hi,List.take_length,a]at e;cases e;rw[Int.ediv_self (by omega),Int.ediv_one]
def G7(q:Int)(dn:List (Int×Int)):Int:=(dn.map λx=>q/x.1).sum
structure Iy(dn:List (Int×Int))(q:Int)(r:mv)(t:Int):Prop where
 lv:Lv (q::r)
 sum:t=G7 q dn
 all:∀x∈dn,1<=x.1/\x.1∣q/\0<=x.2/\x.2<x.1/\∀u,t<=u->u<q->rv (q::r) u%x.1≠x.2
 pair:dn.Pairwise λx y=>x.1∣y.1/\y.2%x.1≠x.2
theorem Tt{q:Int}(a:0<=q):∀{dn:List (Int×Int)},(∀x∈dn,1<=x.1)->0<=G7 q dn
 |[],_=>Int.le_refl 0
 |x::dn,h=>by
  have b:=Tt a λy c=>h y (dr _ c);have d:0<=q/x.1:=jZ a (by have:=h x cL;omega);unfold G7 at b⊢;rw[List.map_cons,List.sum_cons];omega
theorem Ku{p q x:Int}(g:1<=x)(h:x∣q)(a:1<=q)(f:1<=p)(d:q∣p):p/x=q/x*(p/q):=by
 obtain⟨_,b⟩:=Cq g a h;obtain⟨_,c⟩:=Cq a f d;have e:p=x*(q/x*(p/q)):=by rw[<- Int.mul_assoc,<- b,<- c]
 generalize q/x*(p/q)=z at e⊢;rw[e,Int.mul_ediv_cancel_left _ (by omega)]
theorem Ht{p q:Int}(e:1<=q)(d:1<=p)(c:q∣p):∀{dn:List (Int×Int)},(∀x∈dn,1<=x.1/\x.1∣q)->G7 p dn=G7 q dn*(p/q)
 |[],_=>by simp[G7]
 |x::dn,h=>by
  have a:=Ht e d c λy f=>h y (dr _ f);have b:=h x cL;unfold G7 at a⊢;rw[List.map_cons,List.sum_cons,List.map_cons,List.sum_cons,a,Int.add_mul,Ku b.1 b.2 e d c]
theorem Iy.begin:Iy [] 1 [] 0:=⟨.one,rfl,(λ_ z=>nomatch z),.nil⟩
theorem Iy.same{dn:List (Int×Int)}{q:Int}{r:mv}{t:Int}(h:Iy dn q r t):t*(q/q)=t:=by
 have:=h.lv.pos;rw[Int.ediv_self (by omega),Int.mul_one]
theorem Iy.nn{dn:List (Int×Int)}{q:Int}{r:mv}{t:Int}(h:Iy dn q r t):0<=t:=by
 have:=h.lv.pos;rw[h.sum];exact Tt (by omega) λx a=>(h.all x a).1
theorem Iy.grow{dn:List (Int×Int)}{p q:Int}{r:mv}{t:Int}(h:Iy dn q r t)(d:q<p)(a:q∣p):Iy dn p (q::r) (t*(p/q)):=by
 have i:=h.lv.pos;have v:=h.nn;obtain⟨s,y⟩:=Cq i (by omega) a;refine⟨.cons d a h.lv,?_,λx b=>?_,h.pair⟩
 ·rw[Ht i (by omega) a λx b=>⟨(h.all x b).1,(h.all x b).2.1⟩,<- h.sum]
 ·obtain⟨j,c,l,m,n⟩:=h.all x b;refine⟨j,Int.dvd_trans c a,l,m,λu g o e=>?_⟩;have f:0<=u:=la (Int.mul_nonneg v (by omega)) g;have w:=Jc (q:=q) s f (by omega);refine n (u/(p/q)) (Int.le_ediv_of_mul_le (by omega) g) w.2 ?_;rw[<- vp (.cons d a h.lv) f o,Int.emod_emod_of_dvd _ c];exact e
theorem Iy.put{dn:List (Int×Int)}{q:Int}{r:mv}{t:Int}(h:Iy dn q r t)(d:t<q):Iy (dn++[(q,rv (q::r) t)]) q r (t+1):=by
 have v:=h.lv.pos;have m:=h.nn;obtain⟨p,A⟩:=og h.lv rfl;have o:=p t m d;refine⟨h.lv,?_,λx f=>?_,?_⟩
 ·have:=h.sum;unfold G7 at this⊢;rw[List.map_append,List.sum_append,<- this];simp only[List.map_cons,List.map_nil,List.sum_cons,List.sum_nil];rw[Int.ediv_self (by omega)];rfl
 ·rcases fe.mp f with z|z
  ·obtain⟨g,b,i,j,c⟩:=h.all x z;exact⟨g,b,i,j,λu s a=>c u (by omega) a⟩
  ·rw[List.mem_singleton.mp z];refine⟨v,Int.dvd_refl _,o.1,o.2,λu s a e=>?_⟩;have n:=p u (by omega) a;have l:rv (q::r) u%q=rv (q::r) t:=e;rw[Int.emod_eq_of_lt n.1 n.2]at l;have:=A u t (by omega) a m d l;omega
 ·refine List.pairwise_append.mpr ⟨h.pair,List.pairwise_singleton ..,λx f y w=>?_⟩;rw[List.mem_singleton.mp w];obtain⟨g,b,i,j,c⟩:=h.all x f;exact⟨b,c t (Int.le_refl _) d⟩
theorem Z8{B:Int}{ps:mv}(f:1<=B)(a:∀p∈ps,1<=p/\p∣B)(d:(ps.map λp=>B/p).sum<=B){i:Nat}{p:Int}(g:ps[i]?=some p){dn:List (Int×Int)}(q:dn.map Prod.fst=ps.take i)(j:∀x∈dn,1<=x.1/\x.1∣p):G7 p dn<p:=by
 have b:=a p (cb g)
 have nn:∀{l:mv},(∀p∈l,1<=p/\p∣B)->0<=(l.map λp=>B/p).sum:=by
  intro l
  induction l with
  |nil=>exact λ_=>Int.le_refl 0
  |cons x l s=>
   intro h;have e:=s λy c=>h y (dr _ c);have u:0<=B/x:=jZ (by omega) (by have:=h x cL;omega);rw[List.map_cons,List.sum_cons];omega
 have m:ps=ps.take i++p::ps.drop (i+1):=by
  have r:=(bG.mp g);rw[<- r.2,List.getElem_cons_drop,List.take_append_drop]
 have w:=nn (l:=ps.drop (i+1)) λy c=>a y (List.mem_of_mem_drop c);rw[m,List.map_append,List.sum_append,List.map_cons,List.sum_cons,<- q,List.map_map]at d;have n:(dn.map ((λp=>B/p) ∘ Prod.fst)).sum=G7 B dn:=rfl;rw[n,Ht b.1 f b.2 j]at d;obtain⟨v,o⟩:=Cq b.1 f b.2;by_cases z:G7 p dn<p
 ·exact z
 ·have e:p*(B/p)<=G7 p dn*(B/p):=Int.mul_le_mul_of_nonneg_right (by omega) (by omega);rw[<- o]at e;omega
def qb(xs fs:mv):Prop:=fs.length=xs.length/\(∀(i:Nat) (x f:Int),xs[i]?=some x->fs[i]?=some f->0<=f/\f<x)/\
 ∀(i j:Nat) (x y f g:Int),i≠j->xs[i]?=some x->xs[j]?=some y->fs[i]?=some f->fs[j]?=some g->(f-g)%min x y≠0
theorem Rt{x y f g:Int}(j:1<=x)(l:1<=y)(h:x∣y)(h0:0<=f)(h1:f<x)(b:g%x≠f):(f-g)%min x y≠0/\(g-f)%min y x≠0:=by
 have i:=jW (by omega) h;have c:min x y=x:=by omega
 have e:min y x=x:=by omega
 rw[c,e]
 have k:∀d,f-g=x*d\/g-f=x*d->False:=λd a=>by
  refine b ?_;rcases a with a|a
  ·have:g=f+(-d)*x:=by rw[Int.neg_mul,Int.mul_comm d x];omega
   rw[this,Int.add_mul_emod_self_right,Int.emod_eq_of_lt h0 h1]
  ·have:g=f+d*x:=by rw[Int.mul_comm d x];omega
   rw[this,Int.add_mul_emod_self_right,Int.emod_eq_of_lt h0 h1]
 constructor
 ·intro z;obtain⟨d,a⟩:=Int.dvd_of_emod_eq_zero z;exact k d (.inl a)
 ·intro z;obtain⟨d,a⟩:=Int.dvd_of_emod_eq_zero z;exact k d (.inr a)
theorem xr{xs fs:mv}{dn:List (Int×Int)}{ord:List Nat}(F:fs.length=xs.length)(B:ord.Perm (List.range xs.length))(v:ord.length=dn.length)
  (H:∀(k o:Nat) (x:Int×Int),ord[k]?=some o->dn[k]?=some x->xs[o]?=some x.1/\fs[o]?=some x.2)
  (c:∀x∈dn,1<=x.1/\0<=x.2/\x.2<x.1)(u:dn.Pairwise λx y=>x.1∣y.1/\y.2%x.1≠x.2):qb xs fs:=by
 have get:∀(i:Nat) (x f:Int),xs[i]?=some x->fs[i]?=some f->∃k,ord[k]?=some i/\dn[k]?=some (x,f):=λi x f l n=>by
  have E:=(bG.mp l).1;have q:i∈ord:=B.mem_iff.mpr (lP.mpr E);obtain⟨k,h⟩:=gy.mp q;have J:=(bG.mp h).1;have d:dn[k]?=some (dn[k]'(by omega)):=dt (by omega);obtain⟨r,s⟩:=H k i _ h d;rw[l]at r;rw[n]at s;refine⟨k,h,d.trans ?_⟩;generalize dn[k]'(by omega)=y at r s;obtain⟨K,L⟩:=y;cases r;cases s;rfl
 refine⟨F,λi x f l n=>?_,λi j x y f g C l G n D=>?_⟩
 ·obtain⟨k,_,d⟩:=get i x f l n;exact⟨(c _ (cb d)).2.1,(c _ (cb d)).2.2⟩
 ·obtain⟨k,w,d⟩:=get i x f l n;obtain⟨m,I,q⟩:=get j y g G D;have a:=c _ (cb d);have b:=c _ (cb q)
  have A:k≠m:=λe=>by
   rw[e,I]at w;cases w;exact C rfl
  have h:=(bG.mp d);have p:=(bG.mp q);rw[List.pairwise_iff_getElem]at u;rcases Nat.lt_or_gt_of_ne A with z|z
  ·have:=u k m h.1 p.1 z;rw[h.2,p.2]at this;exact(Rt a.1 b.1 this.1 a.2.1 a.2.2 this.2).1
  ·have:=u m k p.1 h.1 z;rw[h.2,p.2]at this;exact(Rt b.1 a.1 this.1 b.2.1 b.2.2 this.2).2
theorem Ob{xs ys:mv}{ord:List Nat}(h1:ys.Perm xs)(c:ys.Pairwise (·<=·))(d:ord.Perm (List.range xs.length))(f:(ord.map λk=>xs.getD k 0).Pairwise (·<=·)):ord.map (λk=>xs.getD k 0)=ys:=by
 have e:(List.range xs.length).map (λk=>xs.getD k 0)=xs:=by
  refine List.ext_getElem (by simp) λi a b=>?_;have:i<xs.length:=b;simp[List.getElem_map,List.getElem_range,List.getD_eq_getElem?_getD,List.getElem?_eq_getElem this]
 refine List.Perm.eq_of_pairwise (le:=(·<=·)) (λa b _ _ x y=>Int.le_antisymm x y) f c ?_;refine(d.map _).trans ?_;rw[e];exact h1.symm
theorem Li:∀(xs:mv) (c:Nat),0<c->(∀x∈xs,1<=x)->0<Mp c xs/\c∣Mp c xs/\(∀x∈xs,x.natAbs∣Mp c xs)/\(∀m:Nat,c∣m->(∀x∈xs,x.natAbs∣m)->Mp c xs∣m)
 |[],c,b,_=>⟨b,Nat.dvd_refl _,(λ_ z=>nomatch z),λm h _=>h⟩
 |x::xs,c,b,h=>by
  have p:=h x (cL ..);have o:0<x.natAbs:=by omega
  have n:0<Nat.lcm c x.natAbs:=Nat.lcm_pos b o;obtain⟨g,d,i,j⟩:=Li xs (Nat.lcm c x.natAbs) n λy a=>h y (dr _ a);refine⟨g,Nat.dvd_trans (Nat.dvd_lcm_left _ _) d,λy a=>?_,λm l f=>?_⟩
  ·rcases d3.mp a with e|a
   ·rw[e];exact Nat.dvd_trans (Nat.dvd_lcm_right _ _) d
   ·exact i y a
  ·exact j m (Nat.lcm_dvd l (f x (cL ..))) λy a=>f y (dr _ a)
theorem rj{xs:mv}{B:Int}(f:1<=B)(h:∀x∈xs,1<=x/\x∣B):0<C8 xs/\(∀x∈xs,x∣((C8 xs:Nat):Int))/\((C8 xs:Nat):Int)∣B/\((C8 xs:Nat):Int)<=B:=by
 obtain⟨b,_,c,e⟩:=Li xs 1 (by decide) λx a=>(h x a).1;have d:((C8 xs:Nat):Int)∣B:=Int.dvd_natAbs.mp (Int.natCast_dvd_natCast.mpr (e _ (Nat.one_dvd _) λx a=>Int.natAbs_dvd_natAbs.mpr (h x a).2));exact⟨b,λx a=>Int.natAbs_dvd.mp (Int.natCast_dvd_natCast.mpr (c x a)),d,jW (by omega) d⟩
def Ba(xs:mv):Prop:=(Cf ((C8 xs:Nat):Int) xs).sum<=((C8 xs:Nat):Int)
instance (xs:mv):Decidable (Ba xs):=inferInstanceAs (Decidable (_<=_))
theorem Sa{p q:Int}(e:1<=q)(d:1<=p)(c:q∣p):∀{xs:mv},(∀x∈xs,1<=x/\x∣q)->(Cf p xs).sum=(Cf q xs).sum*(p/q)
 |[],_=>by simp[Cf]
 |x::g,h=>by
  have a:=Sa e d c λy f=>h y (dr _ f);have b:=h x cL;unfold Cf at a⊢;rw[List.map_cons,List.sum_cons,List.map_cons,List.sum_cons,a,Int.add_mul,Ku b.1 b.2 e d c]
theorem Jp{xs:mv}{B:Int}(b:1<=B)(h:∀x∈xs,1<=x/\x∣B):Ba xs↔(Cf B xs).sum<=B:=by
 obtain⟨i,d,a,f⟩:=rj b h;unfold Ba;have c:1<=((C8 xs:Nat):Int):=by omega
 generalize((C8 xs:Nat):Int)=L at d a f c⊢;obtain⟨j,g⟩:=Cq c b a;rw[Sa c b a λx e=>⟨(h x e).1,d x e⟩];constructor
 ·intro z;have:=Int.mul_le_mul_of_nonneg_right z (show 0<=B/L by omega);omega
 ·intro z;rw[g,Int.mul_ediv_cancel_left _ (show L≠0 by omega)]at z;exact Int.le_of_mul_le_mul_right z (by omega)
def Gc(xs:mv):Prop:=∀x∈xs,∀y∈xs,x∣y\/y∣x
theorem vf{ys:mv}(h:∀k,k+1<ys.length->ys.getD k 0∣ys.getD (k+1) 0):ys.Pairwise (·∣·):=by
 rw[List.pairwise_iff_getElem];intro i j b c g
 have a:∀d,i+d<ys.length->ys.getD i 0∣ys.getD (i+d) 0:=by
  intro d
  induction d with
  |zero=>exact λ_=>Int.dvd_refl _
  |succ d e=>exact λf=>Int.dvd_trans (e (by omega)) (h (i+d) (by omega))
 have:=a (j-i) (by omega);rw[show i+(j-i)=j by omega,List.getD_eq_getElem?_getD,List.getD_eq_getElem?_getD,List.getElem?_eq_getElem b,List.getElem?_eq_getElem c]at this;exact this
theorem Rz{xs ys:mv}(e:ys.Perm xs)(h:ys.Pairwise (·∣·)):Gc xs:=λx f y g=>by
 obtain⟨i,d⟩:=gy.mp (e.mem_iff.mpr f);obtain⟨j,c⟩:=gy.mp (e.mem_iff.mpr g);have a:=bG.mp d;have b:=bG.mp c;rw[List.pairwise_iff_getElem]at h;rcases Nat.lt_trichotomy i j with z|z|z
 ·have:=h i j a.1 b.1 z;rw[a.2,b.2]at this;exact .inl this
 ·subst z;rw[d]at c;cases c;exact .inl (Int.dvd_refl _)
 ·have:=h j i b.1 a.1 z;rw[a.2,b.2]at this;exact .inr this
theorem Er{xs ys:mv}(c:ys.Perm xs)(f:ys.Pairwise (·<=·))(h1:∀x∈xs,1<=x)(h:Gc xs):ys.Pairwise (·∣·):=by
 refine f.imp_of_mem λ{a b} d e g=>?_;have j:=h1 b (c.mem_iff.mp e);have i:=h1 a (c.mem_iff.mp d);rcases h a (c.mem_iff.mp d) b (c.mem_iff.mp e)with z|z
 ·exact z
 ·have:=jW (by omega) z;rw[show a=b by omega];exact Int.dvd_refl _
theorem Vr:∀{ys:mv},ys.Pairwise (·∣·)->∃B:Int,((ys=[]/\B=1)\/B∈ys)/\∀y∈ys,y∣B
 |[],_=>⟨1,.inl ⟨rfl,rfl⟩,λ_ z=>nomatch z⟩
 |y::l,h=>by
  obtain⟨c,d⟩:=List.pairwise_cons.mp h;obtain⟨B,b,f⟩:=Vr d;rcases b with⟨e,_⟩|b
  ·subst e;refine⟨y,.inr cL,λz a=>?_⟩;rw[List.mem_singleton.mp a];exact Int.dvd_refl _
  ·refine⟨B,.inr (dr _ b),λz a=>?_⟩;rcases d3.mp a with rfl|a
   ·exact c B b
   ·exact f z a
def o5(ys:mv)(i:Nat):List Bool:=(List.range i).map λk=>decide (ys.getD (k+1) 0%ys.getD k 0=0)
theorem cz(ys:mv)(i:Nat):o5 ys (i+1)=o5 ys i++[decide (ys.getD (i+1) 0%ys.getD i 0=0)]:=by
 unfold o5;rw[List.range_succ,List.map_append];rfl
theorem Uy(ys:mv)(i:Nat):(o5 ys i).length=i:=by
 unfold o5;simp
theorem l8{xs ys:mv}(b:ys.Perm xs)(d:ys.Pairwise (·<=·))(h1:∀x∈xs,1<=x):((o5 ys (ys.length-1)).all id=true)↔Gc xs:=by
 unfold o5;rw[List.all_map,List.all_eq_true];constructor
 ·intro h;refine Rz b (vf λk a=>Int.dvd_of_emod_eq_zero ?_);have:=h k (lP.mpr (by omega));simpa using this
 ·intro h k a;have f:=lP.mp a;have c:=Er b d h1 h;rw[List.pairwise_iff_getElem]at c;have:=c k (k+1) (by omega) (by omega) (by omega)
  have e:ys.getD (k+1) 0%ys.getD k 0=0:=by
   rw[List.getD_eq_getElem?_getD,List.getD_eq_getElem?_getD,List.getElem?_eq_getElem (show k<ys.length by omega),List.getElem?_eq_getElem (show k+1<ys.length by omega)];exact Int.emod_eq_zero_of_dvd this
  simpa using e
theorem zm{a b:Int}{g:Nat}(d:0<g)(h1:(g:Int)∣a)(c:(g:Int)∣b):a/g<=b/g↔a<=b:=by
 obtain⟨x,rfl⟩:=h1;obtain⟨y,rfl⟩:=c;rw[Int.mul_ediv_cancel_left _ (by omega),Int.mul_ediv_cancel_left _ (by omega)];constructor
 ·intro h;exact iB h (by omega)
 ·intro h;exact Int.le_of_mul_le_mul_left h (by omega)
theorem dk{a b:mv}(h:a.Perm b):a.sum=b.sum:=by
 induction h with
 |nil=>rfl
 |cons x _ e=>rw[List.sum_cons,List.sum_cons,e]
 |swap x y l=>simp only[List.sum_cons];omega
 |trans _ _ c d=>exact c.trans d
theorem Fz{a B:Int}(h0:0<=a)(h1:a<=B)(b:B<2^4000):intBits a<=4000:=by
 refine Hh ?_;obtain⟨n,rfl⟩:∃n:Nat,a=n:=⟨a.toNat,by omega⟩;rw[Int.natAbs_natCast];have e:((2^4000:Nat):Int)=2^4000:=by simp
 rw[<- e]at b;generalize(2:Nat)^4000=Z at b⊢;omega
theorem kd{t s:Int}(h0:0<=t)(a:0<s):t%s<=t:=by
 rcases Int.lt_or_le t s with z|z
 ·rw[Int.emod_eq_of_lt h0 z];exact Int.le_refl _
 ·have:=me t a;omega
theorem Sl{q:Int}{r ls:mv}(h:ls.reverse=q::r):U9 (ls.map V.int) (-1)=some (.int q):=by
 have e:ls=r.reverse++[q]:=by
  have:=congrArg List.reverse h;rw[List.reverse_reverse,List.reverse_cons]at this;exact this
 subst e;unfold U9 ji;rw[List.length_map,List.length_append,List.length_singleton,if_neg (by decide),if_pos (by omega)];show((r.reverse++[q]).map V.int)[(((r.reverse.length+1:Nat):Int)+-1).toNat]?=_;rw[show(((r.reverse.length+1:Nat):Int)+-1).toNat=r.reverse.length by omega,List.getElem?_map,List.getElem?_concat_length];rfl
theorem Af.set{c:Type}{P:c->V->Prop}{d:List c}{e:List V}(h:Af P d e)(i:Nat){r:c}{v:V}(g:P r v):Af P (d.set i r) (e.set i v):=by
 refine⟨by rw[List.length_set,List.length_set];exact h.1,λj x y a b=>?_⟩;rw[List.getElem?_set]at a b;by_cases z:i=j
 ·rw[if_pos z]at a b;split at a
  ·split at b
   ·cases a;cases b;exact g
   ·cases b
  ·cases a
 ·rw[if_neg z]at a b;exact h.2 j x y a b
theorem jt{t:Int}(h:1<=t):∃k:Nat,((intBits t:Nat):Int)-1=(k:Nat)/\(2:Int)^k<=t/\t<2*2^k:=by
 obtain⟨n,rfl⟩:∃n:Nat,t=n:=⟨t.toNat,by omega⟩;have c:n≠0:=by omega
 have e:intBits ((n:Nat):Int)=n.log2+1:=by
  unfold PySem.Builtin.Int.intBits;rw[if_neg (by simp;omega),Int.natAbs_natCast]
 have a:=Nat.log2_self_le c;have b:=Nat.lt_log2_self (n:=n);refine⟨n.log2,by rw[e];omega,?_,?_⟩
 ·have:((2^n.log2:Nat):Int)<=(n:Int):=Int.ofNat_le.mpr a;simpa using this
 ·have:((n:Nat):Int)<((2^(n.log2+1):Nat):Int):=Int.ofNat_lt.mpr b;rw[Nat.pow_succ]at this;simp at this;omega
theorem Y7{w b t:Int}{p:Int}(h:1<=b)(e:t=w/b)(h1:p<=t)(g:t<2*p):b*p<=w/\w<2*(b*p):=by
 have d:=Int.mul_ediv_add_emod w b;have m:=ll w (show b≠0 by omega);have i:=me w (show 0<b by omega);rw[<- e]at d;have a:b*p<=b*t:=iB h1 (by omega);have c:b*t<=b*(2*p-1):=iB (by omega) (by omega);have f:b*(2*p-1)=2*(b*p)-b:=by grind
 omega
def Du(b x:Int):Int:=b*2^((x/b).toNat.log2)
theorem Es(k:Nat):(1:Int)<=2^k:=Int.pow_pos (by decide)
theorem Kn{i j:Nat}(h:(2:Int)^i<2^j):i<j:=by
 rcases il i j with z|z
 ·exact z
 ·have c:=Nat.pow_le_pow_right (show 0<2 by decide) z;have a:((2^i:Nat):Int)=2^i:=by simp
  have b:((2^j:Nat):Int)=2^j:=by simp
  omega
theorem Ez{b x y:Int}(a:1<=b)(h:b*x<b*y):x<y:=Int.lt_of_mul_lt_mul_left h (by omega)
theorem ai{b x:Int}(g:1<=b){i j:Nat}(h1:b*2^i<=x)(d:x<2*(b*2^i))(h:b*2^j<=x)(f:x<2*(b*2^j)):i=j:=by
 have e:∀k:Nat,2*(b*2^k)=b*2^(k+1):=λk=>by rw[Int.pow_succ,<- Int.mul_assoc b,Int.mul_comm 2]
 rw[e]at d f;have a:=Kn (Ez g (iQ h1 f));have c:=Kn (Ez g (iQ h d));omega
theorem Gm{b x:Int}(o:1<=b)(q:b<=x):Du b x<=x/\x<2*Du b x:=by
 unfold Du;have m:1<=x/b:=(Int.le_ediv_iff_mul_le (by omega)).mpr (by omega);obtain⟨n,a⟩:∃n:Nat,x/b=n:=⟨(x/b).toNat,by omega⟩;rw[a,Int.toNat_natCast];have e:n≠0:=by omega
 have r:=Nat.log2_self_le e;have s:=Nat.lt_log2_self (n:=n);have d:((2^n.log2:Nat):Int)=2^n.log2:=by simp
 have l:(2:Nat)^(n.log2+1)=2^n.log2*2:=Nat.pow_succ ..;generalize(2:Int)^n.log2=p at d⊢;have c:=Int.mul_ediv_add_emod x b;have i:=ll x (show b≠0 by omega);have j:=me x (show 0<b by omega);rw[a]at c;have g:p<=(n:Int):=by omega
 have h:(n:Int)+1<=p*2:=by omega
 have m1:=iB g (show 0<=b by omega);have f:=iB h (show 0<=b by omega);rw[Int.mul_add,Int.mul_one,<- Int.mul_assoc]at f;omega
theorem ag{b x:Int}(d:1<=b){k:Nat}(h1:b*2^k<=x)(e:x<2*(b*2^k)):b*2^k=Du b x:=by
 have f:b<=x:=by
  have:=iB (Es k) (show 0<=b by omega);omega
 obtain⟨a,c⟩:=Gm d f;unfold Du at a c⊢;rw[ai d h1 e a c]
theorem Ke{b x:Int}(a:1<=b):b<=Du b x:=by
 unfold Du;have:=iB (Es ((x/b).toNat.log2)) (show 0<=b by omega);omega
theorem Y8{b x:Int}(d:1<=b)(h:2*b<=x):Du (2*b) x=Du b x:=by
 obtain⟨a,c⟩:=Gm (b:=2*b) (x:=x) (by omega) h
 have e:Du (2*b) x=b*2^((x/(2*b)).toNat.log2+1):=by
  unfold Du;rw[Int.pow_succ,<- Int.mul_assoc,Int.mul_comm 2 b,Int.mul_assoc,Int.mul_assoc,Int.mul_comm 2]
 rw[e]at a c⊢;exact ag d a c
theorem Pc{xs ys:mv}(f:ys.length=xs.length)(h1:∀x∈xs,1<=x)(d:∀(i:Nat) (x y:Int),xs[i]?=some x->ys[i]?=some y->x<=y)(h:Ba xs):Ba ys:=by
 have l:∀y∈ys,1<=y:=λy A=>by
  obtain⟨i,o⟩:=gy.mp A;have b:xs[i]?=some (xs[i]'(by rw[<- f];exact(bG.mp o).1)):=dt _;have:=d i _ _ b o;have:=h1 _ (cb b);omega
 obtain⟨m,p,n,q⟩:=Li (xs++ys) 1 (by decide) λx b=>(fe.mp b).elim (h1 x) (l x);have e:∀x∈xs++ys,x∣((C8 (xs++ys):Nat):Int):=λx b=>Int.natAbs_dvd.mp (Int.natCast_dvd_natCast.mpr (n x b))
 have g:1<=((C8 (xs++ys):Nat):Int):=by
  have:0<C8 (xs++ys):=m;omega
 generalize((C8 (xs++ys):Nat):Int)=B at e g;rw[Jp g λx b=>⟨h1 x b,e x (List.mem_append_left _ b)⟩]at h;rw[Jp g λx b=>⟨l x b,e x (List.mem_append_right _ b)⟩];refine la ?_ h;clear h e m p n q
 induction ys generalizing xs with
 |nil=>
  rw[List.length_eq_zero_iff.mp f.symm];exact Int.le_refl _
 |cons y ys C=>
  cases xs with
  |nil=>cases f
  |cons x xs=>
   have u:=C (xs:=xs) (by simpa using f) (λz j=>h1 z (dr _ j)) (λi a c r s=>d (i+1) a c (by simpa using r) (by simpa using s)) (λz j=>l z (dr _ j));have v:=d 0 x y rfl rfl;have D:=h1 x cL
   have E:B/y<=B/x:=by
    refine(Int.le_ediv_iff_mul_le (by omega)).mpr ?_;have w:0<=B/y:=jZ (by omega) (by omega);have m1:=iB v w;have F:=Int.ediv_mul_le B (show y≠0 by omega);omega
   unfold Cf at u⊢;rw[List.map_cons,List.sum_cons,List.map_cons,List.sum_cons];omega
def U3(w m r:Int):Prop:=1<=r/\r<=m/\∃j:Nat,r=w/2^j/\∀i,i<j->m<w/2^i
theorem Oz{w:Int}{j:Nat}(a:0<=w):w/2^(j+1)=w/2^j/2:=by
 rw[Int.pow_succ,Int.ediv_ediv_of_nonneg (Int.le_trans (by decide) (Es j))]
theorem Yg{w:Int}(a:0<=w){i j:Nat}(h:i<j):2*(w/2^j)<=w/2^i:=by
 induction j with
 |zero=>exact absurd h (kE _)
 |succ j b=>
  rw[Oz a];have c:0<=w/2^j:=jZ a (la (by decide) (Es j));rcases il i j with z|z
  ·have:=b z;omega
  ·rw[show i=j by omega];omega
theorem ah{b c x:Int}(r:1<=b)(d:b<=c){k:Nat}(j:Du b x=b*2^k)(i:c*2^k<=x):Du b x<=Du c x:=by
 have g:1<=c:=by omega
 have h:c<=x:=by
  have:=iB (Es k) (show 0<=c by omega);omega
 obtain⟨f,a⟩:=Gm g h;have m:b*2^k<=c*2^k:=Int.mul_le_mul_of_nonneg_right d (by have:=Es k;omega);rw[j];refine la m ?_;unfold Du at f a⊢;generalize(x/c).toNat.log2=l at f a⊢;have e:2*(c*2^l)=c*2^(l+1):=by rw[Int.pow_succ,<- Int.mul_assoc c,Int.mul_comm 2]
 rw[e]at a;have s:=Kn (Ez g (iQ i a))
 have n:(2:Int)^k<=2^l:=by
  have q:=Nat.pow_le_pow_right (show 0<2 by decide) (show k<=l by omega);have o:((2^k:Nat):Int)=2^k:=by simp
  have p:((2^l:Nat):Int)=2^l:=by simp
  omega
 exact iB n (by omega)
theorem cw(f:Int->Int):∀{xs:mv},xs≠[]->∃w∈xs,∀x∈xs,f w<=f x
 |[x],_=>⟨x,cL,λy c=>by rw[List.mem_singleton.mp c];exact Int.le_refl _⟩
 |x::y::l,_=>by
  obtain⟨w,b,h⟩:=cw f (xs:=y::l) (by simp);rcases Int.le_total (f x) (f w)with z|z
  ·exact⟨x,cL,λu a=>(d3.mp a).elim (λe=>by rw[e];exact Int.le_refl _) λa=>la z (h u a)⟩
  ·exact⟨w,dr _ b,λu a=>(d3.mp a).elim (λe=>by rw[e];exact z) λa=>h u a⟩
theorem Wa{xs:mv}{m:Int}(a:∀x∈xs,m<=x):∀(n:Nat) (b:Int),m.toNat-b.toNat<=n->1<=b->b<=m->∃c,b<=c/\c<=m/\m<2*c/\xs.map (Du c)=xs.map (Du b)
 |n,b,l,h,d=>by
  rcases Int.lt_or_le m (2*b)with z|z
  ·exact⟨b,Int.le_refl _,d,z,rfl⟩
  ·cases n with
   |zero=>exact⟨b,Int.le_refl _,d,by omega,rfl⟩
   |succ n=>
    obtain⟨c,j,e,f,g⟩:=Wa a n (2*b) (by omega) (by omega) z;refine⟨c,by omega,e,f,g.trans (List.map_congr_left λx i=>Y8 h ?_)⟩;have:=a x i;omega
theorem Of{xs:mv}{m b:Int}(g:m∈xs)(l:∀x∈xs,m<=x)(I:1<=b)(M:b<=m)(B:Ba (xs.map (Du b))):∃w∈xs,∀r,U3 w m r->b<=r/\Ba (xs.map (Du r)):=by
 obtain⟨c,N,O,P,G⟩:=Wa l _ b (da _) I M;rw[<- G]at B;have p:1<=c:=by omega
 obtain⟨w,f,q⟩:=cw (λx=>x/2^((x/c).toNat.log2)) (xs:=xs) (λe=>by rw[e]at g;cases g)
 have A:∀x∈xs,c<=x/2^((x/c).toNat.log2)/\x/2^((x/c).toNat.log2)<2*c:=λx a=>by
  obtain⟨s,u⟩:=Gm p (show c<=x by have:=l x a;omega);unfold Du at s u;have S:=Es ((x/c).toNat.log2);refine⟨(Int.le_ediv_iff_mul_le (by omega)).mpr s,Int.ediv_lt_of_lt_mul (by omega) (by rw[Int.mul_assoc];exact u)⟩
 have n:m/2^((m/c).toNat.log2)<=m:=Int.ediv_le_self _ (by omega);have L:w/2^((w/c).toNat.log2)<=m:=la (q m g) n;refine⟨w,f,λr ⟨R,K,j,H,J⟩=>?_⟩;have E:0<=w:=by have:=l w f;omega
 have F:j=(w/c).toNat.log2:=by
  rcases Nat.lt_trichotomy j ((w/c).toNat.log2)with z|z|z
  ·have h:=Yg E z;have Q:=(A w f).1;omega
  ·exact z
  ·have:=J _ z;omega
 have v:r=w/2^((w/c).toNat.log2):=by rw[H,F]
 have D:c<=r:=by rw[v];exact(A w f).1
 refine⟨by omega,Pc (xs:=xs.map (Du c)) (by rw[List.length_map,List.length_map]) (λy d=>?_) (λi x y a d=>?_) B⟩
 ·obtain⟨x,a,rfl⟩:=eH.mp d;have:=Ke (x:=x) p;omega
 ·rw[List.getElem?_map]at a d;obtain⟨z,C,rfl⟩:=dm.mp a;rw[C]at d;cases d;have o:=cb C;refine ah p D (k:=(z/c).toNat.log2) rfl ?_;have h:=q z o;rw[<- v]at h;exact(Int.le_ediv_iff_mul_le (by have:=Es ((z/c).toNat.log2);omega)).mp h
def Iw(xs:mv):mx->Prop
 |none=>∀b,1<=b->(∀x∈xs,b<=x)->¬Ba (xs.map (Du b))
 |some b=>1<=b/\(∀x∈xs,b<=x)/\Ba (xs.map (Du b))/\∀c,b<c->(∀x∈xs,c<=x)->¬Ba (xs.map (Du c))
theorem Xs{xs ys:mv}{m:Int}(a:m∈xs)(f:∀x∈xs,m<=x)(n:∀w∈xs,∃r∈ys,U3 w m r)(j:∀y∈ys,¬Ba (xs.map (Du y))):Iw xs none:=λb e l g=>by
 obtain⟨w,i,h⟩:=Of a f e (l m a) g;obtain⟨r,d,c⟩:=n w i;exact j r d (h r c).2
theorem Xu{xs ys:mv}{m b:Int}(d:m∈xs)(e:∀x∈xs,m<=x)(q:∀w∈xs,∃r∈ys,U3 w m r)(h1:1<=b)(s:b<=m)(n:Ba (xs.map (Du b)))(f:∀y∈ys,Ba (xs.map (Du y))->y<=b):Iw xs (some b):=by
 refine⟨h1,λx p=>la s (e x p),n,λc v i a=>?_⟩;obtain⟨w,o,h⟩:=Of d e (by omega) (i m d) a;obtain⟨r,j,g⟩:=q w o;have l:=h r g;have u:=f r j l.2;omega
theorem jg{xs ys:mv}{b:Int}(g:1<=b)(j:ys.length=xs.length)(h:∀(i:Nat) (x y:Int),xs[i]?=some x->ys[i]?=some y->∃k:Nat,y=b*2^k/\b*2^k<=x/\x<2*(b*2^k)):ys=xs.map (Du b):=by
 refine List.ext_getElem? λi=>?_;rw[List.getElem?_map];rcases il i xs.length with z|z
 ·have a:xs[i]?=some (xs[i]'z):=dt z;have c:ys[i]?=some (ys[i]'(by omega)):=dt (by omega);obtain⟨k,e,d,f⟩:=h i _ _ a c;rw[a,c,e,ag g d f];rfl
 ·rw[List.getElem?_eq_none z,List.getElem?_eq_none (by omega)];rfl
theorem jv{b x y:Int}:Du b x∣Du b y\/Du b y∣Du b x:=by
 unfold Du
 have a:∀{i j:Nat},i<=j->b*2^i∣b*2^j:=λ{i j} h=>by
  refine Int.mul_dvd_mul_left b ⟨2^(j-i),?_⟩;rw[<- Int.pow_add,show i+(j-i)=j by omega]
 rcases Nat.le_total ((x/b).toNat.log2) ((y/b).toNat.log2)with z|z
 ·exact .inl (a z)
 ·exact .inr (a z)
theorem Kd(b:Int)(xs:mv):Gc (xs.map (Du b)):=λu a v c=>by
 obtain⟨x,_,rfl⟩:=eH.mp a;obtain⟨y,_,rfl⟩:=eH.mp c;exact jv
theorem Y2{xs:mv}(h1:∀x∈xs,1<=x)(l:Gc xs):∃B:Int,(B=1\/B∈xs)/\1<=B/\∀x∈xs,1<=x/\x∣B:=by
 obtain⟨g,e,j⟩:∃g:mv,g.Perm xs/\g.Pairwise (·<=·):=⟨xs.mergeSort (λa b=>decide (a<=b)),List.mergeSort_perm ..,by
  have:=List.pairwise_mergeSort (le:=λ(a b:Int)=>decide (a<=b)) (λa b c h1 d=>by simp at h1 d⊢;omega) (λa b=>by simp;omega) xs;exact this.imp λh=>by simpa using h⟩
 obtain⟨B,d,i⟩:=Vr (Er e j h1 l);rcases d with⟨_,rfl⟩|d
 ·exact⟨1,.inl rfl,by decide,λx f=>⟨h1 x f,i x (e.mem_iff.mpr f)⟩⟩
 ·exact⟨B,.inr (e.mem_iff.mp d),h1 B (e.mem_iff.mp d),λx f=>⟨h1 x f,i x (e.mem_iff.mpr f)⟩⟩
theorem jw{xs:mv}{b:Int}(g:1<=b)(i:∀x∈xs,b<=x/\x<2^400):∃B:Int,1<=B/\B<2^4000/\∀y∈xs.map (Du b),1<=y/\y∣B:=by
 have d:∀y∈xs.map (Du b),1<=y/\y<2^400:=λy c=>by
  obtain⟨x,h,rfl⟩:=eH.mp c;have a:=Ke (x:=x) g;have e:=(Gm g (i x h).1).1;have f:=(i x h).2;exact⟨by omega,by omega⟩
 obtain⟨B,a,e,f⟩:=Y2 (λy c=>(d y c).1) (Kd b xs);refine⟨B,e,?_,f⟩;have k:(2:Int)^400<2^4000:=by decide+kernel
 rcases a with rfl|a
 ·exact iQ (by decide) k
 ·exact Int.lt_trans (d B a).2 k
def WF(p a:Int):Prop:=1<=p/\p<2^600/\0<=a/\a<p
theorem Z9{ys fs:mv}(h1:∀y∈ys,1<=y)(o:Gc ys)(r:qb ys fs){i j:Nat}{y z f g t:Int}(d:ys[i]?=some y)(hz:ys[j]?=some z)(p:fs[i]?=some f)(q:fs[j]?=some g)(s:t%y=f)(u:t%z=g):i=j:=by
 by_cases l:i=j
 ·exact l
 ·have n:=r.2.2 i j y z f g l d hz p q;have v:=h1 y (cb d);have x:=h1 z (cb hz);have e:y∣t-f:=⟨t/y,by have:=Int.mul_ediv_add_emod t y;omega⟩;have h:z∣t-g:=⟨t/z,by have:=Int.mul_ediv_add_emod t z;omega⟩;refine absurd (Int.emod_eq_zero_of_dvd ?_) n
  have c:∀m:Int,m∣t-f->m∣t-g->m∣f-g:=λm a b=>by
   have:=Int.dvd_sub b a;rw[show t-g-(t-f)=f-g by omega]at this;exact this
  rcases o y (cb d) z (cb hz)with w|w
  ·have:=jW (by omega) w;rw[show min y z=y by omega];exact c y e (Int.dvd_trans w h)
  ·have:=jW (by omega) w;rw[show min y z=z by omega];exact c z (Int.dvd_trans w e) h
def Ei(xs:mv):Int×Int:=xs.foldl (λa n=>(a.1*n+a.2,a.2*n)) (0,1)
theorem Pq(xs:mv)(n:Int):Ei (xs++[n])=((Ei xs).1*n+(Ei xs).2,(Ei xs).2*n):=by
 unfold Ei;rw[List.foldl_append];rfl
theorem Nr{B:Int}{xs:mv}(h:∀x∈xs,1<=x/\x<2^102)(o:∀x∈xs,x∣B):∀i,i<=xs.length->
  0<=(Ei (xs.take i)).1/\(Ei (xs.take i)).1<=2^(103*i)/\1<=(Ei (xs.take i)).2/\(Ei (xs.take i)).2<=2^(102*i)/\(Ei (xs.take i)).1*B=(Cf B (xs.take i)).sum*(Ei (xs.take i)).2
 |0,_=>by
  rw[List.take_zero];exact⟨by decide,by decide,by decide,by decide,by simp[Ei,Cf]⟩
 |i+1,A=>by
  obtain⟨e,f,g,j,a⟩:=Nr h o i (by omega);have d:xs[i]?=some (xs[i]'(by omega)):=dt (by omega);have c:=cb d;generalize xs[i]'(by omega)=n at d c;have r:=h n c;have y:=o n c;rw[E5 d,Pq]
  have q:(Cf B (xs.take i++[n])).sum=(Cf B (xs.take i)).sum+B/n:=by
   unfold Cf;rw[List.map_append,List.sum_append];simp
  rw[q];generalize(Ei (xs.take i)).1=t at e f a⊢;generalize(Ei (xs.take i)).2=b at g j a⊢;generalize(Cf B (xs.take i)).sum=S at a⊢;have u:(2:Int)^(103*(i+1))=2^(103*i)*2^103:=by rw[Nat.mul_add,Int.pow_add]
  have v:(2:Int)^(102*(i+1))=2^(102*i)*2^102:=by rw[Nat.mul_add,Int.pow_add]
  have w:(2:Int)^(102*i)<=2^(103*i):=by
   have:=Nat.pow_le_pow_right (show 0<2 by decide) (show 102*i<=103*i by omega);have l:((2^(102*i):Nat):Int)=2^(102*i):=by simp
   have m:((2^(103*i):Nat):Int)=2^(103*i):=by simp
   omega
  have p:(0:Int)<=2^(103*i):=by omega
  have m1:t*n<=2^(103*i)*2^102:=Int.mul_le_mul f (by omega) (by omega) p;have s:b*n<=2^(102*i)*2^102:=Int.mul_le_mul j (by omega) (by omega) (by omega);have C:0<=t*n:=Int.mul_nonneg e (by omega);have D:1*1<=b*n:=Int.mul_le_mul g r.1 (by decide) (by omega);refine⟨by show 0<=t*n+b;omega,?_,by show 1<=b*n;omega,by show b*n<=_;rw[v];exact s,?_⟩
  ·show t*n+b<=_;rw[u];generalize(2:Int)^(103*i)=z at w p m1⊢;omega
  ·show(t*n+b)*B=(S+B/n)*(b*n);have l:B/n*n=B:=Int.ediv_mul_cancel y
   have m:(S+B/n)*(b*n)=S*b*n+b*(B/n*n):=by
    rw[Int.add_mul,<- Int.mul_assoc S b n,Int.mul_comm b n,<- Int.mul_assoc (B/n) n b,Int.mul_comm (B/n*n) b]
   rw[m,l,<- a,Int.add_mul,Int.mul_assoc t n B,Int.mul_comm n B,<- Int.mul_assoc t B n]
theorem mw(cs:mv)(k:Nat)(h:k<cs.length)(v:Int):(cs.set k v).sum=cs.sum+(v-cs.getD k 0):=by
 induction cs generalizing k with
 |nil=>simp at h
 |cons c cs a=>
  cases k with
  |zero=>simp;omega
  |succ k=>
   have:=a k (by simpa using h);simp only[List.set_cons_succ,List.sum_cons,List.getD_cons_succ];omega
theorem Ox(xs:mv)(k j:Nat)(v:Int)(h:j<xs.length):(xs.set k v).getD j 0=if k=j then v else xs.getD j 0:=by
 rw[List.getD_eq_getElem?_getD,List.getElem?_set,List.getD_eq_getElem?_getD];by_cases e:k=j
 ·rw[if_pos e,if_pos e,if_pos (by omega)];rfl
 ·rw[if_neg e,if_neg e]
theorem Yf(xs:mv)(j:Nat)(h:j<xs.length):(xs.map (λx=>x-1)).getD j 0=xs.getD j 0-1:=by
 rw[List.getD_eq_getElem?_getD,List.getElem?_map,List.getD_eq_getElem?_getD,List.getElem?_eq_getElem h];rfl
def Zn(ws ls cs:mv)(i:Int):Prop:=cs.length=ws.length/\ls.length=ws.length/\cs.sum=i/\∀k,k<ws.length->1<=ls.getD k 0/\i<=ws.getD k 0*cs.getD k 0+ws.getD k 0-ls.getD k 0
theorem Zn.start(ws:mv)(h:∀w∈ws,1<=w):Zn ws ws (List.replicate ws.length 0) 0:=by
 refine⟨by simp,rfl,by induction ws.length<;>simp_all [List.replicate_succ],λk a=>?_⟩;have c:1<=ws.getD k 0:=h _ (by rw[List.getD_eq_getElem?_getD,List.getElem?_eq_getElem a];exact kI a)
 have b:(List.replicate ws.length (0:Int)).getD k 0=0:=by
  rw[List.getD_eq_getElem?_getD,List.getElem?_replicate];split<;>rfl
 rw[b];omega
theorem Zn.step{ws ls cs:mv}{i:Int}{who:Nat}(h:Zn ws ls cs i)(n:∀w∈ws,1<=w)(b:who<ws.length)(hz:(0:Int)∉Aw ws ls who false):
  Zn ws (Aw ws ls who false) (cs.set who (cs.getD who 0+1)) (i+1):=by
 obtain⟨f,g,q,j⟩:=h
 have l:(Aw ws ls who false).length=ws.length:=by
  unfold Aw;rw[if_neg Bool.false_ne_true];simp[g]
 refine⟨by simp[f],l,by rw[mw _ _ (by omega)];omega,λk m=>?_⟩
 have a:(Aw ws ls who false).getD k 0≠0:=λe=>hz (by
  rw[<- e,List.getD_eq_getElem?_getD,List.getElem?_eq_getElem (by omega)];exact kI _)
 have c:(Aw ws ls who false).getD k 0=if who=k then ws.getD who 0 else ls.getD k 0-1:=by
  unfold Aw;rw[if_neg Bool.false_ne_true,Ox _ _ _ _ (by simp;omega),Yf _ _ (by omega)]
 rw[c]at a⊢;rw[Ox _ _ _ _ (by omega)];obtain⟨o,p⟩:=j k m;by_cases e:who=k
 ·subst e;rw[if_pos rfl]at a⊢;rw[if_pos rfl];have d:ws.getD who 0*(cs.getD who 0+1)=ws.getD who 0*cs.getD who 0+ws.getD who 0:=by rw[Int.mul_add,Int.mul_one]
  rw[d];constructor
  ·exact n _ (by rw[List.getD_eq_getElem?_getD,List.getElem?_eq_getElem b];exact kI b)
  ·omega
 ·rw[if_neg e]at a⊢;rw[if_neg e];constructor<;>omega
theorem Np:∀(xs cs:mv),xs.length=cs.length->(∀k,k<xs.length->xs.getD k 0<=cs.getD k 0)->xs.sum<=cs.sum
 |[],[],_,_=>by simp
 |[],_::_,h,_=>by simp at h
 |_::_,[],h,_=>by simp at h
 |x::xs,c::cs,h,a=>by
  have b:=a 0 (by simp)
  have e:=Np xs cs (by simpa using h) (λk d=>by
   have:=a (k+1) (by simp;omega);simpa using this)
  simp only[List.getD_cons_zero]at b;simp only[List.sum_cons];omega
theorem Zn.fin{ws ls cs:mv}{L:Int}(h:Zn ws ls cs L)(n:∀w∈ws,1<=w)(j:∀w∈ws,w∣L):(Cf L ws).sum<=L:=by
 obtain⟨g,p,b,i⟩:=h;rw[<- b];refine Np _ _ (by simp[Cf,g]) λk l=>?_;have a:k<ws.length:=by simpa[Cf]using l
 have c:ws.getD k 0∈ws:=by rw[List.getD_eq_getElem?_getD,List.getElem?_eq_getElem a];exact kI a
 have e:(Cf L ws).getD k 0=L/ws.getD k 0:=by
  unfold Cf;rw[List.getD_eq_getElem?_getD,List.getElem?_map,List.getD_eq_getElem?_getD,List.getElem?_eq_getElem a];rfl
 rw[b,e];obtain⟨o,f⟩:=i k a;have q:=n _ c;obtain⟨m,d⟩:=j _ c;rw[d,Int.mul_ediv_cancel_left _ (by omega)];rw[d]at f;rcases Int.lt_or_le (cs.getD k 0) m with z|z
 ·have:=iB (show cs.getD k 0+1<=m by omega) (show 0<=ws.getD k 0 by omega);rw[Int.mul_add,Int.mul_one]at this;omega
 ·exact z
theorem Fm:∀(xs:mv) (c:Nat),0<c->(∀x∈xs,1<=x/\x<2^102)->0<Mp c xs/\c∣Mp c xs/\(∀x∈xs,x.natAbs∣Mp c xs)/\(∀m:Nat,c∣m->(∀x∈xs,x.natAbs∣m)->Mp c xs∣m)/\Mp c xs<=c*2^(102*xs.length)
 |[],c,b,_=>⟨b,Nat.dvd_refl _,(λ_ z=>nomatch z),λm h _=>h,by show c<=c*2^(102*0);simp⟩
 |x::xs,c,b,h=>by
  have s:=h x (cL ..);have g:0<x.natAbs:=by omega
  have r:0<Nat.lcm c x.natAbs:=Nat.lcm_pos b g;obtain⟨i,d,j,l,n⟩:=Fm xs (Nat.lcm c x.natAbs) r λy a=>h y (dr _ a);refine⟨i,Nat.dvd_trans (Nat.dvd_lcm_left _ _) d,λy a=>?_,λm q f=>?_,?_⟩
  ·rcases d3.mp a with e|a
   ·rw[e];exact Nat.dvd_trans (Nat.dvd_lcm_right _ _) d
   ·exact j y a
  ·exact l m (Nat.lcm_dvd q (f x (cL ..))) λy a=>f y (dr _ a)
  ·refine dI n ?_;have o:Nat.lcm c x.natAbs<=c*x.natAbs:=Nat.le_of_dvd (Nat.mul_pos b g) (Nat.lcm_dvd_mul _ _);have p:c*x.natAbs<=c*2^102:=Nat.mul_le_mul_left _ (by omega)
   have e:(2:Nat)^(102*(x::xs).length)=2^102*2^(102*xs.length):=by
    rw[List.length_cons,Nat.mul_add,Nat.add_comm,Nat.pow_add]
   rw[e,<- Nat.mul_assoc];exact Nat.mul_le_mul_right _ (dI o p)
theorem ck{xs:mv}(h:∀x∈xs,1<=x/\x<2^102):0<C8 xs:=(Fm xs 1 (by decide) h).1
theorem Yq{xs:mv}(h:∀x∈xs,1<=x/\x<2^102):intBits ((C8 xs:Nat):Int)<=102*xs.length+1:=by
 have b:=(Fm xs 1 (by decide) h).2.2.2.2;refine Hh ?_;rw[Nat.one_mul]at b;have e:(2:Nat)^(102*xs.length+1)=2^(102*xs.length)*2:=Nat.pow_succ ..;have p:0<(2:Nat)^(102*xs.length):=Nat.pos_of_ne_zero (by simp);show(C8 xs)<_;rw[e];unfold C8;omega
theorem kx{xs:mv}(h:∀x∈xs,1<=x/\x<2^102)(d:xs.length<=80):C8 xs<2^8161:=by
 have b:=(Fm xs 1 (by decide) h).2.2.2.2;rw[Nat.one_mul]at b;have a:(2:Nat)^(102*xs.length)<=2^8160:=Nat.pow_le_pow_right (by decide) (by omega);have c:(2:Nat)^8160<2^8161:=Nat.pow_lt_pow_right (by decide) (by decide);exact kH b (kH a c)
theorem ny{x:Int}(h:1<=x/\x<=5):x∣60:=by
 have:x=1\/x=2\/x=3\/x=4\/x=5:=by omega
 rcases this with rfl|rfl|rfl|rfl|rfl<;>decide
theorem Tu{t f p:Int}(h0:0<=f)(h1:f<p):(t+(f-t)%p)%p=f:=by
 have e:=Int.mul_ediv_add_emod (f-t) p
 have a:t+(f-t)%p=f+(-((f-t)/p))*p:=by
  rw[Int.neg_mul,Int.mul_comm ((f-t)/p) p];omega
 rw[a,Int.add_mul_emod_self_right,Int.emod_eq_of_lt h0 h1]
def Ge(ws:mv)(a:List (Int×Int)):Prop:=a.length=ws.length/\(∀(i:Nat) (r:Int×Int),a[i]?=some r->1<=r.1/\0<=r.2/\r.2<r.1/\r.1<=ws.getD i 0)/\∀(i j:Nat) (r b:Int×Int) (t:Int),a[i]?=some r->a[j]?=some b->t%r.1=r.2->t%b.1=b.2->i=j
def Iz(ws:mv)(a:List (Int×Int))(t:Int)(ls:mv):Prop:=ls.length=ws.length/\∀i,i<ws.length->∃(r:Int×Int) (j:Int),a[i]?=some r/\0<=j/\j<ls.getD i 0/\(t+j)%r.1=r.2
theorem Ge.at{ws:mv}{a:List (Int×Int)}(h:Ge ws a){i:Nat}(hi:i<ws.length):∃r,a[i]?=some r:=⟨a[i]'(by rw[h.1];exact hi),dt _⟩
theorem Iz.begin{ws:mv}{b:List (Int×Int)}(h:Ge ws b)(t:Int):Iz ws b t ws:=by
 refine⟨rfl,λi e=>?_⟩;obtain⟨r,a⟩:=h.at e;obtain⟨g,c,d,j⟩:=h.2.1 i r a;have f:=Dg (r.2-t) (m:=r.1) (by omega);exact⟨r,(r.2-t)%r.1,a,f.1,by omega,Tu c d⟩
theorem Iz.step{ws ls:mv}{b:List (Int×Int)}{t:Int}{who:Nat}(h:Ge ws b)(g:Iz ws b t ls)(u:∀(i:Nat) (r:Int×Int),b[i]?=some r->t%r.1=r.2->i=who):(0:Int)∉Aw ws ls who false/\Iz ws b (t+1) (Aw ws ls who false):=by
 obtain⟨q,g⟩:=g;have p:(Aw ws ls who false).length=ws.length:=(Jh ws ls who false).trans q
 have a:∀i,i<ws.length->∃(r:Int×Int) (j:Int),b[i]?=some r/\0<=j/\j<(Aw ws ls who false).getD i 0/\(t+1+j)%r.1=r.2:=λi l=>by
  obtain⟨r,j,d,o,c,f⟩:=g i l;obtain⟨v,m,n,w⟩:=h.2.1 i r d;rw[Wq (by omega)];by_cases e:i=who
  ·rw[if_pos ⟨e,rfl⟩,<- e];have s:=Dg (r.2-(t+1)) (m:=r.1) (by omega);exact⟨r,(r.2-(t+1))%r.1,d,s.1,by omega,Tu m n⟩
  ·rw[if_neg λz=>e z.1];have x:j≠0:=λz=>e (u i r d (by rw[z,Int.add_zero]at f;exact f));exact⟨r,j-1,d,by omega,by omega,by rw[show t+1+(j-1)=t+j by omega];exact f⟩
 refine⟨λz=>?_,p,a⟩;obtain⟨i,l,e⟩:=List.getElem_of_mem z;obtain⟨r,j,_,o,c,_⟩:=a i (by omega);rw[List.getD_eq_getElem?_getD,List.getElem?_eq_getElem l,e]at c;have c:j<0:=c;omega
theorem Rx(ws ls:mv)(who:Nat)(q:Int):Az ws ls none q who=[Cz ws ls none q who false]:=by
 unfold Az;rw[if_neg (by simp[Ed])]
theorem Zt{ws ls:mv}{who:Nat}(h:(0:Int)∉Aw ws ls who false):Cz ws ls none 0 who false=some (Aw ws ls who false,0):=by
 unfold Cz;rw[if_neg h];rfl
theorem Yh(b:List (Int×Int))(t:Int)(h:∀(i j:Nat) (r a:Int×Int) (t:Int),b[i]?=some r->b[j]?=some a->t%r.1=r.2->t%a.1=a.2->i=j){n:Nat}(f:0<n)(m:b.length=n):∃who,who<n/\∀(i:Nat) (r:Int×Int),b[i]?=some r->t%r.1=r.2->i=who:=by
 by_cases z:∃(i:Nat) (r:Int×Int),b[i]?=some r/\t%r.1=r.2
 ·obtain⟨i,r,e,g⟩:=z;exact⟨i,by have:=(bG.mp e).1;omega,λl a c d=>h l i a r t c e d g⟩
 ·exact⟨0,f,λi r c d=>absurd ⟨i,r,c,d⟩ z⟩
theorem Vb{ws:mv}{tv:mu}{d:List (Int×Int)}(f:Bl ws none tv)(h:Ge ws d)(s:0<ws.length):∀(n:Nat) (t:Int) (ls:mv) (m:Int),Iz ws d t ls->Ag tv (ls,0)=some (.int m)->m.toNat<=n->False:=by
 intro n
 induction n with
 |zero=>
  intro t ls m _ b r;obtain⟨m0,e,o,_⟩:=f.1 _ _ b;cases e;omega
 |succ n v=>
  intro t ls m q b r;obtain⟨m0,e,o,_,p⟩:=f.1 _ _ b;cases e;obtain⟨a,u,w⟩:=Yh d t h.2.2 s h.1;obtain⟨j,l⟩:=q.step h w;have g:Az ws ls none 0 a=[some (Aw ws ls a false,0)]:=by rw[Rx,Zt j]
  rcases p.1 a u with z|⟨c,x,i,y,A⟩
  ·rw[g]at z;exact nomatch iv.mp z
  ·rw[g]at i;have e:=d0 (iv.mp i);subst e;exact v (t+1) _ x l y (by omega)
theorem Vx{ws:mv}{tv:mu}{d:List (Int×Int)}(a:Bl ws none tv)(h:Ge ws d)(c:0<ws.length):Ag tv (ws,0)=none:=by
 cases b:Ag tv (ws,0)with
 |none=>rfl
 |some v=>
  obtain⟨m,rfl,_⟩:=a.1 _ _ b;exact(Vb a h c _ 0 ws m (Iz.begin h 0) b (da _)).elim
theorem bn{ws:mv}{tv:mu}(l:Bl ws none tv)(x:∀w∈ws,1<=w):∀(n:Nat) (ls cs:mv) (i:Int),(ls,0)∈Ar ws (qv none)->(Ag tv (ls,0)=none\/∃m:Int,Ag tv (ls,0)=some (.int m)/\(n:Int)<m)->Zn ws ls cs i->∃g d,Zn ws g d (i+n):=by
 intro n
 induction n with
 |zero=>exact λls cs i _ _ h=>⟨ls,cs,by rw[show i+((0:Nat):Int)=i by omega];exact h⟩
 |succ n H=>
  intro ls cs i u f F
  have r:∀b,b<ws.length->none∉Az ws ls none 0 b->(∀a,some a∈Az ws ls none 0 b->Ag tv a=none\/∃m:Int,Ag tv a=some (.int m)/\(n:Int)<m)->∃g d,Zn ws g d (i+((n+1:Nat):Int)):=λb c y p=>by
   rw[Rx]at y p;by_cases z:(0:Int)∈Aw ws ls b false
   ·refine absurd (iv.mpr ?_) y;unfold Cz;rw[if_pos z]
   ·have q:=Zt z;have G:(Aw ws ls b false,(0:Int))∈Ar ws (qv none):=U8 (k:=(ls,0)) (cm:=none) (lost:=false) x u c (by simp[Ms,Ed]) q;obtain⟨g,d,E⟩:=H _ _ (i+1) G (p _ (by rw[q];exact iv.mpr rfl)) (F.step x c z);exact⟨g,d,by rw[show i+((n+1:Nat):Int)=i+1+(n:Int)by omega];exact E⟩
  rcases f with f|⟨m,f,I⟩
  ·obtain⟨b,c,s,j⟩:=l.2 _ u f;exact r b c s λa o=>.inl (j a o)
  ·obtain⟨m0,e,s,_,j⟩:=l.1 _ _ f;cases e;rcases j.2 with z|⟨b,c,C,D⟩
   ·omega
   ·refine r b c C λa o=>?_;cases B:Ag tv a with
    |none=>exact .inl rfl
    |some v=>
     obtain⟨A,rfl,_⟩:=l.1 _ _ B;have:=D a A o B;exact .inr ⟨A,rfl,by omega⟩
theorem Zb{ws:mv}{tv:mu}{L:Nat}(d:Bl ws none tv)(a:∀w∈ws,1<=w)(i:∀w∈ws,w∣(L:Int))(j:¬(Cf (L:Int) ws).sum<=(L:Int))(g:(ws,(0:Int))∈Ar ws (qv none)):∃m:Int,Ag tv (ws,0)=some (.int m)/\1<=m/\m<=(L:Int):=by
 have e:(Ag tv (ws,0)=none\/∃m:Int,Ag tv (ws,0)=some (.int m)/\(L:Int)<m)->False:=λh=>by
  obtain⟨n,l,c⟩:=bn d a L ws _ 0 g h (Zn.start ws a);rw[Int.zero_add]at c;exact j (c.fin a i)
 cases b:Ag tv (ws,0)with
 |none=>exact(e (.inl b)).elim
 |some v=>
  obtain⟨m,rfl,f,_⟩:=d.1 _ _ b;refine⟨m,rfl,f,?_⟩;rcases Int.lt_or_le (L:Int) m with z|z
  ·exact(e (.inr ⟨m,b,z⟩)).elim
  ·exact z
theorem Zg{xs:mv}{b:Int}{c:List (Int×Int)}(w:Iw xs (some b))(n:c.map Prod.fst=xs.map (Du b))(p:qb (xs.map (Du b)) (c.map Prod.snd)):Ge xs c:=by
 obtain⟨f,D,_,_⟩:=w;have d:∀{j:Nat}{r:Int×Int},c[j]?=some r->(xs.map (Du b))[j]?=some r.1/\(c.map Prod.snd)[j]?=some r.2:=λ{j r} h=>⟨by rw[<- n,List.getElem?_map,h];rfl,by rw[List.getElem?_map,h];rfl⟩;refine⟨by have:=congrArg List.length n;rw[List.length_map,List.length_map]at this;exact this,λi r B=>?_,λi j r G t z A q s=>?_⟩
 ·obtain⟨a,g⟩:=d B;have o:=p.2.1 i _ _ a g;rw[List.getElem?_map]at a;obtain⟨x,l,e⟩:=dm.mp a;have m:=cb l;have E:=Ke (x:=x) f;have F:=(Gm f (D x m)).1;rw[List.getD_eq_getElem?_getD,l];refine⟨by omega,o.1,o.2,?_⟩;show r.1<=x;omega
 ·obtain⟨a,g⟩:=d z;obtain⟨u,v⟩:=d A;refine Z9 (λy C=>?_) (Kd b xs) p a u g v q s;obtain⟨x,l,rfl⟩:=eH.mp C;have:=Ke (x:=x) f;omega
theorem R0{xs:mv}{b:Int}(f:Iw xs (some b)):Ba xs:=by
 obtain⟨a,j,g,_⟩:=f;refine Pc (xs:=xs.map (Du b)) (by rw[List.length_map]) (λy h=>?_) (λi x y c d=>?_) g
 ·obtain⟨x,l,rfl⟩:=eH.mp h;have:=Ke (x:=x) a;omega
 ·rw[List.getElem?_map,d]at c;have e:Du b y=x:=d0 c;have:=(Gm a (j y (cb d))).1;omega
theorem Vg{xs:mv}(h0:1<=xs.length)(f:xs.length<=3)(g:∀x∈xs,1<=x/\x<=5):Fk xs none:=by
 refine⟨λw l=>?_,(λc j=>by cases j),by omega,by omega,?_⟩
 ·have:=g w l;omega
 ·match xs,h0,f,g with
  |[a],_,_,h=>have:=h a (by simp);show 1*a<=300;omega
  |[a,b],_,_,h=>
   have d:=h a (by simp);have e:=h b (by simp);have:=Int.mul_le_mul d.2 e.2 (by omega) (by decide);show 1*a*b<=300;rw[Int.one_mul];omega
  |[a,b,c],_,_,h=>
   have d:=h a (by simp);have e:=h b (by simp);have f:=h c (by simp);have i:=Int.mul_le_mul d.2 e.2 (by omega) (by decide);have m:=Int.mul_le_mul i f.2 (by omega) (by decide);show 1*a*b*c<=300;rw[Int.one_mul];omega
theorem Nu:Ay [V.aP] [Value.none]:=.cons rfl .nil
theorem Fx:Ay [V.bl false] [Value.bool false]:=.cons rfl .nil
theorem A0j{a:List mK}(h:a.length=0):a=[]:=List.length_eq_zero_iff.mp h
theorem xl{b:List mK}(h:b.length=1):∃c,b=[c]:=by
 cases b with
 |nil=>cases h
 |cons a b=>
  obtain rfl:=A0j (Nat.succ.inj h);exact⟨a,rfl⟩
theorem xm{b:List mK}(h:b.length=2):∃d c,b=[d,c]:=by
 cases b with
 |nil=>cases h
 |cons a b=>
  obtain⟨c,rfl⟩:=xl (Nat.succ.inj h);exact⟨a,c,rfl⟩
theorem xn{b:List mK}(h:b.length=3):∃e c d,b=[e,c,d]:=by
 cases b with
 |nil=>cases h
 |cons a b=>
  obtain⟨c,d,rfl⟩:=xm (Nat.succ.inj h);exact⟨a,c,d,rfl⟩
theorem xp{b:List mK}(h:b.length=4):∃f c d e,b=[f,c,d,e]:=by
 cases b with
 |nil=>cases h
 |cons a b=>
  obtain⟨c,d,e,rfl⟩:=xn (Nat.succ.inj h);exact⟨a,c,d,e,rfl⟩
theorem A1h{b:List mK}(h:b.length=5):∃g c d e f,b=[g,c,d,e,f]:=by
 cases b with
 |nil=>cases h
 |cons a b=>
  obtain⟨c,d,e,f,rfl⟩:=xp (Nat.succ.inj h);exact⟨a,c,d,e,f,rfl⟩
seal Od PS PE PT PA PI PG PW
structure Gk(P:m8)(w:nP)(K:W.Frag)(mg:Str->Option mK)(base:Heap)(k:Nat)(f:Addr)(ps:List Str)(sp:Sp)(fd:nr):Prop where
 g:Bf P w K mg base (CX1 P w) k f fd ps sp
 b:Dl K fd ps []
section
variable {P:m8}{w:nP}{K:W.Frag}{mg:Str->Option mK}{base:Heap}{ad:Ads}{aE aH aI aN:Addr}
variable (T:Txt K mg ad aE aH aI aN)
include T
def Vm(K:W.Frag):Sp:=λc H Q _=>Py λ(a b:Int)=>Rl (c=[.int a,.int b]) (0<=a) (0<=b) (Q (.int (Int.gcd a b)) H)
theorem uh{n:nr}(F:Dn K "divisor" "divisor" fw ad.dE n):Bf P w K mg base (CX1 P w) 1 ad.dE n ["one","other"] (Vm K):=by
 refine F.okN R8 (λN H Q E h=>?_) (λS A m s H N Q E X h=>?_)
 ·rcases h with⟨a,b,rfl,o,p,q⟩<;>rfl
 ·obtain⟨a,b,rfl,o,p,q⟩:=h;refine⟨_,(A6 (Gz i0 (Ax N4 (pv 1) Ad (Au _)) (A6 (Ah (i:=2) R8.nd rfl (Or.inl rfl) (Bc Fp (pv 0) (pv 1))) (A6 (Ah (i:=0) R8.nd rfl (Or.inl rfl) (pv 1)) (Aa (Ah (i:=1) R8.nd rfl (Or.inl rfl) (pv 2)))))) (Aa (Ak (pv 0)))),?_⟩;refine He (λd g=>Pz λ(x y:Int) (r:Option V)=>G8 (d=[some (.int x),some (.int y),r]) (0<=x) (0<=y) (Int.gcd x y=Int.gcd a b) (g=H)) (λ(d:L2.St) (_:L2.Hp)=>match d[1]? with|some (some (V.int y))=>y.toNat|_=>0) ⟨a,b,none,rfl,o,p,rfl,rfl⟩ ?_ ?_
  ·rintro d g ⟨x,y,r,rfl,L,M,u,rfl⟩;refine⟨_,rfl,_,_,rfl,rfl,_,rfl,?_⟩;refine Fc (λl=>?_) (λl=>?_)
   ·have f:0<y:=by simpa using l
    have I:=ll x (show y≠0 by omega);have U:=me x f;refine⟨_,rfl,_,rfl,_,_,rfl,rfl,f,_,rfl,_,rfl,⟨y,x%y,_,rfl,M,I,(bf L f).trans u,rfl⟩,?_⟩;show(x%y).toNat<y.toNat;omega
   ·have f:¬0<y:=by simpa using l
    have e:y=0:=by omega
    subst e;refine⟨_,rfl,?_⟩;rw[<- u,Int.gcd_zero,show((x.natAbs:Nat):Int)=x by omega]at q;exact q
  ·rintro d g O R J ⟨v,B,i,j,C,D,c,G,z⟩;exact⟨v,B,i,j,C,D,c,G,J _ _ z⟩
def Vj(K:W.Frag):Sp:=λc H Q _=>Pz λ(a:Addr) (b:mv) (B:Int)=>Jz (c=[.ref a]) (B6 K H a (b.map V.int)) (1<=B) (B<2^4000) ((∀x∈b,1<=x/\x∣B)) (Q (.int ((C8 b:Nat):Int)) H)
theorem se{C M:nr}(F:Dn K "least_round" "least_round" f8 ad.dG C)(D:Gk P w K mg base 1 ad.dE ["one","other"] (Vm K) M):Bf P w K mg base (CX1 P w) 2 ad.dG C ["numbers"] (Vj K):=by
 refine F.okN R6 (λN H Q E h=>?_) (λO A r s H N Q E L h=>?_)
 ·rcases h with⟨a,b,B,rfl,j,G,d,p,q⟩<;>rfl
 ·obtain⟨a,b,B,rfl,j,G,d,p,q⟩:=h;refine⟨_,(A6 (Ah (i:=1) R6.nd rfl (Or.inl rfl) Ad) (A6 (Cd i0 rfl (Ci (pv 0)) (Al (i:=2) R6.nd rfl (Or.inl rfl)) (Aa (Ah (i:=1) R6.nd rfl (Or.inl rfl) (Bc Hn (Bc Dd (pv 1) (Ac D.g (L.mono (by decide)) rfl T.yG T.yH D.b .nil Ao (A0 (pv 1) (A0 (pv 2) A7)))) (pv 2))))) (Aa (Ak (pv 1))))),?_⟩;refine⟨_,rfl,a,rfl,.inl ⟨⟨_,j⟩,?_⟩⟩;refine Cm (K:=K) (a:=a) (xs:=b.map V.int) (λi f c=>∃(u:Option V),f=[some (.ref a),some (.int ((C8 (b.take i):Nat):Int)),u]/\c=H) ⟨_,rfl,rfl⟩ (by rintro i f c _ ⟨_,_,e⟩;exact(by rw[e];exact j)) ?_ ?_
  ·rintro i y f c I ⟨u,rfl,rfl⟩;rw[List.getElem?_map]at I;obtain⟨n,o,rfl⟩:=dm.mp I;have R:=(bG.mp o).1;have g:=p n (cb o);obtain⟨J,_,_,m⟩:=rj (xs:=b.take i) G λx h=>p x (List.mem_of_mem_take h);have v:=jW (by omega) g.2;have e:=ky (c:=C8 (b.take i)) g.1;have z:=Yr (b.take i) n;rw[<- E5 o]at z;rw[<- z]at e;have l:=qw (c:=C8 (b.take i)) J g.1;refine⟨_,rfl,_,rfl,_,rfl,_,n,rfl,by omega,by omega,_,_,rfl,rfl,⟨l.1,dI (Fz (by omega) (la l.2 v) d) (by decide)⟩,_,rfl,_,_,rfl,rfl,Wt (Ol l.1 (Fz (by omega) m d)) (Fz (by omega) v d) (by decide),some (.int n),?_,rfl⟩;show[some (V.ref a),some (V.int (((C8 (b.take i):Nat):Int)/((Int.gcd ((C8 (b.take i):Nat):Int) n:Nat):Int)*n)),some (V.int n)]=_;rw[e]
  ·rintro f c ⟨u,rfl,rfl⟩;refine⟨_,rfl,?_⟩;rw[List.length_map,List.take_length];exact q
def iw(K:W.Frag):Sp:=λe H Q _=>Pz λ(a:Addr) (c:mv) (B:Int)=>Nx (e=[.ref a]) (B6 K H a (c.map V.int)) (c.length<=80) (1<=B) (B<2^4000) ((∀x∈c,1<=x/\x∣B)) (∀(p:Addr) (t b:Int) (d:Hp),A9 H d->d p=some (.tup [.int t,.int b])->(t<=b↔Ba c)->Q (.ref p) d)
theorem ul{C mR mQ:nr}(F:Dn K "shares" "shares" Xi ad.fI C)(I:Gk P w K mg base 2 ad.dG ["numbers"] (Vj K) mR)(G:Gk P w K mg base 1 ad.dE ["one","other"] (Vm K) mQ):Bf P w K mg base (CX1 P w) 3 ad.fI C ["numbers"] (iw K):=by
 refine F.okN R9 (λvs H Q E h=>?_) (λaM A u s H vs Q E S h=>?_)
 ·rcases h with⟨a,b,B,rfl,j,Z,o,l,e,q⟩<;>rfl
 ·obtain⟨a,b,B,rfl,j,Z,o,l,e,q⟩:=h;refine⟨_,(A6 (Ah (i:=1) R9.nd rfl (Or.inr rfl) (Ac I.g (S.mono (by decide)) rfl T.yI T.yJ I.b .nil Ao (A0 (pv 0) A7))) (A6 (Ah (i:=2) R9.nd rfl (Or.inl rfl) (Aq (On rfl) (by rfl) T.yS boot_sum (A0 (Cy (Ci (pv 0)) _ rfl S2 rfl rfl (λ_ _ _ _=>(Al (i:=0) Sy rfl (Or.inl rfl))) (λ_ _ _ _=>Bz) (λ_ _ _ _=>(Bc Dd (pv 1) (pv 0)))) A7))) (A6 (Ah (i:=3) R9.nd rfl (Or.inl rfl) (Ac G.g (S.mono (by decide)) rfl T.yG T.yH G.b .nil Ao (A0 (pv 2) (A0 (pv 1) A7)))) (Aa (Ak (Cr (A0 (Bc Dd (pv 2) (pv 3)) (A0 (Bc Dd (pv 1) (pv 3)) A7)))))))),?_⟩;refine⟨_,rfl,a,b,B,rfl,j,o,l,e,?_⟩;obtain⟨M,_,_,d⟩:=rj o e;have m:Ba b↔(Cf ((C8 b:Nat):Int) b).sum<=((C8 b:Nat):Int):=Iff.rfl;generalize C8 b=L at M d m⊢;refine⟨_,rfl,a,rfl,.inl ⟨⟨_,j⟩,λD J=>?_⟩⟩;refine Cw (K:=K) (a:=a) (xs:=b.map V.int) (λi f g=>f=(Cf (L:Int) (b.take i)).map V.int/\g D=some (.lst f)/\A9 H g) ⟨rfl,A5,A9.upd J⟩ (by rintro i f g _ ⟨_,_,s⟩;exact s.seq j) ?_ ?_
  ·rintro i y f g U ⟨rfl,fH,s'⟩ Qe hQ;rw[List.getElem?_map]at U;obtain⟨n,R,rfl⟩:=dm.mp U;have v:=e n (cb R);have Y:=jW (by omega) v.2;refine⟨_,rfl,_,rfl,_,_,rfl,rfl,⟨Int.lt_of_lt_of_le (by decide) v.1,dI (Fz (by omega) Y l) (by decide)⟩,?_⟩;refine hQ _ _ fH (Av ?_) ⟨?_,A5,s'.new J⟩
   ·rw[List.length_map];unfold Cf;rw[List.length_map,List.length_take];omega
   ·rw[E5 R,Os,List.map_append];rfl
  rintro f H1 ⟨rfl,X,s1⟩;rw[List.length_map,List.take_length]at X;have N:=Wi (B:=(L:Int)) (by omega) λx h=>(e x h).1;refine⟨D,_,rfl,B6.of X,?_⟩;generalize(Cf (L:Int) b).sum=T at N m⊢
  have O:0<Int.gcd T (L:Int)/\Int.gcd T (L:Int)<=L:=by
   have h1:Int.gcd T (L:Int)∣L:=by
    have h2:((Int.gcd T (L:Int):Nat):Int)∣(L:Int):=Int.gcd_dvd_right ..;exact Int.natCast_dvd_natCast.mp h2
   have h3:=Nat.le_of_dvd M h1
   have h4:Int.gcd T (L:Int)≠0:=λz=>by
    have:=(Int.gcd_eq_zero_iff.mp z).2;omega
   exact⟨by omega,h3⟩
  have c:intBits ((Int.gcd T (L:Int):Nat):Int)<=8999:=dI (Fz (by omega) (la (Int.ofNat_le.mpr O.2) d) l) (by decide);have r:=zm O.1 (Int.gcd_dvd_left ..) (Int.gcd_dvd_right ..);refine⟨_,rfl,_,rfl,T,(L:Int),rfl,N,by omega,?_⟩;refine⟨_,rfl,_,rfl,_,_,rfl,rfl,⟨by omega,c⟩,_,rfl,_,rfl,_,_,rfl,rfl,⟨by omega,c⟩,C9,λp hp=>?_⟩;exact q p _ _ _ (s1.trans (A9.upd hp)) A5 (r.trans m.symm)
def i9(K:W.Frag):Sp:=λe H Q _=>Py λ(a:Addr) (c:mv)=>G8 (e=[.ref a]) (B6 K H a (c.map V.int)) (c.length<64) ((∀x∈c,1<=x)) (∀(b:Bool) (d:Hp),A9 H d->(b=true↔Gc c)->Q (.bl b) d)
theorem tm{O:nr}(F:Dn K "are_chain" "are_chain" Xd ad.fJ O):Bf P w K mg base (CX1 P w) 1 ad.fJ O ["periods"] (i9 K):=by
 refine F.okN gi (λvs H Q E h=>?_) (λaM A D s H vs Q E hr h=>?_)
 ·rcases h with⟨a,L,rfl,U,N,C,q⟩<;>rfl
 ·obtain⟨a,L,rfl,U,N,C,q⟩:=h;refine⟨_,(A6 (Ah (i:=1) gi.nd rfl (Or.inl rfl) (Aq (J5 K) (by rfl) T.bO boot_sorted (A0 (pv 0) A7))) (Aa (Ak (Aq (Xx rfl) (by rfl) T.MP boot_all (A0 (Cy (X0 (by rfl) T.yT (A0 (pv 1) (A0 (Tc (Tn K) (pv 1) (Qv Ad) ma) A7))) _ rfl Lz rfl rfl (λ_ _ _ _=>(Dx K (n:=2) rfl (Bh (Al (i:=0) Gq rfl (Or.inl rfl)) (Bh (Al (i:=1) Gq rfl (Or.inl rfl)) Dy)))) (λ_ _ _ _=>Bz) (λ_ _ _ _=>(D5 Ta (Bc Fp (pv 1) (pv 0)) Ad (Au _)))) A7))))),?_⟩;refine⟨_,rfl,a,L,rfl,U,N,λR b hR o bH=>?_⟩;have Z:A9 H (upd H R (.lst (b.map V.int))):=A9.upd hR;have e:(upd H R (.lst (b.map V.int))) R=some (.lst (b.map V.int)):=A5;generalize upd H R (.lst (b.map V.int))=j at Z e⊢;refine⟨_,rfl,_,rfl,_,rfl,R,_,rfl,B6.of e,λc ZX=>?_⟩;have rQ:b.length=L.length:=o.length_eq
  have ZY:Ug (b.map V.int) (some 1) none=(b.drop 1).map V.int:=by
   rw[Oq];unfold Ue;rw[HT.qL,show HT.iM b.length 0 (some 1)=min 1 b.length from HT.vM b.length 0 1];congr 1;rcases Nat.eq_zero_or_pos b.length with z|z
   ·rw[List.length_eq_zero_iff.mp z];rfl
   ·rw[show min 1 b.length=1 by omega,List.take_of_length_le (by rw[List.length_drop];omega)]
  rw[ZY];have I:A9 j (upd j c (.lst ((b.drop 1).map V.int))):=A9.upd ZX;have f:(upd j c (.lst ((b.drop 1).map V.int))) c=some (.lst ((b.drop 1).map V.int)):=A5;generalize upd j c (.lst ((b.drop 1).map V.int))=H2 at I f⊢;have l:=I _ _ e;refine⟨false,false,R,c,rfl,⟨_,B6.of l⟩,⟨_,B6.of f⟩,λG S=>?_⟩
  refine Y4 (K:=K) (b1:=false) (b2:=false) (c:=R) (d:=c) (xs:=b.map V.int) (ys:=(b.drop 1).map V.int) (by rw[List.length_map,List.length_map,List.length_drop];omega)
   (λi g d=>g=(o5 b i).map V.bl/\d G=some (.lst g)/\A9 H2 d) ⟨rfl,A5,A9.upd S⟩ (by rintro i g d _ ⟨_,_,s⟩;exact⟨B6.of (s _ _ l),B6.of (s _ _ f)⟩) ?_ (λσ d Q1 Q2 p z=>p _ _ z) ?_ ?_
  ·rintro i x y T g n M Y ⟨rfl,m,J⟩ hT;rw[List.getElem?_map]at M Y;obtain⟨u,r,rfl⟩:=dm.mp M;obtain⟨w,X,rfl⟩:=dm.mp Y;rw[List.getElem?_drop,Nat.add_comm]at X;have ex:b.getD i 0=u:=by rw[List.getD_eq_getElem?_getD,r];rfl
   have ey:b.getD (i+1) 0=w:=by rw[List.getD_eq_getElem?_getD,X];rfl
   have hi:=(bG.mp r).1;have B:=C u (o.mem_iff.mp (cb r));have s5:A9 n (upd n T (.tup [V.int u,V.int w])):=A9.upd hT;simp only[Oc,↓reduceIte];refine⟨_,rfl,_,rfl,_,_,rfl,rfl,Int.lt_of_lt_of_le (by decide) B,rfl,s5 _ _ m,Av (by rw[List.length_map,Uy];omega),?_,A5,(J.trans s5).new S⟩;rw[cz,ex,ey,List.map_append,eqI];rfl
  ·rintro σ d Q1 Q2 p ⟨v,e,v',l,i1,j1,f,e3,c0,e4,z⟩;exact⟨v,e,v',l,i1,j1,f,e3,c0,e4,p _ _ z⟩
  rintro g n ⟨rfl,m,J⟩;refine⟨G,_,rfl,B6.of m,?_⟩;rw[List.length_map,List.length_drop];exact q _ _ (Z.trans (I.trans J)) (l8 o bH C)
def Vk(K:W.Frag):Sp:=λd H Q _=>Pz λ(a:Addr) (b:mv) (B:Int)=>Nx (d=[.ref a]) (B6 K H a (b.map V.int)) (b.length<=80) (1<=B) (B<2^4000) ((∀x∈b,1<=x/\x∣B)) (∀(c:Hp),A9 H c->Q (.bl (decide (Ba b))) c)
theorem tw{l v:nr}(F:Dn K "have_room" "have_room" fi ad.dH l)(u:Gk P w K mg base 3 ad.fI ["numbers"] (iw K) v):Bf P w K mg base (CX1 P w) 4 ad.dH l ["periods"] (Vk K):=by
 refine F.okN gj (λD H Q E h=>?_) (λG A c s H D Q E x h=>?_)
 ·rcases h with⟨a,d,B,rfl,n,j,m,r,o,q⟩<;>rfl
 ·obtain⟨a,d,B,rfl,n,j,m,r,o,q⟩:=h;refine⟨_,(A6 (Ah (i:=1) gj.nd rfl (Or.inl rfl) (Ac u.g (x.mono (by decide)) rfl T.KQ T.KR u.b .nil Ao (A0 (pv 0) A7))) (Aa (Ak (D5 Wy (C4 (C0 K) (pv 1) Ad (λ_ _=>rfl)) (C4 (C0 K) (pv 1) Ad (λ_ _=>rfl)) (Au _))))),?_⟩;refine⟨_,rfl,a,d,B,rfl,n,j,m,r,o,λp t b f C i g=>?_⟩;refine⟨_,rfl,p,_,_,_,rfl,rfl,.inr (Cu.of i),rfl,_,rfl,p,_,_,_,rfl,rfl,.inr (Cu.of i),rfl,_,_,rfl,rfl,?_⟩
  have e:decide (t<=b)=decide (Ba d):=by
   by_cases z:t<=b
   ·rw[decide_eq_true z,decide_eq_true (g.mp z)]
   ·rw[decide_eq_false z,decide_eq_false λy=>z (g.mpr y)]
  show Q (V.bl (decide (t<=b))) f;rw[e];exact q f C
def i5(K:W.Frag):Sp:=λd H Q _=>nk λ(a:Addr) (c r:mv) (top b:Int)=>Pu (d=[.ref a,.int b]) (B6 K H a (c.map V.int)) (Lv c.reverse) (c.reverse=top::r) (0<=b) (b<top) (top<2^4000) (Q (.int (rv (top::r) b)) H)
theorem su{J:nr}(F:Dn K "free_first" "free_first" ff ad.fK J):Bf P w K mg base (CX1 P w) 1 ad.fK J ["levels","taken"] (i5 K):=by
 refine F.okN Hc (λZ H Q E h=>?_) (λaM A C s H Z Q E hr h=>?_)
 ·rcases h with⟨a,B,r,top,n,rfl,m,g,b,v,R,c,q⟩<;>rfl
 ·obtain⟨a,B,r,top,n,rfl,m,g,b,v,R,c,q⟩:=h;refine⟨_,(A6 (Ah (i:=2) Hc.nd rfl (Or.inl rfl) Ad) (A6 (Ah (i:=3) Hc.nd rfl (Or.inl rfl) Ad) (A6 (Cd i0 rfl (Ci (pv 0)) (Al (i:=4) Hc.nd rfl (Or.inl rfl)) (A6 (Ah (i:=5) Hc.nd rfl (Or.inl rfl) (Bc Dd (C4 (C0 K) (pv 0) (dj Vw Ad) (λ_ _=>rfl)) (pv 4))) (A6 (dl (i:=2) Hc.nd rfl (Or.inl rfl) (Bc Hn (Bc Dd (pv 1) (pv 5)) (pv 3)) bw) (A6 (Ah (i:=1) Hc.nd rfl (Or.inl rfl) (Bc Fp (pv 1) (pv 5))) (Aa (Ah (i:=3) Hc.nd rfl (Or.inl rfl) (pv 4))))))) (Aa (Ak (pv 2)))))),?_⟩;have S:1<=top:=by rw[b]at g;exact g.pos
  refine⟨_,rfl,a,rfl,.inl ⟨⟨_,m⟩,?_⟩⟩;refine Cm (K:=K) (a:=a) (xs:=B.map V.int) (λi u l=>nk λ(f t s:Int) (D G:Option V)=>Rl (u=[some (.ref a),some (.int t),some (.int f),some (.int s),D,G]) (FF B top n i f t s) (t<=n) (l=H)) ⟨0,n,1,none,none,rfl,.zero,Int.le_refl _,rfl⟩ (by rintro i u l _ ⟨_,_,_,_,_,_,_,_,e⟩;exact(by rw[e];exact m)) ?_ ?_
  ·rintro i y u l L ⟨f,t,s,D,G,rfl,d,I,rfl⟩;rw[List.getElem?_map]at L;obtain⟨p,X,rfl⟩:=dm.mp L;have z:=d.pos g v ⟨r,b⟩;obtain⟨Y,U,zA,x⟩:=d.step g v ⟨r,b⟩ X;have M:=jW (by omega) U;have O:=jW (by omega) z.2.1;have N:top/p<=top:=Int.ediv_le_self _ (by omega);have o:0<top/p:=by omega
   have j:intBits (top/p)<=8999:=dI (Fz (by omega) N c) (by decide);refine⟨_,rfl,_,rfl,a,_,_,_,rfl,rfl,.inl m,Sl b,_,rfl,_,_,rfl,rfl,⟨by omega,dI (Fz (by omega) M c) (by decide)⟩,?_⟩;refine⟨_,rfl,_,rfl,_,rfl,_,_,rfl,rfl,⟨o,j⟩,_,rfl,_,_,rfl,rfl,Wt (Ol o (Fz z.2.2 (by omega) c)) (Fz (by omega) O c) (by decide),_,_,rfl,rfl,?_⟩;refine⟨_,rfl,_,rfl,_,_,rfl,rfl,o,_,rfl,?_⟩;exact⟨_,_,_,_,_,rfl,x,la (kd z.2.2 o) I,rfl⟩
  ·rintro u l ⟨f,t,s,D,G,rfl,d,I,rfl⟩;refine⟨_,rfl,?_⟩;rw[List.length_map]at d;rw[d.last rfl b S];exact q
def ox(K:W.Frag):Sp:=λe H Q _=>Pz λ(a:Addr) (b:mv) (B:Int)=>Pw (e=[.ref a]) (H a=some (.lst (b.map V.int))) (b.length<=80) (1<=B) (B<2^4000) ((∀x∈b,1<=x/\x∣B)) (b.Pairwise (·∣·)) ((Cf B b).sum<=B) (∀(D:Addr) (c:List (Int×Int)) (d:Hp),H D=none->A9 H d->d D=some (.lst (c.map λx=>V.int x.2))->c.map Prod.fst=b->(∀x∈c,1<=x.1/\0<=x.2/\x.2<x.1)->(c.Pairwise λx y=>x.1∣y.1/\y.2%x.1≠x.2)->Q (.ref D) d)
theorem ze{fd CY:nr}(F:Dn K "rising_firsts" "rising_firsts" vz ad.lC fd)(oE:Gk P w K mg base 1 ad.fK ["levels","taken"] (i5 K) CY):Bf P w K mg base (CX1 P w) 2 ad.lC fd ["periods"] (ox K):=by
 refine F.okN Nj (λvs H Q E h=>?_) (λaM A outer s H vs Q E hr h=>?_)
 ·rcases h with⟨a,o,B,rfl,ha,jB,hB,O,hx,KG,cO,q⟩<;>rfl
 ·obtain⟨a,o,B,rfl,ha,jB,hB,O,hx,KG,cO,q⟩:=h;refine⟨_,(A6 (Ah (i:=1) Nj.nd rfl (Or.inl rfl) (Dv (A0 Ad A7))) (A6 (Ah (i:=2) Nj.nd rfl (Or.inl rfl) Ad) (A6 (Ah (i:=3) Nj.nd rfl (Or.inl rfl) (Dv A7)) (A6 (Cd i0 rfl (Ci (pv 0)) (Al (i:=4) Nj.nd rfl (Or.inl rfl)) (A6 (Ah (i:=2) Nj.nd rfl (Or.inl rfl) (Bc Hn (pv 2) (Bc Dd (pv 4) (C4 (C0 K) (pv 1) (dj Vw Ad) (λ_ _=>rfl))))) (A6 (Fs (Ax N4 (pv 4) (C4 (C0 K) (pv 1) (dj Vw Ad) (λ_ _=>rfl)) (Au _)) (Aa (De (Ib PySem.F.plainAttrs_list PySem.F.slot_list_append PySem.F.type_list_append E3 (pv 1) (A0 (pv 4) A7)))) Ap) (A6 (De (Ib PySem.F.plainAttrs_list PySem.F.slot_list_append PySem.F.type_list_append E3 (pv 3) (A0 (Ac oE.g (hr.mono (by decide)) rfl T.KW T.KY oE.b .nil Ao (A0 (pv 1) (A0 (pv 2) A7))) A7))) (Aa (dl (i:=2) Nj.nd rfl (Or.inl rfl) Ad bw)))))) (Aa (Ak (pv 3))))))),?_⟩;refine⟨C9,λL hL=>?_⟩;have s1:A9 H (upd H L (.lst [.int 1])):=A9.upd hL;have e1:(upd H L (.lst [.int 1])) L=some (.lst [.int 1]):=A5;generalize upd H L (.lst [.int 1])=X at s1 e1⊢;refine⟨C9,λF hF=>?_⟩;have s2:A9 X (upd X F (.lst [])):=A9.upd hF;have e2:(upd X F (.lst [])) F=some (.lst []):=A5;generalize upd X F (.lst [])=H2 at s2 e2⊢;have jD:=s2 _ _ e1;have R:F≠L:=λe=>by rw[e,e1]at hF;cases hF
  have G:H F=none:=s1.free hF;have bC:=s1.trans s2;refine⟨_,rfl,a,rfl,.inl ⟨⟨_,B6.of (bC _ _ ha)⟩,?_⟩⟩
  refine Cm (K:=K) (a:=a) (xs:=o.map V.int) (λi l U=>nk λ(d:List (Int×Int)) (q:Int) (r:mv) (t:Int) (v4:Option V)=>Lp (l=[some (.ref a),some (.ref L),some (.int t),some (.ref F),v4]) (Iy d q r t) (d.map Prod.fst=o.take i) (d.length=i) ((i=0->q=1)) ((∀p,0<i->o[i-1]?=some p->q=p)) (U L=some (.lst ((q::r).reverse.map V.int))) (U F=some (.lst (d.map λx=>V.int x.2))) (r.length<=i) (A9 H U))
   ⟨[],1,[],0,none,rfl,.begin,rfl,rfl,(λ_=>rfl),(λp h=>absurd h (by decide)),jD,e2,da _,bC⟩ (by rintro i l U _ ⟨_,_,_,_,_,_,_,_,_,_,_,_,_,_,s⟩;exact B6.of (s _ _ ha)) ?_ ?_
  ·rintro i y l H3 hy ⟨d,c,r,t,v4,rfl,b,S,JQ,HK,I,m,Z,UU,s3⟩;rw[List.getElem?_map]at hy;obtain⟨p,n,rfl⟩:=dm.mp hy;have hi:=(bG.mp n).1;have j:=hx p (cb n);have g:=jW (by omega) j.2;have rR:=b.lv.pos
   have u:c∣p:=by
    rcases Nat.eq_zero_or_pos i with z|z
    ·rw[HK z];exact Int.one_dvd _
    ·have e:o[i-1]?=some (o[i-1]'(by omega)):=dt (by omega);rw[I _ z e];rw[List.pairwise_iff_getElem]at KG;have:=KG (i-1) i (by omega) hi (by omega);rw[(List.getElem?_eq_some_iff.mp n).2]at this;exact this
   have J:=jW (by omega) u;have jG:U9 ((c::r).reverse.map V.int) (-1)=some (.int c):=Sl (r:=r) (by rw[List.reverse_reverse]);obtain⟨hc,ec⟩:=Cq rR j.1 u
   have N:t*(p/c)<p:=by
    have h1:=Z8 hB hx cO n S λx v=>⟨(b.all x v).1,Int.dvd_trans (b.all x v).2.1 u⟩;rw[Ht rR j.1 u λx v=>⟨(b.all x v).1,(b.all x v).2.1⟩,<- b.sum]at h1;exact h1
   have M:=b.nn
   have htp:t<=B:=by
    have:=iB hc M;omega
   have hcB:p/c<=B:=la (Int.ediv_le_self _ (by omega)) g;refine⟨_,rfl,_,rfl,_,rfl,_,rfl,L,_,_,_,rfl,rfl,.inl (B6.of m),jG,_,_,rfl,rfl,⟨by omega,dI (Fz (by omega) (la J g) O) (by decide)⟩,_,_,rfl,rfl,Wt (Fz M htp O) (Fz (by omega) hcB O) (by decide),?_⟩;refine⟨_,rfl,_,rfl,_,rfl,L,_,_,_,rfl,rfl,.inl (B6.of m),jG,_,_,rfl,rfl,_,rfl,(λl Y=>∃(f:mv),Jz (l=[some (.ref a),some (.ref L),some (.int (t*(p/c))),some (.ref F),some (.int p)]) (Iy d p f (t*(p/c))) (Y L=some (.lst ((p::f).reverse.map V.int))) (Y F=some (.lst (d.map λx=>V.int x.2))) (f.length<=i+1) (A9 H Y)),λh0=>?_,λh0=>?_,?_⟩
   ·have aK:c<p:=by simpa using h0
    refine⟨_,rfl,.inl ⟨rfl,_,B6.of m⟩,_,rfl,L,_,_,rfl,rfl,m,Av (by rw[List.length_map,List.length_reverse,List.length_cons];omega),?_⟩;refine⟨c::r,rfl,b.grow aK u,?_,by rw[Ab R];exact Z,by rw[List.length_cons];omega,s3.new hL⟩;rw[A5,List.reverse_cons (a:=p),List.map_append];rfl
   ·have aK:¬c<p:=by simpa using h0
    have e:c=p:=by omega
    subst e;exact⟨r,rfl,by rw[b.same];exact b,m,Z,by omega,s3⟩
   rintro l Y ⟨f,rfl,CV,D,C,hr4,s4⟩;refine⟨_,rfl,.inl ⟨rfl,_,B6.of C⟩,_,rfl,_,rfl,L,(p::f).reverse,f,p,_,rfl,B6.of D,by rw[List.reverse_reverse];exact CV.lv,by rw[List.reverse_reverse],CV.nn,N,iQ g O,?_⟩;refine⟨F,_,_,rfl,rfl,C,Av (by rw[List.length_map];omega),?_⟩;refine⟨_,rfl,_,_,rfl,rfl,?_⟩;refine⟨d++[(p,rv (p::f) (t*(p/c)))],p,f,_,_,rfl,CV.put N,?_,by rw[List.length_append,JQ];rfl,(λz=>absurd z (by omega)),(λp' _ h=>?_),by rw[Ab (Ne.symm R)];exact D,?_,hr4,s4.new G⟩
   ·rw[List.map_append,S,E5 n];rfl
   ·rw[show i+1-1=i by omega,n]at h;cases h;rfl
   ·rw[A5,List.map_append];rfl
  ·rintro l H3 ⟨d,c,r,t,v4,rfl,b,S,JQ,HK,I,m,Z,UU,s3⟩;refine⟨_,rfl,?_⟩;rw[List.length_map,List.take_length]at S;exact q F d H3 G s3 Z S (λx h=>⟨(b.all x h).1,(b.all x h).2.2.1,(b.all x h).2.2.2.1⟩) b.pair
def gs(K:W.Frag)(aE aH aI aN:Addr):Sp:=λg H Q E=>Py λ(a:Addr) (b:mv)=>Pw (g=[.ref a]) (H a=some (.lst (b.map V.int))) (b.length<64) ((∀x∈b,x<2^4000)) (H aN=some (.tab lamQ lamP)) (((∃x∈b,x<1)->∀c,A9 H c->E (.ref aE) none c)) (((∀x∈b,1<=x)->¬Gc b->∀c,A9 H c->E (.ref aH) none c)) (((∀x∈b,1<=x)->Gc b->¬Ba b->∀c,A9 H c->E (.ref aI) none c)) (((∀x∈b,1<=x)->Gc b->Ba b->∀(p:Addr) (f:List V) (e:List (Int×Int)) (d:Hp),H p=none->A9 H d->d p=some (.lst f)->Af (Rk d) e f->e.map Prod.fst=b->qb b (e.map Prod.snd)->Q (.ref p) d))
theorem sh{fd CZ mS MZ:nr}{lS:Addr}(hB:U1 base mg)(F:jm K "chain_wheel" "chain_wheel" Jr ad.cB fd lS aN)(oF:Gk P w K mg base 1 ad.fJ ["periods"] (i9 K) CZ)(gL:Gk P w K mg base 4 ad.dH ["periods"] (Vk K) mS)(wG:Gk P w K mg base 2 ad.lC ["periods"] (ox K) MZ):Bf P w K mg base (CX1 P w) 5 ad.cB fd ["periods"] (gs K aE aH aI aN):=by
 refine F.xV Nh (λvs H Q E h=>?_) (λA outer s H vs Q E hr h=>?_)
 ·rcases h with⟨a,d,rfl,I,eX,kR,hT,he1,he2,he3,q⟩<;>rfl
 ·obtain⟨a,d,rfl,I,eX,kR,hT,he1,he2,he3,q⟩:=h;refine⟨_,(A6 (C5 (D2 (Aq (Om rfl) (by rfl) T.yU boot_any (A0 (Cy (Ci (pv 0)) _ rfl K5 rfl rfl (λ_ _ _ _=>(Al (i:=0) Kj rfl (Or.inl rfl))) (λ_ _ _ _=>Bz) (λ_ _ _ _=>(D5 Gv (pv 0) Ad (Au _)))) A7))) (Aa (Gy Na rfl (by rfl) T.eS T.bQ (A0 N7 A7))) Ap) (A6 (C5 (Dw (D2 (Ac oF.g (hr.mono (by decide)) rfl T.KS T.KU oF.b .nil Ao (A0 (pv 0) A7)))) (Aa (Gy Na rfl (by rfl) T.pP T.eU (A0 N7 A7))) Ap) (A6 (C5 (Dw (D2 (Ac gL.g (hr.mono (by decide)) rfl T.yK T.yL gL.b .nil Ao (A0 (pv 0) A7)))) (Aa (Gy Na rfl (by rfl) T.pQ T.eV (A0 N7 A7))) Ap) (A6 (Ah (i:=1) Nh.nd rfl (Or.inl rfl) (V2 (j:=0) (q:="chain_wheel.<locals>.<lambda>") hr (x:="number") (y:="periods") ⟨⟨_,_,_,rfl⟩,λ_ _ _ _ _ _ _=>rfl,rfl,rfl,rfl,by decide+kernel,rfl,rfl,by decide,by decide,by decide⟩ (λcc h=>S0 rfl h) rfl rfl (.inr (.inl rfl)) rfl rfl F.tab (show(("chain_wheel":Str)++".<locals>.")++"<lambda>"=("chain_wheel.<locals>.<lambda>":Str)by decide+kernel) hB (by rfl) T.bO (A0 (Cc Zy (by rfl) T.bJ boot_range (A0 (Aq (Bt K) (by rfl) T.bP PySem.boot_len (A0 (pv 0) A7)) A7)) A7))) (A6 (Cs (i:=2) Nh.nd rfl (Ci (pv 0)) _ rfl K6 rfl rfl (λ_ _ _ _=>(Al (i:=0) Kk rfl (Or.inl rfl))) (λ_ _ _ _=>Bz) (λ_ _ _ _=>(Cr (A0 (pv 0) (A0 Ad A7)))) rfl rfl) (A6 (Cd A0w rfl (X0 (by rfl) T.yT (A0 (pv 1) (A0 (Ac wG.g (hr.mono (by decide)) rfl T.YT T.YU wG.b .nil Ao (A0 (Aq (J5 K) (by rfl) T.bO boot_sorted (A0 (pv 0) A7)) A7)) A7))) (Dx K (n:=2) rfl (Bh (Al (i:=3) Nh.nd rfl (Or.inl rfl)) (Bh (Al (i:=4) Nh.nd rfl (Or.inl rfl)) Dy))) (Aa (V6 (Cr (A0 (C4 (C0 K) (pv 0) (pv 3) (λ_ _=>rfl)) (A0 (pv 4) A7))) (V4 (pv 2) (pv 3) Nl)))) (Aa (Ak (pv 2))))))))),?_⟩;refine⟨_,rfl,a,rfl,.inl ⟨⟨_,B6.of I⟩,λC hC=>?_⟩⟩;refine Cw (K:=K) (a:=a) (xs:=d.map V.int) (λi g f=>g=((d.take i).map λx=>decide (x<1)).map V.bl/\f C=some (.lst g)/\A9 H f) ⟨rfl,A5,A9.upd hC⟩ (by rintro i g f _ ⟨_,_,s⟩;exact B6.of (s _ _ I)) ?_ ?_
  ·rintro i y g f hy ⟨rfl,kS,s'⟩ Qe hQ;rw[List.getElem?_map]at hy;obtain⟨x,l,rfl⟩:=dm.mp hy;refine⟨_,rfl,_,_,rfl,rfl,?_⟩;refine hQ _ _ kS (Av ?_) ⟨?_,A5,s'.new hC⟩
   ·rw[List.length_map,List.length_map,List.length_take];omega
   ·rw[Jt l,List.map_append,List.map_append];rfl
  rintro ys0 H1 ⟨rfl,DA,s1⟩;rw[List.length_map,List.take_length]at DA;refine⟨C,_,rfl,B6.of DA,_,rfl,?_⟩;rw[List.any_map];refine Fc (λp=>?_) (λp=>?_)
  ·obtain⟨x,l,hd⟩:=List.any_eq_true.mp p;exact⟨Jk,λH2 s2=>he1 ⟨x,l,by simpa using hd⟩ H2 (s1.trans s2)⟩
  have J:∀x∈d,1<=x:=λx l=>by
   rcases Int.lt_or_le x 1 with z|z
   ·exact absurd (List.any_eq_true.mpr ⟨x,l,by simpa using z⟩) p
   ·exact z
  have e1:=s1 _ _ I;refine⟨_,rfl,a,d,rfl,B6.of e1,eX,J,λb H2 s2 hb=>?_⟩;refine⟨_,rfl,?_⟩;have bC:=s1.trans s2;have e2:=bC _ _ I;refine Fc (λp=>?_) (λp=>?_)
  ·exact⟨Jk,λH3 s3=>he2 J (λz=>by rw[hb.mpr z]at p;cases p) H3 (bC.trans s3)⟩
  have cY:Gc d:=hb.mp (by simpa using p)
  obtain⟨B,rS,rT⟩:∃B:Int,(1<=B/\B<2^4000)/\∀x∈d,1<=x/\x∣B:=by
   obtain⟨g,G,bH⟩:∃g:mv,g.Perm d/\g.Pairwise (·<=·):=⟨d.mergeSort (λa b=>decide (a<=b)),List.mergeSort_perm ..,by
    have:=List.pairwise_mergeSort (le:=λ(a b:Int)=>decide (a<=b)) (λa b c u M=>by simp at u M⊢;omega) (λa b=>by simp;omega) d;exact this.imp λh=>by simpa using h⟩
   obtain⟨B,u,M⟩:=Vr (Er G bH J cY);refine⟨B,?_,λx l=>⟨J x l,M x (G.mem_iff.mpr l)⟩⟩;rcases u with⟨_,rfl⟩|u
   ·exact⟨by decide,by decide+kernel⟩
   ·exact⟨J B (G.mem_iff.mp u),kR B (G.mem_iff.mp u)⟩
  refine⟨_,rfl,a,d,B,rfl,B6.of e2,by omega,rS.1,rS.2,rT,λH3 s3=>?_⟩;have rV:=bC.trans s3;have e3:=rV _ _ I;refine⟨_,rfl,?_⟩;refine Fc (λp=>?_) (λp=>?_)
  ·exact⟨Jk,λH4 s4=>he3 J cY (by simpa using p) H4 (rV.trans s4)⟩
  have cO:Ba d:=by simpa using p
  have q:=q J cY cO;have hT3:=rV _ _ hT;refine⟨_,rfl,a,_,rfl,.inl (B6.of e3),_,rfl,λrg hrg=>?_⟩;have el:(((d.map V.int).length:Nat):Int)=((d.length:Nat):Int):=by rw[List.length_map]
  rw[el];have s4:A9 H3 (upd H3 rg (.pX 0 ((d.length:Nat):Int))):=A9.upd hrg;have e4:(upd H3 rg (.pX 0 ((d.length:Nat):Int))) rg=some (.pX 0 ((d.length:Nat):Int)):=A5;generalize upd H3 rg (.pX 0 ((d.length:Nat):Int))=H4 at s4 e4⊢;have e34:=s4 _ _ e3;refine⟨rg,a,d,rfl,e4,rfl,B6.of e34,eX,s4 _ _ hT3,λO m H5 s5 hO eO mO hopw=>?_⟩;have Y:=rV.trans (s4.trans s5);have e5:=Y _ _ I;refine⟨_,rfl,a,rfl,.inl ⟨⟨_,B6.of e5⟩,λD hD=>?_⟩⟩;refine Cw (K:=K) (a:=a) (xs:=d.map V.int) (λi n f=>Af (Rk f) ((d.take i).map λx=>(x,0)) n/\f D=some (.lst n)/\A9 H5 f) ⟨Af.nil,A5,A9.upd hD⟩ (by rintro i g f _ ⟨_,_,s⟩;exact B6.of (s _ _ e5)) ?_ ?_
  ·rintro i y n f hy ⟨hA,fH,s'⟩ Qe hQ;rw[List.getElem?_map]at hy;obtain⟨x,l,rfl⟩:=dm.mp hy;refine⟨_,rfl,C9,λT S=>?_⟩;have st:A9 f (upd f T (.tup [.int x,.int 0])):=A9.upd S;have et:(upd f T (.tup [.int x,.int 0])) T=some (.tup [.int x,.int 0]):=A5;generalize upd f T (.tup [.int x,.int 0])=H'' at st et⊢;have tl:=An.lst (o:=.lst (n++[.ref T])) (st _ _ fH);refine hQ _ _ (st _ _ fH) (Av (by rw[hA.1,List.length_map,List.length_take];omega)) ⟨?_,A5,(s'.trans st).new hD⟩;rw[Jt l,List.map_append];exact(hA.imp λr v z=>Rk.up ((An.of st).trans tl) z).append (Af.one ⟨T,rfl,tl _ _ et⟩)
  rintro TZ H6 ⟨hA6,DB,s6⟩;rw[List.length_map,List.take_length]at hA6;have s16:=Y.trans s6;have e6:=s16 _ _ I;have eO6:=s6 _ _ eO;have vB:H D=none:=Y.free hD;refine⟨_,rfl,_,rfl,a,d,rfl,B6.of e6,eX,λR g hR G bH=>?_⟩;have s7:A9 H6 (upd H6 R (.lst (g.map V.int))):=A9.upd hR;have e7:(upd H6 R (.lst (g.map V.int))) R=some (.lst (g.map V.int)):=A5;generalize upd H6 R (.lst (g.map V.int))=H7 at s7 e7⊢;have rQ:g.length=d.length:=G.length_eq;refine⟨R,g,B,rfl,e7,by omega,rS.1,rS.2,λx l=>rT x (G.mem_iff.mp l),Er G bH J cY,?_,λF dn H8 hF s8 eF vD NA hdpw=>?_⟩
  ·have:=(Jp rS.1 rT).mp cO;unfold Cf at this⊢;rw[dk (G.map _)];exact this
  have qE:=s7.trans s8;have eO8:=qE _ _ eO6;have hD8:=qE _ _ DB;have s18:=s16.trans qE;have HP:m.length=d.length:=by rw[mO.length_eq,List.length_range]
  have JQ:dn.length=g.length:=by rw[<- vD,List.length_map]
  have wH:=Ob G bH mO (List.pairwise_map.mpr hopw);have wA:m.Nodup:=mO.nodup_iff.mpr List.nodup_range;have nDO:D≠O:=λe=>by rw[e,eO]at hD;cases hD
  have nDF:D≠F:=λe=>by rw[<- e,s7 _ _ DB]at hF;cases hF
  refine⟨false,false,O,F,rfl,⟨_,B6.of eO8⟩,⟨_,B6.of eF⟩,?_⟩
  refine ba (K:=K) (b1:=false) (b2:=false) (c:=O) (d:=F) (xs:=m.map λ(k:Nat)=>V.int ((k:Nat):Int)) (ys:=dn.map λx=>V.int x.2) (by rw[List.length_map,List.length_map];omega)
   (λi σ f=>Zp λ(n:List V) (X:List (Int×Int)) (v3 v4:Option V)=>Pu (σ=[some (.ref a),some (.ref O),some (.ref D),v3,v4]) (f D=some (.lst n)) (Af (Rk f) X n) (X.map Prod.fst=d) ((∀(j o:Nat) (x:Int×Int),j<i->m[j]?=some o->dn[j]?=some x->X[o]?=some x)) (f O=some (.lst (m.map λ(k:Nat)=>V.int ((k:Nat):Int)))) (f F=some (.lst (dn.map λx=>V.int x.2))) (A9 H f))
   ⟨TZ,_,_,_,rfl,hD8,hA6.imp λr v z=>Rk.up (An.of qE) z,by rw[List.map_map];exact List.map_id d,(λj o x h=>absurd h (by omega)),eO8,eF,s18⟩ (by rintro i σ f _ ⟨_,_,_,_,_,_,_,_,_,u,M,_⟩;exact⟨B6.of u,B6.of M⟩) ?_ ?_
  ·rintro i xo yf T σ H9 ho0 hf0 ⟨n,X,v3,v4,rfl,N,NB,gI,kK,eO9,eF9,s9⟩ S;rw[List.getElem?_map]at ho0 hf0;obtain⟨o,U,rfl⟩:=dm.mp ho0;obtain⟨z,hz,rfl⟩:=dm.mp hf0;have hom:o<d.length:=lP.mp (mO.mem_iff.mp (cb U))
   have hxo:d[o]?=some z.1:=by
    have u:g[i]?=some z.1:=by rw[<- vD,List.getElem?_map,hz];rfl
    rw[<- wH,List.getElem?_map,U]at u;have M:d.getD o 0=z.1:=by simpa using u
    rw[List.getElem?_eq_getElem hom,<- M,List.getD_eq_getElem?_getD,List.getElem?_eq_getElem hom];rfl
   have xP:A9 H9 (upd H9 T (.tup [.int ((o:Nat):Int),.int z.2])):=A9.upd S;have UW:(upd H9 T (.tup [.int ((o:Nat):Int),.int z.2])) T=some (.tup [.int ((o:Nat):Int),.int z.2]):=A5;generalize upd H9 T (.tup [.int ((o:Nat):Int),.int z.2])=BN at xP UW⊢;refine⟨T,_,rfl,Cu.of UW,rfl,_,_,rfl,_,_,rfl,rfl,?_⟩;have NC:=s9.trans xP;have hat1:U9 (d.map V.int) ((o:Nat):Int)=some (.int z.1):=J1 (by rw[List.getElem?_map,hxo];rfl);refine⟨_,rfl,_,rfl,a,_,_,_,rfl,rfl,.inl (B6.of (NC _ _ I)),hat1,_,rfl,C9,λL wI=>?_⟩;have Z:A9 BN (upd BN L (.tup [.int z.1,.int z.2])):=A9.upd wI;have TL:(upd BN L (.tup [.int z.1,.int z.2])) L=some (.tup [.int z.1,.int z.2]):=A5;generalize upd BN L (.tup [.int z.1,.int z.2])=WS at Z TL⊢;have ND:=Z _ _ (xP _ _ N);have hul:n.length=d.length:=by rw[NB.1,<- gI,List.length_map]
   refine⟨_,rfl,_,rfl,D,_,_,_,rfl,rfl,ND,Qj (by omega),?_⟩;have tl:=An.lst (o:=.lst (n.set o (.ref L))) ND;refine⟨n.set o (.ref L),X.set o z,_,_,rfl,A5,((NB.imp λr v w=>Rk.up (((An.of xP).trans (An.of Z)).trans tl) w).set o ⟨L,rfl,tl _ _ TL⟩),?_,λj o' x hj cJ cN=>?_,by rw[Ab (Ne.symm nDO)];exact Z _ _ (xP _ _ eO9),by rw[Ab (Ne.symm nDF)];exact Z _ _ (xP _ _ eF9),(NC.trans Z).new vB⟩
   ·rw[List.map_set,gI];refine List.ext_getElem? λj=>?_;rw[List.getElem?_set];split
    ·rename_i e;subst e;rw[hxo]
    ·rfl
   ·rw[List.getElem?_set];by_cases e:j=i
    ·subst e;rw[U]at cJ;cases cJ;rw[hz]at cN;cases cN;rw[if_pos rfl,if_pos (by rw[<- NB.1];omega)]
    ·rw[if_neg λw=>e ?_]
     ·exact kK j o' x (by omega) cJ cN
     ·subst w;have jI:=bG.mp cJ;have dX:=bG.mp U;have hpn:=List.pairwise_iff_getElem.mp wA;rcases Nat.lt_or_gt_of_ne e with y|y
      ·exact absurd (jI.2.trans dX.2.symm) (hpn j i jI.1 dX.1 y)
      ·exact absurd (dX.2.trans jI.2.symm) (hpn i j dX.1 jI.1 y)
  ·rintro σ H9 ⟨n,X,v3,v4,rfl,N,NB,gI,kK,eO9,eF9,s9⟩;refine⟨_,rfl,?_⟩;rw[List.length_map]at kK;refine q D n X H9 vB s9 N NB gI (xr (dn:=dn) (ord:=m) (by rw[<- gI,List.length_map,List.length_map]) mO (by omega) (λk o x U l=>?_) NA hdpw);have h:=kK k o x (bG.mp U).1 U l;refine⟨?_,by rw[List.getElem?_map,h];rfl⟩;rw[<- gI,List.getElem?_map,h];rfl
def ik(K:W.Frag):Sp:=λa H Q _=>Py λ(w b:Int)=>Jz (a=[.int w,.int b]) (1<=b) (b<=w) (b<2^400) (w<2^400) (∀k:Nat,b*2^k<=w->w<2*(b*2^k)->Q (.int (b*2^k)) H)
theorem uc{d:nr}(F:Dn K "doubling" "doubling" fo ad.fL d):Bf P w K mg base (CX1 P w) 1 ad.fL d ["wait","base"] (ik K):=by
 refine F.okN gm (λu H Q E h=>?_) (λv A c s H u Q E y h=>?_)
 ·rcases h with⟨w,b,rfl,e,o,f,a,q⟩<;>rfl
 ·obtain⟨w,b,rfl,e,o,f,a,q⟩:=h;refine⟨_,(A6 (Ah (i:=2) gm.nd rfl (Or.inl rfl) (Bc Dd (pv 0) (pv 1))) (Aa (Ak (Bc ln (pv 1) (Bc Qs (Qt PySem.F.plainAttrs_int PySem.F.slot_int_bit_length PySem.F.type_int_bit_length Yw (pv 2)) Ad))))),?_⟩;have l:1<=w/b:=(Int.le_ediv_iff_mul_le (by omega)).mpr (by omega);have x:w/b<=w:=Int.ediv_le_self _ (by omega);obtain⟨k,g,p,r⟩:=jt l;obtain⟨i,j⟩:=Y7 e rfl p r;have m:intBits b<=401:=Hh (by omega);have n:intBits (w/b)<=401:=Hh (by omega);refine⟨_,rfl,_,rfl,_,_,rfl,rfl,⟨by omega,by omega⟩,?_⟩;refine⟨_,rfl,_,rfl,rfl,_,rfl,rfl,_,_,rfl,rfl,_,_,rfl,rfl,⟨by omega,by omega⟩,?_⟩;rw[g];show Q (.int (b*2^((k:Nat):Int).toNat)) H;rw[Int.toNat_natCast];exact q k i j
def Vn(K:W.Frag)(aE aH aI aN:Addr):Sp:=λg H Q E=>Pz λ(a:Addr) (c:mv) (b:Int)=>Nx (g=[.ref a,.int b]) (H a=some (.lst (c.map V.int))) (c.length<=100) (b<2^400) ((∀x∈c,x<2^400)) (((b<1\/∃x∈c,x<b)->∀f,A9 H f->E (.ref aE) none f)) ((1<=b->(∀x∈c,b<=x)->∀(p:Addr) (e:mv) (d:Hp),H p=none->A9 H d->d p=some (.lst (e.map V.int))->e.length=c.length->(∀(i:Nat) (x y:Int),c[i]?=some x->e[i]?=some y->∃k:Nat,y=b*2^k/\b*2^k<=x/\x<2*(b*2^k))->Q (.ref p) d))
theorem ui{fd DC:nr}(F:Dn K "doubled" "doubled" Tk ad.dJ fd)(oG:Gk P w K mg base 1 ad.fL ["wait","base"] (ik K) DC):Bf P w K mg base (CX1 P w) 2 ad.dJ fd ["waits","base"] (Vn K aE aH aI aN):=by
 refine F.xV wn (λvs H Q E h=>?_) (λaM A O s H vs Q E hr h=>?_)
 ·rcases h with⟨a,g,b,rfl,G,eX,Y,kR,he,q⟩<;>rfl
 ·obtain⟨a,g,b,rfl,G,eX,Y,kR,he,q⟩:=h;refine⟨_,(A6 (C5 (PW.pt (V7 (Ax Gv (pv 1) Ad (Au _)) (Ip (D2 (Aq (Om rfl) (by rfl) T.yU boot_any (A0 (Cy (Ci (pv 0)) _ rfl Q9 rfl rfl (λ_ _ _ _=>(Al (i:=0) Qp rfl (Or.inl rfl))) (λ_ _ _ _=>Bz) (λ_ _ _ _=>(D5 Gv (pv 0) (pv 1) (Au _)))) A7)))))) (Aa (Gy Na rfl (by rfl) T.eS T.bQ (A0 N7 A7))) Ap) (Aa (Ak (Cy (Ci (pv 0)) _ rfl Qa rfl rfl (λ_ _ _ _=>(Al (i:=0) Qq rfl (Or.inl rfl))) (λ_ _ _ _=>Bz) (λ_ _ _ _=>(Ac oG.g (hr.mono (by decide)) rfl T.LA T.LB oG.b .nil Ao (A0 (pv 0) (A0 (pv 1) A7)))))))),?_⟩;refine⟨_,rfl,_,_,rfl,rfl,_,rfl,(λd c=>A9 H c/\(d=true↔(b<1\/∃x∈g,x<b))),λm=>⟨A9.refl _,λ_=>.inl (by simpa using m),λ_=>rfl⟩,λm=>?_,?_⟩
  ·have B:¬b<1:=by simpa using m
   refine⟨_,rfl,a,rfl,.inl ⟨⟨_,B6.of G⟩,λC hC=>?_⟩⟩;refine Cw (K:=K) (a:=a) (xs:=g.map V.int) (λi f c=>f=((g.take i).map λx=>decide (x<b)).map V.bl/\c C=some (.lst f)/\A9 H c) ⟨rfl,A5,A9.upd hC⟩ (by rintro i f c _ ⟨_,_,s⟩;exact B6.of (s _ _ G)) ?_ ?_
   ·rintro i y f c r ⟨rfl,kS,R⟩ Qe M;rw[List.getElem?_map]at r;obtain⟨x,e,rfl⟩:=dm.mp r;refine⟨_,rfl,_,rfl,_,_,rfl,rfl,?_⟩;refine M _ _ kS (Av ?_) ⟨?_,A5,R.new hC⟩
    ·rw[List.length_map,List.length_map,List.length_take];omega
    ·rw[Jt e,List.map_append,List.map_append];rfl
   rintro f X ⟨rfl,U,o⟩;rw[List.length_map,List.take_length]at U;refine⟨C,_,rfl,B6.of U,_,rfl,o,?_⟩;rw[List.any_map,List.any_eq_true];constructor
   ·rintro⟨x,e,n⟩;exact .inr ⟨x,e,by simpa using n⟩
   ·rintro(z|⟨x,e,n⟩)
    ·exact absurd z B
    ·exact⟨x,e,by simpa using n⟩
  rintro d X ⟨o,n⟩;refine Fc (λm=>?_) (λm=>?_)
  ·exact⟨Jk,λI S=>he (n.mp m) I (o.trans S)⟩
  have zD:¬(b<1\/∃x∈g,x<b):=λz=>m (n.mpr z)
  have B:1<=b:=by
   rcases Int.lt_or_le b 1 with z|z
   ·exact absurd (.inl z) zD
   ·exact z
  have p:∀x∈g,b<=x:=λx e=>by
   rcases Int.lt_or_le x b with z|z
   ·exact absurd (.inr ⟨x,e,z⟩) zD
   ·exact z
  have Z:=o _ _ G;refine⟨_,rfl,a,rfl,.inl ⟨⟨_,B6.of Z⟩,λD L=>?_⟩⟩;refine Cw (K:=K) (a:=a) (xs:=g.map V.int) (λi f c=>∃(l:mv),G8 (f=l.map V.int) (l.length=i) ((∀(j:Nat) (x y:Int),g[j]?=some x->l[j]?=some y->∃k:Nat,y=b*2^k/\b*2^k<=x/\x<2*(b*2^k))) (c D=some (.lst f)) (A9 X c)) ⟨[],rfl,rfl,(λj x y _ z=>by cases z),A5,A9.upd L⟩ (by rintro i f c _ ⟨_,_,_,_,_,s⟩;exact B6.of (s _ _ Z)) ?_ ?_
  ·rintro i y f c r ⟨l,rfl,v,N,fH,R⟩ Qe M;rw[List.getElem?_map]at r;obtain⟨x,e,rfl⟩:=dm.mp r;have hi:=(bG.mp e).1;have hm:=cb e;refine⟨_,rfl,_,rfl,_,_,rfl,B,p x hm,Y,kR x hm,λk f1 f2=>?_⟩;refine M _ _ fH (Av (by rw[List.length_map];omega)) ⟨l++[b*2^k],by rw[List.map_append];rfl,by rw[List.length_append,v];rfl,λj x' y' J u=>?_,A5,R.new L⟩;rcases il j l.length with z|z
   ·rw[List.getElem?_append_left z]at u;exact N j x' y' J u
   ·have hj:j=i:=by
     have:=(bG.mp u).1;rw[List.length_append,List.length_singleton]at this;omega
    subst hj;rw[e]at J;cases J;rw[<- v,List.getElem?_concat_length]at u;cases u;exact⟨k,rfl,f1,f2⟩
  rintro f I ⟨l,rfl,v,N,vF,S⟩;rw[List.length_map]at v;exact q B p D l I (o.free L) (o.trans S) vF v N
def gt(K:W.Frag):Sp:=λa H Q _=>Py λ(w m:Int)=>Rl (a=[.int w,.int m]) (1<=w) (1<=m) (∀r,U3 w m r->Q (.int r) H)
theorem si{g:nr}(F:Dn K "halved_down" "halved_down" f9 ad.fM g):Bf P w K mg base (CX1 P w) 1 ad.fM g ["wait","most"] (gt K):=by
 refine F.okN gc (λJ H Q E h=>?_) (λO A f s H J Q E S h=>?_)
 ·rcases h with⟨w,m,rfl,n,D,q⟩<;>rfl
 ·obtain⟨w,m,rfl,n,D,q⟩:=h;refine⟨_,(A6 (Gz i0 (Ax N4 (pv 0) (pv 1) (Au _)) (Aa (Ah (i:=0) gc.nd rfl (Or.inl rfl) (Bc lm (pv 0) Ad)))) (Aa (Ak (pv 0)))),?_⟩;refine He (λa b=>Py λ(c:Int) (j:Nat)=>G8 (a=[some (.int c),some (.int m)]) (1<=c) (c=w/2^j) ((∀i,i<j->m<w/2^i)) (b=H)) (λ(a:L2.St) (_:L2.Hp)=>match a[0]? with|some (some (V.int y))=>y.toNat|_=>0) ⟨w,0,rfl,n,by simp,(λi h=>absurd h (kE _)),rfl⟩ ?_ ?_
  ·rintro a b ⟨c,j,rfl,L,e,l,rfl⟩;refine⟨_,rfl,_,rfl,_,_,rfl,rfl,_,rfl,Fc (λd=>?_) (λd=>?_)⟩
   ·have o:m<c:=by simpa using d
    refine⟨_,rfl,_,_,rfl,rfl,⟨by decide,by decide⟩,⟨c/2,j+1,rfl,by omega,by rw[Oz (by omega),<- e],λi R=>?_,rfl⟩,?_⟩
    ·rcases il i j with z|z
     ·exact l i z
     ·rw[show i=j by omega,<- e];exact o
    ·show(c/2).toNat<c.toNat;omega
   ·have C:¬m<c:=by simpa using d
    exact⟨_,rfl,q c ⟨L,by omega,j,e,l⟩⟩
  ·rintro a b M N B ⟨v,p,I,G,i,j,r,u,c,x,z⟩;exact⟨v,p,I,G,i,j,r,u,c,x,B _ _ z⟩
def ie(K:W.Frag)(aE aH aI aN:Addr):Sp:=λe H Q E=>Py λ(a:Addr) (b:mv)=>Jz (e=[.ref a]) (H a=some (.lst (b.map V.int))) (b.length<64) ((∀x∈b,x<2^400)) (((b=[]\/∃x∈b,x<1)->∀d,A9 H d->E (.ref aE) none d)) ((b≠[]->(∀x∈b,1<=x)->∀(r:mx) (c:Hp),A9 H c->Iw b r->Q (vO r) c))
theorem u4{fd DD mS mT:nr}(F:Dn K "best_base" "best_base" Tj ad.fN fd)(oH:Gk P w K mg base 1 ad.fM ["wait","most"] (gt K) DD)(gL:Gk P w K mg base 4 ad.dH ["periods"] (Vk K) mS)(gM:Gk P w K mg base 2 ad.dJ ["waits","base"] (Vn K aE aH aI aN) mT):Bf P w K mg base (CX1 P w) 5 ad.fN fd ["waits"] (ie K aE aH aI aN):=by
 refine F.xV Vc (λvs H Q E h=>?_) (λaM A outer s H vs Q E o h=>?_)
 ·rcases h with⟨a,d,rfl,J,eX,kR,he,q⟩<;>rfl
 ·obtain⟨a,d,rfl,J,eX,kR,he,q⟩:=h;refine⟨_,(A6 (C5 (PW.pt (Iq (Ax Ta (Aq (Bt K) (by rfl) T.bP PySem.boot_len (A0 (pv 0) A7)) Ad (Au _)) (Ip (Ax Gv (Aq (Hi rfl) (by rfl) T.lO boot_min (A0 (pv 0) A7)) Ad (Au _))))) (Aa (Gy Na rfl (by rfl) T.eS T.bQ (A0 N7 A7))) Ap) (A6 (Ah (i:=1) Vc.nd rfl (Or.inr rfl) (Aq (Hi rfl) (by rfl) T.lO boot_min (A0 (pv 0) A7))) (A6 (Cs (i:=2) Vc.nd rfl (Ci (pv 0)) _ rfl M6 rfl rfl (λ_ _ _ _=>(Al (i:=0) Mv rfl (Or.inl rfl))) (λ_ _ _ _=>Bz) (λ_ _ _ _=>(Ac oH.g (o.mono (by decide)) rfl T.LC T.LD oH.b .nil Ao (A0 (pv 0) (A0 (pv 1) A7)))) rfl rfl) (Aa (Ak (lw rfl (by rfl) T.rN boot_max (A0 (Cy (Ci (V3 rfl (by rfl) T.bO (by rfl) T.MQ (A0 (pv 2) A7))) _ rfl M7 rfl rfl (λ_ _ _ _=>(Al (i:=0) Mw rfl (Or.inl rfl))) (λ_ _ _ _=>(Qx (D2 (Ac gL.g (o.mono (by decide)) rfl T.yK T.yL gL.b .nil Ao (A0 (Ac gM.g (o.mono (by decide)) rfl T.yM T.yN gM.b .nil Ao (A0 (pv 1) (A0 (pv 0) A7))) A7))))) (λ_ _ _ _=>(pv 0))) A7) Bq)))))),?_⟩;refine⟨_,rfl,a,_,rfl,.inl (B6.of J),rfl,_,rfl,decide (∃x∈d,x<1),λC Q' z=>?_,?_⟩
  ·have aX:d≠[]:=by
    rintro rfl;simp at C
   refine⟨_,rfl,a,d,rfl,B6.of J,List.length_pos_iff.mpr aX,λm M N=>?_⟩;refine⟨_,_,rfl,rfl,_,rfl,?_⟩
   have e:decide (m<1)=decide (∃x∈d,x<1):=by
    by_cases l:m<1
    ·rw[decide_eq_true l,decide_eq_true ⟨m,M,l⟩]
    ·rw[decide_eq_false l,decide_eq_false];rintro⟨x,f,h2⟩;have:=N x f;omega
   rw[e];exact z
  refine Fc (λC=>?_) (λC=>?_)
  ·refine⟨Jk,λH2 s2=>he ?_ H2 s2⟩;rcases Bool.or_eq_true _ _▸C with l|l
   ·left;have:d.length=0:=by simpa using l
    exact List.length_eq_zero_iff.mp this
   ·exact .inr (of_decide_eq_true l)
  have UX:=Bool.eq_false_iff.mpr C;rw[Bool.or_eq_false_iff]at UX
  have aX:d≠[]:=by
   rintro rfl;simp at UX
  have l:∀x∈d,1<=x:=λx f=>by
   rcases Int.lt_or_le x 1 with z|z
   ·exact absurd ⟨x,f,z⟩ (of_decide_eq_false UX.2)
   ·exact z
  have q:=q aX l;clear C UX he;refine⟨_,rfl,a,d,rfl,B6.of J,List.length_pos_iff.mpr aX,λm M N=>?_⟩;have lB:=l m M;refine⟨_,rfl,a,rfl,.inl ⟨⟨_,B6.of J⟩,λD hD=>?_⟩⟩;refine Cw (K:=K) (a:=a) (xs:=d.map V.int) (λi I g=>∃(bs:mv),G8 (I=bs.map V.int) (bs.length=i) ((∀(j:Nat) (x b:Int),d[j]?=some x->bs[j]?=some b->U3 x m b)) (g D=some (.lst I)) (A9 H g)) ⟨[],rfl,rfl,(λj x y _ z=>by cases z),A5,A9.upd hD⟩ (by rintro i v g _ ⟨_,_,_,_,_,s⟩;exact B6.of (s _ _ J)) ?_ ?_
  ·rintro i y I g u ⟨bs,rfl,NF,zE,fH,s'⟩ Qe U;rw[List.getElem?_map]at u;obtain⟨x,f,rfl⟩:=dm.mp u;have hi:=(bG.mp f).1;refine⟨_,rfl,_,rfl,x,m,rfl,l x (cb f),lB,λr o=>?_⟩;refine U _ _ fH (Av (by rw[List.length_map];omega)) ⟨bs++[r],by rw[List.map_append];rfl,by rw[List.length_append,NF];rfl,λj x' b' cN iR=>?_,A5,s'.new hD⟩;rcases il j bs.length with z|z
   ·rw[List.getElem?_append_left z]at iR;exact zE j x' b' cN iR
   ·have L:j=i:=by
     have:=(bG.mp iR).1;rw[List.length_append,List.length_singleton]at this;omega
    subst L;rw[f]at cN;cases cN;rw[<- NF,List.getElem?_concat_length]at iR;cases iR;exact o
  rintro I H1 ⟨bs,rfl,NF,zE,vE,s1⟩;rw[List.length_map]at NF
  have DE:∀w∈d,∃r∈bs,U3 w m r:=λw hw=>by
   obtain⟨j,L⟩:=gy.mp hw;have jI:=(bG.mp L).1;have n:bs[j]?=some (bs[j]'(by omega)):=dt (by omega);exact⟨_,cb n,zE j _ _ L n⟩
  have Y:∀b∈bs,1<=b/\b<=m:=λb n=>by
   obtain⟨j,L⟩:=gy.mp n;have jI:=(bG.mp L).1;have f:d[j]?=some (d[j]'(by omega)):=dt (by omega);have:=zE j _ _ f L;exact⟨this.1,this.2.1⟩
  refine⟨_,rfl,D,bs,rfl,B6.of vE,by omega,λR v hR rQ hym hysort=>?_⟩;have s2:A9 H1 (upd H1 R (.lst (v.map V.int))):=A9.upd hR;have e2:(upd H1 R (.lst (v.map V.int))) R=some (.lst (v.map V.int)):=A5;generalize upd H1 R (.lst (v.map V.int))=H2 at s2 e2⊢;have UY:=s1.trans s2
  have jJ:∀w∈d,∃r∈v,U3 w m r:=λw hw=>by
   obtain⟨r,o,h⟩:=DE w hw;exact⟨r,(hym r).mpr o,h⟩
  have iK:∀y∈v,1<=y/\y<=m:=λy u=>Y y ((hym y).mp u);refine⟨R,rfl,.inl ⟨⟨_,B6.of e2⟩,λG hG=>?_⟩⟩;refine Ly (K:=K) (a:=R) (xs:=v.map V.int) (λi I g=>I=((v.take i).filter λy=>decide (Ba (d.map (Du y)))).map V.int/\g G=some (.lst I)/\A9 H2 g) ⟨rfl,A5,A9.upd hG⟩ (by rintro i I g _ ⟨_,_,s⟩;exact B6.of (s _ _ e2)) ?_ ?_ ?_ ?_
  ·rintro i y I g u ⟨rfl,hG',s'⟩;rw[List.getElem?_map]at u;obtain⟨b,n,rfl⟩:=dm.mp u;have vA:=cb n;have hi:=(bG.mp n).1;have DF:=iK b vA;have iV:∀x∈d,b<=x:=λx f=>la DF.2 (N x f);have qV:=s'.trans (A9.refl _) _ _ (UY _ _ J);refine⟨_,rfl,_,rfl,a,d,b,rfl,qV,by omega,?_,kR,λz=>?_,λ_ _ p zs H4 hp s4 e4 jK hz=>?_⟩
   ·have:=kR m M;omega
   ·rcases z with z|⟨x,f,z⟩
    ·omega
    ·have:=iV x f;omega
   have ez:=jg DF.1 jK hz;subst ez;obtain⟨B,hB1,hB2,hB3⟩:=jw DF.1 λx f=>⟨iV x f,kR x f⟩;refine⟨p,_,B,rfl,B6.of e4,by rw[List.length_map];omega,hB1,hB2,hB3,λH5 s5=>?_⟩;have s45:=s'.trans (s4.trans s5);have S:=s5 _ _ (s4 _ _ hG');refine⟨_,rfl,Fc (λC=>?_) (λC=>?_)⟩
   ·refine⟨_,rfl,S,Av ?_,?_,A5,s45.new hG⟩
    ·rw[List.length_map];have:=List.length_filter_le (λy=>decide (Ba (d.map (Du y)))) (v.take i);rw[List.length_take]at this;omega
    ·rw[Jt n,List.filter_append,List.map_append,List.filter_cons,if_pos C];rfl
   ·refine⟨?_,S,s45⟩;rw[Jt n,List.filter_append,List.filter_cons,if_neg C,List.filter_nil,List.append_nil]
  ·rintro σ g Q1 Q2 U ⟨v1,f1,v2,f2,a',JI,b',f3,g1,g2,g3,g4,ge,hq⟩;refine⟨v1,f1,v2,f2,a',JI,b',f3,g1,g2,g3,g4,ge,λz1 z2 p pY H3 k1 k2 k3 k4 k5=>?_⟩;obtain⟨a2,xs2,B2,l1,l2,l3,l4,l5,l6,hq2⟩:=hq z1 z2 p pY H3 k1 k2 k3 k4 k5;refine⟨a2,xs2,B2,l1,l2,l3,l4,l5,l6,λH4 s4=>?_⟩;obtain⟨c,ec,hq3⟩:=hq2 H4 s4;exact⟨c,ec,U _ _ hq3⟩
  ·rintro σ g Q1 Q2 U ⟨v1,f1,z⟩;exact⟨v1,f1,U _ _ z⟩
  rintro I H3 ⟨rfl,O,s3⟩;rw[List.length_map,List.take_length]at O;have UZ:=UY.trans s3;refine⟨G,_,rfl,rfl,B6.of O,λZ=>?_,λb n CT=>?_⟩
  ·refine q none H3 UZ (Xs M N jJ λy u o=>?_);have:y∈v.filter λy=>decide (Ba (d.map (Du y))):=l7.mpr ⟨u,decide_eq_true o⟩;rw[Z]at this;cases this
  ·obtain⟨X,MX⟩:=l7.mp n;refine q (some b) H3 UZ (Xu M N jJ (iK b X).1 (iK b X).2 (of_decide_eq_true MX) λy u o=>CT y (l7.mpr ⟨u,decide_eq_true o⟩))
def ig(K:W.Frag)(aE aH aI aN:Addr):Sp:=λh H Q E=>Py λ(a:Addr) (c:mv)=>Pu (h=[.ref a]) (H a=some (.lst (c.map V.int))) (c.length<64) ((∀x∈c,x<2^400)) (H aN=some (.tab lamQ lamP)) (((c=[]\/∃x∈c,x<1)->∀f,A9 H f->E (.ref aE) none f)) ((c≠[]->(∀x∈c,1<=x)->Iw c none->∀d,A9 H d->Q .aP d)) ((c≠[]->(∀x∈c,1<=x)->∀(b:Int) (t p:Addr) (g:List V) (e:List (Int×Int)) (d:Hp),Iw c (some b)->A9 H d->H t=none->H p=none->d t=some (.tup [.int b,.ref p])->d p=some (.lst g)->Af (Rk d) e g->e.map Prod.fst=c.map (Du b)->qb (c.map (Du b)) (e.map Prod.snd)->Q (.ref t) d))
theorem u5{I DG DH mT:nr}(F:Dn K "wheel_for" "wheel_for" fj ad.fO I)(R:Gk P w K mg base 5 ad.fN ["waits"] (ie K aE aH aI aN) DG)(S:Gk P w K mg base 5 ad.cB ["periods"] (gs K aE aH aI aN) DH)(J:Gk P w K mg base 2 ad.dJ ["waits","base"] (Vn K aE aH aI aN) mT):Bf P w K mg base (CX1 P w) 6 ad.fO I ["waits"] (ig K aE aH aI aN):=by
 refine F.xV gk (λvs H Q E h=>?_) (λaM A C s H vs Q E q h=>?_)
 ·rcases h with⟨a,c,rfl,o,n,d,M,N,U,X⟩<;>rfl
 ·obtain⟨a,c,rfl,o,n,d,M,N,U,X⟩:=h;refine⟨_,(A6 (Ah (i:=1) gk.nd rfl (Or.inl rfl) (N6 R.g (q.mono (by decide)) rfl T.LF T.LG R.b .nil d9 (A0 (pv 0) A7))) (A6 (C5 (Ax Fo (pv 1) Bq (Au _)) (Aa (Ak Bq)) Ap) (Aa (Ak (Cr (A0 (pv 1) (A0 (N6 S.g (q.mono (by decide)) rfl T.KZ T.oA S.b .nil d9 (A0 (N6 J.g (q.mono (by decide)) rfl T.yM T.yN J.b .nil d9 (A0 (pv 0) (A0 (pv 1) A7))) A7)) A7))))))),?_⟩;refine⟨_,rfl,E,λ_ _ _ z=>z,a,c,rfl,o,n,d,N,λi L r H1 g l=>?_⟩;cases r with
  |none=>
   refine⟨_,rfl,rfl,_,rfl,Ia rfl ?_⟩;exact U i L l H1 g
  |some b=>
   refine⟨_,rfl,rfl,_,rfl,D6 rfl ?_⟩;have cH:=g _ _ o;obtain⟨m,B,MX,_⟩:=id l
   have HU:b<2^400:=by
    cases c with
    |nil=>exact absurd rfl i
    |cons x c=>exact iQ (B x cL) (d x cL)
   refine⟨_,rfl,_,rfl,_,rfl,E,λ_ _ _ z=>z,a,c,b,rfl,cH,by omega,HU,d,λz=>?_,λ_ _ p zs H2 hp Y e2 jK hz=>?_⟩
   ·rcases z with z|⟨x,e,z⟩
    ·omega
    ·have:=B x e;omega
   have ez:=jg m jK hz;subst ez
   have f:∀y∈c.map (Du b),1<=y/\y<2^4000:=λy f=>by
    obtain⟨x,e,rfl⟩:=eH.mp f;have h2:=Ke (x:=x) m;have h3:=(Gm m (B x e)).1;have h4:=d x e;have k:(2:Int)^400<2^4000:=by decide+kernel
    exact⟨by omega,iQ h3 (Int.lt_trans h4 k)⟩
   have wI:=Y _ _ (g _ _ M);refine⟨E,λ_ _ _ z=>z,p,_,rfl,e2,by rw[List.length_map];exact n,λy h=>(f y h).2,wI,(λ⟨y,h,z⟩=>absurd z (by have:=(f y h).1;omega)),(λ_ z=>absurd (Kd b c) z),(λ_ _ z=>absurd MX z),λ_ _ _ w us rs G hw Z e3 all gI u=>?_⟩;refine⟨C9,λt O=>?_⟩;have j:=g.trans Y;have D:A9 G (upd G t (.tup [.int b,.ref w])):=A9.upd O;exact X i L b t w us rs _ l (j.trans (Z.trans D)) ((j.trans Z).free O) (j.free hw) A5 (D _ _ e3) (all.imp λr v z=>Rk.up (An.of D) z) gI u
def im(K:W.Frag):Sp:=λd H Q _=>Py λ(a:Addr) (b:mv)=>G8 (d=[.ref a]) (B6 K H a (b.map V.int)) (b.length<=3) ((∀x∈b,1<=x/\x<=5)) (∀(c:Hp),A9 H c->Q (if(Cf ((C8 b:Nat):Int) b).sum>((C8 b:Nat):Int)then .int ((C8 b:Nat):Int)else .aP) c)
theorem ud{p S:nr}(F:Dn K "too_much" "too_much" Xg ad.fP p)(r:Gk P w K mg base 2 ad.dG ["numbers"] (Vj K) S):Bf P w K mg base (CX1 P w) 3 ad.fP p ["waits"] (im K):=by
 refine F.okN Ve (λY H Q E h=>?_) (λaM A o s H Y Q E R h=>?_)
 ·rcases h with⟨a,b,rfl,e,I,g,q⟩<;>rfl
 ·obtain⟨a,b,rfl,e,I,g,q⟩:=h;refine⟨_,(A6 (Ah (i:=1) Ve.nd rfl (Or.inr rfl) (Ac r.g (R.mono (by decide)) rfl T.yI T.yJ r.b .nil Ao (A0 (pv 0) A7))) (A6 (Ah (i:=2) Ve.nd rfl (Or.inl rfl) (Aq (On rfl) (by rfl) T.yS boot_sum (A0 (Cy (Ci (pv 0)) _ rfl O1 rfl rfl (λ_ _ _ _=>(Al (i:=0) O7 rfl (Or.inl rfl))) (λ_ _ _ _=>Bz) (λ_ _ _ _=>(Bc Dd (pv 1) (pv 0)))) A7))) (Aa (Ak (Tb (Ax N4 (pv 2) (pv 1) (Au _)) (pv 1) Bq))))),?_⟩;have f:∀x∈b,1<=x/\x<2^102:=λx h=>by have:=g x h;omega
  refine⟨_,rfl,a,b,60,rfl,e,by decide,by decide+kernel,(λx h=>⟨(g x h).1,ny (g x h)⟩),?_⟩;have M:=ck f;have O:=Yq f;have m:=kx f (show b.length<=80 by omega);generalize C8 b=L at M O m q⊢;refine⟨_,rfl,a,rfl,.inl ⟨⟨_,e⟩,λD u=>?_⟩⟩;refine Cw (K:=K) (a:=a) (xs:=b.map V.int) (λi c d=>c=(Cf (L:Int) (b.take i)).map V.int/\d D=some (.lst c)/\A9 H d) ⟨rfl,A5,A9.upd u⟩ (by rintro i c d _ ⟨_,_,s⟩;exact s.seq e) ?_ ?_
  ·rintro i y c d B ⟨rfl,J,U⟩ Qe N;rw[List.getElem?_map]at B;obtain⟨n,v,rfl⟩:=dm.mp B;have Z:=f n (cb v);have l:(0:Int)<n:=by omega
   refine⟨_,rfl,_,rfl,_,_,rfl,rfl,⟨l,dI (Hh (n:=102) (by omega)) (by decide)⟩,?_⟩;refine N _ _ J (Av ?_) ⟨?_,A5,U.new u⟩
   ·rw[List.length_map];unfold Cf;rw[List.length_map,List.length_take];omega
   ·rw[E5 v,Os,List.map_append];rfl
  rintro c G ⟨rfl,C,X⟩;rw[List.length_map,List.take_length]at C;refine⟨D,_,rfl,B6.of C,?_⟩;refine⟨_,rfl,_,rfl,_,_,rfl,rfl,_,rfl,?_⟩;have j:=q G X;by_cases z:(Cf (L:Int) b).sum>(L:Int)
  ·rw[if_pos z]at j;exact Ia (decide_eq_true z) ⟨_,rfl,j⟩
  ·rw[if_neg z]at j;exact D6 (jE z) j
def ir(K:W.Frag):Sp:=λf H Q _=>Pz λ(a:Addr) (b:mv) (e:mx)=>Nx (f=[.ref a,vO e]) (H a=some (.lst (b.map V.int))) (0<b.length) (b.length<=8) ((∀x∈b,1<=x)) ((∀c,e=some c->1<=c)) (∀(p:Addr) (d:Hp),A9 H d->Bk d p b e->Q (.ref p) d)
theorem uj{l:nr}(F:Rn K "hall_of" "hall_of" G3 ad.cC l):Bf P w K mg base (CX1 P w) 1 ad.cC l ["waits","calm"] (ir K):=by
 refine F.okN wq (λB H Q E h=>?_) (λD A g s H B Q E G h=>?_)
 ·rcases h with⟨a,b,f,rfl,d,i,C,j,n,q⟩<;>rfl
 ·obtain⟨a,b,f,rfl,d,i,C,j,n,q⟩:=h;refine⟨_,(A6 (C5 (PW.pt (Iq (Ax Gv (Aq (Bt K) (by rfl) T.bP PySem.boot_len (A0 (pv 0) A7)) Ad (Au _)) (Ip (Ax N4 (Aq (Bt K) (by rfl) T.bP PySem.boot_len (A0 (pv 0) A7)) (Wz (v:=.int 8) (by rfl) T.eP.choose_spec ⟨_,rfl⟩) (Au _))))) (Aa Fd) Ap) (A6 (C5 (Ax Gv (Aq (Hi rfl) (by rfl) T.lO boot_min (A0 (pv 0) A7)) Ad (Au _)) (Aa Fd) Ap) (A6 (C5 (PW.pt (X4 (Ax Ho (pv 1) Bq (Au _)) (X3 (Ax Gv (pv 1) Ad (Au _))))) (Aa Fd) Ap) (Aa (Ak (Cr (A0 (Cc D3 (by rfl) T.cF boot_tuple (A0 (pv 0) A7)) (A0 (pv 1) A7)))))))),?_⟩;refine⟨_,rfl,a,_,rfl,.inl (B6.of d),_,_,rfl,rfl,_,rfl,false,λ_ r z=>⟨_,rfl,a,_,rfl,.inl (B6.of d),_,_,rfl,rfl,_,rfl,?_⟩,D6 ?_ ?_⟩
  ·have e:decide (((b.map V.int).length:Int)>8)=false:=jE (by rw[List.length_map];omega)
   first|(rw[e];exact z)|(rw[show decide ((8:Int)<((b.map V.int).length:Int))=false from decide_eq_false (by rw[List.length_map];omega)];exact z)
  ·rw[decide_eq_false (show¬((b.map V.int).length:Int)<1 by rw[List.length_map];omega)];rfl
  refine⟨_,rfl,a,b,rfl,B6.of d,i,λm u _=>⟨_,_,rfl,rfl,_,rfl,D6 ?_ ?_⟩⟩
  ·have:=j m u;exact jE (by omega)
  refine⟨_,rfl,rfl,_,rfl,false,λe r z=>?_,D6 ?_ ?_⟩
  ·cases f with
   |none=>simp[vO]at e
   |some c=>
    have:=n c rfl;refine⟨_,rfl,_,_,rfl,rfl,_,rfl,?_⟩;rw[decide_eq_false (show¬c<1 by omega)];exact z
  ·rw[Bool.and_false]
  refine⟨_,rfl,a,_,rfl,.inl ⟨B6.of d,λt x=>⟨_,rfl,C9,λp v=>?_⟩⟩⟩;have y:A9 H (upd H t (.tup (b.map V.int))):=A9.upd x;have o:A9 (upd H t (.tup (b.map V.int))) (upd (upd H t (.tup (b.map V.int))) p (.tup [.ref t,vO f])):=A9.upd v;exact q p _ (y.trans o) ⟨t,A5,o _ _ A5⟩
def Re(K:W.Frag):Sp:=λe H Q _=>Pz λ(a:Addr) (c:mv) (d:mx)=>Xn (e=[.ref a]) (Bk H a c d) (∀(p:Addr) (b:Hp),A9 H b->Dp b p c 0->Q (.ref p) b)
theorem u6{c:nr}(F:Dn K "beginning" "beginning" fk ad.cP c):Bf P w K mg base (CX1 P w) 1 ad.cP c ["hall"] (Re K):=by
 refine F.okN wk (λi H Q E h=>?_) (λl A b s H i Q E m h=>?_)
 ·rcases h with⟨a,j,g,rfl,⟨t,d,f⟩,q⟩<;>rfl
 ·obtain⟨a,j,g,rfl,⟨t,d,f⟩,q⟩:=h;refine⟨_,(Aa (Ak (Cr (A0 (C4 (C0 K) (pv 0) Ad (λ_ _=>rfl)) (A0 Ad A7))))),?_⟩;refine⟨_,rfl,a,_,_,_,rfl,rfl,.inr (Cu.of d),rfl,?_⟩;exact⟨C9,λp e=>q p _ (A9.upd e) ⟨t,A5,A9.upd e _ _ f⟩⟩
def Rf(K:W.Frag):Sp:=λe H Q _=>y6 λ(a b:Addr) (f d:mv) (c:mx) (q:Int)=>Rl (e=[.ref a,.ref b]) (Bk H a f c) (Dp H b d q) (Q (.bl (!decide (c=none)&&decide (q=0))) H)
theorem ue{e:nr}(F:Dn K "may_lose" "may_lose" fq ad.cQ e):Bf P w K mg base (CX1 P w) 1 ad.cQ e ["hall","standing"] (Rf K):=by
 refine F.okN wm (λl H Q E h=>?_) (λp A d s H l Q E r h=>?_)
 ·rcases h with⟨a,b,m,j,c,n,rfl,⟨t,f,_⟩,⟨u,g,_⟩,q⟩<;>rfl
 ·obtain⟨a,b,m,j,c,n,rfl,⟨t,f,_⟩,⟨u,g,_⟩,q⟩:=h;refine⟨_,(Aa (Ak (Lk (D5 Ho (C4 (C0 K) (pv 0) Ad (λ_ _=>rfl)) Bq (Au _)) (Qu (D5 Ta (C4 (C0 K) (pv 1) Ad (λ_ _=>rfl)) Ad (Au _)))))),?_⟩;refine⟨_,rfl,a,_,_,_,rfl,rfl,.inr (Cu.of f),rfl,rfl,_,decide (V.int n=V.int 0),rfl,λ_ o z=>⟨_,rfl,b,_,_,_,rfl,rfl,.inr (Cu.of g),rfl,rfl,z⟩,?_⟩;have i:decide (V.int n=V.int 0)=decide (n=0):=by simp
  rw[xq,i];exact q
def gu(K:W.Frag):Sp:=λe H Q _=>Zp λ(a:Addr) (d:mv) (c:mx) (b:Int)=>Xn (e=[.ref a,.int b]) (Bk H a d c) (Q (.bl (decide (0<=b/\b<d.length))) H)
theorem sj{g:nr}(F:Dn K "is_listener" "is_listener" fb ad.fQ g):Bf P w K mg base (CX1 P w) 1 ad.fQ g ["hall","who"] (gu K):=by
 refine F.okN we (λi H Q E h=>?_) (λl A d s H i Q E m h=>?_)
 ·rcases h with⟨a,c,b,who,rfl,⟨t,e,f⟩,q⟩<;>rfl
 ·obtain⟨a,c,b,who,rfl,⟨t,e,f⟩,q⟩:=h;refine⟨_,(Aa (Ak (Lk (D5 zj (pv 1) Ad (Au _)) (Qu (D5 Gv (pv 1) (Aq (Bt K) (by rfl) T.bP PySem.boot_len (A0 (C4 (C0 K) (pv 0) Ad (λ_ _=>rfl)) A7)) (Au _)))))),?_⟩;refine⟨_,rfl,_,_,rfl,rfl,_,decide (who<(c.length:Int)),rfl,λ_ j z=>⟨_,rfl,_,rfl,a,_,_,_,rfl,rfl,.inr (Cu.of e),rfl,t,_,rfl,.inr (Cu.of f),_,_,rfl,rfl,?_⟩,?_⟩
  ·rw[List.length_map];exact z
  ·rw[show(decide (who>=0)&&decide (who<(c.length:Int)))=decide (0<=who/\who<(c.length:Int))by rw[Bool.decide_and]];exact q
def oq(K:W.Frag):Sp:=λh H Q _=>ph λ(a b:Addr) (f g:mv) (c:mx) (q:Int) (e:Nat) (d:Bool)=>Jz (h=[.ref a,.ref b,.int e,.bl d]) (Bk H a f c) (Dp H b g q) (e<f.length) (U4 c q d) (Q .aP H)
theorem yz{i r y:nr}(F:Dn K "refuse_wrong_turn" "refuse_wrong_turn" vv ad.lD i)(p:Gk P w K mg base 1 ad.fQ ["hall","who"] (gu K) r)(g:Gk P w K mg base 1 ad.cQ ["hall","standing"] (Rf K) y):Bf P w K mg base (CX1 P w) 2 ad.lD i ["hall","standing","who","lost"] (oq K):=by
 refine F.okN A00 (λB H Q E h=>?_) (λD A f s H B Q E m h=>?_)
 ·rcases h with⟨a,b,e,o,c,n,who,lost,rfl,d,j,x,l,q⟩<;>rfl
 ·obtain⟨a,b,e,o,c,n,who,lost,rfl,d,j,x,l,q⟩:=h;refine⟨_,(A6 (C5 (Dw (D2 (Ac p.g (m.mono (by decide)) rfl T.LK T.LL p.b .nil Ao (A0 (pv 0) (A0 (pv 2) A7))))) (Aa Fd) Ap) (Aa (C5 (PW.pt (X4 (D2 (pv 3)) (X3 (Dw (D2 (Ac g.g (m.mono (by decide)) rfl T.rB T.rC g.b .nil Ao (A0 (pv 0) (A0 (pv 1) A7)))))))) (Aa Fd) Ap))),?_⟩;obtain⟨t,G,I⟩:=id d;refine⟨_,rfl,_,rfl,a,e,c,(who:Int),rfl,d,_,rfl,D6 ?_ ?_⟩
  ·rw[decide_eq_true (show(0:Int)<=(who:Int)/\(who:Int)<(e.length:Int)by omega)];rfl
  refine⟨_,rfl,_,rfl,!(!decide (c=none)&&decide (n=0)),λ_ C z=>⟨_,rfl,_,rfl,a,b,e,o,c,n,rfl,d,j,_,rfl,z⟩,D6 ?_ q⟩;cases lost with
  |false=>rfl
  |true=>
   obtain⟨u,v⟩:=l rfl;simp[u,v]
def gw(K:W.Frag):Sp:=λi H Q _=>ph λ(a b:Addr) (f h:mv) (d:mx) (q:Int) (e:Nat) (c:Bool)=>Pu (i=[.ref a,.ref b,.int e,.bl c]) (Bk H a f d) (Dp H b h q) (e<f.length) (h.length=f.length) (f.length<=8) (U4 d q c) (∀(l:Addr) (g:Hp),H l=none->A9 H g->g l=some (.lst ((Aw f h e c).map V.int))->Q (.ref l) g)
theorem sk{G O:nr}(F:Dn K "left_behind" "left_behind" X9 ad.fR G)(N:Gk P w K mg base 2 ad.lD ["hall","standing","who","lost"] (oq K) O):Bf P w K mg base (CX1 P w) 3 ad.fR G ["hall","standing","who","lost"] (gw K):=by
 refine F.okN gf (λvs H Q E h=>?_) (λaM A z s H vs Q E hr h=>?_)
 ·rcases h with⟨a,b,C,f,d,n,who,lost,rfl,p,r,v,hl,Z,J,q⟩<;>rfl
 ·obtain⟨a,b,C,f,d,n,who,lost,rfl,p,r,v,hl,Z,J,q⟩:=h;refine⟨_,(A6 (De (Ac N.g (hr.mono (by decide)) rfl T.YV T.YW N.b .nil Ao (A0 (pv 0) (A0 (pv 1) (A0 (pv 2) (A0 (pv 3) A7)))))) (A6 (Cs (i:=4) gf.nd rfl (Ci (C4 (C0 K) (pv 1) Ad (λ_ _=>rfl))) _ rfl K7 rfl rfl (λ_ _ _ _=>(Al (i:=0) Kl rfl (Or.inl rfl))) (λ_ _ _ _=>Bz) (λ_ _ _ _=>(Bc Qs (pv 0) Ad)) rfl rfl) (A6 (Fs (Dw (D2 (pv 3))) (Aa (V6 (C4 (C0 K) (C4 (C0 K) (pv 0) Ad (λ_ _=>rfl)) (pv 2) (λ_ _=>rfl)) (V4 (pv 4) (pv 2) Nl))) Ap) (Aa (Ak (pv 4)))))),?_⟩;obtain⟨t,R,U⟩:=id p;obtain⟨u,S,I⟩:=id r;refine⟨_,rfl,_,rfl,_,rfl,_,rfl,a,b,C,f,d,n,who,lost,rfl,p,r,v,J,?_⟩;refine⟨_,rfl,b,_,_,_,rfl,rfl,.inr (Cu.of S),rfl,u,rfl,.inr ⟨⟨_,Cu.of I⟩,λD l=>?_⟩⟩;refine aa (K:=K) (a:=u) (xs:=f.map V.int) (λi g c=>g=((f.take i).map (λx=>x-1)).map V.int/\c D=some (.lst g)/\A9 H c) ⟨rfl,A5,A9.upd l⟩ (by rintro i g c _ ⟨_,_,s⟩;exact Cu.of (s _ _ I)) ?_ ?_
  ·rintro i x g c L ⟨rfl,Y,s'⟩ Qe hQ;rw[List.getElem?_map]at L;obtain⟨y,M,rfl⟩:=dm.mp L;have hi:=(bG.mp M).1;refine⟨_,rfl,_,_,rfl,rfl,hQ _ _ Y (Av (by simp;omega)) ⟨?_,A5,s'.new l⟩⟩;rw[List.take_add_one,M];simp
  rintro g H2 ⟨rfl,B,m⟩;rw[List.length_map,List.take_length]at B;refine⟨_,rfl,_,rfl,(λj c=>j=[some (.ref a),some (.ref b),some (.int (who:Nat)),some (.bl lost),some (.ref D)]/\A9 H c/\c D=some (.lst ((Aw C f who lost).map V.int))),λe=>?_,λe=>?_,?_⟩
  ·have o:lost=false:=by simpa using e
   subst o;refine⟨_,rfl,a,_,_,_,rfl,rfl,.inr (Cu.of (m _ _ R)),rfl,_,rfl,t,_,_,_,rfl,rfl,.inr (Cu.of (m _ _ U)),kj v,?_⟩;refine⟨_,rfl,_,rfl,D,_,_,_,rfl,rfl,B,Qj (by simp;omega),rfl,m.new l,?_⟩;rw[A5];unfold Aw;simp
  ·have o:lost=true:=by simpa using e
   subst o;exact⟨rfl,m,B⟩
  ·rintro j c ⟨rfl,s3,X⟩;exact⟨_,rfl,q D c l s3 X⟩
def oy(K:W.Frag):Sp:=λf H Q _=>ZN λ(a b:Addr) (g e:mv) (c:mx) (q:Int) (d:Bool)=>G8 (f=[.ref a,.ref b,.bl d]) (Bk H a g c) (Dp H b e q) (U4 c q d) (Q (.int (Ef c q d)) H)
theorem zf{g:nr}(F:Dn K "quiet_behind" "quiet_behind" w6 ad.lF g):Bf P w K mg base (CX1 P w) 1 ad.lF g ["hall","standing","lost"] (oy K):=by
 refine F.okN A01 (λo H Q E h=>?_) (λr A f s H o Q E v h=>?_)
 ·rcases h with⟨a,b,p,m,d,n,lost,rfl,⟨t,i,_⟩,⟨u,j,_⟩,l,q⟩<;>rfl
 ·obtain⟨a,b,p,m,d,n,lost,rfl,⟨t,i,_⟩,⟨u,j,_⟩,l,q⟩:=h;refine⟨_,(A6 (C5 (D2 (pv 2)) (Aa (Ak (C4 (C0 K) (pv 0) Ad (λ_ _=>rfl)))) Ap) (Aa (Ak (Aq (Xy rfl) (by rfl) T.rN boot_max (A0 (Bc Qs (C4 (C0 K) (pv 1) Ad (λ_ _=>rfl)) Ad) (A0 Ad A7)))))),?_⟩;refine⟨_,rfl,_,rfl,?_⟩;cases lost with
  |true=>
   refine Ia rfl ?_;refine⟨_,rfl,a,_,_,_,rfl,rfl,.inr (Cu.of i),rfl,?_⟩;cases d with
   |none=>exact absurd rfl (l rfl).1
   |some c=>exact q
  |false=>
   refine D6 rfl ?_;refine⟨_,rfl,b,_,_,_,rfl,rfl,.inr (Cu.of j),rfl,_,_,rfl,rfl,_,_,rfl,?_⟩
   have e:(if(0:Int)>n-1 then(0:Int)else n-1)=Ef d n false:=by
    unfold Ef;rw[if_neg Bool.false_ne_true];omega
   show Q (.int (if(0:Int)>n-1 then(0:Int)else n-1)) H;rw[e];exact q
def Nm(K:W.Frag):Sp:=λi H Q _=>ph λ(a b:Addr) (f h:mv) (d:mx) (q:Int) (e:Nat) (c:Bool)=>Pw (i=[.ref a,.ref b,.int e,.bl c]) (Bk H a f d) (Dp H b h q) (e<f.length) (h.length=f.length) (f.length<=8) (U4 d q c) (((0:Int)∈Aw f h e c->∀g,A9 H g->Q .aP g)) (((0:Int)∉Aw f h e c->∀(p:Addr) (g:Hp),A9 H g->Dp g p (Aw f h e c) (Ef d q c)->Q (.ref p) g))
theorem um{y M N:nr}(F:Rn K "after" "after" G6 ad.bI y)(G:Gk P w K mg base 3 ad.fR ["hall","standing","who","lost"] (gw K) M)(L:Gk P w K mg base 1 ad.lF ["hall","standing","lost"] (oy K) N):Bf P w K mg base (CX1 P w) 4 ad.bI y ["hall","standing","who","lost"] (Nm K):=by
 refine F.okN gn (λS H Q E h=>?_) (λU A r s H S Q E C h=>?_)
 ·rcases h with⟨a,b,g,d,c,n,who,lost,rfl,j,m,D,B,z,o,I,J⟩<;>rfl
 ·obtain⟨a,b,g,d,c,n,who,lost,rfl,j,m,D,B,z,o,I,J⟩:=h;refine⟨_,(A6 (Ah (i:=4) gn.nd rfl (Or.inl rfl) (Ac G.g (C.mono (by decide)) rfl T.LM T.LN G.b .nil Ao (A0 (pv 0) (A0 (pv 1) (A0 (pv 2) (A0 (pv 3) A7)))))) (A6 (C5 (Ax (uw K) Ad (pv 4) rfl) (Aa (Ak Bq)) Ap) (Aa (Ak (Cr (A0 (Cc D3 (by rfl) T.cF boot_tuple (A0 (pv 4) A7)) (A0 (Ac L.g (C.mono (by decide)) rfl T.YX T.YY L.b .nil Ao (A0 (pv 0) (A0 (pv 1) (A0 (pv 3) A7)))) A7))))))),?_⟩;refine⟨_,rfl,_,rfl,_,rfl,_,rfl,a,b,g,d,c,n,who,lost,rfl,j,m,D,B,z,o,λl v O u x=>?_⟩;refine⟨_,rfl,l,_,rfl,.inl (B6.of x),rfl,Ot _,_,rfl,?_⟩;rw[Si];refine Fc (λi=>?_) (λi=>?_)
  ·exact I (by simpa using i) v u
  ·refine⟨_,rfl,l,_,rfl,.inl ⟨B6.of x,λt R=>?_⟩⟩;have f:A9 H (upd v t (.tup ((Aw g d who lost).map V.int))):=u.new (u.free R);refine⟨_,rfl,_,rfl,_,rfl,a,b,g,d,c,n,lost,rfl,j.same f,m.same f,o,C9,λp q=>?_⟩;refine J (by simpa using i) p _ (f.new (f.free q)) ⟨t,A5,?_⟩;rw[Ab (λe=>by rw[<- e,A5]at q;cases q),A5]
def Rc(K:W.Frag):Sp:=λi H Q _=>ph λ(a b:Addr) (d f:mv) (g:mx) (q w:Int) (c:Nat)=>Pu (i=[.ref a,.ref b,.int w]) (w=(c:Int)) (Bk H a d g) (Dp H b f q) (c<d.length) (f.length=d.length) (d.length<=8) (∀(l:Addr) (h:List V) (e:Hp),H l=none->A9 H e->e l=some (.lst h)->Af (Et e) (Az d f g q c) h->Q (.ref l) e)
theorem sv{fd bD iE:nr}(F:Dn K "all_behind" "all_behind" fg ad.cR fd)(G:Gk P w K mg base 4 ad.bI ["hall","standing","who","lost"] (Nm K) bD)(aQ:Dl K bD ["hall","standing","who","lost"] [Value.bool false])(bU:Gk P w K mg base 1 ad.cQ ["hall","standing"] (Rf K) iE):Bf P w K mg base (CX1 P w) 5 ad.cR fd ["hall","standing","who"] (Rc K):=by
 refine F.okN gh (λvs H Q E h=>?_) (λaM A U s H vs Q E R h=>?_)
 ·rcases h with⟨a,b,g,f,d,n,w0,who,rfl,rfl,B,C,S,N,J,q⟩<;>rfl
 ·obtain⟨a,b,g,f,d,n,w0,who,rfl,rfl,B,C,S,N,J,q⟩:=h;refine⟨_,(A6 (Ah (i:=3) gh.nd rfl (Or.inl rfl) (Dv (A0 (O8 (Ac G.g (R.mono (by decide)) rfl T.jH T.gF aQ (Fx) Ao (A0 (pv 0) (A0 (pv 1) (A0 (pv 2) A7))))) A7))) (A6 (Fs (D2 (Ac bU.g (R.mono (by decide)) rfl T.rB T.rC bU.b .nil Ao (A0 (pv 0) (A0 (pv 1) A7)))) (Aa (De (Ib PySem.F.plainAttrs_list PySem.F.slot_list_append PySem.F.type_list_append E3 (pv 3) (A0 (O8 (Ac G.g (R.mono (by decide)) rfl T.jH T.gF G.b .nil Ao (A0 (pv 0) (A0 (pv 1) (A0 (pv 2) (A0 Gw A7)))))) A7)))) Ap) (Aa (Ak (pv 3))))),?_⟩;refine⟨(λv o=>Et o (Cz g f d n who false) v/\A9 H o),⟨_,rfl,_,rfl,_,rfl,a,b,g,f,d,n,who,false,rfl,B,C,S,N,J,(λz=>nomatch z),(λe m c=>⟨by unfold Cz;rw[if_pos e];rfl,c⟩),λe p m c I=>⟨by unfold Cz;rw[if_neg e];exact⟨p,rfl,I⟩,c⟩⟩,?_⟩;rintro v x ⟨hv,X⟩;refine⟨C9,λL M=>?_⟩;have c:A9 x (upd x L (.lst [v])):=A9.upd M;have y:(upd x L (.lst [v])) L=some (.lst [v]):=A5;generalize upd x L (.lst [v])=m at c y⊢;have i:=X.trans c;refine⟨_,rfl,_,rfl,a,b,g,f,d,n,rfl,B.same i,C.same i,_,rfl,(λu l=>∃(D:List V),Rl (u=[some (.ref a),some (.ref b),some (.int who),some (.ref L)]) (l L=some (.lst D)) (Af (Et l) (Az g f d n who) D) (A9 H l)),λO=>?_,λO=>?_,?_⟩
  ·have j:Ed d n=true:=O
   have DK:U4 d n true:=λ_=>by
    unfold Ed at j;simp only[Bool.and_eq_true,Bool.not_eq_true',decide_eq_false_iff_not,decide_eq_true_eq]at j;exact j
   refine⟨_,rfl,.inl ⟨rfl,_,B6.of y⟩,(λv o=>Et o (Cz g f d n who true) v/\A9 m o),⟨_,rfl,_,rfl,_,rfl,a,b,g,f,d,n,who,true,rfl,B.same i,C.same i,S,N,J,DK,(λe m c=>⟨by unfold Cz;rw[if_pos e];rfl,c⟩),λe p m c I=>⟨by unfold Cz;rw[if_neg e];exact⟨p,rfl,I⟩,c⟩⟩,?_⟩;rintro v2 Z ⟨yY,Y⟩;have e3:=Y _ _ y;have tt:An Z (upd Z L (.lst ([v]++[v2]))):=An.lst e3;refine⟨L,_,_,rfl,rfl,e3,Av (by simp),[v]++[v2],rfl,A5,?_,(i.trans Y).new (X.free M)⟩;unfold Az;rw[if_pos j];exact Af.cons (hv.up (((An.of c).trans (An.of Y)).trans tt)) (Af.one (yY.up tt))
  ·have j:¬Ed d n=true:=by
    rw[show Ed d n=false from O];exact eI
   refine⟨[v],rfl,y,?_,i⟩;unfold Az;rw[if_neg j];exact Af.one (hv.up (An.of c))
  rintro u l ⟨D,rfl,eL,r,s'⟩;exact⟨_,rfl,q L D l (X.free M) s' eL r⟩
def iy(K:W.Frag):Sp:=λc H Q _=>Pz λ(a:Addr) (d:mv) (b:mx)=>Xn (c=[.ref a]) (Bk H a d b) (Q (.int (qv b)) H)
theorem zg{f:nr}(F:Dn K "quiet_values" "quiet_values" w8 ad.jX f):Bf P w K mg base (CX1 P w) 1 ad.jX f ["hall"] (iy K):=by
 refine F.okN A02 (λi H Q E h=>?_) (λl A d s H i Q E m h=>?_)
 ·rcases h with⟨a,j,e,rfl,⟨t,b,g⟩,q⟩<;>rfl
 ·obtain⟨a,j,e,rfl,⟨t,b,g⟩,q⟩:=h;refine⟨_,(Aa (Ak (Tb (Ax Fo (C4 (C0 K) (pv 0) Ad (λ_ _=>rfl)) Bq (Au _)) Ad (Bc Gu (C4 (C0 K) (pv 0) Ad (λ_ _=>rfl)) Ad)))),?_⟩;cases e with
  |none=>exact⟨_,rfl,a,_,_,_,rfl,rfl,.inr (Cu.of b),rfl,rfl,_,rfl,Ia rfl q⟩
  |some c=>exact⟨_,rfl,a,_,_,_,rfl,rfl,.inr (Cu.of b),rfl,rfl,_,rfl,D6 rfl ⟨_,rfl,a,_,_,_,rfl,rfl,.inr (Cu.of b),rfl,_,_,rfl,rfl,q⟩⟩
def ip(K:W.Frag):Sp:=λd H Q _=>Pz λ(a:Addr) (b:mv) (c:mx)=>Jz (d=[.ref a]) (Bk H a b c) ((∀w∈b,intBits w<=256)) (intBits (qv c)<=256) (b.length<=8) (Q (.int (Bn (qv c) b)) H)
theorem uf{r G:nr}(F:Dn K "how_many" "how_many" fu ad.fS r)(v:Gk P w K mg base 1 ad.jX ["hall"] (iy K) G):Bf P w K mg base (CX1 P w) 2 ad.fS r ["hall"] (ip K):=by
 refine F.okN R7 (λI H Q E h=>?_) (λJ A o s H I Q E D h=>?_)
 ·rcases h with⟨a,b,c,rfl,⟨t,j,f⟩,m,z,C,q⟩<;>rfl
 ·obtain⟨a,b,c,rfl,⟨t,j,f⟩,m,z,C,q⟩:=h;refine⟨_,(A6 (Ah (i:=1) R7.nd rfl (Or.inl rfl) (Ac v.g (D.mono (by decide)) rfl T.LO T.LP v.b .nil Ao (A0 (pv 0) A7))) (A6 (Cd i0 rfl (Ci (C4 (C0 K) (pv 0) Ad (λ_ _=>rfl))) (Al (i:=2) R7.nd rfl (Or.inl rfl)) (Aa (Ah (i:=1) R7.nd rfl (Or.inl rfl) (Bc Hn (pv 1) (pv 2))))) (Aa (Ak (pv 1))))),?_⟩;refine⟨_,rfl,a,b,c,rfl,⟨t,j,f⟩,?_⟩;refine⟨_,rfl,a,_,_,_,rfl,rfl,.inr (Cu.of j),rfl,t,rfl,.inr ⟨⟨_,Cu.of f⟩,?_⟩⟩;refine Wm (K:=K) (a:=t) (xs:=b.map V.int) (λi g d=>∃(p:Option V),g=[some (.ref a),some (.int (Bn (qv c) (b.take i))),p]/\d=H) ⟨none,rfl,rfl⟩ (by rintro i g d _ ⟨_,_,e⟩;exact(by rw[e];exact Cu.of f)) ?_ ?_
  ·rintro i y g d u ⟨p,rfl,l⟩;subst l;rw[List.getElem?_map]at u;obtain⟨x,n,rfl⟩:=dm.mp u;have L:=(bG.mp n).1;have B:=Pa z m i (by omega);refine⟨_,rfl,_,rfl,_,_,rfl,rfl,Wt B (m x (cb n)) (by omega),?_⟩;refine⟨some (.int x),?_,rfl⟩;have e:Bn (qv c) (b.take (i+1))=Bn (qv c) (b.take i)*x:=Fb _ _ _ n;rw[e];rfl
  ·rintro g d ⟨p,rfl,l⟩;subst l;rw[List.length_map,List.take_length];exact⟨_,rfl,q⟩
def iq(K:W.Frag):Sp:=λd H Q _=>Py λ(t:Addr) (a:mv)=>Jz (d=[.ref t]) (H t=some (.tup (a.map V.int))) ((∀w∈a,1<=w)) (Bn 1 a<=3000) (a.length<=8) (∀(l:Addr) (c:List V) (b:Hp),H l=none->A9 H b->b l=some (.lst c)->Af (Ek b) (C6 a) c->Q (.ref l) b)
theorem ug{fd:nr}(F:Dn K "all_left" "all_left" Xh ad.fT fd):Bf P w K mg base (CX1 P w) 1 ad.fT fd ["waits"] (iq K):=by
 refine F.okN Kq (λvs H Q E h=>?_) (λaM A outer s H vs Q E hr h=>?_)
 ·rcases h with⟨t,c,rfl,ht,R,hp,pT,q⟩<;>rfl
 ·obtain⟨t,c,rfl,ht,R,hp,pT,q⟩:=h;refine⟨_,(A6 (Ah (i:=1) Kq.nd rfl (Or.inl rfl) (Dv (A0 (Cr A7) A7))) (A6 (Cd i0 rfl (Ci (pv 0)) (Al (i:=2) Kq.nd rfl (Or.inl rfl)) (A6 (Ah (i:=3) Kq.nd rfl (Or.inl rfl) (Dv A7)) (A6 (Cd i0 rfl (Ci (pv 1)) (Al (i:=4) Kq.nd rfl (Or.inr rfl)) (Aa (De (Ib PySem.F.plainAttrs_list PySem.F.slot_list_extend PySem.F.type_list_extend Hm (pv 3) (A0 (Cy (Z4 (by rfl) T.bJ (A0 Ad (A0 (Bc Gu (pv 2) Ad) A7))) _ rfl O0 rfl rfl (λ_ _ _ _=>(Al (i:=0) O6 rfl (Or.inl rfl))) (λ_ _ _ _=>Bz) (λ_ _ _ _=>(Bc (lh K) (pv 1) (Cr (A0 (pv 0) A7))))) A7))))) (Aa (Ah (i:=1) Kq.nd rfl (Or.inl rfl) (pv 3)))))) (Aa (Ak (pv 1))))),?_⟩;refine⟨C9,λE0 hE0=>⟨C9,λG NI=>?_⟩⟩;have s0:A9 H (upd H E0 (.tup [])):=A9.upd hE0;have e0:(upd H E0 (.tup [])) E0=some (.tup (([]:mv).map V.int)):=A5;generalize upd H E0 (.tup [])=M at s0 e0 NI⊢;have s1:A9 M (upd M G (.lst [.ref E0])):=A9.upd NI;have e1:(upd M G (.lst [.ref E0])) G=some (.lst [.ref E0]):=A5;have r1:Af (Ek (upd M G (.lst [.ref E0]))) (C6 (c.take 0)) [.ref E0]:=Af.one ⟨E0,rfl,s1 _ _ e0⟩;generalize upd M G (.lst [.ref E0])=H1 at s1 e1 r1⊢;have O:=s0.trans s1;refine⟨_,rfl,t,rfl,.inr ⟨⟨_,Cu.of (O _ _ ht)⟩,?_⟩⟩
  refine Wm (K:=K) (a:=t) (xs:=c.map V.int) (λi g a=>nk λ(L:Addr) (C:List V) (v2 v3 J:Option V)=>G8 (g=[some (.ref t),some (.ref L),v2,v3,J]) (a L=some (.lst C)) (A9 H a) (Af (Ek a) (C6 (c.take i)) C) (H L=none))
   ⟨G,_,none,none,none,rfl,e1,O,r1,s0.free NI⟩ (by rintro i g a _ ⟨_,_,_,_,_,_,_,s,_,_⟩;exact Cu.of (s _ _ ht)) ?_ ?_
  ·rintro i y g l Y ⟨L,C,v2,v3,J,rfl,S,s2,o,hL⟩;rw[List.getElem?_map]at Y;obtain⟨w,hw,rfl⟩:=dm.mp Y;have hwi:=R w (cb hw);have NJ:=Pd R hp i;have Z:=Pd R hp (i+1);have DL:C6 (c.take (i+1))=Bv (C6 (c.take i)) w:=Fb _ _ _ hw;rw[DL,Nn]at Z;have hiw:=(bG.mp hw).1
   have UU:∀r∈C6 (c.take i),r.length<=8:=λr hr=>by
    have:=(Jq c i (by omega) r hr).1;omega
   generalize C6 (c.take i)=b at o NJ Z DL UU;refine⟨C9,λD X=>?_⟩;have s3:A9 l (upd l D (.lst [])):=A9.upd X;have e3:(upd l D (.lst [])) D=some (.lst []):=A5;have f3:=s3 _ _ S;have g3:=o.imp λr v z=>Ek.up (An.of s3) z;have nDL:L≠D:=Ae S X;generalize upd l D (.lst [])=H3 at s3 e3 f3 g3⊢;refine⟨_,rfl,L,rfl,.inl ⟨⟨_,B6.of f3⟩,?_⟩⟩
   refine Cm (K:=K) (a:=L) (xs:=C) (λj g a=>Py λ(f:List V) (J:Option V)=>G8 (g=[some (.ref t),some (.ref L),some (.int w),some (.ref D),J]) (a D=some (.lst f)) (a L=some (.lst C)) (A9 l a) (Af (Ek a) (Bv (b.take j) w) f))
    ⟨[],J,rfl,e3,f3,s3,Af.nil⟩ (by rintro j g a _ ⟨_,_,_,_,e,_⟩;exact B6.of e) ?_ ?_
   ·rintro j y g H4 Y ⟨f,v4',rfl,U,h2,s4,N⟩;have g4:=o.imp λr v z=>Ek.up (An.of s4) z;obtain⟨r,mP,p,rfl,hp4⟩:=g4.get Y;have hj:=(bG.mp mP).1;have hr8:=UU r (cb mP);have ezl:f.length=(b.take j).length*w.toNat:=by rw[N.1,Nn]
    have jK:f.length<=3000:=by
     rw[ezl];refine dI (Nat.mul_le_mul_right _ ?_) Z;rw[List.length_take];omega
    have hw3:w.toNat<=3000:=dI (Nat.le_mul_of_pos_left _ (by omega)) Z;refine⟨_,rfl,.inl ⟨rfl,_,B6.of U⟩,_,rfl,_,_,rfl,rfl,1,w+1,rfl,by omega,λB hB=>?_⟩;refine E6 (λm d a=>a B=some (.lst d)/\A9 H4 a/\Af (Ek a) ((List.range m).map λt=>r++[1+((t:Nat):Int)]) d) ⟨A5,A9.upd hB,Af.nil⟩ ?_ ?_
    ·rintro m d n hm ⟨k1,u,I⟩ Qe hQ;refine⟨_,rfl,_,rfl,C9,λP hP=>?_⟩;have s6:A9 n (upd n P (.tup [.int (1+(m:Int))])):=A9.upd hP;refine⟨p,P,_,_,rfl,rfl,Cu.of (s6 _ _ (u _ _ hp4)),A5,by simp,kG (Ff (by simp;omega)),λp' H6 s7 e7=>?_⟩;generalize upd n P (.tup [.int (1+(m:Int))])=H5' at s6 s7;have x:=s6.trans s7;have zG:=x _ _ k1;have kl:d.length=m:=by rw[I.1];simp
     refine hQ _ _ zG (Ff (by omega)) ⟨A5,(u.trans x).new hB,?_⟩;have tu:An n (upd H6 B (.lst (d++[.ref p']))):=(An.of x).trans (An.lst zG);rw[List.range_succ,List.map_append];refine(I.imp λr v z=>Ek.up tu z).append (Af.one ⟨p',rfl,?_⟩);refine An.lst zG _ _ ?_;rw[e7,List.map_append];rfl
    ·rintro d n ⟨k1,u,I⟩
     have eB:((List.range (w+1-1).toNat).map λt=>r++[1+((t:Nat):Int)])=Qk r w:=by
      rw[show w+1-1=w by omega];rfl
     rw[eB]at I;have gX:=u _ _ U;have kl:d.length=w.toNat:=by rw[I.1,So]
     refine⟨D,B,_,_,rfl,rfl,gX,k1,kG (Ff (by omega)),?_⟩;have tu:An n (upd n D (.lst (f++d))):=An.lst gX;refine⟨f++d,_,rfl,A5,by rw[Ab nDL];exact u _ _ h2,(s4.trans u).new X,?_⟩;have e:Bv (b.take (j+1)) w=Bv (b.take j) w++Qk r w:=Ou _ _ mP;rw[e];exact(N.imp λr v z=>Ek.up ((An.of u).trans tu) z).append (I.imp λr v z=>Ek.up tu z)
   ·rintro g H4 ⟨f,v4',rfl,U,h2,s4,N⟩;rw[o.1,List.take_length]at N;refine⟨_,rfl,D,f,_,_,_,rfl,U,s2.trans s4,?_,s2.free X⟩;rw[DL];exact N
  ·rintro g l ⟨L,C,v2,v3,J,rfl,S,s2,o,hL⟩;rw[List.length_map,List.take_length]at o;exact⟨_,rfl,q L C l hL s2 S o⟩
def ii(K:W.Frag):Sp:=λf H Q _=>Pz λ(a:Addr) (b:mv) (c:mx)=>Pw (f=[.ref a]) (Bk H a b c) ((∀w∈b,1<=w)) (1<=qv c) ((∀w∈b,intBits w<=256)) (intBits (qv c)<=256) (b.length<=8) (Bn (qv c) b<=3000) (∀(l:Addr) (e:List V) (d:Hp),H l=none->A9 H d->d l=some (.lst e)->Af (F5 d) (Ar b (qv c)) e->Q (.ref l) d)
theorem u7{fd DM DN rX:nr}(F:Dn K "standings" "standings" Xe ad.fU fd)(oP:Gk P w K mg base 2 ad.fS ["hall"] (ip K) DM)(oQ:Gk P w K mg base 1 ad.fT ["waits"] (iq K) DN)(lU:Gk P w K mg base 1 ad.jX ["hall"] (iy K) rX):Bf P w K mg base (CX1 P w) 3 ad.fU fd ["hall"] (ii K):=by
 refine F.okN Vd (λvs H Q E h=>?_) (λaM A outer s H vs Q E hr h=>?_)
 ·rcases h with⟨a,b,c,rfl,⟨t,I,J⟩,n,rR,hb,xZ,pT,hp,q⟩<;>rfl
 ·obtain⟨a,b,c,rfl,⟨t,I,J⟩,n,rR,hb,xZ,pT,hp,q⟩:=h;refine⟨_,(A6 (C5 (Ax N4 (Ac oP.g (hr.mono (by decide)) rfl T.LQ T.LR oP.b .nil Ao (A0 (pv 0) A7)) (Wz (v:=.int 3000) (by rfl) T.eR.choose_spec ⟨_,rfl⟩) (Au _)) (Aa Fd) Ap) (A6 (Ah (i:=1) Vd.nd rfl (Or.inl rfl) (Dv A7)) (A6 (Cd i0 rfl (Ci (Ac oQ.g (hr.mono (by decide)) rfl T.LS T.LU oQ.b .nil Ao (A0 (C4 (C0 K) (pv 0) Ad (λ_ _=>rfl)) A7))) (Al (i:=2) Vd.nd rfl (Or.inr rfl)) (Aa (De (Ib PySem.F.plainAttrs_list PySem.F.slot_list_extend PySem.F.type_list_extend Hm (pv 1) (A0 (Cy (E4 (by rfl) T.bJ (A0 (Ac lU.g (hr.mono (by decide)) rfl T.LO T.LP lU.b .nil Ao (A0 (pv 0) A7)) A7)) _ rfl M9 rfl rfl (λ_ _ _ _=>(Al (i:=0) Mz rfl (Or.inl rfl))) (λ_ _ _ _=>Bz) (λ_ _ _ _=>(Cr (A0 (pv 1) (A0 (pv 0) A7))))) A7))))) (Aa (Ak (pv 1)))))),?_⟩
  have zA:Bn 1 b<=3000:=by
   have e:=V5 (qv c) b 1;rw[Int.mul_one]at e;have o:1<=Bn 1 b:=Jn b 1 (by decide) n;have M:=Int.mul_le_mul_of_nonneg_right rR (show 0<=Bn 1 b by omega);rw[Int.one_mul]at M;omega
  have hq3:qv c<=3000:=la (Jn b _ (by omega) n) hp;refine⟨_,rfl,a,b,c,rfl,⟨t,I,J⟩,hb,xZ,pT,_,_,rfl,rfl,_,rfl,D6 (jE (by omega)) ?_⟩;refine⟨C9,λD Z=>?_⟩;have O:A9 H (upd H D (.lst [])):=A9.upd Z;have X:(upd H D (.lst [])) D=some (.lst []):=A5;generalize upd H D (.lst [])=H1 at O X⊢;refine⟨_,rfl,a,_,_,_,rfl,rfl,.inr (Cu.of (O _ _ I)),rfl,t,b,rfl,O _ _ J,n,zA,pT,λL us H2 hL s2 f1 f2=>⟨L,rfl,.inl ⟨⟨_,B6.of f1⟩,?_⟩⟩⟩;have UY:=O.trans s2;have Y:=s2 _ _ X;have nDL:L≠D:=(Ae X hL).symm
  refine Cm (K:=K) (a:=L) (xs:=us) (λj S d=>Py λ(l:List V) (v2:Option V)=>Jz (S=[some (.ref a),some (.ref D),v2]) (d D=some (.lst l)) (d L=some (.lst us)) (A9 H d) (An H2 d) (Af (F5 d) (((C6 b).take j).flatMap λr=>Fg r (qv c)) l))
   ⟨[],none,rfl,Y,f1,UY,An.of (A9.refl _),Af.nil⟩ (by rintro j S d _ ⟨_,_,_,_,e,_⟩;exact B6.of e) ?_ ?_
  ·rintro j y S U hy ⟨l,v2,rfl,o,M,x,t4,u⟩;have g4:=f2.imp λr v z=>Ek.up t4 z;obtain⟨r,mP,p,rfl,hp4⟩:=g4.get hy;have hj:=(bG.mp mP).1
   have jK:l.length<=3000:=by
    have e:=Hs (ws:=b) (q:=qv c) n (by omega);rw[u.1]
    have Y:Ar b (qv c)=(((C6 b).take j).flatMap λr=>Fg r (qv c))++(((C6 b).drop j).flatMap λr=>Fg r (qv c)):=by
     rw[<- List.flatMap_append,List.take_append_drop];rfl
    rw[Y,List.length_append]at e;omega
   refine⟨_,rfl,.inl ⟨rfl,_,B6.of o⟩,_,rfl,a,b,c,rfl,⟨t,x _ _ I,x _ _ J⟩,qv c,rfl,by omega,by omega,λB hB=>?_⟩;refine E6 (λm f d=>d B=some (.lst f)/\A9 U d/\Af (F5 d) ((List.range m).map λk=>(r,0+((k:Nat):Int))) f) ⟨A5,A9.upd hB,Af.nil⟩ ?_ ?_
   ·rintro m f g hm ⟨k1,i,N⟩ Qe hQ;refine⟨_,rfl,_,rfl,C9,λP hP=>?_⟩;have C:A9 g (upd g P (.tup [.ref p,.int (0+(m:Int))])):=A9.upd hP;have e6:(upd g P (.tup [.ref p,.int (0+(m:Int))])) P=some (.tup [.ref p,.int (0+(m:Int))]):=A5;generalize upd g P (.tup [.ref p,.int (0+(m:Int))])=H6 at C e6;have R:=C _ _ k1;have kl:f.length=m:=by rw[N.1];simp
    refine hQ _ _ R (Ff (by omega)) ⟨A5,(i.trans C).new hB,?_⟩;have G:An g (upd H6 B (.lst (f++[.ref P]))):=(An.of C).trans (An.lst R);rw[List.range_succ,List.map_append];refine(N.imp λr v z=>F5.up G z).append (Af.one ⟨P,p,rfl,?_,?_⟩)
    ·exact An.lst R _ _ e6
    ·exact An.lst R _ _ (C _ _ (i _ _ hp4))
   ·rintro f g ⟨k1,i,N⟩;have gX:=i _ _ o;have k3:Af (F5 g) (Fg r (qv c)) f:=N;have kl:f.length=(qv c).toNat:=by rw[k3.1,Po]
    refine⟨D,B,_,_,rfl,rfl,gX,k1,kG (Ff (by omega)),?_⟩;have G:An g (upd g D (.lst (l++f))):=An.lst gX;refine⟨l++f,_,rfl,A5,by rw[Ab nDL];exact i _ _ M,(x.trans i).new Z,(t4.trans (An.of i)).trans G,?_⟩;have e:(((C6 b).take (j+1)).flatMap λr=>Fg r (qv c))=(((C6 b).take j).flatMap λr=>Fg r (qv c))++Fg r (qv c):=Ou _ _ mP;rw[e];exact(u.imp λr v z=>F5.up ((An.of i).trans G) z).append (k3.imp λr v z=>F5.up G z)
  ·rintro S U ⟨l,v2,rfl,o,M,x,t4,u⟩;rw[f2.1,List.take_length]at u;exact⟨_,rfl,q D l U Z x o u⟩
def ot(K:W.Frag):Sp:=λh H Q _=>Pz λ(a:Addr) (d:mv) (e:mx)=>Pw (h=[.ref a]) (Bk H a d e) ((∀w∈d,1<=w)) (1<=qv e) ((∀w∈d,intBits w<=256)) (intBits (qv e)<=256) (d.length<=8) (Bn (qv e) d<=3000) (∀(D:Addr) (b:mu) (f:Hp),H D=none->A9 H f->f D=some (.dT b)->Cl d e f b->b.map (·.1)=Ar d (qv e)->Lr d e f b->(∀g∈b,∀c,g.2=.ref c->H c=none)->b.length<=3000->Q (.ref D) f)
theorem z9{fd DP iG:nr}(F:Dn K "calls_by_standing" "calls_by_standing" vx ad.lG fd)(oS:Gk P w K mg base 3 ad.fU ["hall"] (ii K) DP)(bV:Gk P w K mg base 5 ad.cR ["hall","standing","who"] (Rc K) iG):Bf P w K mg base (CX1 P w) 6 ad.lG fd ["hall"] (ot K):=by
 refine F.okN Pj (λvs H Q E h=>?_) (λaM A outer s H vs Q E hr h=>?_)
 ·rcases h with⟨a,o,n,rfl,ha,cS,rR,cT,gS,zF,hp,q⟩<;>rfl
 ·obtain⟨a,o,n,rfl,ha,cS,rR,cT,gS,zF,hp,q⟩:=h;refine⟨_,(A6 (Ah (i:=1) Pj.nd rfl (Or.inl rfl) Gx) (A6 (Cd i0 rfl (Ci (Ac oS.g (hr.mono (by decide)) rfl T.LV T.LW oS.b .nil Ao (A0 (pv 0) A7))) (Al (i:=2) Pj.nd rfl (Or.inl rfl)) (A6 (Ah (i:=3) Pj.nd rfl (Or.inl rfl) df) (A6 (Cd i0 rfl (E4 (by rfl) T.bJ (A0 (Aq (Bt K) (by rfl) T.bP PySem.boot_len (A0 (C4 (C0 K) (pv 0) Ad (λ_ _=>rfl)) A7)) A7)) (Al (i:=4) Pj.nd rfl (Or.inl rfl)) (A6 (Ah (i:=5) Pj.nd rfl (Or.inl rfl) (Ac bV.g (hr.mono (by decide)) rfl T.rD T.rE bV.b .nil Ao (A0 (pv 0) (A0 (pv 2) (A0 (pv 4) A7))))) (Aa (Fs (Ax (Z2 K hr) Bq (pv 5) rfl) (Aa (Jo (G9 hr) (pv 3) (pv 4) (pv 5) rfl)) Ap)))) (Aa (Jo (G9 hr) (pv 1) (pv 2) (pv 3) rfl))))) (Aa (Ak (pv 1))))),?_⟩;refine λD hD=>?_;have s1:A9 H (upd H D (.dT [])):=A9.upd hD;have B:(upd H D (.dT [])) D=some (.dT []):=A5;generalize upd H D (.dT [])=H1 at s1 B⊢;refine⟨_,rfl,a,o,n,rfl,ha.same s1,cS,rR,cT,gS,zF,hp,λl us H2 hl s2 el kY=>⟨l,rfl,.inl ⟨⟨_,B6.of el⟩,?_⟩⟩⟩
  have hlen:us.length<=3000:=by
   have h1:=kY.1;have h2:=Hs cS (show 0<=qv n by omega);omega
  have bC:=s1.trans s2;have eD2:=s2 _ _ B
  refine Cm (K:=K) (a:=l) (xs:=us) (λi C m=>nk λ(b:mu) (v2 v3 J M:Option V)=>Pw (C=[some (.ref a),some (.ref D),v2,v3,J,M]) (A9 H m) (LT H2 m) (m D=some (.dT b)) (Cl o n m b) ((∀x∈b,∀c,x.2=.ref c->H c=none)) (b.length<=i) (b.map (·.1)=(Ar o (qv n)).take i) (Lr o n m b))
   ⟨[],_,_,_,_,rfl,bC,⟨λ_ _ z=>z,λ_ _ z=>z⟩,eD2,⟨(λx z=>by cases z),List.Pairwise.nil,List.Pairwise.nil⟩,(λx z=>by cases z),da _,rfl,(λx z=>by cases z)⟩ (by rintro i C m _ ⟨_,_,_,_,_,_,_,t,_⟩;exact B6.of (t.1 _ _ el)) ?_ ?_
  ·rintro i u C m hu ⟨b,v2,v3,J,M,rfl,U,t',fH,S,iP,lR,R,rY⟩;have hi:=(bG.mp hu).1;obtain⟨z,hz,p,w,rfl,hz1,hz2⟩:=kY.get hu;obtain⟨m1,m2,m3,m4⟩:=Pm (cb hz);have NK:Dp m p z.1 z.2:=⟨w,t'.2 _ _ hz1,t'.2 _ _ hz2⟩;refine λc hc=>?_;have s3:A9 m (upd m c (.dK [])):=A9.upd hc;have e3:(upd m c (.dK [])) c=some (.dK []):=A5;generalize upd m c (.dK [])=H3 at s3 e3⊢;have UZ:=U.trans s3;obtain⟨wt,cH,dR⟩:=id (ha.same UZ);refine⟨_,rfl,a,_,_,_,rfl,rfl,.inr (Cu.of cH),rfl,wt,_,rfl,.inr (Cu.of dR),_,rfl,by omega,by rw[List.length_map];omega,?_⟩
   refine Ow (n:=(o.map V.int).length) (λj C f=>Pz λ(g:List (Dz×V)) (J M:Option V)=>Jz (C=[some (.ref a),some (.ref D),some (.ref p),some (.ref c),J,M]) (A9 m f) (f c=some (.dK g)) (Gb o n z f g) (g.length<=j) (∀who:Nat,who<j->none∉Az o z.1 n z.2 who->(Ag g (.inl (who:Int))).isSome=true))
    ⟨[],_,_,rfl,s3,e3,(λe z=>by cases z),da _,(λwho z=>absurd z (kE _))⟩ ?_ ?_
   ·rintro j C f hj ⟨g,J,M,rfl,r,VA,qY,kN,VB⟩;rw[List.length_map]at hj;have zH:=U.trans r;refine⟨_,rfl,_,rfl,_,rfl,a,p,o,z.1,n,z.2,_,j,rfl,by omega,ha.same zH,NK.same r,hj,m1,zF,λL kP H5 hL X eL pF=>?_⟩;refine⟨_,rfl,L,kP,.none,(Az o z.1 n z.2 j).map qi,rfl,B6.of eL,f7,Pe pF,by decide,_,rfl,_,λhb=>?_,λhb=>?_,λ_ _ z=>z⟩
    ·rw[if_pos rfl,Q4]at hb;have iU:none∉Az o z.1 n z.2 j:=by simpa using hb
     have I:=X _ _ VA;refine⟨_,rfl,_,rfl,_,rfl,c,_,rfl,.inl ⟨g,.inl (j:Int),I,congrArg V.int (Int.zero_add _),Av (by omega),rfl⟩,?_⟩;have t6:LT H5 (upd H5 c (.dK (Bd g (.inl (j:Int)) (.ref L)))):=LT.dK I;refine⟨Bd g (.inl (j:Int)) (.ref L),_,_,rfl,(r.trans X).new hc,A5,?_,dI (Dq _ _ _) (by omega),λwho jY G=>Uq ?_⟩
     ·have hold:Gb o n z (upd H5 c (.dK (Bd g (.inl (j:Int)) (.ref L)))) g:=qY.up ((LT.of X).trans t6);intro e he;rcases du he with y|y
      ·exact hold e y
      ·subst y;exact⟨j,L,kP,rfl,hj,iU,rfl,t6.1 _ _ eL,pF.imp λ_ _ y=>Et.up t6.2 y⟩
     ·rcases il who j with y|y
      ·exact .inl (VB who y G)
      ·have e:who=j:=by omega
       rw[e];exact .inr rfl
    ·rw[if_pos rfl,Q4]at hb;have hyes:none∈Az o z.1 n z.2 j:=by simpa using hb
     refine⟨g,_,_,rfl,r.trans X,X _ _ VA,qY.up (LT.of X),by omega,λwho jY G=>?_⟩;rcases il who j with y|y
     ·exact VB who y G
     ·have e:who=j:=by omega
      rw[e]at G;exact absurd hyes G
   rintro C f ⟨g,J,M,rfl,r,VA,qY,kN,VB⟩;rw[List.length_map]at kN;have HV:=r _ _ fH;refine⟨_,rfl,_,rfl,_,rfl,D,_,rfl,Rm.t HV (show F4 f p z from NK.same r) (Bu (by omega)),?_⟩;have t5:LT f (upd f D (.dT (Bd b z (.ref c)))):=LT.dT HV
   have k5:∀N Z,f N=some (.dK Z)->(upd f D (.dT (Bd b z (.ref c)))) N=some (.dK Z):=λN Z e=>by
    rw[Ab (Bg e HV (by intro z;cases z))];exact e
   have s05:=U.trans r
   have hnz:Ag b z=none:=by
    cases hv:Ag b z with
    |none=>rfl
    |some v=>
     have:=List.mem_map_of_mem (f:=(·.1)) (Be hv);rw[R]at this;exact absurd this (P7 (L1 _ _) hz)
   have ep:Bd b z (.ref c)=b++[(z,.ref c)]:=D4 _ hnz;have mU:Cl o n (upd f D (.dT (Bd b z (.ref c)))) b:=(S.keep (LT.of r) (λc g e=>r _ _ e)).keep t5 k5;have DQ:Lr o n (upd f D (.dT (Bd b z (.ref c)))) b:=(rY.keep S (λc g e=>r _ _ e)).keep (S.keep (LT.of r) (λc g e=>r _ _ e)) k5;have I:=k5 _ _ VA;have DR:=qY.up t5;have sN:A9 H (upd f D (.dT (Bd b z (.ref c)))):=s05.new hD;have tN:LT H2 (upd f D (.dT (Bd b z (.ref c)))):=(t'.trans (LT.of r)).trans t5;have eN:(upd f D (.dT (Bd b z (.ref c)))) D=some (.dT (Bd b z (.ref c))):=A5;rw[ep]at mU DQ I DR sN tN eN⊢;generalize upd f D (.dT (b++[(z,.ref c)]))=H6 at mU DQ I DR sN tN eN⊢
   have hnew:∀x∈b,x.2≠ .ref c:=λx Y e=>by
    obtain⟨d,ds,B,O,_⟩:=S.1 x Y;rw[e]at B;cases B;rw[hc]at O;cases O
   refine⟨b++[(z,.ref c)],_,_,_,_,rfl,sN,tN,eN,⟨Mu mU.1 ⟨c,g,rfl,I,by omega,DR⟩,?_,?_⟩,Mu iP (λN e=>by cases e;exact U.free hc),by rw[List.length_append,List.length_singleton];omega,?_,?_⟩
   ·rw[List.map_append];refine Ep mU.2.1 (λy=>?_);rw[R]at y;exact P7 (L1 _ _) hz y
   ·rw[List.map_append];refine Ep mU.2.2 (λy=>?_);obtain⟨x,Y,e⟩:=eH.mp y;exact hnew x Y e
   ·rw[List.map_append,R,List.take_add_one,hz];rfl
   ·intro x Y N Z B O;rcases fe.mp Y with y|y
    ·exact DQ x y N Z B O
    ·cases iv.mp y;cases B;rw[I]at O;cases O;exact λwho hw G=>VB who (by rw[List.length_map];exact hw) G
  rintro C m ⟨b,v2,v3,J,M,rfl,U,t',fH,S,iP,lR,R,rY⟩;rw[kY.1,List.take_length]at R;exact⟨_,rfl,q D b m hD U fH S R rY iP (by omega)⟩
def iu(K:PySem.W.Frag):Sp:=λh H Q _=>Zp λ(D:Addr) (a:mu) (g:mv) (f:mx)=>G8 (h=[.ref D]) (H D=some (.dT a)) (Cl g f H a) (a.length<=3000) (∀(W:Addr) (e:mu) (d:Hp),H W=none->A9 H d->d W=some (.dT e)->F7 g f H a 48000 d e->(∀k c b,Am H a k c->some b∈Az g k.1 f k.2 c->Ca d e b k c)->e.length<=48000->Q (.ref W) d)
theorem uk{fd:nr}(F:Dn K "ways_to" "ways_to" fz ad.fV fd):Bf P w K mg base (CX1 P w) 1 ad.fV fd ["pending"] (iu K):=by
 refine F.okN Ir (λvs H Q E h=>?_) (λaM A outer s H vs Q E hr h=>?_)
 ·rcases h with⟨D,f,R,O,rfl,hD,lV,lR,q⟩<;>rfl
 ·obtain⟨D,f,R,O,rfl,hD,lV,lR,q⟩:=h;refine⟨_,(A6 (Ah (i:=1) Ir.nd rfl (Or.inl rfl) Gx) (A6 (Qw (Cd i0 rfl (Jm (pv 0)) (Dx K (n:=2) rfl (Bh (Al (i:=2) Ir.nd rfl (Or.inl rfl)) (Bh (Al (i:=3) Ir.nd rfl (Or.inl rfl)) Dy))) (Aa (Qw (Cd i0 rfl (Jm (pv 3)) (Dx K (n:=2) rfl (Bh (Al (i:=4) Ir.nd rfl (Or.inl rfl)) (Bh (Al (i:=5) Ir.nd rfl (Or.inl rfl)) Dy))) (Aa (Cd i0 rfl (Ci (pv 5)) (Al (i:=6) Ir.nd rfl (Or.inl rfl)) (Aa (De (Ib PySem.F.plainAttrs_list PySem.F.slot_list_append PySem.F.type_list_append E3 (O8 (lr (G9 hr) (pv 1) (pv 6) (Dv A7) ⟨rfl,rfl,rfl,rfl⟩)) (A0 (Cr (A0 (pv 2) (A0 (pv 4) A7))) A7))))))))))) (Aa (Ak (pv 1))))),?_⟩;have mB:=lV.ok;refine λW hW=>?_;have s1:A9 H (upd H W (.dT [])):=A9.upd hW;have e1:(upd H W (.dT [])) W=some (.dT []):=A5;generalize upd H W (.dT [])=H1 at s1 e1⊢;have vE:=s1 _ _ hD;have hWD:W≠D:=(Ae hD hW).symm;refine⟨D,.dT f,trivial,vE,_,rfl,D,.dT f,rfl,trivial,vE,λo=>?_⟩
  refine Ov (d:=D) (o:=o) (u:=.dT f) (λi Z U=>y6 λ(C:mu) (v2 v3 v4 v5 v6:Option V)=>Nx (Z=[some (.ref D),some (.ref W),v2,v3,v4,v5,v6]) (U D=some (.bA o (.dT f))) ((∀b p,b≠D->H b=some p->U b=some p)) (U W=some (.dT C)) (F7 R O H f (16*i) U C) (C.length<=16*i) (∀k d a,(∃v,(k,v)∈f.take i)->Am H f k d->some a∈Az R k.1 O k.2 d->Ca U C a k d))
   ⟨[],_,_,_,_,_,rfl,A5,(λb p n e=>(Ab n).trans (s1 _ _ e)),(Ab hWD).trans e1,⟨(λkv z=>by cases z),List.Pairwise.nil⟩,jT _,(λk d a z=>by obtain⟨v,z⟩:=z;rw[List.take_zero]at z;cases z)⟩ (by rintro i Z U _ ⟨_,_,_,_,_,_,_,e,_⟩;exact e) ?_ ?_
  ·rintro i x y T Z U hi hit ⟨C,v2,v3,v4,v5,v6,rfl,fH,k',zI,wL,xO,pO⟩ hT;have hi3:i<3000:=eT hi lR;obtain⟨I,bb,aL,rfl,qC⟩:=hit;have bS:(I,y)∈f:=cb aL;obtain⟨kw,hkw⟩:=L3 bS;obtain⟨c,S,ey,hc,kN,qY⟩:=lV.1 _ bS;have JE:y=.ref c:=ey;subst JE;have s2:A9 U (upd U T (.tup [.ref bb,.ref c])):=A9.upd hT;have e2:(upd U T (.tup [.ref bb,.ref c])) T=some (.tup [.ref bb,.ref c]):=A5;generalize upd U T (.tup [.ref bb,.ref c])=H2 at s2 e2⊢;refine⟨T,_,rfl,Cu.of e2,rfl,_,_,rfl,_,_,rfl,rfl,?_⟩;have hcD:c≠D:=Bg hc hD (by intro z;cases z);have hcW:c≠W:=Ae hc hW;have vL:=s2 _ _ (k' c _ hcD hc);refine⟨c,.dK S,trivial,vL,_,rfl,c,.dK S,rfl,trivial,vL,λo2=>?_⟩;have t2c:LT H2 (upd H2 c (.bA o2 (.dK S))):=LT.dK vL
   refine Ov (d:=c) (o:=o2) (u:=.dK S) (λj Z M=>Zp λ(C:mu) (v4 v5 v6:Option V)=>Lp (Z=[some (.ref D),some (.ref W),some (.ref bb),some (.ref c),v4,v5,v6]) (M c=some (.bA o2 (.dK S))) (M D=some (.bA o (.dT f))) ((∀b p,b≠D->b≠c->H b=some p->M b=some p)) (An H2 M) (M W=some (.dT C)) (F7 R O H f (16*i+2*j) M C) (C.length<=16*i+2*j) ((∀k d a,(∃v,(k,v)∈f.take i)->Am H f k d->some a∈Az R k.1 O k.2 d->Ca M C a k d)) (∀d a,(∃e∈S.take j,e.1=.inl ((d:Nat):Int))->some a∈Az R I.1 O I.2 d->Ca M C a I d))
    ⟨C,_,_,_,rfl,A5,(Ab hcD.symm).trans (s2 _ _ fH),(λb p n1 n2 e=>(Ab n2).trans (s2 _ _ (k' b p n1 e))),t2c.2,(Ab hcW.symm).trans (s2 _ _ zI),wL.up ((LT.of s2).trans t2c) (by omega),by omega,(λk d a B g Y=>(pO k d a B g Y).up ((LT.of s2).trans t2c)),(λd a z=>by obtain⟨e,z,_⟩:=z;rw[List.take_zero]at z;cases z)⟩ (by rintro j Z M _ ⟨_,_,_,_,_,e,_⟩;exact e) ?_ ?_
   ·rintro j x2 y2 T2 Z M hj hit2 ⟨wv3,v4,v5,v6,rfl,NL,hD3,k3,t3,hW3,DS,NM,hs3,DT⟩ wI;have hj8:j<8:=eT hj kN;obtain⟨kk2,NN,rfl⟩:=hit2;obtain⟨L,l,kP,ei,hw2,hno2,el,hl,DU⟩:=qY _ (cb NN)
    have vN:kP.length<=2:=by
     rw[DU.1];unfold Az;split<;>simp
    have ei':kk2=.inl (L:Int):=ei;subst ei';have el':y2=.ref l:=el;subst el';have s4:A9 M (upd M T2 (.tup [kV (.inl (L:Int)),.ref l])):=A9.upd wI;have e4:(upd M T2 (.tup [kV (.inl (L:Int)),.ref l])) T2=some (.tup [kV (.inl (L:Int)),.ref l]):=A5;generalize upd M T2 (.tup [kV (.inl (L:Int)),.ref l])=H4 at s4 e4⊢;refine⟨T2,_,rfl,Cu.of e4,rfl,_,_,rfl,_,_,rfl,rfl,?_⟩;have hlD:l≠D:=Bg hl hD (by intro z;cases z);have hlc:l≠c:=Bg hl hc (by intro z;cases z);refine⟨_,rfl,l,rfl,.inl ⟨⟨_,B6.of (s4 _ _ (k3 l _ hlD hlc hl))⟩,?_⟩⟩
    refine Cm (K:=K) (a:=l) (xs:=kP) (λm Z G=>Py λ(C:mu) (v6:Option V)=>W3 (Z=[some (.ref D),some (.ref W),some (.ref bb),some (.ref c),some (kV (.inl (L:Int))),some (.ref l),v6]) (G c=some (.bA o2 (.dK S))) (G D=some (.bA o (.dT f))) ((∀b p,b≠D->b≠c->H b=some p->G b=some p)) (An H2 G) (G W=some (.dT C)) (F7 R O H f (16*i+2*j+m) G C) (C.length<=16*i+2*j+m) ((∀k d a,(∃v,(k,v)∈f.take i)->Am H f k d->some a∈Az R k.1 O k.2 d->Ca G C a k d)) ((∀d a,(∃e∈S.take j,e.1=.inl ((d:Nat):Int))->some a∈Az R I.1 O I.2 d->Ca G C a I d)) (∀a,some a∈(Az R I.1 O I.2 L).take m->Ca G C a I L))
     ⟨wv3,_,rfl,s4 _ _ NL,s4 _ _ hD3,(λb p n1 n2 e=>s4 _ _ (k3 b p n1 n2 e)),t3.trans (An.of s4),s4 _ _ hW3,DS.up (LT.of s4) (da _),NM,(λk d a B g Y=>(hs3 k d a B g Y).up (LT.of s4)),(λd a B g=>(DT d a B g).up (LT.of s4)),(λa z=>by rw[List.take_zero]at z;cases z)⟩ (by rintro m Z G _ ⟨_,_,_,_,_,k5,_⟩;exact B6.of (k5 l _ hlD hlc hl)) ?_ ?_
    ·rintro m u Z G hu ⟨DV,v6,rfl,pU,iX,k5,t5,VC,mV,hwl5,VD,wM,wN⟩;have kL:m<2:=eT (bG.mp hu).1 vN;obtain⟨r0,hr0,mP⟩:=DU.get hu
     obtain⟨lk,er⟩:∃lk,r0=some lk:=by
      cases r0 with
      |none=>exact absurd (cb hr0) hno2
      |some r=>exact⟨r,rfl⟩
     subst er;obtain⟨lb,rfl,wO⟩:=mP;have hlk:F4 H lb lk:=wO;have tH5:An H G:=λb xs e=>k5 b _ (Bg e hD (by intro z;cases z)) (Bg e hc (by intro z;cases z)) e;have hlk5:=hlk.up tH5
     have NO:∀E,G E=none->H E=none:=λE hE=>by
      cases hHE:H E with
      |none=>rfl
      |some p=>
       by_cases B:E=D
       ·rw[B,iX]at hE;cases hE
       by_cases g:E=c
       ·rw[g,pU]at hE;cases hE
       rw[k5 E p B g hHE]at hE;cases hE
     refine⟨(λv N=>Pz λ(wQ:mu) (X:Addr) (DW:List V)=>ni (v=.ref X) (Ag wQ lk=some (.ref X)) (H X=none) (N X=some (.lst DW)) (DW.length<=16*i+2*j+m) ((∀u∈DW,Q3 R O f N lk u)) (N c=some (.bA o2 (.dK S))) (N D=some (.bA o (.dT f))) ((∀b p,b≠D->b≠c->H b=some p->N b=some p)) (An G N) (N W=some (.dT wQ)) (F7 R O H f (16*i+2*j+m) N wQ) (wQ.length<=16*i+2*j+m+1) ((∀k d a,(∃v,(k,v)∈f.take i)->Am H f k d->some a∈Az R k.1 O k.2 d->Ca N wQ a k d)) ((∀d a,(∃e∈S.take j,e.1=.inl ((d:Nat):Int))->some a∈Az R I.1 O I.2 d->Ca N wQ a I d)) ((∀a,some a∈(Az R I.1 O I.2 L).take m->Ca N wQ a I L))),⟨_,rfl,W,rfl,.inr ⟨DV,.inl VC⟩,_,rfl,C9,λE hE=>?_⟩,?_⟩
     ·have J:A9 G (upd G E (.lst [])):=A9.upd hE;have e6:(upd G E (.lst [])) E=some (.lst []):=A5;generalize upd G E (.lst [])=H6 at J e6⊢;have hW6:=J _ _ VC;refine⟨DV,lk,lb,rfl,hlk5.up (An.of J),hW6,Bu (by omega),λv hv=>?_,λhv=>?_⟩
      ·obtain⟨X,DW,e7,h0,h1,h2,h3⟩:=mV.1 _ (Be hv);have e7':v=.ref X:=e7;exact⟨DV,X,DW,e7,by rw[hv,e7'],h0,J _ _ h1,h2,(λu hu=>(h3 u hu).up (An.of J)),J _ _ pU,J _ _ iX,(λb p n1 n2 e=>J _ _ (k5 b p n1 n2 e)),An.of J,hW6,mV.up (LT.of J) (da _),by omega,(λk d a B g Y=>(VD k d a B g Y).up (LT.of J)),(λd a B g=>(wM d a B g).up (LT.of J)),(λa z=>(wN a z).up (LT.of J))⟩
      ·have t7:LT H6 (upd H6 W (.dT (Bd DV lk (.ref E)))):=LT.dT hW6;have nE:=NO E hE;have VE:=(LT.of J).trans t7;refine⟨Bd DV lk (.ref E),E,[],rfl,by rw[Fi,if_pos rfl],nE,t7.1 _ _ e6,jT _,(λu hu=>by cases hu),(Ab hcW).trans (J _ _ pU),(Ab hWD.symm).trans (J _ _ iX),(λb p n1 n2 e=>(Ab (Ae e hW)).trans (J _ _ (k5 b p n1 n2 e))),(An.of J).trans t7.2,A5,?_,dI (Dq _ _ _) (by omega),(λk d a B g Y=>((VD k d a B g Y).up VE).put hv),(λd a B g=>((wM d a B g).up VE).put hv),(λa z=>((wN a z).up VE).put hv)⟩;refine⟨λkv aL=>?_,?_⟩
       ·rcases du aL with y|y
        ·exact(mV.up VE (da _)).1 kv y
        ·subst y;exact⟨E,[],rfl,nE,t7.1 _ _ e6,jT _,λu hu=>by cases hu⟩
       ·rw[D4 _ hv,List.map_append];refine Ep mV.2 (λy=>?_);obtain⟨kv,aL,e⟩:=eH.mp y;obtain⟨l9,us9,e9,_,h9,_⟩:=mV.1 kv aL;have e':kv.2=.ref E:=e;rw[e']at e9;cases e9;rw[hE]at h9;cases h9
     rintro v N ⟨wQ,X,DW,rfl,hv7,n7,hl7,hul7,NP,hc7,hD7,k7,t7,hW7,hwo7,hwl7,hs7,hs72,hs73⟩;refine⟨.inl ⟨rfl,_,B6.of hl7⟩,_,rfl,_,rfl,C9,λT3 hT3=>?_⟩;have s8:A9 N (upd N T3 (.tup [.ref bb,kV (.inl (L:Int))])):=A9.upd hT3;have e8:(upd N T3 (.tup [.ref bb,kV (.inl (L:Int))])) T3=some (.tup [.ref bb,kV (.inl (L:Int))]):=A5;generalize upd N T3 (.tup [.ref bb,kV (.inl (L:Int))])=H8 at s8 e8⊢;have pT:=s8 _ _ hl7;refine⟨X,_,_,rfl,rfl,pT,Bu (by omega),?_⟩;have hl7D:X≠D:=(Ae hD n7).symm;have hl7c:X≠c:=(Ae hc n7).symm;have hl7W:X≠W:=Bg hl7 hW7 (by intro z;cases z);have NQ:F4 H8 bb I:=(((qC.up (An.of s2)).up t5).up t7).up (An.of s8);have hway:Q3 R O f H8 lk (.ref T3):=⟨T3,bb,L,I,rfl,e8,NQ,⟨kw,hkw⟩,cb hr0⟩;refine⟨wQ,_,rfl,(Ab hl7c.symm).trans (s8 _ _ hc7),(Ab hl7D.symm).trans (s8 _ _ hD7),(λb p n1 n2 e=>(Ab (Ae e n7)).trans (s8 _ _ (k7 b p n1 n2 e))),((t5.trans t7).trans (An.of s8)).trans (An.lst pT),(Ab hl7W.symm).trans (s8 _ _ hW7),?_,by omega,(λk d a B g Y=>((hs7 k d a B g Y).up (LT.of s8)).app pT),(λd a B g=>((hs72 d a B g).up (LT.of s8)).app pT),(λa z=>?_)⟩
     ·exact F7.app (hwo7.up (LT.of s8) (da _)) (Be hv7) pT hul7 (λu hu=>(NP u hu).up (An.of s8)) hway
     ·rw[List.take_add_one,hr0]at z;rcases fe.mp z with y|y
      ·exact((hs73 a y).up (LT.of s8)).app pT
      ·have ey:a=lk:=by simpa using y
       subst ey;have tt:An H8 (upd H8 X (.lst (DW++[.ref T3]))):=An.lst pT;exact⟨X,_,T3,bb,hv7,A5,by simp,tt _ _ e8,NQ.up tt⟩
    rintro Z G ⟨DV,v6,rfl,pU,iX,k5,t5,VC,mV,hwl5,VD,wM,wN⟩;refine⟨DV,_,_,_,rfl,pU,iX,k5,t5,VC,mV.up ⟨λ_ _ z=>z,λ_ _ z=>z⟩ (by omega),by omega,VD,λd a B g=>?_⟩;obtain⟨e,he,ew⟩:=B;rw[List.take_add_one,NN]at he;rcases fe.mp he with y|y
    ·exact wM d a ⟨e,y,ew⟩ g
    ·have ey:e=(.inl (L:Int),.ref l):=by simpa using y
     subst ey;have ew2:(L:Int)=(d:Int):=Sum.inl.inj ew;have ew3:L=d:=by omega
     subst ew3;refine wN a ?_;rw[DU.1,List.take_length];exact g
   rintro Z M ⟨wv3,v4,v5,v6,rfl,NL,hD3,k3,t3,hW3,DS,NM,hs3,DT⟩;have hll:D8 (.dK S)<=8:=kN;have tz:LT M (upd M c (.dK S)):=⟨λb xs e=>by rw[Ab (Bg e NL (by intro z;cases z))];exact e,λb xs e=>by rw[Ab (Bg e NL (by intro z;cases z))];exact e⟩;refine⟨o2,NL,wv3,_,_,_,_,_,rfl,(Ab hcD.symm).trans hD3,(λb p n1 e=>?_),(Ab hcW.symm).trans hW3,DS.up tz (show 16*i+2*D8 (.dK S)<=16*(i+1)by omega),by omega,λk d a B g Y=>?_⟩
   ·by_cases z:b=c
    ·subst z;rw[hc]at e;cases e;exact A5
    ·exact(Ab z).trans (k3 b p n1 z e)
   ·obtain⟨v,hv⟩:=B;rw[List.take_add_one,aL]at hv;rcases fe.mp hv with y|y
    ·exact(hs3 k d a ⟨v,y⟩ g Y).up tz
    ·have ey:(k,v)=(I,.ref c):=by simpa using y
     cases ey;obtain⟨c',gH,g1,g2,g3⟩:=g;rw[Ct lV.2.1 bS]at g1;cases g1;rw[hc]at g2;cases g2;obtain⟨w',ZR⟩:=Option.isSome_iff_exists.mp g3;refine(DT d a ⟨(.inl (d:Int),w'),?_,rfl⟩ Y).up tz;show _∈S.take S.length;rw[List.take_length];exact Be ZR
  rintro Z U ⟨C,v2,v3,v4,v5,v6,rfl,fH,k',zI,wL,xO,pO⟩;have hkl':D8 (.dT f)<=3000:=lR;have tD:LT U (upd U D (.dT f)):=⟨λb xs e=>by rw[Ab (Bg e fH (by intro z;cases z))];exact e,λb xs e=>by rw[Ab (Bg e fH (by intro z;cases z))];exact e⟩;refine⟨o,fH,_,rfl,q W C _ hW (λb p e=>?_) ((Ab hWD).trans zI) (wL.up tD (show 16*D8 (.dT f)<=48000 by omega)) (λk d a g Y=>?_) (by omega)⟩
  ·by_cases z:b=D
   ·subst z;rw[hD]at e;cases e;exact A5
   ·exact(Ab z).trans (k' b p z e)
  ·obtain⟨c',gH,g1,g2,g3⟩:=id g;refine(pO k d a ⟨.ref c',?_⟩ g Y).up tD;show _∈f.take f.length;rw[List.take_length];exact Be g1
def om(K:PySem.W.Frag):Sp:=λm H Q _=>jk λ(D W R:Addr) (a h:mu) (j:List V) (i:List (mv×Int)) (l:Hp) (g:mv) (f:mx)=>Lp (m=[.ref D,.ref W,.ref R]) (H D=some (.dT a)) (Cl g f H a) (H W=some (.dT h)) (F7 g f l a 48000 H h) ((∀k b c,Am H a k b->some c∈Az g k.1 f k.2 b->Ca H h c k b)) (H R=some (.lst j)) (Af (F5 H) i j) (Cg H a<=24000) (∀(B:Addr) (bs:List V) (e:List (mv×Int)) (d:Hp),H B=none->Eh a H d->Cl g f d a->d B=some (.lst bs)->Af (F5 d) e bs->Cg d a+bs.length<=Cg H a->
  (∀k b,Am d a k b↔(Am H a k b/\∀c∈i,some c∉Az g k.1 f k.2 b))->(∀k,k∈e↔((∃b,Am H a k b)/\∀b,¬Am d a k b))->Q (.ref B) d)
theorem yy{fd:nr}(F:Dn K "without_calls_left" "without_calls_left" vt ad.lH fd):Bf P w K mg base (CX1 P w) 1 ad.lH fd ["pending","ways","ranked"] (om K):=by
 refine F.okN Ph (λvs H Q E h=>?_) (λaM A outer s H vs Q E hr h=>?_)
 ·rcases h with⟨D,W,R,d,wv,rs,bK,H0,X,O,rfl,hD,lV,hW,wL,pL,hR,gI,hle,q⟩<;>rfl
 ·obtain⟨D,W,R,d,wv,rs,bK,H0,X,O,rfl,hD,lV,hW,wL,pL,hR,gI,hle,q⟩:=h;refine⟨_,(A6 (Ah (i:=3) Ph.nd rfl (Or.inl rfl) (Dv A7)) (A6 (Cd i0 rfl (Ci (pv 2)) (Al (i:=4) Ph.nd rfl (Or.inl rfl)) (Aa (Cd i0 rfl (Ci (O8 (de (G9 hr) (pv 1) (pv 4) (Dv A7) ⟨rfl,rfl,rfl,rfl⟩))) (Dx K (n:=2) rfl (Bh (Al (i:=5) Ph.nd rfl (Or.inl rfl)) (Bh (Al (i:=6) Ph.nd rfl (Or.inl rfl)) Dy))) (A6 (Ah (i:=7) Ph.nd rfl (Or.inl rfl) (Jl (G9 hr) (pv 0) (pv 5) (λ_ _=>rfl))) (Aa (Fs (Ko (V1 (G9 hr) (pv 6) (pv 7)) rfl) (A6 (De (dh (pv 7) (pv 6) ⟨rfl,rfl,rfl,rfl⟩)) (Aa (Fs (Dw (X2 (pv 7))) (Aa (De (Ib PySem.F.plainAttrs_list PySem.F.slot_list_append PySem.F.type_list_append E3 (pv 3) (A0 (pv 5) A7)))) Ap))) Ap)))))) (Aa (Ak (pv 3))))),?_⟩;have mB:=lV.ok;refine⟨C9,λB hB=>?_⟩;have s1:A9 H (upd H B (.lst [])):=A9.upd hB;have e1:(upd H B (.lst [])) B=some (.lst []):=A5;generalize upd H B (.lst [])=H1 at s1 e1⊢;have c1:∀c p,H c=some (.dK p)->H1 c=some (.dK p):=λc p e=>s1 _ _ e;refine⟨_,rfl,R,rfl,.inl ⟨⟨_,B6.of (s1 _ _ hR)⟩,?_⟩⟩
  refine Cm (K:=K) (a:=R) (xs:=rs) (λi σ G=>y6 λ(bs:List V) (o:List (mv×Int)) (v4 v5 v6 v7:Option V)=>W3 (σ=[some (.ref D),some (.ref W),some (.ref R),some (.ref B),v4,v5,v6,v7]) (Eh d H G) (Cl X O G d) (G B=some (.lst bs)) (Af (F5 G) o bs) (Cg G d+bs.length<=Cg H d) (Xr B G d) ((∀k a,Am G d k a->Am H d k a)) ((∀k a,Am H d k a->(∀f∈bK.take i,some f∉Az X k.1 O k.2 a)->Am G d k a)) ((∀f∈bK.take i,∀k a,some f∈Az X k.1 O k.2 a->¬Am G d k a)) ((∀k,k∈o↔((∃a,Am H d k a)/\∀a,¬Am G d k a))))
   ⟨[],[],_,_,_,_,rfl,Eh.of s1,lV.keep (LT.of s1) c1,e1,Af.nil,by rw[Ec mB c1];exact da _,(Xr.start mB hB).keep mB c1,(λk a z=>(Am.keep lV c1).mp z),(λk a z _=>(Am.keep lV c1).mpr z),(λf z=>by rw[List.take_zero]at z;cases z),λk=>⟨(λz=>by cases z),λz=>?_⟩⟩ (by rintro i σ G _ ⟨_,_,_,_,_,_,_,ch,_⟩;exact B6.of (ch.keep mB hR (λp z=>nomatch z))) ?_ ?_
  ·obtain⟨⟨a,C⟩,r⟩:=z;exact absurd ((Am.keep lV c1).mpr C) (r a)
  ·rintro i u σ G hu ⟨bs,o,v4,v5,v6,v7,rfl,ch,eY,VF,zE,hlf,nb,l1,l2,l3,l4⟩;obtain⟨lk,wO,lb,lu,rfl,hlk1,hlk2⟩:=gI.get hu;have hlk:F4 H lb lk:=⟨lu,hlk1,hlk2⟩;have wR:=eY.ok;have lt':=ch.lt mB;have zI:=ch.keep mB hW (λp z=>nomatch z);have hwo':=wL.up lt' (da _);refine⟨(λv L=>Py λ(N:Addr) (kP:List V)=>Jz (v=.ref N) (L N=some (.lst kP)) (N≠B) ((∀u∈kP,Q3 X O d L lk u)) ((∀lx,Ag wv lk=some (.ref lx)->lx=N)) (A9 G L)),⟨_,rfl,W,rfl,.inr ⟨wv,.inl zI⟩,_,rfl,C9,λE hE=>?_⟩,?_⟩
   ·have s6:A9 G (upd G E (.lst [])):=A9.upd hE;refine⟨_,Dm.t (s6 _ _ zI) ((hlk.up lt'.2).up (An.of s6)),?_⟩;cases hv:Ag wv lk with
    |none=>exact⟨E,[],rfl,A5,(Ae VF hE).symm,(λu hu=>by cases hu),(λlx z=>by cases z),s6⟩
    |some v=>
     obtain⟨N,kP,e2,h0,h1,h2,h3⟩:=wL.1 _ (Be hv);obtain⟨lc,us3,e3,_,J,_,g3⟩:=hwo'.1 _ (Be hv);have e23:V.ref N=V.ref lc:=e2.symm.trans e3;cases e23;have e3':v=.ref N:=e3;exact⟨N,us3,e3,s6 _ _ J,Ae h1 hB,(λu hu=>(g3 u hu).up (An.of s6)),(λlx z=>by rw[e3']at z;cases z;rfl),s6⟩
   rintro v L ⟨N,kP,rfl,HR,hlaB,hus2,hlx,s7⟩;refine⟨N,rfl,.inl ⟨⟨_,B6.of HR⟩,?_⟩⟩;have c7:∀c p,G c=some (.dK p)->L c=some (.dK p):=λc p e=>s7 _ _ e;have hps7:=eY.keep (LT.of s7) c7;have lt7:LT H L:=lt'.trans (LT.of s7)
   refine Cm (K:=K) (a:=N) (xs:=kP) (λj σ m=>nk λ(bs:List V) (o:List (mv×Int)) (v5 v6 v7:Option V)=>nh (σ=[some (.ref D),some (.ref W),some (.ref R),some (.ref B),some (.ref lb),v5,v6,v7]) (Eh d H m) (Cl X O m d) (m B=some (.lst bs)) (Af (F5 m) o bs) (Cg m d+bs.length<=Cg H d) (Xr B m d) ((∀k a,Am m d k a->Am H d k a)) ((∀k a,Am H d k a->(∀f∈bK.take (i+1),some f∉Az X k.1 O k.2 a)->Am m d k a)) ((∀f∈bK.take i,∀k a,some f∈Az X k.1 O k.2 a->¬Am m d k a)) ((∀k,k∈o↔((∃a,Am H d k a)/\∀a,¬Am m d k a))) (An L m) (m N=some (.lst kP)) ((∀k a,Am m d k a->Am L d k a)) (∀t b a k,V.ref t∈kP.take j->L t=some (.tup [.ref b,.int ((a:Nat):Int)])->F4 L b k->¬Am m d k a))
    ⟨bs,o,_,_,_,rfl,ch.trans (Eh.of s7),hps7,s7 _ _ VF,zE.imp (λ_ _ z=>F5.up (An.of s7) z),by rw[Ec wR c7];exact hlf,nb.keep wR c7,(λk a z=>l1 k a ((Am.keep eY c7).mp z)),(λk a C r=>(Am.keep eY c7).mpr (l2 k a C λf M=>r f (List.take_subset_take_left _ (Nat.le_succ i) M))),(λf M k a C r=>l3 f M k a C ((Am.keep eY c7).mp r)),(λk=>(l4 k).trans ⟨λz=>⟨z.1,λa y=>z.2 a ((Am.keep eY c7).mp y)⟩,λz=>⟨z.1,λa y=>z.2 a ((Am.keep eY c7).mpr y)⟩⟩),(λ_ _ z=>z),HR,(λk a z=>z),(λt b a k z=>by rw[List.take_zero]at z;cases z)⟩ (by rintro j σ m _ ⟨_,_,_,_,_,_,_,_,_,_,_,_,_,_,_,_,_,e,_⟩;exact B6.of e) ?_ ?_
   ·rintro j u σ m NR ⟨Z,jL,v5,v6,v7,rfl,HW,mW,VG,rZ,DX,VH,m1,m2,m3,m4,HY,wU,m5,m6⟩;have hpo8:=mW.ok;obtain⟨t,b,a,k,rfl,ht7,NS,⟨v,aL⟩,hbeh⟩:=hus2 u (cb NR);have ht:=HY _ _ ht7;have hb:=NS.up HY;refine⟨t,_,rfl,Cu.of ht,rfl,_,_,rfl,_,_,rfl,rfl,?_⟩;have hD8:=HW.keep mB hD (λp z=>nomatch z);have bS:=Be aL;obtain⟨c,p,ev,Y,kN,qY⟩:=mW.1 _ bS;have ev':v=.ref c:=ev;subst ev'
    have U:∀(HX:Hp),(∀l g,Am HX d l g->Am m d l g)->¬Am HX d k a->∀t' b' g l,V.ref t'∈kP.take (j+1)->L t'=some (.tup [.ref b',.int ((g:Nat):Int)])->F4 L b' l->¬Am HX d l g:=λHX pS hx2 t' b' g l C r z3 z4=>by
     rw[List.take_add_one,NR]at C;rcases fe.mp C with y|y
     ·exact m6 t' b' g l y r z3 (pS _ _ z4)
     ·have e1:t'=t:=by simpa using y
      subst e1;rw[ht7]at r;cases r;obtain⟨u1,f1,f2⟩:=NS;obtain⟨u2,J,g2⟩:=z3;rw[f1]at J;injection J with J;injection J with J;injection J with g1a NT;injection NT with NT;injection g1a with g1a;injection NT with NT;subst g1a;rw[f2]at g2
      have ek:k=l:=by
       have h1:k.1=l.1:=by
        have:=d0 g2;injection this with this;exact Kw this
       exact Prod.ext h1 NT
      subst ek;exact hx2 z4
    refine⟨_,rfl,_,rfl,D,.ref c,rfl,(by rw[<- aL];exact Dm.t hD8 hb),?_⟩;refine⟨_,rfl,_,rfl,c,_,rfl,Dm.k (k:=.inl (a:Int)) Y,_,rfl,_,λiK=>?_,λiK=>?_,λ_ _ z=>z⟩
    ·obtain⟨w',hw⟩:=Option.isSome_iff_exists.mp iK;have zJ:Am m d k a:=⟨c,p,aL,Y,by rw[hw];rfl⟩;refine⟨_,rfl,c,rfl,.inl ⟨p,.inl Y⟩,_,rfl,p,.inl (a:Int),w',Y,rfl,hw,?_⟩;have ch9:Eh d m (upd m c (.dK (Br p (.inl (a:Int))))):=Eh.pop bS rfl;have sE:Cl X O (upd m c (.dK (Br p (.inl (a:Int))))) d:=mW.pop Y;have wV:LT m (upd m c (.dK (Br p (.inl (a:Int))))):=LT.dK Y;have VI:(upd m c (.dK (Br p (.inl (a:Int))))) c=some (.dK (Br p (.inl (a:Int)))):=A5;have VJ:Xr B (upd m c (.dK (Br p (.inl (a:Int))))) d:=VH.pop Y;have hl9:=(P3 Y (jy hw) (kvs:=d)).2 ⟨_,bS,rfl⟩;have DY:∀l g,Am (upd m c (.dK (Br p (.inl (a:Int))))) d l g↔Am m d l g/\¬(l=k/\g=a):=λl g=>Am.pop mW aL Y;generalize upd m c (.dK (Br p (.inl (a:Int))))=I at ch9 sE wV VI VJ hl9 DY⊢;have NU:=sE.ok;have NV:=wV.1 _ _ VG;have hb9:=hb.up wV.2;have n1:∀l g,Am I d l g->Am H d l g:=λl g z=>m1 _ _ ((DY l g).mp z).1
     have n2:∀l g,Am H d l g->(∀f∈bK.take (i+1),some f∉Az X l.1 O l.2 g)->Am I d l g:=λl g C r=>(DY l g).mpr ⟨m2 _ _ C r,λe=>by
      refine r lk ?_ (by rw[e.1,e.2];exact hbeh);rw[List.take_add_one,wO];simp⟩
     have n3:∀f∈bK.take i,∀l g,some f∈Az X l.1 O l.2 g->¬Am I d l g:=λf M l g C r=>m3 f M l g C ((DY l g).mp r).1;have n5:∀l g,Am I d l g->Am m d l g:=λl g z=>((DY l g).mp z).1;have n6:=U I n5 (λz=>((DY k a).mp z).2 ⟨rfl,rfl⟩);have S:∀l,l≠k->((∀g,¬Am I d l g)↔∀g,¬Am m d l g):=λl cK=>⟨λz g y=>z g ((DY l g).mpr ⟨y,λe=>cK e.1⟩),λz g y=>z g (n5 _ _ y)⟩;have hkb:k∉jL:=λz=>((m4 k).mp z).2 a zJ;refine⟨_,rfl,c,_,rfl,.inl VI,_,λhe=>?_,λhe=>?_,λ_ _ z=>z⟩
     ·have kB:Br p (.inl (a:Int))=[]:=by
       have:(Br p (.inl (a:Int))).isEmpty=true:=by simpa using he
       exact List.isEmpty_iff.mp this
      have NW:∀g,¬Am I d k g:=λg z=>by
       obtain⟨c',gH,J,g2,g3⟩:=z;rw[aL]at J;cases J;rw[VI]at g2;cases g2;rw[kB]at g3;cases g3
      refine⟨_,rfl,.inl ⟨rfl,_,B6.of NV⟩,_,rfl,B,_,_,rfl,rfl,NV,Bu (by omega),?_⟩;have sF:An I (upd I B (.lst (Z++[.ref b]))):=An.lst NV
      have VL:∀c' gH,I c'=some (.dK gH)->(upd I B (.lst (Z++[.ref b]))) c'=some (.dK gH):=λc' gH e=>by
       rw[Ab (Bg e NV (by intro z;cases z))];exact e
      have kl:∀x xs,x≠B->I x=some (.lst xs)->(upd I B (.lst (Z++[.ref b]))) x=some (.lst xs):=λx xs n e=>(Ab n).trans e;have mX:∀l g,Am (upd I B (.lst (Z++[.ref b]))) d l g↔Am I d l g:=λl g=>Am.keep sE VL;obtain⟨ub,hb91,hb92⟩:=hb9;refine⟨Z++[.ref b],jL++[k],_,_,_,rfl,(HW.trans ch9).new hB,sE.MV VJ sF kl VL,A5,(rZ.imp λ_ _ z=>F5.up sF (F5.up wV.2 z)).append (Af.one ⟨b,ub,rfl,sF _ _ hb91,sF _ _ hb92⟩),?_,VJ.keep NU VL,(λl g z=>n1 _ _ ((mX l g).mp z)),(λl g C r=>(mX l g).mpr (n2 _ _ C r)),(λf M l g C r=>n3 f M l g C ((mX l g).mp r)),(λl=>?_),(HY.trans wV.2).trans sF,kl _ _ hlaB (wV.1 _ _ wU),(λl g z=>m5 _ _ (n5 _ _ ((mX l g).mp z))),(λt' b' g l C r z3 z4=>n6 t' b' g l C r z3 ((mX l g).mp z4))⟩
      ·rw[Ec NU VL,List.length_append,List.length_singleton];omega
      ·have UW:(∀g,¬Am (upd I B (.lst (Z++[.ref b]))) d l g)↔∀g,¬Am I d l g:=⟨λz g y=>z g ((mX l g).mpr y),λz g y=>z g ((mX l g).mp y)⟩;rw[UW];by_cases cK:l=k
       ·subst cK;exact⟨λ_=>⟨⟨a,m1 _ _ zJ⟩,NW⟩,λ_=>by simp⟩
       ·rw[S l cK,<- m4 l];simp[cK]
     ·have aX:Br p (.inl (a:Int))≠[]:=λz=>by
       rw[z]at he;exact absurd he (by decide)
      refine⟨Z,jL,_,_,_,rfl,HW.trans ch9,sE,NV,rZ.imp (λ_ _ z=>F5.up wV.2 z),by omega,VJ,n1,n2,n3,(λl=>?_),HY.trans wV.2,wV.1 _ _ wU,(λl g z=>m5 _ _ (n5 _ _ z)),n6⟩;by_cases cK:l=k
      ·subst cK;refine⟨λz=>absurd z hkb,λz=>?_⟩;obtain⟨x,hx⟩:=List.exists_mem_of_ne_nil _ aX;obtain⟨rP,l9,us9,J,_⟩:=qY x (Mh hx)
       have hs:(Ag (Br p (.inl (a:Int))) (.inl (rP:Int))).isSome=true:=by
        obtain⟨y,hy⟩:=L3 (k:=x.1) (v:=x.2) hx;rw[<- J,hy];rfl
       exact absurd ⟨c,_,aL,VI,hs⟩ (z.2 rP)
      ·rw[S l cK];exact m4 l
    ·have iU:¬Am m d k a:=λz=>by
      obtain⟨c',gH,J,g2,g3⟩:=z;rw[aL]at J;cases J;rw[Y]at g2;cases g2;rw[iK]at g3;cases g3
     exact⟨Z,jL,_,_,_,rfl,HW,mW,VG,rZ,DX,VH,m1,m2,m3,m4,HY,wU,m5,U m (λ_ _ z=>z) iU⟩
   rintro σ m ⟨Z,jL,v5,v6,v7,rfl,HW,mW,VG,rZ,DX,VH,m1,m2,m3,m4,HY,wU,m5,m6⟩;refine⟨Z,jL,_,_,_,_,rfl,HW,mW,VG,rZ,DX,VH,m1,m2,(λf M k a C r=>?_),m4⟩;rw[List.take_add_one,wO]at M;rcases fe.mp M with y|y
   ·exact m3 f y k a C r
   ·have e1:f=lk:=by simpa using y
    subst e1;obtain⟨lx,ux,tx,bx,f1,f2,f3,f4,f5⟩:=(pL k a f (m1 _ _ r) C).up lt7;have ex:=hlx lx f1;subst ex;rw[HR]at f2;cases f2;refine m6 tx bx a k ?_ f4 f5 r;rw[List.take_length];exact f3
  rintro σ G ⟨bs,o,v4,v5,v6,v7,rfl,ch,eY,VF,zE,hlf,nb,l1,l2,l3,l4⟩;rw[gI.1,List.take_length]at l2 l3;exact⟨_,rfl,q B bs o G hB ch eY VF zE hlf (λk a=>⟨λz=>⟨l1 k a z,λf M y=>l3 f M k a y z⟩,λz=>l2 k a z.1 z.2⟩) l4⟩
def Vo(K:W.Frag):Sp:=λf H Q _=>Pz λ(a:Addr) (b:mv) (c:mx)=>Pw (f=[.ref a]) (Bk H a b c) ((∀w∈b,1<=w)) (1<=qv c) ((∀w∈b,intBits w<=256)) (intBits (qv c)<=256) (b.length<=8) (Bn (qv c) b<=3000) (∀(T:Addr) (d:mu) (e:Hp),H T=none->A9 H e->e T=some (.dT d)->Bl b c d->(d.map (·.1)).Nodup->d.length<=60000->Q (.ref T) e)
theorem uo{fd NX DZ NY:nr}(F:Dn K "ranks" "ranks" Xj ad.dM fd)(wW:Gk P w K mg base 6 ad.lG ["hall"] (ot K) NX)(oU:Gk P w K mg base 1 ad.fV ["pending"] (iu K) DZ)(wX:Gk P w K mg base 1 ad.lH ["pending","ways","ranked"] (om K) NY):Bf P w K mg base (CX1 P w) 7 ad.dM fd ["hall"] (Vo K):=by
 refine F.okN Fu (λvs H Q E h=>?_) (λaM A outer s H vs Q E hr h=>?_)
 ·rcases h with⟨a,ws,cm,rfl,ha,cS,rR,cT,gS,zF,hp,q⟩<;>rfl
 ·obtain⟨a,ws,cm,rfl,ha,cS,rR,cT,gS,zF,hp,q⟩:=h;refine⟨_,(A6 (Ah (i:=1) Fu.nd rfl (Or.inl rfl) (Ac wW.g (hr.mono (by decide)) rfl T.YZ T.ZA wW.b .nil Ao (A0 (pv 0) A7))) (A6 (Ah (i:=2) Fu.nd rfl (Or.inl rfl) (Ac oU.g (hr.mono (by decide)) rfl T.LX T.LY oU.b .nil Ao (A0 (pv 1) A7))) (A6 (Ah (i:=3) Fu.nd rfl (Or.inl rfl) Gx) (A6 (Ah (i:=4) Fu.nd rfl (Or.inl rfl) Ad) (A6 (Qw (Cs (i:=5) Fu.nd rfl (Jm (pv 1)) _ rfl Ud rfl rfl (λ_ _ _ _=>(Dx K (n:=2) rfl (Bh (Al (i:=0) My rfl (Or.inl rfl)) (Bh (Al (i:=1) My rfl (Or.inl rfl)) Dy)))) (λ_ _ _ _=>(Qx (Dw (X2 (pv 1))))) (λ_ _ _ _=>(pv 0)) rfl rfl)) (A6 (Gz i0 (N9 (pv 5) (by intro _;rfl)) (A6 (Cd i0 rfl (Ci (pv 5)) (Al (i:=6) Fu.nd rfl (Or.inl rfl)) (Aa (Jo (G9 hr) (pv 3) (pv 6) (pv 4) rfl))) (A6 (Ah (i:=5) Fu.nd rfl (Or.inl rfl) (Ac wX.g (hr.mono (by decide)) rfl T.ZC T.ZD wX.b .nil Ao (A0 (pv 1) (A0 (pv 2) (A0 (pv 5) A7))))) (Aa (Ah (i:=4) Fu.nd rfl (Or.inl rfl) (Bc Gu (pv 4) Ad)))))) (Aa (Ak (pv 3))))))))),?_⟩;refine⟨_,rfl,a,ws,cm,rfl,ha,cS,rR,cT,gS,zF,hp,λD d H1 hD s1 eD lV gN rY iP lR=>?_⟩;have mB:=lV.ok;refine⟨_,rfl,D,d,ws,cm,rfl,eD,lV,lR,λW wv H2 hW s2 eW wL JL xO=>?_⟩;refine λT hT=>?_;have s3:A9 H2 (upd H2 T (.dT [])):=A9.upd hT;have e3:(upd H2 T (.dT [])) T=some (.dT []):=A5;generalize upd H2 T (.dT [])=U at s3 e3⊢;have rV:=s2.trans s3;have HZ:=rV _ _ eD;have hTD:T≠D:=(Ae (s2 _ _ eD) hT).symm;refine⟨D,.dT d,trivial,HZ,_,rfl,D,.dT d,rfl,trivial,HZ,λo=>?_⟩;have wY:=lV.keep (LT.of rV) (λc l e=>rV _ _ e);have hpo3:=wY.ok;have NZ:=rY.keep lV (λc l e=>rV _ _ e);have tF:LT U (upd U D (.bA o (.dT d))):=LT.dT HZ
  have kF:∀c l,U c=some (.dK l)->(upd U D (.bA o (.dT d))) c=some (.dK l):=λc l e=>by
   rw[Ab (Bg e HZ (by intro z;cases z))];exact e
  have bF:∀b C,b≠D->U b=some C->(upd U D (.bA o (.dT d))) b=some C:=λb C n e=>(Ab n).trans e;have dF:(upd U D (.bA o (.dT d))) D=some (.bA o (.dT d)):=A5;have wZ:=wY.keep tF kF;have zK:=NZ.keep wY kF;generalize upd U D (.bA o (.dT d))=HF at tF kF bF dF wZ zK⊢;refine λR hR=>?_;refine Lx (K:=K) (d:=D) (o:=o) (u:=.dT d) (λi zs j=>∃(J:List (mv×Int)),G8 (j R=some (.lst zs)) (zs.length<=i) (Af (F5 j) J zs) (A9 HF j) (∀k,k∈J↔∃v,(k,v)∈d.take i/\Zo HF v)) ⟨[],A5,da _,Af.nil,A9.upd hR,λk=>⟨(λz=>by cases z),λ⟨v,z,_⟩=>by rw[List.take_zero]at z;cases z⟩⟩ (by rintro i zs j _ ⟨_,_,_,_,s,_⟩;exact s _ _ dF) ?_ ?_ ?_ ?_
  ·rintro i x y T2 zs j hi hit ⟨J,uY,jK,gY,s',OA⟩ wI;have hi3:i<3000:=eT hi lR;obtain⟨kk,bb,O,rfl,qC⟩:=hit;obtain⟨c,l,ey,hc,kN,qY⟩:=wZ.1 _ (cb O);have JE:y=.ref c:=ey;subst JE;have s4:A9 j (upd j T2 (.tup [.ref bb,.ref c])):=A9.upd wI;have e4:(upd j T2 (.tup [.ref bb,.ref c])) T2=some (.tup [.ref bb,.ref c]):=A5;generalize upd j T2 (.tup [.ref bb,.ref c])=N at s4 e4⊢;have xA:=s4 _ _ uY;refine⟨_,rfl,c,l,rfl,.inl (s4 _ _ (s' _ _ hc)),?_⟩;obtain⟨ku,pZ,vR⟩:=qC.up (An.of s4);refine Fc (λyD=>?_) (λyD=>?_)
   ·have kB:l=[]:=by
     have:l.isEmpty=true:=by simpa using yD
     exact List.isEmpty_iff.mp this
    subst kB;have tt:An N (upd N R (.lst (zs++[.ref bb]))):=An.lst xA;refine⟨_,rfl,xA,Bu (by omega),J++[kk],A5,by rw[List.length_append,List.length_singleton];omega,(gY.imp λ_ _ z=>F5.up tt (F5.up (An.of s4) z)).append (Af.one ⟨bb,ku,rfl,tt _ _ pZ,tt _ _ vR⟩),(s'.trans s4).new hR,λk=>?_⟩;rw[List.mem_append,OA,List.mem_singleton,List.take_add_one,O];constructor
    ·rintro(⟨v,Z,S⟩|z)
     ·exact⟨v,gv _ Z,S⟩
     ·subst z;exact⟨.ref c,by simp,c,rfl,hc⟩
    ·rintro⟨v,Z,S⟩;rcases fe.mp Z with y|y
     ·exact .inl ⟨v,y,S⟩
     ·have G:(k,v)=(kk,.ref c):=by simpa using y
      cases G;exact .inr rfl
   ·have aX:l≠[]:=λz=>by
     rw[z]at yD;exact absurd yD (by decide)
    refine⟨J,xA,by omega,gY.imp λ_ _ z=>F5.up (An.of s4) z,s'.trans s4,λk=>?_⟩;rw[OA,List.take_add_one,O];constructor
    ·rintro⟨v,Z,S⟩;exact⟨v,gv _ Z,S⟩
    ·rintro⟨v,Z,S⟩;rcases fe.mp Z with y|y
     ·exact⟨v,y,S⟩
     ·have G:(k,v)=(kk,.ref c):=by simpa using y
      cases G;obtain⟨c',M,e3⟩:=S;cases M;rw[hc]at e3;cases e3;exact absurd rfl aX
  ·rintro σ H1 Q1 Q2 hQ ⟨v,G,c,l,M,r,z⟩;exact⟨v,G,c,l,M,r,hQ _ _ z⟩
  ·rintro σ H1 Q1 Q2 hQ ⟨v,G,z⟩;exact⟨v,G,hQ _ _ z⟩
  rintro zs HG ⟨EA,OB,jK,gY,sG,zL⟩;rw[show d.take (D8 (.dT d))=d from List.take_length]at zL;have hst0:=Fy.start wZ gN zK zL;have xB:=sG _ _ dF;have hkl':D8 (.dT d)<=3000:=lR;have tG:LT HG (upd HG D (.dT d)):=⟨λb xs e=>by rw[Ab (Bg e xB (by intro z;cases z))];exact e,λb xs e=>by rw[Ab (Bg e xB (by intro z;cases z))];exact e⟩
  have lW:A9 U (upd HG D (.dT d)):=λb C e=>by
   by_cases z:b=D
   ·subst z;rw[HZ]at e;cases e;exact A5
   ·exact(Ab z).trans (sG _ _ (bF b C z e))
  refine⟨o,xB,?_⟩;have xA:=tG.1 _ _ OB;have pV:Af (F5 (upd HG D (.dT d))) EA zs:=gY.imp λ_ _ z=>F5.up tG.2 z
  have cG:∀c l,HF c=some (.dK l)->(upd HG D (.dT d)) c=some (.dK l):=λc l e=>by
   rw[Ab (Bg (sG _ _ e) xB (by intro z;cases z))];exact sG _ _ e
  have hR3:U R=none:=by
   cases hx:U R with
   |none=>rfl
   |some C=>
    by_cases z:R=D
    ·rw[z,dF]at hR;cases hR
    ·rw[bF R C z hx]at hR;cases hR
  generalize upd HG D (.dT d)=N at tG lW xA pV cG⊢;clear tG OB gY sG xB;have OC:=wY.keep (LT.of lW) (λc l e=>lW _ _ e);have EB:=OC.ok
  have hst4:Fy ws cm [] EA 1 (Am N d):=by
   have e:Am N d=Am HF d:=by
    funext k f;exact propext (Am.keep wZ cG)
   rw[e];exact hst0
  have hcm4:∀k f p,Am N d k f->some p∈Az ws k.1 cm k.2 f->Ca N wv p k f:=λk f p Z S=>((JL k f p ((Am.keep lV (λc l e=>lW _ _ (rV _ _ e))).mp Z) S).up (LT.of s3)).up (LT.of lW);have eD4:=lW _ _ HZ;have eW4:=lW _ _ (s3 _ _ eW);have eT4:=lW _ _ e3;have hwo4:=wL.up ((LT.of s3).trans (LT.of lW)) (da _)
  have hl4:Cg N d<=24000:=by
   have:=Mq EB;omega
  have hTv:∀I∈d,I.2≠ .ref T:=λI O z=>by
   obtain⟨c,l,G,M,_⟩:=hpo3 I O;rw[z]at G;cases G;rw[e3]at M;cases M
  dsimp only
  refine He (λσ' j=>y6 λ(R:Addr) (X:List V) (J:List (mv×Int)) (tv:mu) (g:Int) (v6:Option V)=>Lp (σ'=[some (.ref a),some (.ref D),some (.ref W),some (.ref T),some (.int g),some (.ref R),v6]) ((∀b C,b≠T->N b=some C->(∀I∈d,I.2≠ .ref b)->j b=some C)) (Cl ws cm j d) (j T=some (.dT tv)) ((tv.map (·.1)).Nodup) (j R=some (.lst X)) (Af (F5 j) J X) (Fy ws cm tv J g (Am j d)) ((∀k f,Am j d k f->Am N d k f)) (tv.length+X.length+Cg j d<=27000))
   (λσ' j=>2*Cg j d+match σ' with
    |[_,_,_,_,_,some (.ref R),_]=>(match j R with
     |some (.lst [])=>0
     |_=>1)
    |_=>0) ⟨R,zs,EA,[],1,_,rfl,(λb C _ e _=>e),OC,eT4,List.Pairwise.nil,xA,pV,hst4,(λ_ _ z=>z),by show 0+zs.length+_<=_;omega⟩ ?_ ?_
  ·rintro σ' j ⟨R,X,J,tv,g,v6,rfl,kp,eY,zM,htv,uY,gI,OD,vS,hsum⟩;have wR:=eY.ok;refine⟨_,rfl,_,.inl ⟨_,B6.of uY,rfl⟩,?_⟩
   have fH:=kp D _ hTD.symm eD4 (λI O z=>by
    obtain⟨c,l,G,M,_⟩:=EB I O;rw[z]at G;cases G;rw[eD4]at M;cases M)
   refine Fc (λaX=>?_) (λkB=>?_)
   ·have hrs0:0<X.length:=by
     cases X with
     |nil=>exact absurd aX (by decide)
     |cons x xs=>simp
    have hRT:R≠T:=Bg uY zM (by intro z;cases z)
    have mu0:(match j R with
     |some (.lst [])=>0
     |_=>1)=1:=by
     rw[uY];cases X with
     |nil=>exact absurd hrs0 (by decide)
     |cons x xs=>rfl
    refine⟨_,rfl,R,rfl,.inl ⟨⟨_,B6.of uY⟩,?_⟩⟩
    refine Cm (K:=K) (a:=R) (xs:=X) (λi σ L=>Py λ(Y:mu) (v6:Option V)=>Nx (σ=[some (.ref a),some (.ref D),some (.ref W),some (.ref T),some (.int g),some (.ref R),v6]) ((∀b,b≠T->L b=j b)) (L T=some (.dT Y)) ((Y.map (·.1)).Nodup) ((∀I∈Y,∃n:Int,I.2=.int n/\1<=n/\n<g+1)) ((∀k,Ag Y k=if k∈J.take i then some (.int g)else Ag tv k)) (Y.length<=tv.length+i))
     ⟨tv,_,rfl,(λ_ _=>rfl),zM,htv,(λI O=>by obtain⟨n,G,M,e3⟩:=OD.2.1 I O;exact⟨n,G,M,by omega⟩),(λk=>by rw[List.take_zero,if_neg (by simp)]),da _⟩ (by rintro i σ L _ ⟨_,_,_,e,_⟩;exact B6.of ((e R hRT).trans uY)) ?_ ?_
    ·rintro i u σ L hu ⟨Y,v6,rfl,k5,hT5,EC,ED,xC,hl5⟩;have hi:=(bG.mp hu).1;obtain⟨k,OE,b,u1,rfl,cT,gS⟩:=gI.get hu;have VM:F4 L b k:=⟨u1,(k5 b (Bg cT zM (by intro z;cases z))).trans cT,(k5 u1 (Bg gS zM (by intro z;cases z))).trans gS⟩;refine⟨_,rfl,_,rfl,_,rfl,T,_,rfl,Rm.t hT5 VM (Bu (by omega)),?_⟩;refine⟨Bd Y k (.int g),_,rfl,(λx n=>(Ab n).trans (k5 x n)),A5,rm EC,Te (P:=λv=>∃n:Int,v=.int n/\1<=n/\n<g+1) ED ⟨g,rfl,OD.1,by omega⟩,(λk'=>?_),dI (Dq _ _ _) (by omega)⟩;rw[Fi,xC,List.take_add_one,OE];by_cases z:k'=k
     ·rw[if_pos z,if_pos (by rw[z];simp)]
     ·rw[if_neg z];have e:(k'∈J.take i++(some k).toList)↔k'∈J.take i:=by simp[z]
      by_cases y:k'∈J.take i
      ·rw[if_pos y,if_pos (e.mpr y)]
      ·rw[if_neg y,if_neg (λx=>y (e.mp x))]
    rintro σ L ⟨Y,v65,rfl,k5,hT5,EC,ED,xC,hl5⟩;rw[gI.1,List.take_length]at xC;have c5:∀c l,j c=some (.dK l)->L c=some (.dK l):=λc l e=>(k5 c (Bg e zM (by intro z;cases z))).trans e;have t5:LT j L:=⟨λb xs e=>(k5 b (Bg e zM (by intro z;cases z))).trans e,λb xs e=>(k5 b (Bg e zM (by intro z;cases z))).trans e⟩;have OF:=eY.keep t5 c5;have mU:=OF.ok;have VN:∀k f,Am L d k f↔Am j d k f:=λk f=>Am.keep eY c5
    have elp5:Am L d=Am j d:=by
     funext k f;exact propext (VN k f)
    have hl5e:=Ec wR c5;have kp5:∀b C,b≠T->N b=some C->(∀I∈d,I.2≠ .ref b)->L b=some C:=λb C n e m=>(k5 b n).trans (kp b C n e m)
    have sI:∀b C,b≠T->N b=some C->(∀l,C≠ .dK l)->L b=some C:=λb C n e m=>kp5 b C n e λI O z=>by
     obtain⟨c,l,G,M,_⟩:=EB I O;rw[z]at G;cases G;rw[e]at M;exact m l (d0 M)
    have hWT:W≠T:=Ae eW hT;have t45:LT N L:=⟨λb xs e=>sI b _ (Bg e eT4 (by intro z;cases z)) e (λl z=>nomatch z),λb xs e=>sI b _ (Bg e eT4 (by intro z;cases z)) e (λl z=>nomatch z)⟩;refine⟨_,rfl,_,rfl,_,rfl,D,W,R,d,wv,X,J,H1,ws,cm,rfl,(k5 D hTD.symm).trans fH,OF,sI W _ hWT eW4 (λl z=>nomatch z),hwo4.up t45 (da _),(λk f p Z S=>(hcm4 k f p (vS k f ((VN k f).mp Z)) S).up t45),(k5 R hRT).trans uY,gI.imp (λ_ _ z=>F5.up t5.2 z),dI (Mq mU) (by omega),λB bs beta H6 hB ch6 hps6 hB6 hbs6 OG OH hbt6=>?_⟩;have hri6:Fy ws cm Y beta (g+1) (Am H6 d):=Fy.step OD xC ED (λk f=>by rw[OH,VN]) (λk=>by rw[hbt6,elp5]);have OI:H6 T=some (.dT Y):=ch6 T _ hT5 hTv;refine⟨_,rfl,_,_,rfl,rfl,⟨B,bs,beta,Y,g+1,_,rfl,(λb C n e m=>ch6 b C (kp5 b C n e m) m),hps6,OI,EC,hB6,hbs6,hri6,(λk f z=>vS k f ((VN k f).mp ((OH k f).mp z).1)),by omega⟩,?_⟩
    show 2*Cg H6 d+(match H6 B with
     |some (.lst [])=>0
     |_=>1)<2*Cg j d+(match j R with
     |some (.lst [])=>0
     |_=>1)
    rw[mu0,hB6];cases bs with
    |nil=>
     show 2*Cg H6 d+0<_;have:Cg H6 d+0<=Cg L d:=OG;omega
    |cons x xs=>
     show 2*Cg H6 d+1<_;rw[List.length_cons]at OG;omega
   ·have hrs1:X=[]:=by
     cases X with
     |nil=>rfl
     |cons x xs=>exact absurd rfl kB
    have OJ:J=[]:=by
     have:=gI.1;rw[hrs1]at this;exact List.length_eq_zero_iff.mp this.symm
    rw[OJ]at OD;refine⟨_,rfl,q T tv j (s1.free (s2.free hT)) (λb C e=>?_) zM OD.done htv (by omega)⟩;have e4:=lW _ _ (rV _ _ (s1 _ _ e));refine kp b C (λz=>?_) e4 (λI O z=>?_)
    ·have:=s1.free (s2.free hT);rw[z,this]at e;cases e
    ·rw[iP I O b z]at e;cases e
  ·intro σ H0 Q1 Q2 z h1;obtain⟨_,e,k,t,h2⟩:=h1;exact⟨_,e,k,t,z _ _ h2⟩
def Vp(K:W.Frag):Sp:=λd H Q _=>Zp λ(c:Addr) (v:V) (o:Option (mv×Int)) (a:mu)=>G8 (d=[.ref c,v]) (H c=some (.dT a)) (Et H o v) (U6 a) (∀(p:Addr) (b:Hp),A9 H b->b p=some (.tup [.int (told a o).1,.int (told a o).2])->Q (.ref p) b)
theorem uq{r:nr}(F:Dn K "worth" "worth" g8 ad.dN r):Bf P w K mg base (CX1 P w) 1 ad.dN r ["table","behind"] (Vp K):=by
 refine F.okN wu (λB H Q E h=>?_) (λC A j s H B Q E u h=>?_)
 ·rcases h with⟨c,v,o,b,rfl,i,a,x,q⟩<;>rfl
 ·obtain⟨c,v,o,b,rfl,i,a,x,q⟩:=h;refine⟨_,(A6 (C5 (Ax Fo (pv 1) Bq (Au _)) (Aa (Ak (Cr (A0 Ad (A0 Ad A7))))) Ap) (A6 (C5 (Ko (V1 (G9 u) (pv 1) (pv 0)) rfl) (Aa (Ak (Cr (A0 Ad (A0 (Jl (G9 u) (pv 0) (pv 1) (λ_ _=>rfl)) A7))))) Ap) (Aa (Ak (Cr (A0 Ad (A0 Ad A7))))))),?_⟩;cases o with
  |none=>
   have g:v=.aP:=a;subst g;exact⟨_,rfl,rfl,_,rfl,Ia rfl ⟨C9,λp z=>q p _ (A9.upd z) A5⟩⟩
  |some k=>
   obtain⟨p,g,n⟩:=a;subst g;refine⟨_,rfl,rfl,_,rfl,D6 rfl ?_⟩;refine⟨_,rfl,_,rfl,c,_,rfl,Dm.t i (show F4 H p k from n),_,rfl,Fc (λd=>?_) (λd=>?_)⟩
   ·obtain⟨v,a⟩:=Option.isSome_iff_exists.mp d;obtain⟨m,e⟩:=x k v a;subst e
    have y:Dm H c (.ref p) (some (.int m)):=by
     rw[<- a];exact Dm.t i n
    refine⟨_,rfl,_,rfl,c,_,rfl,y,C9,λl f=>q l _ (A9.upd f) ?_⟩
    have e:told b (some k)=(0,m):=by
     show Pp (Ag b k)=_;rw[a];rfl
    rw[e];exact A5
   ·refine⟨C9,λl f=>q l _ (A9.upd f) ?_⟩
    have e:told b (some k)=(1,0):=by
     show Pp (Ag b k)=_;cases a:Ag b k with
     |none=>rfl
     |some v=>rw[a]at d;exact absurd rfl d
    rw[e];exact A5
def i6(K:W.Frag):Sp:=λj H Q _=>jk λ(a i b:Addr) (d e:mv) (h:mx) (q w:Int) (c:Nat) (f:mu)=>W3 (j=[.ref a,.ref i,.ref b,.int w]) (w=(c:Int)) (Bk H a d h) (Dp H b e q) (H i=some (.dT f)) (U6 f) (c<d.length) (e.length=d.length) (d.length<=8) ((∀x∈d,1<=x)) (∀(p:Addr) (g:Hp),A9 H g->g p=some (.tup [.int (Jv f d e h q c).1,.int (Jv f d e h q c).2])->Q (.ref p) g)
theorem sw{Z mY iG:nr}(F:Dn K "call_worth" "call_worth" Xb ad.fW Z)(X:Gk P w K mg base 1 ad.dN ["table","behind"] (Vp K) mY)(U:Gk P w K mg base 5 ad.cR ["hall","standing","who"] (Rc K) iG):Bf P w K mg base (CX1 P w) 6 ad.fW Z ["hall","table","standing","who"] (i6 K):=by
 refine F.okN wj (λvs H Q E h=>?_) (λaM A O s H vs Q E L h=>?_)
 ·rcases h with⟨a,S,b,e,d,c,n,w0,who,f,rfl,rfl,ha,hb,hT,jM,hw,hl,h8,cS,q⟩<;>rfl
 ·obtain⟨a,S,b,e,d,c,n,w0,who,f,rfl,rfl,ha,hb,hT,jM,hw,hl,h8,cS,q⟩:=h;refine⟨_,(Aa (Ak (Aq (Y0 K L rfl) (by rfl) T.lO boot_min (A0 (Cy (Ci (Ac U.g (L.mono (by decide)) rfl T.rD T.rE U.b .nil Ao (A0 (pv 0) (A0 (pv 2) (A0 (pv 3) A7))))) _ rfl L4 rfl rfl (λ_ _ _ _=>(Al (i:=0) La rfl (Or.inl rfl))) (λ_ _ _ _=>Bz) (λ_ _ _ _=>(Ac X.g (L.mono (by decide)) rfl T.rF T.rG X.b .nil Ao (A0 (pv 1) (A0 (pv 0) A7))))) A7)))),?_⟩
  have NF:(Az e d c n who).length<=2:=by
   unfold Az;split<;>simp
  refine⟨_,rfl,_,rfl,_,rfl,a,b,e,d,c,n,_,who,rfl,rfl,ha,hb,hw,hl,h8,λl us H1 UH s1 Y pF=>⟨l,rfl,.inl ⟨⟨_,B6.of Y⟩,λW hW=>?_⟩⟩⟩;have hul:=pF.1;refine Cw (K:=K) (a:=l) (xs:=us) (λi g m=>g.length=i/\U7 m (λj=>told f ((Az e d c n who).getD j none)) g/\m W=some (.lst g)/\A9 H1 m) ⟨rfl,(λj u h=>by simp at h),A5,A9.upd hW⟩ (by rintro i g m _ ⟨_,_,_,s⟩;exact B6.of (s _ _ Y)) ?_ ?_
  ·rintro i y g m hy ⟨jK,C,zI,R⟩ Qe hQ;obtain⟨o,ho,M⟩:=pF.get hy;have hi:=(bG.mp hy).1;refine⟨_,rfl,_,rfl,S,y,o,f,rfl,(s1.trans R) _ _ hT,M.up (An.of R),jM,λp r z G=>?_⟩;have B:=z _ _ zI;have tt:An r (upd r W (.lst (g++[.ref p]))):=An.lst B;refine hQ _ _ B (Av (by omega)) ⟨by rw[List.length_append,List.length_singleton];omega,C.snoc ((An.of z).trans tt) jK (tt _ _ ?_),A5,(R.trans z).new hW⟩;have eo:(Az e d c n who).getD i none=o:=by rw[List.getD_eq_getElem?_getD,ho];rfl
   show r p=some (.tup [.int (told f ((Az e d c n who).getD i none)).1,.int (told f ((Az e d c n who).getD i none)).2]);rw[eo];exact G
  rintro g r ⟨jK,C,B,z⟩;have x:g.length=(Az e d c n who).length:=by omega
  have bC:=s1.trans z
  have cT:0<(Az e d c n who).length:=by
   unfold Az;simp
  refine⟨W,_,_,rfl,B6.of B,C.rp x,by omega,Wc _ _,Wg _ _,λv hv=>?_⟩;obtain⟨p,e1,G⟩:=C _ v hv;subst e1;refine q p r bC ?_;rw[G]
  have N:told f ((Az e d c n who).getD (Lc ((List.range (Az e d c n who).length).map λi=>wd (told f ((Az e d c n who).getD i none)))) none)=Jv f e d c n who:=by
   by_cases D:Ed c n=true
   ·have I:Az e d c n who=[Cz e d c n who false,Cz e d c n who true]:=by
     unfold Az;rw[if_pos D]
    rw[I];unfold Jv rk;rw[if_pos D]
    have J:Lc ((List.range [Cz e d c n who false,Cz e d c n who true].length).map λi=>wd (told f ([Cz e d c n who false,Cz e d c n who true].getD i none)))=if Fj (told f (Cz e d c n who false)) (told f (Cz e d c n who true))=true then 1 else 0:=by
     rw[<- cq];unfold Lc;rw[show((List.range [Cz e d c n who false,Cz e d c n who true].length).map λi=>wd (told f ([Cz e d c n who false,Cz e d c n who true].getD i none))).length-1=0+1 from rfl,E2];rfl
    rw[J];by_cases y:Fj (told f (Cz e d c n who false)) (told f (Cz e d c n who true))=true
    ·rw[if_pos y,if_pos y];rfl
    ·rw[if_neg y,if_neg y];rfl
   ·have I:Az e d c n who=[Cz e d c n who false]:=by
     unfold Az;rw[if_neg D]
    rw[I];unfold Jv;rw[if_neg D];rfl
  rw[<- N]
def ij(K:W.Frag):Sp:=λl H Q _=>ph λ(a g b:Addr) (c d:mv) (h:mx) (q:Int) (e:mu)=>Lp (l=[.ref a,.ref g,.ref b]) (Bk H a c h) (Dp H b d q) (H g=some (.dT e)) (U6 e) (0<c.length) (d.length=c.length) (c.length<=8) ((∀x∈c,1<=x)) (∀(j:Nat) (f:Hp),A9 H f->Hz (λi=>Jv e c d h q i) c.length j->Q (.int (j:Int)) f)
theorem u8{S EE:nr}(F:Dn K "best_call" "best_call" Xf ad.fX S)(oV:Gk P w K mg base 6 ad.fW ["hall","table","standing","who"] (i6 K) EE):Bf P w K mg base (CX1 P w) 7 ad.fX S ["hall","table","standing"] (ij K):=by
 refine F.okN gl (λvs H Q E h=>?_) (λaM A C s H vs Q E B h=>?_)
 ·rcases h with⟨a,O,b,c,f,d,n,g,rfl,z,Z,Y,jM,qB,hl,U,R,q⟩<;>rfl
 ·obtain⟨a,O,b,c,f,d,n,g,rfl,z,Z,Y,jM,qB,hl,U,R,q⟩:=h;refine⟨_,(A6 (Cs (i:=3) gl.nd rfl (E4 (by rfl) T.bJ (A0 (Aq (Bt K) (by rfl) T.bP PySem.boot_len (A0 (C4 (C0 K) (pv 0) Ad (λ_ _=>rfl)) A7)) A7)) _ rfl M8 rfl rfl (λ_ _ _ _=>(Al (i:=0) Mx rfl (Or.inl rfl))) (λ_ _ _ _=>Bz) (λ_ _ _ _=>(Ac oV.g (B.mono (by decide)) rfl T.LZ T.MA oV.b .nil Ao (A0 (pv 1) (A0 (pv 2) (A0 (pv 3) (A0 (pv 0) A7)))))) rfl rfl) (Aa (Ak (Ib PySem.F.plainAttrs_list PySem.F.slot_list_index PySem.F.type_list_index (Yx B) (pv 3) (A0 (Aq (Xz K B rfl) (by rfl) T.rN boot_max (A0 (pv 3) A7)) A7))))),?_⟩;obtain⟨wt,cH,dR⟩:=id z;refine⟨_,rfl,a,_,_,_,rfl,rfl,.inr (Cu.of cH),rfl,wt,_,rfl,.inr (Cu.of dR),_,rfl,by omega,by rw[List.length_map];omega,λD X=>?_⟩;refine E6 (cnt:=((c.map V.int).length:Int).toNat) (λj l x=>l.length=j/\U7 x (λi=>Jv g c f d n i) l/\x D=some (.lst l)/\A9 H x) ⟨rfl,(λi u h=>by simp at h),A5,A9.upd X⟩ ?_ ?_
  ·rintro j l L hj ⟨G,v,r,o⟩ Qe hQ;rw[List.length_map]at hj;have jI:j<c.length:=by omega
   refine⟨_,rfl,_,rfl,_,rfl,_,rfl,a,O,b,c,f,d,n,_,j,g,rfl,Int.zero_add _,z.same o,Z.same o,o _ _ Y,jM,jI,hl,U,R,λp2 M I e6=>?_⟩;have J:=I _ _ r;have tt:An M (upd M D (.lst (l++[.ref p2]))):=An.lst J;exact hQ _ _ J (Av (by omega)) ⟨by rw[List.length_append,List.length_singleton];omega,v.snoc ((An.of I).trans tt) G (tt _ _ e6),A5,(o.trans I).new X⟩
  rintro l L ⟨G,v,r,o⟩
  have N:l.length=c.length:=by
   rw[G,List.length_map];omega
  refine⟨_,rfl,.inl ⟨rfl,_,B6.of r⟩,_,rfl,D,_,_,rfl,B6.of r,v.rp N,by omega,Wc _ _,Wg _ _,λvb qR=>?_⟩;obtain⟨pb,VP,y⟩:=v _ vb qR;subst VP;obtain⟨j,j1,j2,j3⟩:=least (Pr:=λm=>Jv g c f d n m=Jv g c f d n (Dk ((List.range c.length).map λi=>wd (Jv g c f d n i)))) _ rfl;have p:Hz (λi=>Jv g c f d n i) c.length j:=Hz.of qB j1 j2 j3;refine⟨D,l,_,wd (Jv g c f d n (Dk ((List.range c.length).map λi=>wd (Jv g c f d n i)))),_,j,rfl,rfl,B6.of r,X7 y,v.rp N,Mg _,⟨_,km _ p.1,by rw[av];exact decide_eq_true j2⟩,(λm e hm he=>by rw[bh he,av];exact jE (j3 m hm)),?_⟩;exact q j L o p
def oz(K:W.Frag):Sp:=λj H Q _=>jk λ(a h b:Addr) (d e:mv) (i:mx) (q w:Int) (c:Nat) (f:mu)=>Lp (j=[.ref a,.ref h,.ref b,.int w]) (w=(c:Int)) (Bk H a d i) (Dp H b e q) (H h=some (.dT f)) (U6 f) (c<d.length) (e.length=d.length) (d.length<=8) (∀(g:Hp),A9 H g->Q (.bl (D7 f d e i q c)) g)
theorem zh{X mY S iE:nr}(F:Dn K "worst_answer" "worst_answer" wc ad.lI X)(x:Gk P w K mg base 1 ad.dN ["table","behind"] (Vp K) mY)(D:Gk P w K mg base 4 ad.bI ["hall","standing","who","lost"] (Nm K) S)(aQ:Dl K S ["hall","standing","who","lost"] [Value.bool false])(U:Gk P w K mg base 1 ad.cQ ["hall","standing"] (Rf K) iE):Bf P w K mg base (CX1 P w) 5 ad.lI X ["hall","table","standing","who"] (oz K):=by
 refine F.okN oj (λvs H Q E h=>?_) (λaM A R s H vs Q E r h=>?_)
 ·rcases h with⟨a,C,b,f,d,c,n,w0,who,i,rfl,rfl,y,B,J,O,N,L,I,q⟩<;>rfl
 ·obtain⟨a,C,b,f,d,c,n,w0,who,i,rfl,rfl,y,B,J,O,N,L,I,q⟩:=h;refine⟨_,(A6 (Ah (i:=4) oj.nd rfl (Or.inl rfl) (Ac x.g (r.mono (by decide)) rfl T.rF T.rG x.b .nil Ao (A0 (pv 1) (A0 (O8 (Ac D.g (r.mono (by decide)) rfl T.jH T.gF aQ (Fx) Ao (A0 (pv 0) (A0 (pv 2) (A0 (pv 3) A7))))) A7)))) (A6 (C5 (Dw (D2 (Ac U.g (r.mono (by decide)) rfl T.rB T.rC U.b .nil Ao (A0 (pv 0) (A0 (pv 2) A7))))) (Aa (Ak Gw)) Ap) (Aa (Ak (D5 (uy r) (Ac x.g (r.mono (by decide)) rfl T.rF T.rG x.b .nil Ao (A0 (pv 1) (A0 (O8 (Ac D.g (r.mono (by decide)) rfl T.jH T.gF D.b .nil Ao (A0 (pv 0) (A0 (pv 2) (A0 (pv 3) (A0 Gw A7)))))) A7))) (pv 4) (Au _)))))),?_⟩;refine⟨_,rfl,(λv u=>Et u (Cz f d c n who false) v/\A9 H u),⟨_,rfl,_,rfl,_,rfl,a,b,f,d,c,n,who,false,rfl,y,B,N,L,I,(λz=>nomatch z),(λl m g=>⟨by unfold Cz;rw[if_pos l];rfl,g⟩),λl p m g G=>⟨by unfold Cz;rw[if_neg l];exact⟨p,rfl,G⟩,g⟩⟩,?_⟩;rintro v H1 ⟨hv,Z⟩;refine⟨C,v,_,i,rfl,Z _ _ J,hv,O,λp1 m g e2=>?_⟩;have j:=Z.trans g;refine⟨_,rfl,_,rfl,a,b,f,d,c,n,rfl,y.same j,B.same j,_,rfl,?_⟩;have em:(!decide (c=none)&&decide (n=0))=Ed c n:=rfl;rw[em];refine Fc (λM=>?_) (λM=>?_)
  ·have o:Ed c n=false:=by simpa using M
   have e:D7 i f d c n who=false:=by
    unfold D7;rw[o];rfl
   rw[<- e];exact q m j
  ·have o:Ed c n=true:=by simpa using M
   have DK:U4 c n true:=λ_=>by
    unfold Ed at o;simp only[Bool.and_eq_true,Bool.not_eq_true',decide_eq_false_iff_not,decide_eq_true_eq]at o;exact o
   refine⟨_,rfl,(λv u=>Et u (Cz f d c n who true) v/\A9 m u),⟨_,rfl,_,rfl,_,rfl,a,b,f,d,c,n,who,true,rfl,y.same j,B.same j,N,L,I,DK,(λl m g=>⟨by unfold Cz;rw[if_pos l];rfl,g⟩),λl p m g G=>⟨by unfold Cz;rw[if_neg l];exact⟨p,rfl,G⟩,g⟩⟩,?_⟩;rintro v3 H3 ⟨YB,s3⟩;refine⟨C,v3,_,i,rfl,s3 _ _ (j _ _ J),YB,O,λp4 H4 s4 e4=>?_⟩;have Y:=s3.trans s4;refine⟨_,rfl,wd (told i (Cz f d c n who true)),wd (told i (Cz f d c n who false)),X7 e4,X7 (Y _ _ e2),Zz _ _,dI (Mg _) (by decide),?_⟩;rw[cq]
   have e:D7 i f d c n who=Fj (told i (Cz f d c n who false)) (told i (Cz f d c n who true)):=by
    unfold D7;rw[o];rfl
   rw[<- e];exact q H4 (j.trans Y)
def i7(K:W.Frag):Sp:=λh H Q _=>Pz λ(a:Addr) (d:mv) (e:mx)=>G8 (h=[.ref a]) (Bk H a d e) (Fk d e) ((∀(b:mu) (c:Hp),A9 H c->Bl d e b->(b.map (·.1)).Nodup->(Ag b (d,0)).isSome=true->Q .aP c)) (∀(p:Addr) (g:List V) (f b:mu) (c:Hp),A9 H c->H p=none->c p=some (.lst g)->Bl d e b->(b.map (·.1)).Nodup->Ag b (d,0)=none->y9 d e b f->Af (y8 c) f g->Q (.ref p) c)
theorem t9{fd mZ iH EF iG:nr}(F:Dn K "kept_paper" "kept_paper" fh ad.fY fd)(gO:Gk P w K mg base 7 ad.dM ["hall"] (Vo K) mZ)(aZ:Gk P w K mg base 1 ad.cP ["hall"] (Re K) iH)(oW:Gk P w K mg base 7 ad.fX ["hall","table","standing"] (ij K) EF)(bV:Gk P w K mg base 5 ad.cR ["hall","standing","who"] (Rc K) iG):Bf P w K mg base (CX1 P w) 8 ad.fY fd ["hall"] (i7 K):=by
 refine F.okN Ni (λvs H Q E h=>?_) (λaM A outer s H vs Q E G h=>?_)
 ·rcases h with⟨a,g,D,rfl,S,B,q0,q⟩<;>rfl
 ·obtain⟨a,g,D,rfl,S,B,q0,q⟩:=h;refine⟨_,(A6 (Ah (i:=1) Ni.nd rfl (Or.inl rfl) (Ac gO.g (G.mono (by decide)) rfl T.yQ T.yR gO.b .nil Ao (A0 (pv 0) A7))) (A6 (C5 (Ko (V1 (G9 G) (Ac aZ.g (G.mono (by decide)) rfl T.lM T.lN aZ.b .nil Ao (A0 (pv 0) A7)) (pv 1)) rfl) (Aa (Ak Bq)) Ap) (A6 (Ah (i:=2) Ni.nd rfl (Or.inl rfl) Gx) (A6 (Ah (i:=3) Ni.nd rfl (Or.inl rfl) (Dv (A0 (Ac aZ.g (G.mono (by decide)) rfl T.lM T.lN aZ.b .nil Ao (A0 (pv 0) A7)) A7))) (A6 (Gz i0 (N9 (pv 3) (by intro _;rfl)) (A6 (Ah (i:=4) Ni.nd rfl (Or.inl rfl) (Qt PySem.F.plainAttrs_list PySem.F.slot_list_pop PySem.F.type_list_pop cx (pv 3))) (Aa (Fs (Ko (Km (G9 G) (pv 4) (pv 2)) rfl) (A6 (Jo (G9 G) (pv 2) (pv 4) (Ac oW.g (G.mono (by decide)) rfl T.MB T.MC oW.b .nil Ao (A0 (pv 0) (A0 (pv 1) (A0 (pv 4) A7)))) rfl) (Aa (De (Ib PySem.F.plainAttrs_list PySem.F.slot_list_extend PySem.F.type_list_extend Hm (pv 3) (A0 (Ac bV.g (G.mono (by decide)) rfl T.rD T.rE bV.b .nil Ao (A0 (pv 0) (A0 (pv 4) (A0 (Jl (G9 G) (pv 2) (pv 4) (λ_ _=>rfl)) A7)))) A7))))) Ap)))) (Aa (Ak (Aq (Ub G rfl) (by rfl) T.bO boot_sorted (A0 (Qt PySem.F.plainAttrs_dict PySem.F.slot_dict_items PySem.F.type_dict_items Yy (pv 2)) A7))))))))),?_⟩;obtain⟨wt,cH,dR⟩:=id S;have hq:=B.qv;have cS:∀x∈g,1<=x:=λx hx=>(B.1 x hx).1;have h8:=B.2.2.2.1;have qB:=B.2.2.1;refine⟨_,rfl,a,g,D,rfl,S,(λw hw=>(B.1 w hw).1),hq.1,(λw hw=>J2 (by have:=B.1 w hw;omega) (B.1 w hw).2),J2 (by omega) hq.2,B.2.2.2.1,(by have:=B.2.2.2.2;omega),λTB I H1 hTB s1 xD pR wA UT=>?_⟩
  have jM:U6 I:=λk v hv=>by
   obtain⟨m,e,_⟩:=pR.1 k v hv;exact⟨m,e⟩
  refine⟨_,rfl,a,g,D,rfl,S.same s1,λb0 r s2 HJ=>?_⟩;have X:=s1.trans s2;refine⟨_,rfl,TB,_,rfl,Dm.t (s2 _ _ xD) (show F4 r b0 (g,0)from HJ),_,rfl,?_⟩;refine Fc (λh=>q0 I r X pR wA h) (λOL=>?_)
  have OM:Ag I (g,0)=none:=by
   cases e:Ag I (g,0)with
   |none=>rfl
   |some v=>rw[e]at OL;exact absurd rfl OL
  have EG:Sf g D I (g,0):=⟨Js rfl (λi hi=>⟨cS _ (by rw[List.getD_eq_getElem?_getD,List.getElem?_eq_getElem hi];exact kI hi),Int.le_refl _⟩) (Int.le_refl _) (by have:=hq.1;show(0:Int)<qv D;omega),OM,.base⟩;refine λC hC=>?_;have s3:A9 r (upd r C (.dT [])):=A9.upd hC;have e3:(upd r C (.dT [])) C=some (.dT []):=A5;generalize upd r C (.dT [])=H3 at s3 e3⊢;refine⟨_,rfl,a,g,D,rfl,(S.same X).same s3,λU H4 s4 cT=>?_⟩;refine⟨C9,λL hL=>?_⟩;have s5:A9 H4 (upd H4 L (.lst [.ref U])):=A9.upd hL;have e5:(upd H4 L (.lst [.ref U])) L=some (.lst [.ref U]):=A5;generalize upd H4 L (.lst [.ref U])=H5 at s5 e5⊢;have VQ:r C=none:=hC
  have IA:r L=none:=by
   cases e:r L with
   |none=>rfl
   |some o=>rw[s4 _ _ (s3 _ _ e)]at hL;cases hL
  have s25:A9 r H5:=(s3.trans s4).trans s5;obtain⟨bu,EH,EI⟩:=cT.same s5;dsimp only;refine yo ?_;refine A0k ?_
  refine He (λσ' f=>Zp λ(c:List V) (E:List (mv×Int)) (d:mu) (v4:Option V)=>Nx (σ'=[some (.ref a),some (.ref TB),some (.ref C),some (.ref L),v4]) (A9 r f) (f L=some (.lst c)) (Af (F5 f) E c) (f C=some (.dT d)) (Q0 g D I d E) (E.length<=2*d.length+1))
   (λ_ f=>3*(301-G0 (f C))+L9 (f L)) ⟨[.ref U],[(g,0)],[],none,rfl,s25,e5,Af.one ⟨U,bu,rfl,EH,EI⟩,s5 _ _ (s4 _ _ e3),Q0.start EG,by simp⟩ ?_ ?_
  ·rintro σ' f ⟨c,E,d,v4,rfl,s',Z,qD,Y,J,hEl⟩;have kN:=J.len B;refine⟨_,rfl,_,.inl ⟨_,B6.of Z,rfl⟩,?_⟩;refine Fc (λaX=>?_) (λkB=>?_)
   ·have EJ:0<c.length:=by
     cases c with
     |nil=>exact absurd aX (by decide)
     |cons x xs=>simp
    have JK:=qD.1;obtain⟨y,hy⟩:=Wp EJ;refine⟨_,rfl,.inl ⟨rfl,_,B6.of Z⟩,L,c,y,rfl,rfl,Z,hy,?_⟩;obtain⟨k,OE,b,b2,rfl,EK,EL⟩:=qD.get hy
    have eE:E=E.take (c.length-1)++[k]:=by
     have R:=List.take_append_drop (c.length-1) E
     have h2:E.drop (c.length-1)=[k]:=by
      rw[List.drop_eq_getElem_cons (by omega),(List.getElem?_eq_some_iff.mp OE).2,List.drop_of_length_le (by omega)]
     rw[h2]at R;exact R.symm
    have EM:C≠L:=Bg Y Z (by intro z;cases z);have hTL:TB≠L:=λz=>by rw[z]at xD;exact absurd (s2 _ _ xD) (by rw[IA];exact λh=>nomatch h)
    have t4:An f (upd f L (.lst c.dropLast)):=An.lst Z;have qG:(upd f L (.lst c.dropLast)) L=some (.lst c.dropLast):=A5;have sJ:(upd f L (.lst c.dropLast)) C=some (.dT d):=(Ab EM).trans Y;have sL:A9 r (upd f L (.lst c.dropLast)):=s'.new IA;generalize upd f L (.lst c.dropLast)=H6 at t4 qG sJ sL⊢;have kC:Dp H6 b k.1 k.2:=⟨b2,t4 _ _ EK,t4 _ _ EL⟩
    have kD:Af (F5 H6) (E.take (c.length-1)) c.dropLast:=by
     rw[List.dropLast_eq_take];exact(qD.imp (λ_ _ y=>F5.up t4 y)).take _
    have ON:(E.take (c.length-1)).length=E.length-1:=by rw[List.length_take];omega
    rw[eE]at J;generalize E.take (c.length-1)=E0 at J kD ON eE;have OO:L9 (f L)=c.length:=by rw[Z];rfl
    have lB:G0 (f C)=d.length:=by rw[Y];rfl
    refine⟨_,rfl,_,rfl,C,_,rfl,Dm.t sJ (show F4 H6 b k from kC),_,rfl,(λOP u=>Zp λ(c:List V) (E:List (mv×Int)) (zN:mu) (v4:Option V)=>Pu (OP=[some (.ref a),some (.ref TB),some (.ref C),some (.ref L),v4]) (A9 r u) (u L=some (.lst c)) (Af (F5 u) E c) (u C=some (.dT zN)) (Q0 g D I zN E) (E.length<=2*zN.length+1) (3*(301-G0 (u C))+L9 (u L)<3*(301-G0 (f C))+L9 (f L))),λh=>?_,λh=>?_,?_⟩
    ·have zO:Ag d k=none:=by
      cases e:Ag d k with
      |none=>rfl
      |some v=>rw[e]at h;cases h
     have sM:Sf g D I k:=J.sf k (by simp);have lR:k.1.length=g.length:=(Ks sM.1).1;refine⟨_,rfl,_,rfl,_,rfl,a,TB,b,g,k.1,D,k.2,I,rfl,(S.same X).same sL,kC,sL _ _ (s2 _ _ xD),jM,qB,lR,h8,cS,λj u s7 bL=>?_⟩;have OQ:=s7 _ _ sJ;have hL7:=s7 _ _ qG;refine⟨_,rfl,_,rfl,C,_,rfl,Rm.t OQ (show F4 u b k from kC.same s7) (Bu (by omega)),?_⟩;have JD:L≠C:=λz=>EM z.symm;have k8:∀b o,b≠C->u b=some o->(upd u C (.dT (Bd d k (.int (j:Int))))) b=some o:=λb o n e=>(Ab n).trans e;have EN:(upd u C (.dT (Bd d k (.int (j:Int))))) C=some (.dT (Bd d k (.int (j:Int)))):=A5;generalize upd u C (.dT (Bd d k (.int (j:Int))))=H8 at k8 EN⊢;have t8:An u H8:=λb xs e=>k8 b _ (Bg e OQ (by intro z;cases z)) e;have s8:A9 r H8:=λb o e=>k8 b o (Ae e VQ) (s7 _ _ (sL _ _ e));have OS:=k8 _ _ JD hL7;have sO:Dp H8 b k.1 k.2:=(kC.same s7).up t8;have ev:Ag (Bd d k (.int (j:Int))) k=some (.int (j:Int)):=by rw[Fi,if_pos rfl]
     refine⟨_,rfl,.inl ⟨rfl,_,B6.of OS⟩,_,rfl,_,rfl,_,rfl,_,rfl,C,.int (j:Int),rfl,(by rw[<- ev];exact Dm.t EN (show F4 H8 b k from sO)),a,b,g,k.1,D,k.2,(j:Int),j,rfl,rfl,(S.same X).same s8,sO,bL.1,lR,h8,λl M O hl9 s9 el9 N=>?_⟩;obtain⟨Eb,VP,eb2,eb3⟩:=jr pR B sM bL;rw[VP]at N;have kY:=Zv N;have OT:=s9 _ _ OS;have hel6:=kD.1;have hul:=kY.1;refine⟨L,l,c.dropLast,M,rfl,rfl,OT,el9,kG (Bu (by omega)),?_⟩;have sF:An O (upd O L (.lst (c.dropLast++M))):=An.lst OT;have sQ:(upd O L (.lst (c.dropLast++M))) C=some (.dT (Bd d k (.int (j:Int)))):=(Ab EM).trans (s9 _ _ EN);have jB:(Bd d k (.int (j:Int))).length=d.length+1:=by rw[D4 _ zO,List.length_append,List.length_singleton]
     refine⟨c.dropLast++M,E0++Eb,Bd d k (.int (j:Int)),_,rfl,(s8.trans s9).new IA,A5,((kD.imp λ_ _ y=>F5.up (((An.of s7).trans t8).trans ((An.of s9).trans sF)) y).append (kY.imp λ_ _ y=>F5.up sF y)),sQ,J.put zO bL VP eb2,?_,?_⟩
     ·rw[List.length_append,jB,ON];omega
     ·have m1:L9 ((upd O L (.lst (c.dropLast++M))) L)=(c.dropLast++M).length:=by rw[A5];rfl
      have m2:G0 ((upd O L (.lst (c.dropLast++M))) C)=d.length+1:=by rw[sQ];exact jB
      rw[m1,m2,OO,lB,List.length_append,List.length_dropLast];omega
    ·have oC:k∈d.map (·.1):=by
      cases e:Ag d k with
      |none=>rw[e]at h;cases h
      |some v=>exact Xm e
     refine⟨c.dropLast,E0,d,_,rfl,sL,qG,kD,sJ,J.skip oC,by omega,?_⟩;have m1:L9 (H6 L)=c.dropLast.length:=by rw[qG];rfl
     have m2:G0 (H6 C)=d.length:=by rw[sJ];rfl
     rw[m1,m2,OO,lB,List.length_dropLast];omega
    ·rintro OP u ⟨es7,E7,cv7,v47,rfl,a1,a2,a3,a4,a5,a6,a7⟩;exact⟨⟨es7,E7,cv7,v47,rfl,a1,a2,a3,a4,a5,a6⟩,a7⟩
   ·have EO:c=[]:=by
     cases c with
     |nil=>rfl
     |cons x xs=>exact absurd rfl kB
    have hE1:E=[]:=by
     have R:=qD.1;rw[EO]at R;exact List.length_eq_zero_iff.mp R.symm
    subst hE1;refine⟨_,rfl,.inr (.inr (.inl ⟨rfl,.inr ⟨d,Y⟩⟩)),C,d,rfl,rfl,Y,λvw hvw=>?_⟩;have sV:A9 f (upd f vw (Rr vw C)):=A9.upd hvw;refine⟨vw,C,d,Iu,(λkv=>(Ar g (qv D)).idxOf kv.1),rfl,A5,sV _ _ Y,(λkv aL=>?_),Us J,λp M ps O s9 hp e9 aJ bH lQ=>?_⟩
    ·obtain⟨_,j,ej,_⟩:=J.ent kv aL;have e:Iu kv=.int j:=by unfold Iu;rw[ej]
     rw[e,ej];exact⟨Nf _,by show 0<=40;omega⟩
    ·have hpH:H p=none:=by
      cases e:H p with
      |none=>rfl
      |some o=>rw[sV _ _ (s' _ _ (X _ _ e))]at hp;cases hp
     exact q p M ps I O (((X.trans s').trans sV).trans s9) hpH e9 pR wA OM (kt J aJ bH) (N5 lQ)
  ·intro σ H0 Q1 Q2 z R;obtain⟨_,e,k,t,h2⟩:=R;exact⟨_,e,k,t,z _ _ h2⟩
def gz(K:W.Frag):Sp:=λi H Q _=>ph λ(a g b:Addr) (c e:mv) (h:mx) (q:Int) (f:mu)=>Pu (i=[.ref a,.ref g,.ref b]) (Bk H a c h) (Dp H b e q) (H g=some (.dT f)) (U6 f) (e.length=c.length) (c.length<=8) (∀(p:Addr) (d:Hp),A9 H d->d p=some (.tup ((Hx f c e h q).map V.bl))->Q (.ref p) d)
theorem so{x R:nr}(F:Dn K "all_answers" "all_answers" Xa ad.fZ x)(M:Gk P w K mg base 5 ad.lI ["hall","table","standing","who"] (oz K) R):Bf P w K mg base (CX1 P w) 6 ad.fZ x ["hall","table","standing"] (gz K):=by
 refine F.okN wf (λvs H Q E h=>?_) (λaM A r s H vs Q E hr h=>?_)
 ·rcases h with⟨a,v,b,c,f,d,n,i,rfl,o,C,B,J,G,y,q⟩<;>rfl
 ·obtain⟨a,v,b,c,f,d,n,i,rfl,o,C,B,J,G,y,q⟩:=h;refine⟨_,(Aa (Ak (Cc D3 (by rfl) T.cF boot_tuple (A0 (Cy (E4 (by rfl) T.bJ (A0 (Aq (Bt K) (by rfl) T.bP PySem.boot_len (A0 (C4 (C0 K) (pv 0) Ad (λ_ _=>rfl)) A7)) A7)) _ rfl K4 rfl rfl (λ_ _ _ _=>(Al (i:=0) Ki rfl (Or.inl rfl))) (λ_ _ _ _=>Bz) (λ_ _ _ _=>(Ac M.g (hr.mono (by decide)) rfl T.ZE T.ZF M.b .nil Ao (A0 (pv 1) (A0 (pv 2) (A0 (pv 3) (A0 (pv 0) A7))))))) A7)))),?_⟩;obtain⟨wt,S,U⟩:=id o;refine⟨_,rfl,a,_,_,_,rfl,rfl,.inr (Cu.of S),rfl,wt,_,rfl,.inr (Cu.of U),_,rfl,by omega,by rw[List.length_map];omega,λD z=>?_⟩;refine E6 (cnt:=((c.map V.int).length:Int).toNat) (λj m u=>m=((Hx i c f d n).take j).map V.bl/\u D=some (.lst m)/\A9 H u) ⟨rfl,A5,A9.upd z⟩ ?_ ?_
  ·rintro j m O Y ⟨rfl,l,g⟩ Qe X;rw[List.length_map]at Y;have I:j<c.length:=by omega
   have yC:=Gf i c f d n;refine⟨_,rfl,_,rfl,_,rfl,_,rfl,a,v,b,c,f,d,n,_,j,i,rfl,Int.zero_add _,o.same g,C.same g,g _ _ B,J,I,G,y,λH6 L=>?_⟩;have N:=L _ _ l;refine X _ _ N (Av (by rw[List.length_map,List.length_take];omega)) ⟨?_,A5,(g.trans L).new z⟩;rw[List.take_add_one,W6 I,List.map_append];rfl
  rintro m O ⟨rfl,l,g⟩;have e:(Hx i c f d n).take ((c.map V.int).length:Int).toNat=Hx i c f d n:=List.take_of_length_le (by rw[Gf,List.length_map];omega);rw[e]at l;refine⟨D,_,rfl,.inl ⟨B6.of l,λp Z=>?_⟩⟩;exact q p _ (g.trans (A9.upd Z)) A5
def ou(K:W.Frag):Sp:=λh H Q _=>ZN λ(a b A:Addr) (c:mv) (e:mx) (k:mv×Int) (f:mu)=>Nx (h=[.ref a,.ref b,.ref A]) (Bk H a c e) (Dp H b k.1 k.2) (H A=some (.tup ((Hx f c k.1 e k.2).map V.bl))) (k.1.length=c.length) (c.length<=8) (∀(l:Addr) (g:List V) (d:Hp),H l=none->A9 H d->d l=some (.lst g)->Af (F5 d) ((List.range c.length).filterMap (P8 f c e k)) g->Q (.ref l) d)
theorem za{fd bD:nr}(F:Dn K "unbroken_behind" "unbroken_behind" g7 ad.lJ fd)(aY:Gk P w K mg base 4 ad.bI ["hall","standing","who","lost"] (Nm K) bD)(aQ:Dl K bD ["hall","standing","who","lost"] [Value.bool false]):Bf P w K mg base (CX1 P w) 5 ad.lJ fd ["hall","standing","answers"] (ou K):=by
 refine F.okN oh (λvs H Q E h=>?_) (λaM A outer s H vs Q E hr h=>?_)
 ·rcases h with⟨a,b,A,f,d,k,g,rfl,ha,hb,hA,hl,h8,q⟩<;>rfl
 ·obtain⟨a,b,A,f,d,k,g,rfl,ha,hb,hA,hl,h8,q⟩:=h;refine⟨_,(A6 (Cs (i:=3) oh.nd rfl (Td (by rfl) T.gG (A0 (pv 2) A7)) _ rfl Gg rfl rfl (λ_ _ _ _=>(Dx K (n:=2) rfl (Bh (Al (i:=0) Dr rfl (Or.inl rfl)) (Bh (Al (i:=1) Dr rfl (Or.inl rfl)) Dy)))) (λ_ _ _ _=>Bz) (λ_ _ _ _=>(Ac aY.g (hr.mono (by decide)) rfl T.jH T.gF aY.b .nil Ao (A0 (pv 2) (A0 (pv 3) (A0 (pv 0) (A0 (pv 1) A7)))))) rfl rfl) (Aa (Ak (Cy (Ci (pv 3)) _ rfl Gh rfl rfl (λ_ _ _ _=>(Al (i:=0) Gr rfl (Or.inl rfl))) (λ_ _ _ _=>(Qx (Ax Ho (pv 0) Bq (Au _)))) (λ_ _ _ _=>(pv 0)))))),?_⟩;have yC:=Gf g f k.1 d k.2;refine⟨_,rfl,true,A,rfl,⟨_,Cu.of hA⟩,λD hD=>?_⟩;refine Uc (K:=K) (b1:=true) (c:=A) (xs:=(Hx g f k.1 d k.2).map V.bl) (λi j l=>Af (Et l) ((List.range i).map (P8 g f d k)) j/\l D=some (.lst j)/\A9 H l) ⟨Af.nil,A5,A9.upd hD⟩ (by rintro i j l _ ⟨_,_,s⟩;exact Cu.of (s _ _ hA)) ?_ ?_ ?_ ?_
  ·rintro i x T j B hx ⟨U,vF,I⟩ hT;have R:=(bG.mp hx).1;rw[List.length_map,yC]at R;rw[List.getElem?_map,W6 R]at hx;cases hx;have rQ:=U.1;rw[List.length_map,List.length_range]at rQ;have n:A9 B (upd B T (.tup [V.int (i:Nat),V.bl (D7 g f k.1 d k.2 i)])):=A9.upd hT;have e3:(upd B T (.tup [V.int (i:Nat),V.bl (D7 g f k.1 d k.2 i)])) T=some (.tup [V.int (i:Nat),V.bl (D7 g f k.1 d k.2 i)]):=A5;generalize upd B T (.tup [V.int (i:Nat),V.bl (D7 g f k.1 d k.2 i)])=N at n e3⊢;have L:=I.trans n;simp only[Oc,↓reduceIte]
   have fin:∀(v:V) (m:Hp),A9 N m->Et m (P8 g f d k i) v->m D=some (.lst j)/\j.length<sizeLine/\Af (Et (upd m D (.lst (j++[v])))) ((List.range (i+1)).map (P8 g f d k)) (j++[v])/\(upd m D (.lst (j++[v]))) D=some (.lst (j++[v]))/\A9 H (upd m D (.lst (j++[v]))):=λv m M S=>by
    have HV:=M _ _ (n _ _ vF);have X:An m (upd m D (.lst (j++[v]))):=An.lst HV;refine⟨HV,Av (by omega),?_,A5,(L.trans M).new hD⟩;rw[List.range_succ,List.map_append];exact(U.imp λ_ _ y=>Et.up (((An.of n).trans (An.of M)).trans X) y).append (Af.one (Et.up X S))
   refine⟨_,rfl,_,rfl,_,rfl,_,rfl,a,b,f,k.1,d,k.2,i,D7 g f k.1 d k.2 i,rfl,ha.same L,hb.same L,R,hl,h8,P5,λh m M=>?_,λh p m M hp=>?_⟩
   ·refine fin _ m M ?_;have e:P8 g f d k i=none:=by unfold P8 Cz;rw[if_pos h]
    rw[e];rfl
   ·refine fin _ m M ?_;have e:P8 g f d k i=some (Aw f k.1 i (D7 g f k.1 d k.2 i),Ef d k.2 (D7 g f k.1 d k.2 i)):=by unfold P8 Cz;rw[if_neg h]
    rw[e];exact⟨p,rfl,hp⟩
  ·rintro σ l Q1 Q2 G z;exact G _ _ z
  ·rintro σ l Q1 Q2 G ⟨v1,Z,v2,e2,v3,e3,v4,e4,a',b',ws',zC,cm',q',aG,OV,S,h1,h2,h3,h4,h5,h6,q1,q2⟩;exact⟨v1,Z,v2,e2,v3,e3,v4,e4,a',b',ws',zC,cm',q',aG,OV,S,h1,h2,h3,h4,h5,h6,λh B I=>G _ _ (q1 h B I),λh p B I hp=>G _ _ (q2 h p B I hp)⟩
  rintro j B ⟨U,vF,I⟩;rw[List.length_map,yC]at U;refine⟨_,rfl,D,rfl,.inl ⟨⟨_,B6.of vF⟩,λC hC=>?_⟩⟩;have rQ:=U.1;rw[List.length_map,List.length_range]at rQ;refine Ly (K:=K) (a:=D) (xs:=j) (λi J l=>Af (F5 l) ((List.range i).filterMap (P8 g f d k)) J/\l C=some (.lst J)/\A9 B l) ⟨Af.nil,A5,A9.upd hC⟩ (by rintro i J l _ ⟨_,_,s⟩;exact B6.of (s _ _ vF)) ?_ ?_ ?_ ?_
  ·rintro i x J N hx ⟨O,Y,n⟩;obtain⟨r,mP,S⟩:=U.get hx;have R:=(bG.mp mP).1;rw[List.length_map,List.length_range]at R;rw[List.getElem?_map,List.getElem?_range R]at mP;have er:P8 g f d k i=r:=by simpa using mP
   have jK:J.length<=i:=by
    rw[O.1];exact dI (List.length_filterMap_le _ _) (by rw[List.length_range];exact da _)
   cases r with
   |none=>
    obtain rfl:x=.aP:=S;refine⟨_,rfl,rfl,_,rfl,D6 (by simp) ⟨?_,Y,n⟩⟩;rw[List.range_succ,List.filterMap_append];have e0:[i].filterMap (P8 g f d k)=[]:=by simp[er]
    rw[e0,List.append_nil];exact O
   |some k'=>
    obtain⟨p,rfl,u,zA,BX⟩:=S;have X:An N (upd N C (.lst (J++[.ref p]))):=An.lst Y;refine⟨_,rfl,rfl,_,rfl,Ia (by simp) ⟨_,rfl,Y,Av (by omega),?_,A5,n.new hC⟩⟩;rw[List.range_succ,List.filterMap_append];have e0:[i].filterMap (P8 g f d k)=[k']:=by simp[er]
    rw[e0];exact(O.imp λ_ _ y=>F5.up X y).append (Af.one ⟨p,u,rfl,X _ _ (n _ _ zA),X _ _ (n _ _ BX)⟩)
  ·rintro σ l Q1 Q2 G ⟨v,Z,e2,c,e3,z⟩;exact⟨v,Z,e2,c,e3,G _ _ z⟩
  ·rintro σ l Q1 Q2 G ⟨v,Z,z⟩;exact⟨v,Z,G _ _ z⟩
  rintro J N ⟨O,Y,n⟩;rw[rQ]at O;refine q C J N ?_ (I.trans n) Y O;cases e:H C with
  |none=>rfl
  |some o=>rw[I _ _ e]at hC;cases hC
def gr(K:W.Frag):Sp:=λh H Q _=>Pz λ(a:Addr) (c:mv) (e:mx)=>G8 (h=[.ref a]) (Bk H a c e) (Fk c e) ((∀(b:mu) (d:Hp),A9 H d->Bl c e b->(b.map (·.1)).Nodup->Ag b (c,0)=none->Q .aP d)) (∀(p:Addr) (g:List V) (f b:mu) (d:Hp),A9 H d->H p=none->d p=some (.lst g)->Bl c e b->(b.map (·.1)).Nodup->(Ag b (c,0)).isSome=true->Px c e b f->Af (Hw b c e d) f g->Q (.ref p) d)
theorem sd{fd mZ iH ER OX:nr}(F:Dn K "broken_paper" "broken_paper" X8 ad.gA fd)(gO:Gk P w K mg base 7 ad.dM ["hall"] (Vo K) mZ)(aZ:Gk P w K mg base 1 ad.cP ["hall"] (Re K) iH)(oX:Gk P w K mg base 6 ad.fZ ["hall","table","standing"] (gz K) ER)(xF:Gk P w K mg base 5 ad.lJ ["hall","standing","answers"] (ou K) OX):Bf P w K mg base (CX1 P w) 8 ad.gA fd ["hall"] (gr K):=by
 refine F.okN Ng (λvs H Q E h=>?_) (λaM A outer s H vs Q E hr h=>?_)
 ·rcases h with⟨a,j,G,rfl,ha,U,q0,q⟩<;>rfl
 ·obtain⟨a,j,G,rfl,ha,U,q0,q⟩:=h;refine⟨_,(A6 (Ah (i:=1) Ng.nd rfl (Or.inr rfl) (Ac gO.g (hr.mono (by decide)) rfl T.yQ T.yR gO.b .nil Ao (A0 (pv 0) A7))) (A6 (C5 (Ko (Km (G9 hr) (Ac aZ.g (hr.mono (by decide)) rfl T.lM T.lN aZ.b .nil Ao (A0 (pv 0) A7)) (pv 1)) rfl) (Aa (Ak Bq)) Ap) (A6 (Ah (i:=2) Ng.nd rfl (Or.inl rfl) Gx) (A6 (Ah (i:=3) Ng.nd rfl (Or.inl rfl) (Dv (A0 (Ac aZ.g (hr.mono (by decide)) rfl T.lM T.lN aZ.b .nil Ao (A0 (pv 0) A7)) A7))) (A6 (Gz i0 (N9 (pv 3) (by intro _;rfl)) (A6 (Ah (i:=4) Ng.nd rfl (Or.inl rfl) (Qt PySem.F.plainAttrs_list PySem.F.slot_list_pop PySem.F.type_list_pop cx (pv 3))) (Aa (Fs (Ko (Km (G9 hr) (pv 4) (pv 2)) rfl) (A6 (Jo (G9 hr) (pv 2) (pv 4) (Ac oX.g (hr.mono (by decide)) rfl T.MF T.MG oX.b .nil Ao (A0 (pv 0) (A0 (pv 1) (A0 (pv 4) A7)))) rfl) (Aa (De (Ib PySem.F.plainAttrs_list PySem.F.slot_list_extend PySem.F.type_list_extend Hm (pv 3) (A0 (Ac xF.g (hr.mono (by decide)) rfl T.ZG T.ZH xF.b .nil Ao (A0 (pv 0) (A0 (pv 4) (A0 (Jl (G9 hr) (pv 2) (pv 4) (λ_ _=>rfl)) A7)))) A7))))) Ap)))) (Aa (Ak (Aq (Q7 hr) (by rfl) T.bO boot_sorted (A0 (lz (Cy (Jm (pv 2)) _ rfl Ja rfl rfl (λ_ _ _ _=>(Dx K (n:=2) rfl (Bh (Al (i:=0) Eo rfl (Or.inl rfl)) (Bh (Al (i:=1) Eo rfl (Or.inl rfl)) Dy)))) (λ_ _ _ _=>Bz) (λ_ _ _ _=>(Cr (A0 (pv 0) (A0 (Jl (G9 hr) (pv 2) (pv 0) (λ_ _=>rfl)) (A0 (pv 1) A7))))))) A7))))))))),?_⟩;obtain⟨wt,cH,dR⟩:=id ha;have hq:=U.qv;have cS:∀x∈j,1<=x:=λx hx=>(U.1 x hx).1;have h8:=U.2.2.2.1;have qB:=U.2.2.1;refine⟨_,rfl,a,j,G,rfl,ha,(λw hw=>(U.1 w hw).1),hq.1,(λw hw=>J2 (by have:=U.1 w hw;omega) (U.1 w hw).2),J2 (by omega) hq.2,U.2.2.2.1,(by have:=U.2.2.2.2;omega),λTB D H1 hTB s1 xD pR wA UT=>?_⟩
  have jM:U6 D:=λk v hv=>by
   obtain⟨m,e,_⟩:=pR.1 k v hv;exact⟨m,e⟩
  refine⟨_,rfl,a,j,G,rfl,ha.same s1,λb0 N s2 HJ=>?_⟩;have bC:=s1.trans s2;refine⟨_,rfl,TB,_,rfl,Dm.t (s2 _ _ xD) (show F4 N b0 (j,0)from HJ),_,rfl,?_⟩;refine Fc (λh=>q0 D N bC pR wA ?_) (λOL=>?_)
  ·cases e:Ag D (j,0)with
   |none=>rfl
   |some v=>rw[e]at h;cases h
  have OM:(Ag D (j,0)).isSome=true:=by
   cases e:Ag D (j,0)with
   |none=>rw[e]at OL;exact absurd rfl OL
   |some v=>rfl
  have EG:Uf j G D (j,0):=by
   refine⟨Js rfl (λi hi=>⟨cS _ (by rw[List.getD_eq_getElem?_getD,List.getElem?_eq_getElem hi];exact kI hi),Int.le_refl _⟩) (Int.le_refl _) (by have:=hq.1;show(0:Int)<qv G;omega),?_,.base⟩;obtain⟨v,hv⟩:=Option.isSome_iff_exists.mp OM;obtain⟨m,e⟩:=jM _ v hv;exact⟨m,by rw[hv,e]⟩
  refine λC hC=>?_;have s3:A9 N (upd N C (.dT [])):=A9.upd hC;have e3:(upd N C (.dT [])) C=some (.dT []):=A5;generalize upd N C (.dT [])=H3 at s3 e3⊢;refine⟨_,rfl,a,j,G,rfl,(ha.same bC).same s3,λb1 H4 s4 cT=>?_⟩;refine⟨C9,λL hL=>?_⟩;have s5:A9 H4 (upd H4 L (.lst [.ref b1])):=A9.upd hL;have e5:(upd H4 L (.lst [.ref b1])) L=some (.lst [.ref b1]):=A5;generalize upd H4 L (.lst [.ref b1])=H5 at s5 e5⊢;have VQ:N C=none:=hC
  have IA:N L=none:=by
   cases e:N L with
   |none=>rfl
   |some o=>rw[s4 _ _ (s3 _ _ e)]at hL;cases hL
  have s25:A9 N H5:=(s3.trans s4).trans s5;obtain⟨bu,EH,EI⟩:=cT.same s5;dsimp only;refine yo ?_;refine A0k ?_
  refine He (λσ' B=>Zp λ(d:List V) (E:List (mv×Int)) (c:mu) (v4:Option V)=>Pu (σ'=[some (.ref a),some (.ref TB),some (.ref C),some (.ref L),v4]) (A9 N B) (B L=some (.lst d)) (Af (F5 B) E d) (B C=some (.dT c)) (Rj j G D c E) (E.length<=8*c.length+1) ((∀M∈c,∃t,M.2=.ref t/\B t=some (.tup ((Hx D j M.1.1 G M.1.2).map V.bl)))))
   (λ_ B=>9*(301-G0 (B C))+L9 (B L)) ⟨[.ref b1],[(j,0)],[],none,rfl,s25,e5,Af.one ⟨b1,bu,rfl,EH,EI⟩,s5 _ _ (s4 _ _ e3),Rj.start EG,by simp,λM aL=>by cases aL⟩ ?_ ?_
  ·rintro σ' B ⟨d,E,c,v4,rfl,s',pW,qD,kS,eC,hEl,OY⟩;have kN:=eC.len U;refine⟨_,rfl,_,.inl ⟨_,B6.of pW,rfl⟩,?_⟩;refine Fc (λaX=>?_) (λkB=>?_)
   ·have EJ:0<d.length:=by
     cases d with
     |nil=>exact absurd aX (by decide)
     |cons x xs=>simp
    have JK:=qD.1;obtain⟨y,hy⟩:=Wp EJ;refine⟨_,rfl,.inl ⟨rfl,_,B6.of pW⟩,L,d,y,rfl,rfl,pW,hy,?_⟩;obtain⟨k,OE,b,b2,rfl,EK,EL⟩:=qD.get hy
    have eE:E=E.take (d.length-1)++[k]:=by
     have Z:=List.take_append_drop (d.length-1) E
     have h2:E.drop (d.length-1)=[k]:=by
      rw[List.drop_eq_getElem_cons (by omega),(List.getElem?_eq_some_iff.mp OE).2,List.drop_of_length_le (by omega)]
     rw[h2]at Z;exact Z.symm
    have EM:C≠L:=Bg kS pW (by intro z;cases z);have t4:An B (upd B L (.lst d.dropLast)):=An.lst pW;have qG:(upd B L (.lst d.dropLast)) L=some (.lst d.dropLast):=A5;have sJ:(upd B L (.lst d.dropLast)) C=some (.dT c):=(Ab EM).trans kS;have sL:A9 N (upd B L (.lst d.dropLast)):=s'.new IA;generalize upd B L (.lst d.dropLast)=S at t4 qG sJ sL⊢
    have zQ:(∀M∈c,∃t,M.2=.ref t/\S t=some (.tup ((Hx D j M.1.1 G M.1.2).map V.bl))):=λM aL=>by
     obtain⟨t,X,Y⟩:=OY M aL;exact⟨t,X,t4 _ _ Y⟩
    have kC:Dp S b k.1 k.2:=⟨b2,t4 _ _ EK,t4 _ _ EL⟩
    have kD:Af (F5 S) (E.take (d.length-1)) d.dropLast:=by
     rw[List.dropLast_eq_take];exact(qD.imp (λ_ _ y=>F5.up t4 y)).take _
    have ON:(E.take (d.length-1)).length=E.length-1:=by rw[List.length_take];omega
    rw[eE]at eC;generalize E.take (d.length-1)=E0 at eC kD ON eE;have OO:L9 (B L)=d.length:=by rw[pW];rfl
    have lB:G0 (B C)=c.length:=by rw[kS];rfl
    refine⟨_,rfl,_,rfl,C,_,rfl,Dm.t sJ (show F4 S b k from kC),_,rfl,(λOP I=>Zp λ(d:List V) (E:List (mv×Int)) (zN:mu) (v4:Option V)=>Pw (OP=[some (.ref a),some (.ref TB),some (.ref C),some (.ref L),v4]) (A9 N I) (I L=some (.lst d)) (Af (F5 I) E d) (I C=some (.dT zN)) (Rj j G D zN E) (E.length<=8*zN.length+1) ((∀M∈zN,∃t,M.2=.ref t/\I t=some (.tup ((Hx D j M.1.1 G M.1.2).map V.bl)))) (9*(301-G0 (I C))+L9 (I L)<9*(301-G0 (B C))+L9 (B L))),λh=>?_,λh=>?_,?_⟩
    ·have zO:Ag c k=none:=by
      cases e:Ag c k with
      |none=>rfl
      |some v=>rw[e]at h;cases h
     have sM:Uf j G D k:=eC.sf k (by simp);have lR:k.1.length=j.length:=(Ks sM.1).1;refine⟨_,rfl,_,rfl,_,rfl,a,TB,b,j,k.1,G,k.2,D,rfl,(ha.same bC).same sL,kC,sL _ _ (s2 _ _ xD),jM,lR,h8,λA I O eA=>?_⟩;have OQ:=O _ _ sJ;have hL7:=O _ _ qG;refine⟨_,rfl,_,rfl,C,_,rfl,Rm.t OQ (show F4 I b k from kC.same O) (Bu (by omega)),?_⟩;have JD:L≠C:=λz=>EM z.symm;have k8:∀b o,b≠C->I b=some o->(upd I C (.dT (Bd c k (.ref A)))) b=some o:=λb o n e=>(Ab n).trans e;have EN:(upd I C (.dT (Bd c k (.ref A)))) C=some (.dT (Bd c k (.ref A))):=A5;generalize upd I C (.dT (Bd c k (.ref A)))=H8 at k8 EN⊢;have t8:An I H8:=λb xs e=>k8 b _ (Bg e OQ (by intro z;cases z)) e;have s8:A9 N H8:=λb o e=>k8 b o (Ae e VQ) (O _ _ (sL _ _ e));have OS:=k8 _ _ JD hL7;have sO:Dp H8 b k.1 k.2:=(kC.same O).up t8;have ev:Ag (Bd c k (.ref A)) k=some (.ref A):=by rw[Fi,if_pos rfl]
     refine⟨_,rfl,.inl ⟨rfl,_,B6.of OS⟩,_,rfl,_,rfl,_,rfl,_,rfl,C,.ref A,rfl,(by rw[<- ev];exact Dm.t EN (show F4 H8 b k from sO)),a,b,A,j,G,k,D,rfl,(ha.same bC).same s8,sO,t8 _ _ eA,lR,h8,λl us H9 hl9 s9 el9 kY=>?_⟩;have huf:=rn pR U sM;have OT:=s9 _ _ OS;have hel6:=kD.1;have hul:=kY.1;have hfl:((List.range j.length).filterMap (P8 D j G k)).length<=j.length:=dI (List.length_filterMap_le _ _) (by rw[List.length_range];exact da _);refine⟨L,l,d.dropLast,us,rfl,rfl,OT,el9,kG (Bu (by omega)),?_⟩;have sF:An H9 (upd H9 L (.lst (d.dropLast++us))):=An.lst OT;have sQ:(upd H9 L (.lst (d.dropLast++us))) C=some (.dT (Bd c k (.ref A))):=(Ab EM).trans (s9 _ _ EN);have jB:(Bd c k (.ref A)).length=c.length+1:=by rw[D4 _ zO,List.length_append,List.length_singleton]
     have ES:An I (upd H9 L (.lst (d.dropLast++us))):=t8.trans ((An.of s9).trans sF);refine⟨d.dropLast++us,E0++(List.range j.length).filterMap (P8 D j G k),Bd c k (.ref A),_,rfl,(s8.trans s9).new IA,A5,((kD.imp λ_ _ y=>F5.up ((An.of O).trans ES) y).append (kY.imp λ_ _ y=>F5.up sF y)),sQ,eC.put zO huf,?_,(λM aL=>?_),?_⟩
     ·rw[List.length_append,jB,ON];omega
     ·rw[D4 _ zO]at aL;rcases fe.mp aL with z|z
      ·obtain⟨t,X,Y⟩:=zQ M z;exact⟨t,X,ES _ _ (O _ _ Y)⟩
      ·rw[List.mem_singleton.mp z];exact⟨A,rfl,ES _ _ eA⟩
     ·have m1:L9 ((upd H9 L (.lst (d.dropLast++us))) L)=(d.dropLast++us).length:=by rw[A5];rfl
      have m2:G0 ((upd H9 L (.lst (d.dropLast++us))) C)=c.length+1:=by rw[sQ];exact jB
      rw[m1,m2,OO,lB,List.length_append,List.length_dropLast];omega
    ·have oC:k∈c.map (·.1):=by
      cases e:Ag c k with
      |none=>rw[e]at h;cases h
      |some v=>exact Xm e
     refine⟨d.dropLast,E0,c,_,rfl,sL,qG,kD,sJ,eC.skip oC,by omega,zQ,?_⟩;have m1:L9 (S L)=d.dropLast.length:=by rw[qG];rfl
     have m2:G0 (S C)=c.length:=by rw[sJ];rfl
     rw[m1,m2,OO,lB,List.length_dropLast];omega
    ·rintro OP I ⟨es7,E7,cv7,v47,rfl,a1,a2,a3,a4,a5,a6,a7,a8⟩;exact⟨⟨es7,E7,cv7,v47,rfl,a1,a2,a3,a4,a5,a6,a7⟩,a8⟩
   ·have EO:d=[]:=by
     cases d with
     |nil=>rfl
     |cons x xs=>exact absurd rfl kB
    have hE1:E=[]:=by
     have Z:=qD.1;rw[EO]at Z;exact List.length_eq_zero_iff.mp Z.symm
    subst hE1;refine⟨C,.dT c,trivial,kS,_,rfl,C,.dT c,rfl,trivial,kS,λo=>?_⟩;have bF:∀b ob,b≠C->B b=some ob->(upd B C (.bA o (.dT c))) b=some ob:=λb ob n e=>(Ab n).trans e;have dF:(upd B C (.bA o (.dT c))) C=some (.bA o (.dT c)):=A5
    have fF:∀b,(upd B C (.bA o (.dT c))) b=none->B b=none:=λb hb=>by
     by_cases z:b=C
     ·rw[z,dF]at hb;cases hb
     ·rw[Ab z]at hb;exact hb
    generalize upd B C (.bA o (.dT c))=HF at bF dF fF⊢;have tF:An B HF:=λb xs e=>bF b _ (Bg e kS (by intro z;cases z)) e;have hTBC:TB≠C:=Ae (s2 _ _ xD) VQ;have hTBF:HF TB=some (.dT D):=bF _ _ hTBC (s' _ _ (s2 _ _ xD));refine λR hR=>?_;refine Lx (K:=K) (d:=C) (o:=o) (u:=.dT c) (λi J H5=>Af (Hw D j G H5) (c.take i) J/\J.Nodup/\H5 R=some (.lst J)/\A9 HF H5) ⟨Af.nil,List.nodup_nil,A5,A9.upd hR⟩ (by rintro i J H5 _ ⟨_,_,_,s⟩;exact s _ _ dF) ?_ ?_ ?_ ?_
    ·rintro i x y T2 J H5 hi hit ⟨gY,hzn,hR5,s5'⟩ wI;have hi3:i<c.length:=hi;obtain⟨kk,bb,aL,rfl,qC⟩:=hit;obtain⟨t,et,ht⟩:=OY _ (cb aL);have ey:y=.ref t:=et;subst ey;obtain⟨⟨oC,⟨m,hm⟩,_⟩,_⟩:=eC.ent _ (cb aL);have jK:=gY.1;rw[List.length_take]at jK;have s6:A9 H5 (upd H5 T2 (.tup [.ref bb,.ref t])):=A9.upd wI;have e6:(upd H5 T2 (.tup [.ref bb,.ref t])) T2=some (.tup [.ref bb,.ref t]):=A5;generalize upd H5 T2 (.tup [.ref bb,.ref t])=S at s6 e6⊢;have s56:=s5'.trans s6;have hR6:=s6 _ _ hR5;simp only[Oc,↓reduceIte];refine⟨_,rfl,_,rfl,_,rfl,TB,.int m,rfl,(by rw[<- hm];exact Dm.t (s56 _ _ hTBF) (show F4 S bb kk from qC.up (An.of s6))),_,rfl,C9,λp hp=>?_⟩;have O:A9 S (upd S p (.tup [.ref bb,.int m,.ref t])):=A9.upd hp;have e7:(upd S p (.tup [.ref bb,.int m,.ref t])) p=some (.tup [.ref bb,.int m,.ref t]):=A5;generalize upd S p (.tup [.ref bb,.int m,.ref t])=I at O e7⊢;have hR7:=O _ _ hR6;have tt:An I (upd I R (.lst (J++[.ref p]))):=An.lst hR7;refine⟨hR7,Bu (by omega),?_,?_,A5,(s56.trans O).new hR⟩
     ·rw[List.take_add_one,aL];exact(gY.imp λ_ _ y=>Hw.up (((An.of s6).trans (An.of O)).trans tt) y).append (Af.one ⟨p,bb,t,m,rfl,tt _ _ e7,((qC.up (An.of s6)).up (An.of O)).up tt,hm,rfl,tt _ _ (O _ _ (s56 _ _ (tF _ _ ht)))⟩)
     ·refine List.nodup_append.mpr ⟨hzn,by simp,λu hu v hv z=>?_⟩;cases iv.mp hv;subst z;obtain⟨i',dX⟩:=gy.mp hu;obtain⟨_,_,p',_,_,_,X,Y,_⟩:=gY.get dX;cases X;rw[s6 _ _ Y]at hp;cases hp
    ·rintro σ H1 Q1 Q2 hQ z;exact hQ _ _ z
    ·rintro σ H1 Q1 Q2 hQ ⟨v,X,v2,Y,v3,e3,a',w',e4,g,v5,e5,l,f⟩;exact⟨v,X,v2,Y,v3,e3,a',w',e4,g,v5,e5,l,λp hp=>hQ _ _ (f p hp)⟩
    rintro J HG ⟨gY,hzn,OB,sG⟩;rw[show c.take (D8 (.dT c))=c from List.take_length]at gY;have xB:=sG _ _ dF;refine⟨o,xB,?_⟩;have hRC:R≠C:=Bg OB xB (by intro z;cases z)
    have lW:A9 B (upd HG C (.dT c)):=λb ob e=>by
     by_cases z:b=C
     ·subst z;rw[kS]at e;cases e;exact A5
     ·exact(Ab z).trans (sG _ _ (bF b ob z e))
    have tG:An HG (upd HG C (.dT c)):=λb xs e=>by rw[Ab (Bg e xB (by intro z;cases z))];exact e
    have pV:Af (Hw D j G (upd HG C (.dT c))) c J:=gY.imp λ_ _ y=>Hw.up tG y;have xA:(upd HG C (.dT c)) R=some (.lst J):=(Ab hRC).trans OB;generalize upd HG C (.dT c)=HI at lW pV xA⊢;have jK:=pV.1;let kO:V->(mv×Int)×V:=λu=>c.getD (J.idxOf u) (([],0),.aP)
    have kAt:∀(i:Nat) (u:V),J[i]?=some u->c[i]?=some (kO u):=λi u hu=>by
     obtain⟨Z,X⟩:=bG.mp hu;have Y:J.idxOf u=i:=by rw[<- X];exact List.Nodup.idxOf_getElem hzn i Z
     show _=some (c.getD (J.idxOf u) _);rw[Y,List.getD_eq_getElem?_getD,List.getElem?_eq_getElem (by omega)];rfl
    have sR:∀u∈J,kO u∈c/\Hw D j G HI (kO u) u:=λu hu=>by
     obtain⟨i,hi⟩:=gy.mp hu;have Z:=kAt i u hi;exact⟨cb Z,pV.2 i _ _ Z hi⟩
    have kMap:J.map kO=c:=by
     apply List.ext_getElem?;intro i;rw[List.getElem?_map];cases hi:J[i]? with
     |none=>
      have:=List.getElem?_eq_none_iff.mp hi;rw[List.getElem?_eq_none (by omega)];rfl
     |some u=>rw[kAt i u hi];rfl
    refine⟨R,J,false,(λu=>Kc D j G (kO u)),(λu=>(Ar j (qv G)).idxOf (kO u).1),rfl,B6.of xA,by omega,⟨λu hu=>⟨(sR u hu).2.rp,⟨dS (kO u).1,_,rfl,by rw[if_neg (by decide)];exact⟨_,rfl⟩⟩,Ui _ _ _ _⟩,λu hu v hv=>Zc (sR u hu).2.rp (eC.ent _ (sR u hu).1).1.1 (eC.ent _ (sR v hv).1).1.1⟩,λp eM hp aJ bH=>?_⟩;have sP:A9 HI (upd HI p (.lst eM)):=A9.upd hp
    have hpH:H p=none:=by
     cases e:H p with
     |none=>rfl
     |some o=>rw[lW _ _ (s' _ _ (bC _ _ e))]at hp;cases hp
    have hcp:(eM.map kO).Perm c:=by
     have:=aJ.map kO;rw[kMap]at this;exact this
    refine q p eM (eM.map kO) D _ (((bC.trans s').trans lW).trans sP) hpH A5 pR wA OM (Xw eC hcp (by rw[List.pairwise_map];exact bH)) ⟨by rw[List.length_map],λi r v X Y=>?_⟩;rw[List.getElem?_map,Y]at X;cases X;exact Hw.up (An.of sP) (sR v (aJ.mem_iff.mp (cb Y))).2
  ·intro σ H0 Q1 Q2 z Z;obtain⟨_,e,k,t,h2⟩:=Z;exact⟨_,e,k,t,z _ _ h2⟩
def ix(K:W.Frag):Sp:=λd H Q _=>Zp λ(D:Addr) (c:List V) (b:List (Int×Int)) (t:Int)=>Jz (d=[.ref D,.int t]) (H D=some (.lst c)) (Af (Rk H) b c) ((∀r∈b,WF r.1 r.2)) (((∀r∈b,t%r.1≠r.2)->∀a,A9 H a->Q .aP a)) (∀(i:Nat) (r:Int×Int) (a:Hp),b[i]?=some r->t%r.1=r.2->A9 H a->Q (.int (i:Nat)) a)
theorem ut{G:nr}(F:Dn K "heard" "heard" g9 ad.gB G):Bf P w K mg base (CX1 P w) 1 ad.gB G ["wheel","turn"] (ix K):=by
 refine F.okN Vf (λvs H Q E h=>?_) (λaM A p s H vs Q E I h=>?_)
 ·rcases h with⟨D,O,M,t,rfl,n,all,c,J,L⟩<;>rfl
 ·obtain⟨D,O,M,t,rfl,n,all,c,J,L⟩:=h;refine⟨_,(A6 (Cd i0 rfl (Td (by rfl) T.gG (A0 (pv 0) A7)) (Dx K (n:=2) rfl (Bh (Al (i:=2) Vf.nd rfl (Or.inl rfl)) (Bh (Al (i:=3) Vf.nd rfl (Or.inl rfl)) Dy))) (Aa (C5 (Ax Ta (Bc Fp (pv 1) (C4 (C0 K) (pv 3) Ad (λ_ _=>rfl))) (C4 (C0 K) (pv 3) Ad (λ_ _=>rfl)) (Au _)) (Aa (Ak (pv 2))) Ap))) (Aa (Ak Bq))),?_⟩;refine⟨_,rfl,false,D,rfl,⟨_,B6.of n⟩,?_⟩
  refine Ye (K:=K) (b:=false) (c:=D) (xs:=O) (λi f B=>Py λ(v x:Option V)=>Xn (f=[some (.ref D),some (.int t),v,x]) (A9 H B) (∀(j:Nat) (r:Int×Int),j<i->M[j]?=some r->t%r.1≠r.2))
   ⟨none,none,rfl,A9.refl H,λj r b=>absurd b (kE j)⟩ (by rintro i f B _ ⟨_,_,_,s,_⟩;exact B6.of (s _ _ n)) ?_ ?_
  ·rintro i y T f a Y ⟨v,x,rfl,q,o⟩ U;obtain⟨r,g,u,rfl,X⟩:=all.get Y;obtain⟨p1,p2,a1,a2⟩:=c r (cb g);have N:A9 a (upd a T (.tup [V.int (i:Nat),V.ref u])):=A9.upd U;have d:=q.trans N;refine⟨T,_,rfl,Cu.of A5,rfl,_,_,rfl,_,_,rfl,rfl,?_⟩;generalize upd a T (.tup [V.int (i:Nat),V.ref u])=R at N d⊢;have C:=Cu.of (K:=K) (d _ _ X);refine⟨_,rfl,_,rfl,u,_,_,_,rfl,rfl,.inr C,rfl,_,_,rfl,rfl,(by omega),_,rfl,u,_,_,_,rfl,rfl,.inr C,rfl,rfl,_,rfl,?_⟩;rw[eqI];refine Fc (λm=>⟨_,rfl,L i r R g (by simpa using m) d⟩) (λm=>?_);refine⟨_,_,rfl,d,λj Z b l=>?_⟩;rcases il j i with z|z
   ·exact o j Z z l
   ·have e:j=i:=by omega
    subst e;rw[g]at l;cases l;simpa using m
  ·rintro f a ⟨v,x,rfl,q,o⟩;refine J (λr I=>?_) a q;obtain⟨j,b⟩:=List.getElem?_of_mem I;have S:=(bG.mp b).1;exact o j r (by rw[all.1];exact S) b
def Vl(K:W.Frag):Sp:=λa H Q _=>∃(i:Int),a=[.int i]/\Q (.bl true) H
theorem u9{b:nr}(F:Dn K "_law_whole" "_law_whole" fm ad.dQ b):Bf P w K mg base (CX1 P w) 1 ad.dQ b ["found"] (Vl K):=by
 refine F.okN wl (λc H Q E h=>?_) (λe A a s H c Q E f h=>?_)
 ·rcases h with⟨i,rfl,q⟩<;>rfl
 ·obtain⟨i,rfl,q⟩:=h;refine⟨_,(Aa (Ak (Lk (Aq (K2 K) (by rfl) T.bT boot_isinstance (A0 (pv 0) (A0 (di (by rfl) T.MR boot_int) A7))) (Qu (v9 (Aq (K2 K) (by rfl) T.bT boot_isinstance (A0 (pv 0) (A0 (di (by rfl) T.CQ boot_bool) A7)))))))),?_⟩;exact⟨_,rfl,_,"int","int",true,rfl,.int _,Ut,_,true,rfl,λ_ d z=>⟨_,rfl,_,"int","bool",false,rfl,.int _,Sk,_,rfl,z⟩,q⟩
def i4(K:W.Frag):Sp:=λc H Q _=>Pz λ(a:Addr) (b:mv) (k:Int)=>Rl (c=[.ref a,.int k]) (B6 K H a (b.map V.int)) (0<=k) (Q (.int (J6 b k)) H)
theorem sr{i:nr}(F:Dn K "_law_cell_at" "_law_cell_at" fc ad.gC i):Bf P w K mg base (CX1 P w) 1 ad.gC i ["script","k"] (i4 K):=by
 refine F.okN wg (λj H Q E h=>?_) (λl A g s H j Q E m h=>?_)
 ·rcases h with⟨a,f,k,rfl,d,e,q⟩<;>rfl
 ·obtain⟨a,f,k,rfl,d,e,q⟩:=h;refine⟨_,(A6 (C5 (Ax Gv (pv 1) (Aq (Bt K) (by rfl) T.bP PySem.boot_len (A0 (pv 0) A7)) (Au _)) (Aa (Ak (C4 (C0 K) (pv 0) (pv 1) (λ_ _=>rfl)))) Ap) (Aa (Ak Ad))),?_⟩;refine⟨_,rfl,_,rfl,a,_,rfl,.inl d,_,_,rfl,rfl,_,rfl,?_⟩;refine Fc (λc=>?_) (λc=>?_)
  ·have b:k<f.length:=by simpa using c
   exact⟨_,rfl,_,rfl,a,_,_,_,rfl,rfl,.inl d,jq e b,q⟩
  ·have b:¬k<f.length:=by simpa using c
   rw[Y1 e b]at q;exact q
def ol(K:W.Frag):Sp:=λc H Q _=>Py λ(a:Addr) (b:mv)=>G8 (c=[.ref a]) (H a=some (.lst (b.map V.int))) (b.length<=3) ((∀x∈b,1<=x/\x<=5)) (Q (.bl (!decide (Ba b))) H)
theorem yx{r:nr}(F:Dn K "_law_shares_above_one" "_law_shares_above_one" vq ad.lK r):Bf P w K mg base (CX1 P w) 1 ad.lK r ["waits"] (ol K):=by
 refine F.okN Pg (λS H Q E h=>?_) (λU A l s H S Q E j h=>?_)
 ·rcases h with⟨a,c,rfl,g,D,d,q⟩<;>rfl
 ·obtain⟨a,c,rfl,g,D,d,q⟩:=h;refine⟨_,(A6 (Ah (i:=1) Pg.nd rfl (Or.inl rfl) Ad) (A6 (Ah (i:=2) Pg.nd rfl (Or.inl rfl) Ad) (A6 (Cd i0 rfl (Ci (pv 0)) (Al (i:=3) Pg.nd rfl (Or.inl rfl)) (A6 (Ah (i:=1) Pg.nd rfl (Or.inl rfl) (Bc Gu (Bc Hn (pv 1) (pv 3)) (pv 2))) (Aa (Ah (i:=2) Pg.nd rfl (Or.inl rfl) (Bc Hn (pv 2) (pv 3)))))) (Aa (Ak (D5 N4 (pv 1) (pv 2) (Au _))))))),?_⟩;have R:∀x∈c,1<=x/\x<2^102:=λx h=>by have:=d x h;omega
  refine⟨_,rfl,a,rfl,.inl ⟨⟨_,B6.of g⟩,?_⟩⟩;refine Cm (K:=K) (a:=a) (xs:=c.map V.int) (λi f o=>∃(m:Option V),f=[some (.ref a),some (.int (Ei (c.take i)).1),some (.int (Ei (c.take i)).2),m]/\o=H) ⟨_,rfl,rfl⟩ (by rintro i f o _ ⟨_,_,e⟩;exact(by rw[e];exact B6.of g)) ?_ ?_
  ·rintro i y f p C ⟨m,rfl,rfl⟩;rw[List.getElem?_map]at C;obtain⟨n,B,rfl⟩:=dm.mp C;have O:=d n (cb B);refine⟨_,rfl,_,rfl,_,_,rfl,rfl,Wu (by omega) (by omega),_,rfl,_,_,rfl,rfl,?_⟩;refine⟨_,rfl,_,rfl,_,_,rfl,rfl,Wu (by omega) (by omega),some (.int n),?_,rfl⟩;rw[E5 B,Pq];rfl
  rintro f p ⟨m,rfl,rfl⟩;rw[List.length_map,List.take_length];refine⟨_,rfl,_,rfl,_,_,rfl,rfl,?_⟩;have v:∀x∈c,x∣60:=λx h=>ny (d x h);obtain⟨G,I,J,L,M⟩:=Nr (B:=60) R v c.length (da _);rw[List.take_length]at G I J L M;have j:=Jp (xs:=c) (B:=60) (by decide) λx h=>⟨(d x h).1,v x h⟩
  have e:decide ((Ei c).2<(Ei c).1)= !decide (Ba c):=by
   generalize(Ei c).1=t at*;generalize(Ei c).2=b at*;generalize(Cf 60 c).sum=s at*;by_cases z:Ba c
   ·rw[decide_eq_true z,decide_eq_false]
    ·rfl
    ·have u:=j.mp z;have N:=Int.mul_le_mul_of_nonneg_right u (show 0<=b by omega);omega
   ·rw[decide_eq_false z,decide_eq_true]
    ·rfl
    ·have u:60<s:=by
      rcases Int.lt_or_le 60 s with y|y
      ·exact y
      ·exact absurd (j.mpr y) z
     have N:=Int.mul_le_mul_of_nonneg_right (show 61<=s by omega) (show 0<=b by omega);omega
  show Q (.bl (decide ((Ei c).2<(Ei c).1))) p;rw[e];exact q
def i8(K:W.Frag):Sp:=λi H Q _=>ZO λ(a l p c:Addr) (d:mv) (h:List V) (f:List (Int×Int)) (b:Int) (e:mv)=>ng (i=[.ref a,.ref l,.ref p,.int b,.ref c]) (Bk H a d none) (H l=some (.lst (d.map V.int))) (H p=some (.lst h)) (Af (Rk H) f h) ((∀r∈f,WF r.1 r.2)) (Ge d f) (1<=d.length) (d.length<=3) ((∀w∈d,1<=w/\w<=5)) (H c=some (.lst (e.map V.int))) (0<e.length) (e.length<=80) (∀g,A9 H g->Q (.bl true) g)
theorem tj{fd iH EV nA bD:nr}(F:Dn K "_law_walked" "_law_walked" Xc ad.gD fd)(aZ:Gk P w K mg base 1 ad.cP ["hall"] (Re K) iH)(oY:Gk P w K mg base 1 ad.gB ["wheel","turn"] (ix K) EV)(cV:Gk P w K mg base 1 ad.dQ ["found"] (Vl K) nA)(aY:Gk P w K mg base 4 ad.bI ["hall","standing","who","lost"] (Nm K) bD)(aQ:Dl K bD ["hall","standing","who","lost"] [Value.bool false]):Bf P w K mg base (CX1 P w) 5 ad.gD fd ["hall","waits","wheel","begin","cells"] (i8 K):=by
 refine F.okN Hd (λvs H Q E h=>?_) (λaM A outer s H vs Q E hr h=>?_)
 ·rcases h with⟨a,l,p,c,f,us,B,b,u,rfl,ha,hl,hp,all,VR,vH,mL,EW,hw5,hc,yD,hc8,q⟩<;>rfl
 ·obtain⟨a,l,p,c,f,us,B,b,u,rfl,ha,hl,hp,all,VR,vH,mL,EW,hw5,hc,yD,hc8,q⟩:=h;refine⟨_,(A6 (Ah (i:=5) Hd.nd rfl (Or.inl rfl) (Ac aZ.g (hr.mono (by decide)) rfl T.lM T.lN aZ.b .nil Ao (A0 (pv 0) A7))) (A6 (Ah (i:=6) Hd.nd rfl (Or.inl rfl) (Cc Db (by rfl) T.iC boot_list (A0 (pv 1) A7))) (A6 (Cd i0 rfl (E4 (by rfl) T.bJ (A0 Ad A7)) (Al (i:=7) Hd.nd rfl (Or.inl rfl)) (A6 (Ah (i:=8) Hd.nd rfl (Or.inl rfl) (O8 (Ac oY.g (hr.mono (by decide)) rfl T.ML T.MM oY.b .nil Ao (A0 (pv 2) (A0 (Bc Gu (pv 3) (pv 7)) A7))))) (A6 (Fs (Ax Fo (pv 8) Bq (Au _)) (Aa (Ah (i:=8) Hd.nd rfl (Or.inl rfl) (Bc Fp (C4 (C0 K) (pv 4) (Bc Fp (pv 7) (Aq (Bt K) (by rfl) T.bP PySem.boot_len (A0 (pv 4) A7))) (λ_ _=>rfl)) (Aq (Bt K) (by rfl) T.bP PySem.boot_len (A0 (pv 1) A7))))) Ap) (A6 (C5 (PW.pt (Iq (Dw (D2 (Ac cV.g (hr.mono (by decide)) rfl T.rH T.rJ cV.b .nil Ao (A0 (pv 8) A7)))) (Ip (Dw (dq Wy Gv Ad (pv 8) (Aq (Bt K) (by rfl) T.bP PySem.boot_len (A0 (pv 1) A7))))))) (Aa (Ak Gw)) Ap) (A6 (Cs (i:=6) Hd.nd rfl (Ci (pv 6)) _ rfl L5 rfl rfl (λ_ _ _ _=>(Al (i:=0) Lb rfl (Or.inl rfl))) (λ_ _ _ _=>Bz) (λ_ _ _ _=>(Bc Qs (pv 0) Ad)) rfl rfl) (A6 (V6 (C4 (C0 K) (pv 1) (pv 8) (λ_ _=>rfl)) (V4 (pv 6) (pv 8) Nl)) (A6 (Ah (i:=5) Hd.nd rfl (Or.inl rfl) (Ac aY.g (hr.mono (by decide)) rfl T.jH T.gF aQ (Fx) Ao (A0 (pv 0) (A0 (pv 5) (A0 (pv 8) A7))))) (Aa (C5 (PW.pt (V7 (Ax Gv (Aq (Hi rfl) (by rfl) T.lO boot_min (A0 (pv 6) A7)) Ad (Au _)) (V7 (Ax Fo (pv 5) Bq (Au _)) (Ip (Ax (uz hr) (pv 5) (Cr (A0 (Cc D3 (by rfl) T.cF boot_tuple (A0 (pv 6) A7)) (A0 Ad A7))) (Au _)))))) (Aa (Ak Gw)) Ap))))))))) (Aa (Ak Gw))))),?_⟩;refine⟨_,rfl,a,f,none,rfl,ha,λst H1 s1 bW=>?_⟩;refine⟨_,rfl,l,_,rfl,.inl (B6.of (s1 _ _ hl)),λS NI=>?_⟩;have s2:A9 H1 (upd H1 S (.lst (f.map V.int))):=A9.upd NI;have e2:(upd H1 S (.lst (f.map V.int))) S=some (.lst (f.map V.int)):=A5;generalize upd H1 S (.lst (f.map V.int))=H2 at s2 e2⊢;refine⟨63,rfl,by decide,by decide,?_⟩;refine Ow (n:=(63:Int).toNat) (λi σ o=>nk λ(M L:Addr) (g:mv) (v7 v8:Option V)=>G8 (σ=[some (.ref a),some (.ref l),some (.ref p),some (.int b),some (.ref c),some (.ref M),some (.ref L),v7,v8]) (Dp o M g 0) (o L=some (.lst (g.map V.int))) (Iz f B (b+i) g) (A9 H o)) ⟨st,S,f,_,_,rfl,bW.same s2,e2,Iz.begin vH _,s1.trans s2⟩ ?_ ?_
  ·rintro i σ H3 hi ⟨M,L,g,v7,v8,rfl,hb,hL,hG,s3⟩;have X:=all.imp λr v z=>Rk.up (An.of s3) z;have hlen:=hG.1;refine⟨(λv o=>A9 H3 o/\((v=.aP/\∀r∈B,(b+i)%r.1≠r.2)\/∃(j:Nat) (r:Int×Int),v=.int (j:Int)/\B[j]?=some r/\(b+i)%r.1=r.2)),⟨_,rfl,_,rfl,_,rfl,_,_,rfl,rfl,p,us,B,_,rfl,s3 _ _ hp,X,VR,λiU H4 C=>⟨C,.inl ⟨rfl,?_⟩⟩,λj r H4 N J C=>⟨C,.inr ⟨j,r,rfl,N,?_⟩⟩⟩,?_⟩
   ·intro r ET;have:=iU r ET;rw[Int.zero_add]at this;exact this
   ·rw[Int.zero_add]at J;exact J
   rintro v H4 ⟨C,hv⟩;have O:=s3.trans C;refine⟨_,rfl,rfl,_,rfl,(λσ' o=>∃(w:Nat),Rl (σ'=[some (.ref a),some (.ref l),some (.ref p),some (.int b),some (.ref c),some (.ref M),some (.ref L),some (.int (0+(i:Int))),some (.int (w:Int))]) (o=H4) (w<f.length) (∀(j:Nat) (r:Int×Int),B[j]?=some r->(b+i)%r.1=r.2->j=w)),λz=>?_,λz=>?_,?_⟩
   ·have zO:v=.aP:=by simpa using z
    have iU:∀r∈B,(b+i)%r.1≠r.2:=by
     rcases hv with⟨_,h⟩|⟨j,r,e,_⟩
     ·exact h
     ·rw[zO]at e;cases e
    have hm:=Dg (0+(i:Int)) (m:=((u.map V.int).length:Int)) (by rw[List.length_map];omega)
    obtain⟨y,hy⟩:∃y,U9 (u.map V.int) ((0+(i:Int))%((u.map V.int).length:Int))=some (.int y):=by
     obtain⟨k,hk⟩:∃k:Nat,(0+(i:Int))%((u.map V.int).length:Int)=k:=⟨((0+(i:Int))%((u.map V.int).length:Int)).toNat,by omega⟩;rw[List.length_map]at hm hk;refine⟨u[k]'(by omega),?_⟩;rw[List.length_map,hk];exact J1 (by rw[List.getElem?_map,List.getElem?_eq_getElem (by omega)];rfl)
    have kL:=Dg y (m:=((f.map V.int).length:Int)) (by rw[List.length_map];omega);refine⟨_,rfl,_,rfl,_,rfl,c,_,rfl,.inl (B6.of (O _ _ hc)),_,_,rfl,rfl,(by show(0:Int)<((u.map V.int).length:Int);rw[List.length_map];omega),c,_,_,_,rfl,rfl,.inl (B6.of (O _ _ hc)),hy,_,rfl,l,_,rfl,.inl (B6.of (O _ _ hl)),_,_,rfl,rfl,(by show(0:Int)<((f.map V.int).length:Int);rw[List.length_map];omega),(y%((f.map V.int).length:Int)).toNat,?_,rfl,?_,λj r N J=>absurd J (iU r (cb N))⟩
    ·rw[show(((y%((f.map V.int).length:Int)).toNat:Nat):Int)=y%((f.map V.int).length:Int)by omega];rfl
    ·rw[List.length_map]at kL⊢;omega
   ·rcases hv with⟨e,_⟩|⟨j,r,e,N,J⟩
    ·rw[e]at z;exact absurd z (by decide)
    ·refine⟨j,by rw[e];rfl,rfl,by rw[<- vH.1];exact(bG.mp N).1,λj' r' U h2=>vH.2.2 j' j r' r _ U N h2 J⟩
   rintro σ' R ⟨w,rfl,rfl,hw,jY⟩;have Z:=O _ _ hl;have qG:=C _ _ hL;have xO:w<g.length:=by omega
   refine⟨_,rfl,_,rfl,_,rfl,false,(λ_ Q1 z1=>⟨_,rfl,_,_,rfl,rfl,_,rfl,Ia (decide_eq_true (by omega)) ⟨_,rfl,l,_,rfl,.inl (B6.of Z),_,_,rfl,rfl,_,rfl,?_⟩⟩),D6 rfl ?_⟩
   ·rw[decide_eq_true (by rw[List.length_map];omega)];exact z1
   refine⟨_,rfl,L,rfl,.inl ⟨⟨_,B6.of qG⟩,λD hD=>?_⟩⟩;refine Cw (K:=K) (a:=L) (xs:=g.map V.int) (λi ys o=>ys=((g.take i).map λx=>x-1).map V.int/\o D=some (.lst ys)/\A9 R o) ⟨rfl,A5,A9.upd hD⟩ (by rintro i ys o _ ⟨_,_,s⟩;exact B6.of (s _ _ qG)) ?_ ?_
   ·rintro i' y ys H5 hy ⟨rfl,iX,s5⟩ Qe hQ;rw[List.getElem?_map]at hy;obtain⟨n,hn,rfl⟩:=dm.mp hy;have dX:=(bG.mp hn).1;refine⟨_,rfl,_,_,rfl,rfl,hQ _ _ iX (Av (by rw[List.length_map,List.length_map,List.length_take];omega)) ⟨?_,A5,s5.new hD⟩⟩;rw[List.take_add_one,hn,List.map_append,List.map_append];rfl
   rintro ys H5 ⟨rfl,iX,s5⟩;rw[List.length_map,List.take_length]at iX;have Y:U9 (f.map V.int) (w:Int)=some (.int (f.getD w 0)):=J1 (by rw[List.getElem?_map,List.getD_eq_getElem?_getD,List.getElem?_eq_getElem hw];rfl);refine⟨_,rfl,_,rfl,l,_,_,_,rfl,rfl,.inl (B6.of (s5 _ _ Z)),Y,_,rfl,_,rfl,D,_,_,w,rfl,rfl,iX,Qj (by rw[List.length_map,List.length_map];exact xO),?_⟩
   have eLB:((g.map λx=>x-1).map V.int).set w (.int (f.getD w 0))=(Aw f g w false).map V.int:=by
    unfold Aw;rw[if_neg Bool.false_ne_true,List.map_set]
   rw[eLB];have s6:A9 R (upd H5 D (.lst ((Aw f g w false).map V.int))):=s5.new hD;have e6:(upd H5 D (.lst ((Aw f g w false).map V.int))) D=some (.lst ((Aw f g w false).map V.int)):=A5;generalize upd H5 D (.lst ((Aw f g w false).map V.int))=H6 at s6 e6⊢;obtain⟨g1,g2⟩:=hG.step vH jY;have hb6:=(hb.same C).same s6;have ha6:=(ha.same O).same s6;refine⟨_,rfl,_,rfl,_,rfl,a,M,f,g,none,0,w,false,rfl,ha6,hb6,hw,hlen,by omega,(λz=>nomatch z),(λz=>absurd z g1),λ_ b2 I s7 NS=>?_⟩;have e7:=s7 _ _ e6
   have iW:∀x∈Aw f g w false,1<=x:=λx hx=>by
    obtain⟨k,hk,e⟩:=List.getElem_of_mem hx;have cK:k<f.length:=by have:=g2.1;omega
    obtain⟨r,j,_,h0,U,_⟩:=g2.2 k cK;rw[List.getD_eq_getElem?_getD,List.getElem?_eq_getElem hk,e]at U;have U:j<x:=U;omega
   have aX:0<(Aw f g w false).length:=by have:=g2.1;omega
   refine⟨_,rfl,D,_,rfl,B6.of e7,aX,λm hm cM=>?_⟩;refine⟨_,_,rfl,rfl,_,rfl,?_⟩;rw[decide_eq_false (show¬m<1 by have:=iW m hm;omega)];refine⟨(λd o=>d=false/\A9 I o),(λz=>nomatch z),λ_=>?_,?_⟩
   ·refine⟨_,rfl,rfl,_,rfl,(λd o=>d=false/\A9 I o),(λz=>nomatch z),λ_=>?_,λ_ _ z=>z⟩;refine⟨_,rfl,_,rfl,D,_,rfl,.inl ⟨B6.of e7,λT hT=>?_⟩⟩;have G:A9 I (upd I T (.tup ((Aw f g w false).map V.int))):=A9.upd hT;have e8:(upd I T (.tup ((Aw f g w false).map V.int))) T=some (.tup ((Aw f g w false).map V.int)):=A5;generalize upd I T (.tup ((Aw f g w false).map V.int))=H8 at G e8⊢;refine⟨C9,λP hP=>?_⟩;have s9:A9 H8 (upd H8 P (.tup [.ref T,.int 0])):=A9.upd hP;refine⟨_,_,Ti (k:=(Aw f g w false,0)) (NS.same (G.trans s9)),Ti (k:=(Aw f g w false,0)) ⟨T,A5,s9 _ _ e8⟩,(by rw[Mf];decide),_,rfl,?_,G.trans s9⟩;show(!PyData.eqv (dS (Aw f g w false,0)) (dS (Aw f g w false,0)))=false;rw[Mj,decide_eq_true rfl];rfl
   rintro d H8 ⟨rfl,G⟩;refine D6 rfl ⟨b2,D,Aw f g w false,_,_,rfl,NS.same G,G _ _ e7,?_,O.trans (s6.trans (s7.trans G))⟩;rw[show b+((i+1:Nat):Int)=b+i+1 by omega];exact g2
  rintro σ H3 ⟨M,L,g,v7,v8,rfl,hb,hL,hG,s3⟩;exact q H3 s3
def ow(K:W.Frag):Sp:=λf H Q _=>ZO λ(l b:Addr) (d:List V) (a c:mu) (g:mv) (e:mx) (k:mv×Int) (m:Int)=>Nx (f=[.ref l,.ref b]) (H l=some (.lst d)) (Af (Hw c g e H) a d) (F4 H b k) (k∈a.map (·.1)) (Ag c k=some (.int m)) (Q (.int m) H)
theorem zd{G:nr}(F:Dn K "_law_first_rank" "_law_first_rank" vy ad.lL G):Bf P w K mg base (CX1 P w) 1 ad.lL G ["paper","standing"] (ow K):=by
 refine F.okN oi (λvs H Q E h=>?_) (λaM A v s H vs Q E U h=>?_)
 ·rcases h with⟨l,b,N,M,Z,ws,R,k,m,rfl,g,all,I,J,L,q⟩<;>rfl
 ·obtain⟨l,b,N,M,Z,ws,R,k,m,rfl,g,all,I,J,L,q⟩:=h;refine⟨_,(A6 (Cd i0 rfl (Ci (pv 0)) (Al (i:=2) oi.nd rfl (Or.inl rfl)) (Aa (C5 (Ax (uv U) (C4 (C0 K) (pv 2) Ad (λ_ _=>rfl)) (pv 1) (Au _)) (Aa (Ak (C4 (C0 K) (pv 2) Ad (λ_ _=>rfl)))) Ap))) (Aa (Ak Bq))),?_⟩;refine⟨_,rfl,l,rfl,.inl ⟨⟨_,B6.of g⟩,?_⟩⟩;refine Cm (K:=K) (a:=l) (xs:=N) (λi c C=>∃(x:Option V),Xn (c=[some (.ref l),some (.ref b),x]) (C=H) (∀(j:Nat) (a:(mv×Int)×V),j<i->M[j]?=some a->a.1≠k)) ⟨_,rfl,rfl,λj a h=>absurd h (kE j)⟩ (by rintro i c C _ ⟨_,_,e,_⟩;exact(by rw[e];exact B6.of g)) ?_ ?_
  ·rintro i u c O X ⟨x,rfl,rfl,n⟩;obtain⟨a,d,p,b',t,m',rfl,S,Y,B,_,_⟩:=all.get X;have D:=Cu.of (K:=K) S;refine⟨_,rfl,p,_,_,_,rfl,rfl,.inr D,rfl,_,rfl,_,_,Ti Y,Ti I,(by rw[Mf];decide),_,rfl,?_⟩;show(if PyData.eqv (dS a.1) (dS k)=true then _ else _);rw[Mj];refine Fc (λz=>?_) (λz=>?_)
   ·have z:=of_decide_eq_true z;rw[z,L]at B;cases B;exact⟨_,rfl,p,_,_,_,rfl,rfl,.inr D,rfl,q⟩
   ·refine⟨_,rfl,rfl,λj r f o=>?_⟩;rcases il j i with y|y
    ·exact n j r y o
    ·rw[show j=i by omega,d]at o;cases o;exact λe=>z (decide_eq_true e)
  rintro c O ⟨x,rfl,rfl,n⟩;obtain⟨a,d,e⟩:=eH.mp J;obtain⟨j,f⟩:=gy.mp d;exact absurd e (n j a (by have:=(bG.mp f).1;rw[all.1];exact this) f)
def sp_law(K:W.Frag)(aN:Addr):Sp:=λd H Q _=>Py λ(a:Addr) (b:mv)=>Jz (d=[.ref a]) (B6 K H a (b.map V.int)) (b.length<=63) ((∀z∈b,intBits z<=2^20)) (H aN=some (.tab lamQ lamP)) (∀c,c aN=some (.tab lamQ lamP)->Q (.bl true) c)
theorem rq{fd EX sS EY EZ FA OZ FC nA PB FD:nr}(F:Dn K "law" "law" Ic ad.gE fd)(gP:Gk P w K mg base 1 ad.gC ["script","k"] (i4 K) EX)(sT:Gk P w K mg base 1 ad.cC ["waits","calm"] (ir K) sS)(cD:Dl K sS ["waits","calm"] [Value.none])(oZ:Gk P w K mg base 6 ad.fO ["waits"] (ig K aE aH aI aN) EY)(pA:Gk P w K mg base 8 ad.fY ["hall"] (i7 K) EZ)(pB:Gk P w K mg base 8 ad.gA ["hall"] (gr K) FA)(xG:Gk P w K mg base 1 ad.lK ["waits"] (ol K) OZ)(jN:Gk P w K mg base 3 ad.fP ["waits"] (im K) FC)(cV:Gk P w K mg base 1 ad.dQ ["found"] (Vl K) nA)(xH:Gk P w K mg base 1 ad.lL ["paper","standing"] (ow K) PB)(pC:Gk P w K mg base 5 ad.gD ["hall","waits","wheel","begin","cells"] (i8 K) FD):Bf P w K mg base (CX1 P w) 9 ad.gE fd ["script"] (sp_law K aN):=by
 refine F.okN F0 (λvs H Q E h=>?_) (λaM A outer s H vs Q E o h=>?_)
 ·rcases h with⟨a,I,rfl,hS,S,hbig,hT,q⟩<;>rfl
 ·obtain⟨a,I,rfl,hS,S,hbig,hT,q⟩:=h;refine⟨_,(A6 (Ah (i:=1) F0.nd rfl (Or.inl rfl) (Bc Gu Ad (Bc Fp (Ac gP.g (o.mono (by decide)) rfl T.rK T.rL gP.b .nil Ao (A0 (pv 0) (A0 Ad A7))) Ad))) (A6 (Cs (i:=2) F0.nd rfl (E4 (by rfl) T.bJ (A0 (pv 1) A7)) _ rfl ae rfl rfl (λ_ _ _ _=>(Al (i:=0) d4 rfl (Or.inl rfl))) (λ_ _ _ _=>Bz) (λ_ _ _ _=>(Bc Gu Ad (Bc Fp (Ac gP.g (o.mono (by decide)) rfl T.rK T.rL gP.b .nil Ao (A0 (pv 1) (A0 (Bc Gu (pv 0) Ad) A7))) Ad))) rfl rfl) (A6 (Ah (i:=3) F0.nd rfl (Or.inl rfl) (Bc Fp (Ac gP.g (o.mono (by decide)) rfl T.rK T.rL gP.b .nil Ao (A0 (pv 0) (A0 Ad A7))) (Bc v0 Ad Ad))) (A6 (Ah (i:=4) F0.nd rfl (Or.inl rfl) (Ac sT.g (o.mono (by decide)) rfl T.LJ T.rA cD (Nu) Ao (A0 (Cc Db (by rfl) T.iC boot_list (A0 (pv 2) A7)) A7))) (A6 (Ah (i:=5) F0.nd rfl (Or.inl rfl) (O8 (Ac oZ.g (o.mono (by decide)) rfl T.LH T.LI oZ.b .nil Ao (A0 (Cc Db (by rfl) T.iC boot_list (A0 (pv 2) A7)) A7)))) (A6 (Ah (i:=6) F0.nd rfl (Or.inl rfl) (O8 (Ac pA.g (o.mono (by decide)) rfl T.MD T.ME pA.b .nil Ao (A0 (pv 4) A7)))) (A6 (Ah (i:=7) F0.nd rfl (Or.inl rfl) (O8 (Ac pB.g (o.mono (by decide)) rfl T.MJ T.MK pB.b .nil Ao (A0 (pv 4) A7)))) (A6 (C5 (Ax Ta (D5 Fo (pv 6) Bq (Au _)) (D5 Fo (pv 7) Bq (Au _)) (Au _)) (Aa (Ak Gw)) Ap) (A6 (C5 (D2 (Ac xG.g (o.mono (by decide)) rfl T.ZI T.ZJ xG.b .nil Ao (A0 (pv 2) A7))) (A6 (Ah (i:=8) F0.nd rfl (Or.inl rfl) (Ac jN.g (o.mono (by decide)) rfl T.yO T.yP jN.b .nil Ao (A0 (Cc Db (by rfl) T.iC boot_list (A0 (pv 2) A7)) A7))) (A6 (C5 (PW.pt (Iq (Ax Ho (pv 5) Bq (Au _)) (Iq (Ax Ho (pv 6) Bq (Au _)) (Ip (Dw (D2 (Ac cV.g (o.mono (by decide)) rfl T.rH T.rJ cV.b .nil Ao (A0 (pv 8) A7)))))))) (Aa (Ak Gw)) Ap) (A6 (Ah (i:=9) F0.nd rfl (Or.inl rfl) (Ac xH.g (o.mono (by decide)) rfl T.ZK T.ZL xH.b .nil Ao (A0 (pv 7) (A0 (Cr (A0 (Cc D3 (by rfl) T.cF boot_tuple (A0 (pv 2) A7)) (A0 Ad A7))) A7)))) (Aa (Ak (Lk (Ac cV.g (o.mono (by decide)) rfl T.rH T.rJ cV.b .nil Ao (A0 (pv 9) A7)) (Qu (dc Wy Wy Ad (pv 9) (pv 8))))))))) Ap) (A6 (C5 (Ax Ho (Ac jN.g (o.mono (by decide)) rfl T.yO T.yP jN.b .nil Ao (A0 (Cc Db (by rfl) T.iC boot_list (A0 (pv 2) A7)) A7)) Bq (Au _)) (Aa (Ak Gw)) Ap) (A6 (C5 (Ax Fo (pv 5) Bq (Au _)) (Aa (Ak Gw)) Ap) (A6 (C5 (PW.pt (Iq (Ax Fo (pv 6) Bq (Au _)) (Iq (Dw (D2 (Aq (K2 K) (by rfl) T.bT boot_isinstance (A0 (pv 5) (A0 (di (by rfl) T.cF boot_tuple) A7))))) (Ip (Ax zk (Aq (Bt K) (by rfl) T.bP PySem.boot_len (A0 (pv 5) A7)) Ad (Au _)))))) (Aa (Ak Gw)) Ap) (Aa (Ak (Ac pC.g (o.mono (by decide)) rfl T.MN T.MO pC.b .nil Ao (A0 (pv 4) (A0 (pv 2) (A0 (C4 (C0 K) (pv 5) Ad (λ_ _=>rfl)) (A0 (pv 3) (A0 (Bc uu (Dv (A0 Ad A7)) (Tc (Tn K) (pv 0) (Qv Ad) (Qv Ad))) A7)))))))))))))))))))),?_⟩;have hm3:=Dg (J6 I 0) (show(0:Int)<3 by decide);refine⟨_,rfl,a,I,_,rfl,hS,by decide,_,_,rfl,rfl,by simp,_,_,rfl,rfl,?_⟩;dsimp only;generalize hM:1+J6 I 0%3=M;have hM1:1<=M/\M<=3:=by omega
  refine⟨_,rfl,M,rfl,by omega,by omega,λW hW=>?_⟩;refine E6 (cnt:=M.toNat) (λi ys B=>∃(d:mv),G8 (ys=d.map V.int) (d.length=i) ((∀x∈d,1<=x/\x<=5)) (B W=some (.lst ys)) (A9 H B)) ⟨[],rfl,rfl,(λ_ z=>nomatch z),A5,A9.upd hW⟩ ?_ ?_
  ·rintro i ys H1 hi ⟨d,rfl,eX,hx,hW1,s1⟩ Qe hQ;have dX:i<M.toNat:=hi;have hm5:=Dg (J6 I (0+(i:Int)+1)) (show(0:Int)<5 by decide);refine⟨_,rfl,_,rfl,_,_,rfl,rfl,a,I,_,rfl,s1.seq hS,(by omega),_,_,rfl,rfl,by simp,_,_,rfl,rfl,?_⟩;refine hQ _ _ hW1 (Av (by rw[List.length_map];omega)) ⟨d++[1+J6 I (0+(i:Int)+1)%5],by rw[List.map_append];rfl,by rw[List.length_append,eX];rfl,λx cN=>?_,A5,s1.new hW⟩;rcases fe.mp cN with z|z
   ·exact hx x z
   ·rw[List.mem_singleton.mp z];omega
  rintro ys H1 ⟨d,rfl,eX,U,eW,s1⟩;have mL:1<=d.length:=by omega
  have EW:d.length<=3:=by omega
  have aX:d≠[]:=λe=>by rw[e]at mL;cases mL
  have pS:∀x∈d,1<=x:=λx h=>(U x h).1;have kR:∀x∈d,x<2^400:=λx h=>by have:=(U x h).2;exact iQ this (by decide+kernel)
  have hOk:=Vg mL EW U;have hbeg:(d,(0:Int))∈Ar d (qv none):=Js rfl (λi hi=>⟨pS _ (Kh hi),Int.le_refl _⟩) (Int.le_refl _) (by show(0:Int)<1;decide);have uW:=s1 _ _ hT;refine⟨_,rfl,a,I,_,rfl,s1.seq hS,by decide,_,_,rfl,rfl,⟨by decide,by decide,by decide⟩,_,_,rfl,rfl,zl,?_⟩;refine⟨_,rfl,W,_,rfl,.inl (B6.of eW),λF hF=>?_⟩;have s2:A9 H1 (upd H1 F (.lst (d.map V.int))):=A9.upd hF;have e2:(upd H1 F (.lst (d.map V.int))) F=some (.lst (d.map V.int)):=A5;generalize upd H1 F (.lst (d.map V.int))=H2 at s2 e2⊢;refine⟨F,d,none,rfl,e2,by omega,by omega,pS,(λc hc=>by cases hc),λha H3 s3 hh=>?_⟩;have eW3:=s3 _ _ (s2 _ _ eW);refine⟨(λv B=>A9 H3 B/\((v=.aP)\/∃(b:Int) (t p:Addr) (f:List V) (n:List (Int×Int)),v=.ref t/\Iw d (some b)/\B t=some (.tup [.int b,.ref p])/\B p=some (.lst f)/\Af (Rk B) n f/\n.map Prod.fst=d.map (Du b)/\qb (d.map (Du b)) (n.map Prod.snd))),⟨_,rfl,W,_,rfl,.inl (B6.of eW3),λF2 hF2=>?_⟩,?_⟩
  ·have s4:A9 H3 (upd H3 F2 (.lst (d.map V.int))):=A9.upd hF2;have hT4:=s4 _ _ (s3 _ _ (s2 _ _ uW));refine⟨F2,d,rfl,A5,by omega,kR,hT4,(λz=>?_),λ_ _ _ H5 J=>⟨s4.trans J,.inl rfl⟩,λ_ _ b t p f n H5 hb J ht hp et Y all gI hw=>⟨s4.trans J,.inr ⟨b,t,p,f,n,rfl,hb,et,Y,all,gI,hw⟩⟩⟩;rcases z with z|⟨x,hx,z⟩
   ·exact absurd z aX
   ·have:=pS x hx;omega
  rintro wv H4 ⟨s4,VS⟩;have hh4:=hh.same s4;refine⟨(λv B=>A9 H4 B/\∃g,Bl d none g/\((v=.aP/\(Ag g (d,0)).isSome=true)\/∃p,v=.ref p/\Ag g (d,0)=none)),⟨_,rfl,ha,d,none,rfl,hh4,hOk,λg H5 J D _ G=>⟨J,g,D,.inl ⟨rfl,G⟩⟩,λp f y g H5 J _ _ D _ G _ _=>⟨J,g,D,.inr ⟨p,rfl,G⟩⟩⟩,?_⟩;rintro kv H5 ⟨J,tv1,hR1,hk⟩;refine⟨(λv B=>A9 H5 B/\∃g,Bl d none g/\((v=.aP/\Ag g (d,0)=none)\/∃(p:Addr) (f:List V) (y:mu),v=.ref p/\(Ag g (d,0)).isSome=true/\Px d none g y/\B p=some (.lst f)/\Af (Hw g d none B) y f)),⟨_,rfl,ha,d,none,rfl,hh4.same J,hOk,λg l s6 D _ G=>⟨s6,g,D,.inl ⟨rfl,G⟩⟩,λp f y g l s6 _ hp D _ G hB all=>⟨s6,g,D,.inr ⟨p,f,y,rfl,G,hB,hp,all⟩⟩⟩,?_⟩;rintro bv l ⟨s6,g,D,VM⟩;have sU:=eg hR1 D (d,0);have PD:=J.trans s6;have s36:=s4.trans PD;have PF:=s36 _ _ eW3;have OI:=s36 _ _ (s3 _ _ (s2 _ _ uW))
  have VS:wv=.aP\/∃(b:Int) (t p:Addr) (f:List V) (n:List (Int×Int)),wv=.ref t/\Iw d (some b)/\l t=some (.tup [.int b,.ref p])/\l p=some (.lst f)/\Af (Rk l) n f/\n.map Prod.fst=d.map (Du b)/\qb (d.map (Du b)) (n.map Prod.snd):=by
   rcases VS with h|⟨b,t,p,f,n,e,hb,et,Y,all,gI,hw⟩
   ·exact .inl h
   ·exact .inr ⟨b,t,p,f,n,e,hb,PD _ _ et,PD _ _ Y,all.imp λr v z=>Rk.up (An.of PD) z,gI,hw⟩
  have sW:(kv=.aP/\∃(p:Addr) (f:List V) (y:mu),bv=.ref p/\(Ag g (d,0)).isSome=true/\Px d none g y/\l p=some (.lst f)/\Af (Hw g d none l) y f)\/(∃p,kv=.ref p)/\bv=.aP/\Ag g (d,0)=none:=by
   rcases hk with⟨e1,h1⟩|⟨p,e1,h1⟩<;>rcases VM with⟨e2,h2⟩|⟨p',f,y,e2,h2,h3⟩
   ·rw[h1,h2]at sU;cases sU
   ·exact .inl ⟨e1,p',f,y,e2,h2,h3⟩
   ·exact .inr ⟨⟨p,e1⟩,e2,h2⟩
   ·rw[h1,h2]at sU;cases sU
  clear hk VM sU hR1
  have hdec:decide (V.bl (decide (kv=.aP))=V.bl (decide (bv=.aP)))=false:=by
   rcases sW with⟨rfl,p,f,y,rfl,_⟩|⟨⟨p,rfl⟩,rfl,_⟩<;>rfl
  refine⟨_,rfl,rfl,_,rfl,rfl,rfl,_,rfl,D6 hdec ?_⟩;refine⟨_,rfl,W,d,rfl,PF,EW,U,_,rfl,?_⟩
  have JY:∀x∈d,x∣((C8 d:Nat):Int):=by
   obtain⟨_,_,h,_⟩:=Li d 1 (by decide) pS;exact λx hx=>Int.natAbs_dvd.mp (Int.natCast_dvd_natCast.mpr (h x hx))
  by_cases IC:Ba d
  ·rw[decide_eq_true IC];refine D6 rfl ?_;refine⟨_,rfl,W,_,rfl,.inl (B6.of PF),λC hF3=>?_⟩;have s7:A9 l (upd l C (.lst (d.map V.int))):=A9.upd hF3;have e7:(upd l C (.lst (d.map V.int))) C=some (.lst (d.map V.int)):=A5;generalize upd l C (.lst (d.map V.int))=H7 at s7 e7⊢;refine⟨C,d,rfl,B6.of e7,EW,U,λL s8=>?_⟩;rw[if_neg (show¬(Cf ((C8 d:Nat):Int) d).sum>((C8 d:Nat):Int)by have:(Cf ((C8 d:Nat):Int) d).sum<=((C8 d:Nat):Int):=IC;omega)];have qE:=s7.trans s8;refine⟨rfl,_,rfl,D6 rfl ?_⟩;rcases VS with rfl|⟨b,t,p,f,n,rfl,hb,et,Y,all,gI,hw⟩
   ·exact⟨_,rfl,rfl,_,rfl,Ia rfl (q _ (qE _ _ OI))⟩
   refine⟨_,rfl,rfl,_,rfl,D6 rfl ?_⟩;have vH:=Zg hb gI hw;have PH:=Vx D vH (by omega);rcases sW with⟨_,p',eM,ps',_,h,_⟩|⟨⟨kp,rfl⟩,rfl,_⟩
   ·rw[PH]at h;cases h
   have et8:=qE _ _ et;have st8:=Cu.of (K:=K) et8;refine⟨_,rfl,rfl,_,rfl,false,(λ_ Q1 z1=>⟨_,rfl,_,"tuple","tuple",true,rfl,.tup et8,Mo,_,rfl,false,(λ_ Q2 z2=>⟨_,rfl,t,_,rfl,.inr st8,rfl,_,rfl,z2⟩),z1⟩),D6 rfl ?_⟩
   have VR:∀r∈n,WF r.1 r.2:=λr ET=>by
    obtain⟨j,hj⟩:=gy.mp ET;obtain⟨a1,a2,a3,a4⟩:=vH.2.1 j r hj;have XU:j<d.length:=by rw[<- vH.1];exact(bG.mp hj).1
    have h5:=(U _ (Kh XU)).2;exact⟨a1,iQ (show r.1<=5 by omega) (by decide+kernel),a2,a3⟩
   refine⟨_,rfl,_,rfl,_,rfl,t,_,_,_,rfl,rfl,.inr st8,rfl,_,rfl,C9,λZ hZ=>?_⟩;have s9:A9 L (upd L Z (.lst [.int 0])):=A9.upd hZ;have e9:(upd L Z (.lst [.int 0])) Z=some (.lst [.int 0]):=A5;generalize upd L Z (.lst [.int 0])=N at s9 e9⊢;refine⟨_,rfl,_,rfl,_,rfl,a,_,rfl,(s1.trans (s2.trans (s3.trans (s36.trans (qE.trans s9))))).seq hS,λsl ZX=>?_⟩;rw[Oq];have kN:(Ue I (some 5) (some 65)).length<=63:=dI (S3 I _ _) S;generalize Ue I (some 5) (some 65)=R at kN⊢;have sA:A9 N (upd N sl (.lst (R.map V.int))):=A9.upd ZX;have eA:(upd N sl (.lst (R.map V.int))) sl=some (.lst (R.map V.int)):=A5;generalize upd N sl (.lst (R.map V.int))=X at sA eA⊢;refine⟨Z,sl,_,_,rfl,rfl,sA _ _ e9,eA,kG (Av (by simp only[List.length_append,List.length_map,List.length_singleton];omega)),λC1 DA=>?_⟩;have sB:A9 X (upd X C1 (.lst ([.int 0]++R.map V.int))):=A9.upd DA;have eB:(upd X C1 (.lst ([.int 0]++R.map V.int))) C1=some (.lst ((0::R).map V.int)):=A5;generalize upd X C1 (.lst ([.int 0]++R.map V.int))=HB at sB eB⊢;have PJ:=qE.trans (s9.trans (sA.trans sB));refine⟨ha,W,p,C1,d,f,n,_,0::R,rfl,(hh4.same PD).same PJ,PJ _ _ PF,PJ _ _ Y,(all.imp λr v z=>Rk.up (An.of PJ) z),VR,vH,mL,EW,U,eB,by simp,by rw[List.length_cons];omega,λHC sC=>?_⟩;exact q _ (sC _ _ (PJ _ _ OI))
  ·rw[decide_eq_false IC];refine Ia rfl ?_;obtain⟨m,G,lB,hmL⟩:=Zb D pS JY IC hbeg;rcases sW with⟨rfl,p,f,y,rfl,_,hB,Y,all⟩|⟨_,_,h⟩
   rotate_left
   ·rw[h]at G;cases G
   rcases VS with rfl|⟨b,t,p',eM,n,rfl,hb,_⟩
   rotate_left
   ·exact absurd (R0 hb) IC
   refine⟨_,rfl,W,_,rfl,.inl (B6.of PF),λC hF3=>?_⟩;have s7:A9 l (upd l C (.lst (d.map V.int))):=A9.upd hF3;have e7:(upd l C (.lst (d.map V.int))) C=some (.lst (d.map V.int)):=A5;generalize upd l C (.lst (d.map V.int))=H7 at s7 e7⊢;refine⟨C,d,rfl,B6.of e7,EW,U,λL s8=>?_⟩;rw[if_pos (show(Cf ((C8 d:Nat):Int) d).sum>((C8 d:Nat):Int)by have:¬(Cf ((C8 d:Nat):Int) d).sum<=((C8 d:Nat):Int):=IC;omega)];have qE:=s7.trans s8;refine⟨_,rfl,rfl,_,rfl,false,(λ_ Q1 z1=>⟨_,rfl,rfl,_,rfl,false,(λ_ Q2 z2=>⟨_,rfl,_,rfl,_,rfl,z2⟩),z1⟩),D6 rfl ?_⟩;refine⟨_,rfl,_,rfl,W,_,rfl,.inl ⟨B6.of (qE _ _ PF),λO uW=>?_⟩⟩;have s9:A9 L (upd L O (.tup (d.map V.int))):=A9.upd uW;have e9:(upd L O (.tup (d.map V.int))) O=some (.tup (d.map V.int)):=A5;generalize upd L O (.tup (d.map V.int))=N at s9 e9⊢;refine⟨C9,λP1 hP1=>?_⟩;have sA:A9 N (upd N P1 (.tup [.ref O,.int 0])):=A9.upd hP1;have eA:(upd N P1 (.tup [.ref O,.int 0])) P1=some (.tup [.ref O,.int 0]):=A5;generalize upd N P1 (.tup [.ref O,.int 0])=X at sA eA⊢;have IE:=qE.trans (s9.trans sA);have hall:Af (Hw g d none X) y f:=all.imp λkv u ⟨p,b,t,m,e,h1,h2,h3,h4,h5⟩=>⟨p,b,t,m,e,IE _ _ h1,(let⟨u,y1,y2⟩:=h2;⟨u,IE _ _ y1,IE _ _ y2⟩),h3,h4,IE _ _ h5⟩;refine⟨p,P1,f,y,g,d,none,(d,0),m,rfl,IE _ _ Y,hall,⟨O,eA,sA _ _ e9⟩,?_,G,?_⟩
   ·rcases hB.1.yZ with h|h
    ·exact h
    ·cases h
   refine⟨_,rfl,m,rfl,true,true,rfl,(λ_ Q1 z1=>⟨_,rfl,_,_,rfl,rfl,_,rfl,Ia (decide_eq_true lB) ⟨_,rfl,_,_,rfl,rfl,?_⟩⟩),q _ (IE _ _ OI)⟩;show Q1 (V.bl (decide (m<=((C8 d:Nat):Int)))) X;rw[decide_eq_true hmL];exact z1
end
structure Ej(K:W.Frag)(n:Str)(st:Stmt)(f:Addr):Prop where
 a:W.nsIn K mainGlobals n=some (some (.ref f))
 e:∃fd,Dn K n n st f fd
 k:W.keepIn K (.ref f)=true
structure Df1(K:W.Frag)(x n:Str)(st:Stmt)(f:Addr):Prop where
 a:W.isFn K (.ref f)=true
 e:∃fd,Dn K x n st f fd
 k:W.keepIn K (.ref f)=true
theorem Ej.m0{K:W.Frag}{n:Str}{st:Stmt}{f:Addr}{h:mK}{i e:Option Addr}{g:Array (Option mK)}{kV b j d ct:mK}(a:W.nsIn K mainGlobals n=some (some (.ref f)))(l:K.lookup f=some ⟨h,i,.func (W.fnOf n n (Cb st) (Bi st) (A8 st) .none kV b j e d ct),g⟩)(c:W.codeIn K d n=true)(k:W.keepIn K (.ref f)=true):Ej K n st f:=⟨a,⟨_,Qi l c k⟩,k⟩
theorem Df1.m1{K:W.Frag}{x n:Str}{st:Stmt}{f:Addr}{h:mK}{i e:Option Addr}{g:Array (Option mK)}{kV b j d ct:mK}(a:W.isFn K (.ref f)=true)(l:K.lookup f=some ⟨h,i,.func (W.fnOf x n (Cb st) (Bi st) (A8 st) .none kV b j e d ct),g⟩)(c:W.codeIn K d n=true)(k:W.keepIn K (.ref f)=true):Df1 K x n st f:=⟨a,⟨_,Qi l c k⟩,k⟩
local macro_rules | `(tactic| trivial)=>`(tactic| (intro _ _ _ _ _ _ us hl; first | (obtain e:=A0j hl; subst e; rfl) | (obtain ⟨_,e⟩ := xl hl; subst e; rfl) | (obtain ⟨_,_,e⟩ := xm hl; subst e; rfl) | (obtain ⟨_,_,_,e⟩ := xn hl; subst e; rfl) | (obtain ⟨_,_,_,_,e⟩ := xp hl; subst e; rfl) | (obtain ⟨_,_,_,_,_,e⟩ := A1h hl; subst e; rfl)))
theorem all_mk{l:W.OpenLaw}{w:nP}{K:W.Frag}{h:Heap}{mg:Str->Option mK}{fa:Addr}(X:K.In h)(G:h.Ns mainGlobals mg)(hfa:mg "law"=some (.ref fa)){dE dG fI fJ dH fK lC z fL dJ fM fN fO fP A cP cQ fQ lD fR lF y cR jX fS fT fU lG fV lH dM dN fW fX lI fY fZ lJ gA gB dQ gC lK gD lL gE U Y Z a lS:Addr}{FE FG FH nB FI nC FJ sX:Option Addr}{FK FL FN FO:Array (Option mK)}{FP FQ FR FT nD FU FV nF nG nH D nI FW nJ nK nL E nM FX sY sZ tE nO tH:mK}{F:Addr}{FY:mK}{FZ:Option Addr}{GA:Nat}{GB:Array (Option mK)}{H:Addr}{GC:mK}{GD:Option Addr}{GF:Nat}{GG:Array (Option mK)}
  (tI:Ej K "divisor" fw dE)
  (tJ:Ej K "least_round" f8 dG)
  (tK:Ej K "shares" Xi fI)
  (tL:Ej K "are_chain" Xd fJ)
  (tM:Ej K "have_room" fi dH)
  (tO:Ej K "free_first" ff fK)
  (I:Ej K "rising_firsts" vz lC)
  (PL:W.nsIn K mainGlobals "chain_wheel"=some (some (.ref z)))(PM:K.lookup z=some ⟨FP,FE,.func (W.fnOf "chain_wheel" "chain_wheel" (Cb Jr) (Bi Jr) (A8 Jr) .none FQ FR FT FG nD FU),FK⟩)(PN:W.codeIn K nD "chain_wheel"=true)(oA:W.keepIn K (.ref z)=true)
  (tP:Ej K "doubling" fo fL)
  (tQ:Ej K "doubled" Tk dJ)
  (tR:Ej K "halved_down" f9 fM)
  (tS:Ej K "best_base" Tj fN)
  (tT:Ej K "wheel_for" fj fO)
  (tU:Ej K "too_much" Xg fP)
  (PQ:W.nsIn K mainGlobals "hall_of"=some (some (.ref A)))(PR:K.lookup A=some ⟨FV,FH,.func (W.fnOf "hall_of" "hall_of" (Cb G3) (Bi G3) (A8 G3) (.ref F) nF nG nH nB D nI),FL⟩)(PU:W.codeIn K D "hall_of"=true)(rA:W.keepIn K (.ref A)=true)(zR:K.lookup F=some ⟨FY,FZ,.seq #[Value.none] GA,GB⟩)
  (tV:Ej K "beginning" fk cP)
  (tW:Ej K "may_lose" fq cQ)
  (tX:Ej K "is_listener" fb fQ)
  (J:Ej K "refuse_wrong_turn" vv lD)
  (tY:Ej K "left_behind" X9 fR)
  (L:Ej K "quiet_behind" w6 lF)
  (PV:W.nsIn K mainGlobals "after"=some (some (.ref y)))(PX:K.lookup y=some ⟨FW,FI,.func (W.fnOf "after" "after" (Cb G6) (Bi G6) (A8 G6) (.ref H) nJ nK nL nC E nM),FN⟩)(PY:W.codeIn K E "after"=true)(gF:W.keepIn K (.ref y)=true)(zS:K.lookup H=some ⟨GC,GD,.seq #[Value.bool false] GF,GG⟩)
  (tZ:Ej K "all_behind" fg cR)
  (M:Ej K "quiet_values" w8 jX)
  (uA:Ej K "how_many" fu fS)
  (uB:Ej K "all_left" Xh fT)
  (uC:Ej K "standings" Xe fU)
  (N:Ej K "calls_by_standing" vx lG)
  (uD:Ej K "ways_to" fz fV)
  (O:Ej K "without_calls_left" vt lH)
  (uE:Ej K "ranks" Xj dM)
  (uF:Ej K "worth" g8 dN)
  (uG:Ej K "call_worth" Xb fW)
  (uH:Ej K "best_call" Xf fX)
  (P:Ej K "worst_answer" wc lI)
  (uI:Ej K "kept_paper" fh fY)
  (uJ:Ej K "all_answers" Xa fZ)
  (Q:Ej K "unbroken_behind" g7 lJ)
  (uK:Ej K "broken_paper" X8 gA)
  (uL:Ej K "heard" g9 gB)
  (uM:Ej K "_law_whole" fm dQ)
  (uN:Ej K "_law_cell_at" fc gC)
  (R:Ej K "_law_shares_above_one" vq lK)
  (uO:Ej K "_law_walked" Xc gD)
  (S:Ej K "_law_first_rank" vy lL)
  (zT:W.nsIn K mainGlobals "law"=some (some (.ref gE)))(PZ:K.lookup gE=some ⟨FX,FJ,.func (W.fnOf "law" "law" (Cb Ic) (Bi Ic) (A8 Ic) .none sY sZ tE sX nO tH),FO⟩)(QA:W.codeIn K nO "law"=true)(rM:W.keepIn K (.ref gE)=true)
  {dU:Nat}(eZ:W.nsIn K mainGlobals "MOST_LISTENERS"=some (some (.int 8 dU))){dW:Nat}(fA:W.nsIn K mainGlobals "MOST_STANDINGS"=some (some (.int 3000 dW)))(QB:W.nsIn K mainGlobals "sum"=some none)(uP:W.nsIn K mainGlobals "sorted"=some none)(QC:W.nsIn K mainGlobals "all"=some none)(QD:W.nsIn K mainGlobals "zip"=some none)(QE:W.nsIn K mainGlobals "any"=some none)(xI:W.nsIn K mainGlobals "range"=some none)(QF:W.nsIn K mainGlobals "len"=some none)(QG:W.nsIn K mainGlobals "min"=some none)(QH:W.nsIn K mainGlobals "max"=some none)(QI:W.nsIn K mainGlobals "set"=some none)(xJ:W.nsIn K mainGlobals "tuple"=some none)(lX:W.nsIn K mainGlobals "enumerate"=some none)(kJ:W.nsIn K mainGlobals "isinstance"=some none)(QJ:W.nsIn K mainGlobals "int"=some none)(GS:W.nsIn K mainGlobals "bool"=some none)(GU:W.nsIn K mainGlobals "list"=some none)(nQ:W.nsIn K mainGlobals "NoWheel"=some (some (.ref U)))(nR:W.nsIn K mainGlobals "NoChain"=some (some (.ref Y)))(nU:W.nsIn K mainGlobals "TooMuch"=some (some (.ref Z)))(bQ:W.excIn K U [.type "ValueError",.type "Exception",.type "BaseException",.type "object"] "ValueError.__new__"=true)(eU:W.excIn K Y [.type "ValueError",.type "Exception",.type "BaseException",.type "object"] "ValueError.__new__"=true)(eV:W.excIn K Z [.type "ValueError",.type "Exception",.type "BaseException",.type "object"] "ValueError.__new__"=true)(kN:nD=.ref lS)(uQ:W.codeHdIn K lS a=true)(GV:K.lookup a=none):
  (K.lookup a=none/\∃c,W.codeHdIn K c a=true)/\∃fd:nr,(∀(s:mI) (v:mK),BindsTo s fd ⟨[v],[]⟩ [("script",v)])/\∀base:Heap,K.In base->base.Ns mainGlobals mg->U1 base mg->Bf l.prog w K mg base (CX1 l.prog w) 9 fa fd ["script"] (sp_law K a):=by
 have e:=hfa.symm.trans (jU X G zT);cases e;have T:Txt K mg ⟨dE,dG,fI,fJ,dH,fK,lC,z,fL,dJ,fM,fN,fO,fP,A,cP,cQ,fQ,lD,fR,lF,y,cR,jX,fS,fT,fU,lG,fV,lH,dM,dN,fW,fX,lI,fY,fZ,lJ,gA,gB,dQ,gC,lK,gD,lL,fa⟩ U Y Z a:=⟨jU X G tI.a,tI.k,jU X G tJ.a,tJ.k,jU X G tK.a,tK.k,jU X G tL.a,tL.k,jU X G tM.a,tM.k,jU X G tO.a,tO.k,jU X G I.a,I.k,jU X G PL,oA,jU X G tP.a,tP.k,jU X G tQ.a,tQ.k,jU X G tR.a,tR.k,jU X G tS.a,tS.k,jU X G tT.a,tT.k,jU X G tU.a,tU.k,jU X G PQ,rA,jU X G tV.a,tV.k,jU X G tW.a,tW.k,jU X G tX.a,tX.k,jU X G J.a,J.k,jU X G tY.a,tY.k,jU X G L.a,L.k,jU X G PV,gF,jU X G tZ.a,tZ.k,jU X G M.a,M.k,jU X G uA.a,uA.k,jU X G uB.a,uB.k,jU X G uC.a,uC.k,jU X G N.a,N.k,jU X G uD.a,uD.k,jU X G O.a,O.k,jU X G uE.a,uE.k,jU X G uF.a,uF.k,jU X G uG.a,uG.k,jU X G uH.a,uH.k,jU X G P.a,P.k,jU X G uI.a,uI.k,jU X G uJ.a,uJ.k,jU X G Q.a,Q.k,jU X G uK.a,uK.k,jU X G uL.a,uL.k,jU X G uM.a,uM.k,jU X G uN.a,uN.k,jU X G R.a,R.k,jU X G uO.a,uO.k,jU X G S.a,S.k,jU X G zT,rM,jV X G QB,jV X G uP,jV X G QC,jV X G QD,jV X G QE,jV X G xI,jV X G QF,jV X G QG,jV X G QH,jV X G QI,jV X G xJ,jV X G lX,jV X G kJ,jV X G QJ,jV X G GS,jV X G GU,⟨_,jU X G eZ⟩,⟨_,jU X G fA⟩,jU X G nQ,jU X G nR,jU X G nU,bQ,eU,eV⟩;obtain⟨_,zU⟩:=tI.e;obtain⟨_,zV⟩:=tJ.e;obtain⟨_,zW⟩:=tK.e;obtain⟨_,zX⟩:=tL.e;obtain⟨_,zY⟩:=tM.e;obtain⟨_,zZ⟩:=tO.e;obtain⟨_,QK⟩:=I.e;have cE:=Qi (st:=Jr) PM PN oA;have QL:jm K "chain_wheel" "chain_wheel" Jr z _ lS a:=⟨cE,kN,uQ⟩;obtain⟨_,AA⟩:=tP.e;obtain⟨_,AB⟩:=tQ.e;obtain⟨_,AD⟩:=tR.e;obtain⟨_,AE⟩:=tS.e;obtain⟨_,AF⟩:=tT.e;obtain⟨_,AG⟩:=tU.e;have QM:Rn K "hall_of" "hall_of" G3 A _:=⟨⟨_,_,_,_,_,_,_,_,_,_,rfl,PR,PU⟩⟩;obtain⟨_,AH⟩:=tV.e;obtain⟨_,AI⟩:=tW.e;obtain⟨_,AJ⟩:=tX.e;obtain⟨_,QN⟩:=J.e;obtain⟨_,AK⟩:=tY.e;obtain⟨_,QO⟩:=L.e;have QP:Rn K "after" "after" G6 y _:=⟨⟨_,_,_,_,_,_,_,_,_,_,rfl,PX,PY⟩⟩;obtain⟨_,AL⟩:=tZ.e;obtain⟨_,QQ⟩:=M.e;obtain⟨_,AM⟩:=uA.e;obtain⟨_,AN⟩:=uB.e;obtain⟨_,AO⟩:=uC.e;obtain⟨_,QR⟩:=N.e;obtain⟨_,AQ⟩:=uD.e;obtain⟨_,QS⟩:=O.e;obtain⟨_,AR⟩:=uE.e;obtain⟨_,AS⟩:=uF.e;obtain⟨_,AU⟩:=uG.e;obtain⟨_,AV⟩:=uH.e;obtain⟨_,QT⟩:=P.e;obtain⟨_,AW⟩:=uI.e;obtain⟨_,AX⟩:=uJ.e;obtain⟨_,QU⟩:=Q.e;obtain⟨_,AY⟩:=uK.e;obtain⟨_,AZ⟩:=uL.e;obtain⟨_,BA⟩:=uM.e;obtain⟨_,BB⟩:=uN.e;obtain⟨_,QV⟩:=R.e;obtain⟨_,BC⟩:=uO.e;obtain⟨_,QW⟩:=S.e;have QX:=Qi (st:=Ic) PZ QA rM;have QY:=zU.binds (ps:=["one","other"]) (by trivial);have QZ:=zV.binds (ps:=["numbers"]) (by trivial);have RA:=zW.binds (ps:=["numbers"]) (by trivial);have RB:=zX.binds (ps:=["periods"]) (by trivial);have RC:=zY.binds (ps:=["periods"]) (by trivial);have RE:=zZ.binds (ps:=["levels","taken"]) (by trivial);have q:=QK.binds (ps:=["periods"]) (by trivial);have RF:=cE.binds (ps:=["periods"]) (by trivial);have RG:=AA.binds (ps:=["wait","base"]) (by trivial);have RH:=AB.binds (ps:=["waits","base"]) (by trivial);have RI:=AD.binds (ps:=["wait","most"]) (by trivial);have RJ:=AE.binds (ps:=["waits"]) (by trivial);have RK:=AF.binds (ps:=["waits"]) (by trivial);have RL:=AG.binds (ps:=["waits"]) (by trivial)
 have RM:Dl K (W.fnOf "hall_of" "hall_of" (Cb G3) (Bi G3) (A8 G3) (.ref F) nF nG nH nB D nI) ["waits","calm"] []:=λs g d f=>by
  have b:g.length=2:=by simpa using f
  obtain⟨_,_,rfl⟩:=xm b;exact BindsTo.of_defaults rfl (d _ _ zR) rfl rfl rfl
 have cD:Dl K (W.fnOf "hall_of" "hall_of" (Cb G3) (Bi G3) (A8 G3) (.ref F) nF nG nH nB D nI) ["waits","calm"] [Value.none]:=λs g d f=>by
  have b:g.length=1:=by simpa using f
  obtain⟨_,rfl⟩:=xl b;exact BindsTo.of_defaults rfl (d _ _ zR) rfl rfl rfl
 have RN:=AH.binds (ps:=["hall"]) (by trivial);have RO:=AI.binds (ps:=["hall","standing"]) (by trivial);have RP:=AJ.binds (ps:=["hall","who"]) (by trivial);have m:=QN.binds (ps:=["hall","standing","who","lost"]) (by trivial);have RQ:=AK.binds (ps:=["hall","standing","who","lost"]) (by trivial);have r:=QO.binds (ps:=["hall","standing","lost"]) (by trivial)
 have RS:Dl K (W.fnOf "after" "after" (Cb G6) (Bi G6) (A8 G6) (.ref H) nJ nK nL nC E nM) ["hall","standing","who","lost"] []:=λs g d f=>by
  have b:g.length=4:=by simpa using f
  obtain⟨_,_,_,_,rfl⟩:=xp b;exact BindsTo.of_defaults rfl (d _ _ zS) rfl rfl rfl
 have B:Dl K (W.fnOf "after" "after" (Cb G6) (Bi G6) (A8 G6) (.ref H) nJ nK nL nC E nM) ["hall","standing","who","lost"] [Value.bool false]:=λs g d f=>by
  have b:g.length=3:=by simpa using f
  obtain⟨_,_,_,rfl⟩:=xn b;exact BindsTo.of_defaults rfl (d _ _ zS) rfl rfl rfl
 have RT:=AL.binds (ps:=["hall","standing","who"]) (by trivial);have u:=QQ.binds (ps:=["hall"]) (by trivial);have RU:=AM.binds (ps:=["hall"]) (by trivial);have RV:=AN.binds (ps:=["waits"]) (by trivial);have RX:=AO.binds (ps:=["hall"]) (by trivial);have n:=QR.binds (ps:=["hall"]) (by trivial);have RY:=AQ.binds (ps:=["pending"]) (by trivial);have j:=QS.binds (ps:=["pending","ways","ranked"]) (by trivial);have RZ:=AR.binds (ps:=["hall"]) (by trivial);have SA:=AS.binds (ps:=["table","behind"]) (by trivial);have SD:=AU.binds (ps:=["hall","table","standing","who"]) (by trivial);have SE:=AV.binds (ps:=["hall","table","standing"]) (by trivial);have x:=QT.binds (ps:=["hall","table","standing","who"]) (by trivial);have SF:=AW.binds (ps:=["hall"]) (by trivial);have SG:=AX.binds (ps:=["hall","table","standing"]) (by trivial);have o:=QU.binds (ps:=["hall","standing","answers"]) (by trivial);have SH:=AY.binds (ps:=["hall"]) (by trivial);have SI:=AZ.binds (ps:=["wheel","turn"]) (by trivial);have SJ:=BA.binds (ps:=["found"]) (by trivial);have SK:=BB.binds (ps:=["script","k"]) (by trivial);have i:=QV.binds (ps:=["waits"]) (by trivial);have SM:=BC.binds (ps:=["hall","waits","wheel","begin","cells"]) (by trivial);have p:=QW.binds (ps:=["paper","standing"]) (by trivial);refine⟨⟨GV,_,uQ⟩,?_⟩;refine⟨W.fnOf "law" "law" (Cb Ic) (Bi Ic) (A8 Ic) .none sY sZ tE sX nO tH,λs v=>.of_eq rfl,λbase _ _ hB=>?_⟩;have gJ:=Gk.mk (uh (P:=l.prog) (w:=w) (base:=base) T zU ) QY;have gK:=Gk.mk (se (P:=l.prog) (w:=w) (base:=base) T zV gJ) QZ;have oD:=Gk.mk (ul (P:=l.prog) (w:=w) (base:=base) T zW gK gJ) RA;have oF:=Gk.mk (tm (P:=l.prog) (w:=w) (base:=base) T zX ) RB;have gL:=Gk.mk (tw (P:=l.prog) (w:=w) (base:=base) T zY oD) RC;have oE:=Gk.mk (su (P:=l.prog) (w:=w) (base:=base) T zZ ) RE;have wG:=Gk.mk (ze (P:=l.prog) (w:=w) (base:=base) T QK oE) q;have oK:=Gk.mk (sh (P:=l.prog) (w:=w) (base:=base) T hB QL oF gL wG) RF;have oG:=Gk.mk (uc (P:=l.prog) (w:=w) (base:=base) T AA ) RG;have gM:=Gk.mk (ui (P:=l.prog) (w:=w) (base:=base) T AB oG) RH;have oH:=Gk.mk (si (P:=l.prog) (w:=w) (base:=base) T AD ) RI;have oJ:=Gk.mk (u4 (P:=l.prog) (w:=w) (base:=base) T AE oH gL gM) RJ;have oZ:=Gk.mk (u5 (P:=l.prog) (w:=w) (base:=base) T AF oJ oK gM) RK;have jN:=Gk.mk (ud (P:=l.prog) (w:=w) (base:=base) T AG gK) RL;have sT:=Gk.mk (uj (P:=l.prog) (w:=w) (base:=base) T QM ) RM;have aZ:=Gk.mk (u6 (P:=l.prog) (w:=w) (base:=base) T AH ) RN;have bU:=Gk.mk (ue (P:=l.prog) (w:=w) (base:=base) T AI ) RO;have oM:=Gk.mk (sj (P:=l.prog) (w:=w) (base:=base) T AJ ) RP;have wJ:=Gk.mk (yz (P:=l.prog) (w:=w) (base:=base) T QN oM bU) m;have oN:=Gk.mk (sk (P:=l.prog) (w:=w) (base:=base) T AK wJ) RQ;have wK:=Gk.mk (zf (P:=l.prog) (w:=w) (base:=base) T QO ) r;have C:=Gk.mk (um (P:=l.prog) (w:=w) (base:=base) T QP oN wK) RS;have bV:=Gk.mk (sv (P:=l.prog) (w:=w) (base:=base) T AL C B bU) RT;have lU:=Gk.mk (zg (P:=l.prog) (w:=w) (base:=base) T QQ ) u;have oP:=Gk.mk (uf (P:=l.prog) (w:=w) (base:=base) T AM lU) RU;have oQ:=Gk.mk (ug (P:=l.prog) (w:=w) (base:=base) T AN ) RV;have oS:=Gk.mk (u7 (P:=l.prog) (w:=w) (base:=base) T AO oP oQ lU) RX;have wW:=Gk.mk (z9 (P:=l.prog) (w:=w) (base:=base) T QR oS bV) n;have oU:=Gk.mk (uk (P:=l.prog) (w:=w) (base:=base) T AQ ) RY;have wX:=Gk.mk (yy (P:=l.prog) (w:=w) (base:=base) T QS ) j;have gO:=Gk.mk (uo (P:=l.prog) (w:=w) (base:=base) T AR wW oU wX) RZ;have cU:=Gk.mk (uq (P:=l.prog) (w:=w) (base:=base) T AS ) SA;have oV:=Gk.mk (sw (P:=l.prog) (w:=w) (base:=base) T AU cU bV) SD;have oW:=Gk.mk (u8 (P:=l.prog) (w:=w) (base:=base) T AV oV) SE;have xE:=Gk.mk (zh (P:=l.prog) (w:=w) (base:=base) T QT cU C B bU) x;have pA:=Gk.mk (t9 (P:=l.prog) (w:=w) (base:=base) T AW gO aZ oW bV) SF;have oX:=Gk.mk (so (P:=l.prog) (w:=w) (base:=base) T AX xE) SG;have xF:=Gk.mk (za (P:=l.prog) (w:=w) (base:=base) T QU C B) o;have pB:=Gk.mk (sd (P:=l.prog) (w:=w) (base:=base) T AY gO aZ oX xF) SH;have oY:=Gk.mk (ut (P:=l.prog) (w:=w) (base:=base) T AZ ) SI;have cV:=Gk.mk (u9 (P:=l.prog) (w:=w) (base:=base) T BA ) SJ;have gP:=Gk.mk (sr (P:=l.prog) (w:=w) (base:=base) T BB ) SK;have xG:=Gk.mk (yx (P:=l.prog) (w:=w) (base:=base) T QV ) i;have pC:=Gk.mk (tj (P:=l.prog) (w:=w) (base:=base) T BC aZ oY cV C B) SM;have xH:=Gk.mk (zd (P:=l.prog) (w:=w) (base:=base) T QW ) p;exact rq T QX gP sT cD oZ pA pB xG jN cV xH pC
end Law
namespace PySem.W.Fast
theorem tw3713682584469170402:True:=trivial
theorem tw11805879621134879949:True:=trivial
theorem tw18062646938375779057:True:=trivial
theorem tw10664786700871892351:True:=trivial
theorem tw8485875716579323470:True:=trivial
theorem tw7621790795018350472:True:=trivial
theorem tw4203605314548776133:True:=trivial
theorem tw1446890175004093336:True:=trivial
theorem tw3625109756920220042:True:=trivial
theorem tw9673456977974159780:True:=trivial
theorem tw10074971200987549867:True:=trivial
theorem tw4106807675235996618:True:=trivial
theorem tw12963375045933611023:True:=trivial
theorem tw9483185923915834434:True:=trivial
theorem tw4805011779432357073:True:=trivial
theorem tw15885440145932093867:True:=trivial
theorem tw2309809063214496710:True:=trivial
theorem tw8267422884724623171:True:=trivial
theorem tw13142471450517121579:True:=trivial
theorem tw16678226273340149083:True:=trivial
theorem tw4012583975166807782:True:=trivial
theorem tw3757920823731237193:True:=trivial
theorem tw16293010306488131180:True:=trivial
theorem tw7122108452845924907:True:=trivial
theorem tw11857401672207668266:True:=trivial
theorem tw5536888697366769627:True:=trivial
theorem tw5260308564193768136:True:=trivial
theorem tw573832736346540885:True:=trivial
theorem tw1789461960474110617:True:=trivial
theorem tw12129559137396123713:True:=trivial
theorem tw2643118657658638016:True:=trivial
theorem tw751941017195936170:True:=trivial
theorem tw2254651822378673392:True:=trivial
theorem tw3520221597685159872:True:=trivial
theorem tw4370673191542508553:True:=trivial
theorem tw18156152914193958265:True:=trivial
theorem tw17284927909995352335:True:=trivial
theorem tw6913732729194258031:True:=trivial
theorem tw12681691769244486790:True:=trivial
theorem tw6153194166690815675:True:=trivial
theorem tw2029151421007391531:True:=trivial
theorem tw8388604046427020454:True:=trivial
theorem tw1186797778252054375:True:=trivial
theorem tw14303197831041015872:True:=trivial
theorem tw3915943081864226499:True:=trivial
theorem tw622095108397927656:True:=trivial
theorem tw7020332016628015286:True:=trivial
theorem tw16078594384389421494:True:=trivial
theorem tw1484449489356286483:True:=trivial
theorem tw14775221309532653747:True:=trivial
theorem tw12600300402402247032:True:=trivial
theorem tw10394035615239217586:True:=trivial
theorem tw9451311951736604312:True:=trivial
theorem tw3253047462032530257:True:=trivial
theorem tw6518028238386799718:True:=trivial
theorem tw15015903875176414028:True:=trivial
theorem tw16402936996193104465:True:=trivial
theorem tw12832054400629800589:True:=trivial
theorem tw2199132497068777713:True:=trivial
theorem tw17536315755704263304:True:=trivial
theorem tw940331434127253679:True:=trivial
theorem tw8899611880366166585:True:=trivial
theorem tw2384062611794828845:True:=trivial
theorem tw7341552106176945023:True:=trivial
theorem tw8437037961452329117:True:=trivial
theorem tw3557137766562206014:True:=trivial
theorem tw1177898749418906057:True:=trivial
theorem tw1916561784614089368:True:=trivial
theorem tw3927832214192174047:True:=trivial
theorem tw11288332919214583244:True:=trivial
theorem tw14627329677389715520:True:=trivial
theorem tw6588498746582249867:True:=trivial
theorem tw10561156274304560741:True:=trivial
theorem tw9480060723538248554:True:=trivial
theorem tw4421075469559481761:True:=trivial
theorem tw10709977228605421402:True:=trivial
theorem tw3234855803309547106:True:=trivial
theorem tw12390421825344631110:True:=trivial
theorem tw11925036002512939596:True:=trivial
theorem tw3314030880722987902:True:=trivial
theorem tw237699551559377424:True:=trivial
theorem tw14010294365056919278:True:=trivial
theorem tw2151770192549753033:True:=trivial
theorem tw4247465578598132933:True:=trivial
theorem tw2864134955536015398:True:=trivial
theorem tw16505634799820621222:True:=trivial
theorem tw965672500425298403:True:=trivial
theorem tw6838206212618266185:True:=trivial
theorem tw12494238419174139894:True:=trivial
theorem tw15171221814599285299:True:=trivial
theorem tw14487670596272602449:True:=trivial
theorem tw959832435684987583:True:=trivial
theorem tw2310502389885881991:True:=trivial
theorem tw3422418584524949263:True:=trivial
theorem tw8184042206944936277:True:=trivial
theorem tw1975392861049901864:True:=trivial
theorem tw8567354369204275532:True:=trivial
theorem tw6283295291744510718:True:=trivial
theorem tw14821900403716434258:True:=trivial
theorem tw13701059505451572177:True:=trivial
theorem tw4170441867718842285:True:=trivial
theorem tw7618958755606909510:True:=trivial
theorem tw9951374617721000588:True:=trivial
theorem tw18325091953863603636:True:=trivial
theorem tw15574418456338061279:True:=trivial
theorem tw8542183864908546755:True:=trivial
theorem tw10354151815496195585:True:=trivial
theorem tw11038014346723334277:True:=trivial
theorem tw7891582532292577559:True:=trivial
theorem tw15806945609456065442:True:=trivial
theorem tw9741329832160862229:True:=trivial
theorem tw441082013324712088:True:=trivial
theorem tw8741060395666127042:True:=trivial
theorem tw4003267376003343038:True:=trivial
theorem tw16337324874720617497:True:=trivial
end PySem.W.Fast
open PySem PySem.W PyProof.Rows
set_option maxRecDepth 100000 in
set_option maxHeartbeats 0 in
theorem PySem.Challenge.cw_roundcall_k98_whole_wheels_and_standings_holds : PySem.Challenge.rw_roundcall_k98_whole_wheels_and_standings.Holds := by
 w_on; o_law; km_head; (case hw=>w_witness2)
 k_fill
 refine L2.walk_ofT (l:=PySem.Challenge.rw_roundcall_k98_whole_wheels_and_standings) (n:=63) (k:=9) (x := "script") (CX:=fun w=>L2.CX1 PySem.Challenge.rw_roundcall_k98_whole_wheels_and_standings.prog w) (sp:=fun w=>Law.sp_law _ _) (lq:=Law.lamQ) (lpos:=Law.lamP) rfl (by decide) rfl ⟨rfl,by decide,by decide⟩ (fun w h Y=>PySem.W.km_in_of Y) (fun w h Y=>PySem.W.km_tabs_of Y _ List.mem_cons_self) ?F (fun _ _ a ns hl hb hP hS=>⟨a,ns,rfl,hS,hl,hb,hP,fun _ e=>⟨rfl,e⟩⟩) (fun _ _ _ _ _ ⟨_,_,_,_,_,_,_,_,q⟩=>q)
 case F =>
  intro w mg fa h KX G hmg
  refine' Law.all_mk KX G hmg (.m0 ?_ ?_ ?_ ?_) (.m0 ?_ ?_ ?_ ?_) (.m0 ?_ ?_ ?_ ?_) (.m0 ?_ ?_ ?_ ?_) (.m0 ?_ ?_ ?_ ?_) (.m0 ?_ ?_ ?_ ?_) (.m0 ?_ ?_ ?_ ?_) ?_ ?_ ?_ ?_ (.m0 ?_ ?_ ?_ ?_) (.m0 ?_ ?_ ?_ ?_) (.m0 ?_ ?_ ?_ ?_) (.m0 ?_ ?_ ?_ ?_) (.m0 ?_ ?_ ?_ ?_) (.m0 ?_ ?_ ?_ ?_) ?_ ?_ ?_ ?_ ?_ (.m0 ?_ ?_ ?_ ?_) (.m0 ?_ ?_ ?_ ?_) (.m0 ?_ ?_ ?_ ?_) (.m0 ?_ ?_ ?_ ?_) (.m0 ?_ ?_ ?_ ?_) (.m0 ?_ ?_ ?_ ?_) ?_ ?_ ?_ ?_ ?_ (.m0 ?_ ?_ ?_ ?_) (.m0 ?_ ?_ ?_ ?_) (.m0 ?_ ?_ ?_ ?_) (.m0 ?_ ?_ ?_ ?_) (.m0 ?_ ?_ ?_ ?_) (.m0 ?_ ?_ ?_ ?_) (.m0 ?_ ?_ ?_ ?_) (.m0 ?_ ?_ ?_ ?_) (.m0 ?_ ?_ ?_ ?_) (.m0 ?_ ?_ ?_ ?_) (.m0 ?_ ?_ ?_ ?_) (.m0 ?_ ?_ ?_ ?_) (.m0 ?_ ?_ ?_ ?_) (.m0 ?_ ?_ ?_ ?_) (.m0 ?_ ?_ ?_ ?_) (.m0 ?_ ?_ ?_ ?_) (.m0 ?_ ?_ ?_ ?_) (.m0 ?_ ?_ ?_ ?_) (.m0 ?_ ?_ ?_ ?_) (.m0 ?_ ?_ ?_ ?_) (.m0 ?_ ?_ ?_ ?_) (.m0 ?_ ?_ ?_ ?_) (.m0 ?_ ?_ ?_ ?_) ?_ ?_ ?_ ?_ ?_ ?_ ?_ ?_ ?_ ?_ ?_ ?_ ?_ ?_ ?_ ?_ ?_ ?_ ?_ ?_ ?_ ?_ ?_ ?_ ?_ ?_ ?_ ?_ ?_ ?_ ?_
  all_goals try k_is
  all_goals try first|kit_is|k_exc|rfl|kernel_rfl
